/- Parts of the proof, number 6: contracts of the functions that the statement calls. -/
import Derived.Test.YtkjfpdfkcfgfkaaGreatM5
import Derived.Test.YtkjfpdfkcfgfkaaGreatM0
import Derived.Test.YtkjfpdfkcfgfkaaGreatM3
import Derived.BigQuiet

namespace Go.Proofs.YtkjfpdfkcfgfkaaGreat
open Go.RowKit

theorem getD_of_lt {α : Type} (l : List α) (x : Nat) (d : α) (h : x < l.length) : l.getD x d = l[x] := by simp [List.getD, h]
def memV (w : World) (v : Value) : List Value := match v with
 | .slice (some a) n _ => match w.heap[a.block]? with
  | some (.cells cur _ _) => cur.toList.take n
  | _ => []
 | _ => []
theorem memV_of {w : World} {v : Value} {e : TypeId} {xs : List Value} (h : Row w v e xs) : memV w v = xs := by
 rcases h.2 with ⟨rfl, h0⟩ | ⟨g, cap, cur, rfl, _, hg, _, _, _, h4⟩
 ·rw [List.eq_nil_of_length_eq_zero h0]
  rfl
 ·unfold memV
  simp only [hg]
  simpa using h4
def isTrue : Value → Bool
 | .bool b => b
 | _ => false
def memIn (w : World) (Y : Nat) : List (List Bool) := match w.heap[Y]? with
 | some (.cells cur _ _) => (memV w (cur.getD 1 undef)).map (fun v => (memV w v).map isTrue)
 | _ => []
theorem memIn_of {w : World} {lo Y : Nat} {zs : List Int} {szv inv : Value} {vs : List Value} {bss : List (List Bool)} {dead : Bool} {tv lv : Value} (h : RIn w lo Y zs szv inv vs bss dead tv lv) : memIn w Y = bss := by
 have hb : w.heap[Y]? = some (.cells #[szv, inv, .bool dead, tv, lv] 83 (0, 0)) := h.blk
 unfold memIn
 rw [hb]
 show (memV w inv).map _ = bss
 rw [memV_of h.inn]
 refine List.ext_getElem (by rw [List.length_map, h.rows.len]) fun u hu1 hu2 => ?_
 have hr := memV_of (h.rows.row u hu2)
 have e1 : vs.getD u nilS = vs[u]'(by rw [h.rows.len]; exact hu2) := by simp [List.getD, h.rows.len, hu2]
 have e2 : bss.getD u [] = bss[u] := by simp [List.getD, hu2]
 rw [e1, e2] at hr
 rw [List.getElem_map, hr, List.map_map]
 have : isTrue ∘ Value.bool = id := rfl
 rw [this, List.map_id]
structure TbW where
 tb : Tb
 way : Int
def tbw0 : TbW := ⟨⟨[], [], false⟩, 0⟩
structure RTabs (W w : World) (tv : Value) (ts : List TbW) : Prop where
 form : ∃ lo cap, tv = .slice lo ts.length cap
 cell : ∀ i, i < ts.length → ∃ g cap vo vcap ro rcap, tv = .slice (some ⟨g, 0, none⟩) ts.length cap ∧ g < w.heap.size ∧
  w.cell? ⟨g, i * 4, none⟩ = some (.slice vo (ts.getD i tbw0).tb.vars.length vcap) ∧ w.cell? ⟨g, i * 4 + 1, none⟩ = some (.slice ro (ts.getD i tbw0).tb.rows.length rcap) ∧ w.cell? ⟨g, i * 4 + 2, none⟩ = some (.bool (ts.getD i tbw0).tb.nt) ∧ w.cell? ⟨g, i * 4 + 3, none⟩ = some (.int .i64 (ts.getD i tbw0).way) ∧
  IntsAt W vo (ts.getD i tbw0).tb.vars ∧ RowsAt W ro (ts.getD i tbw0).tb.rows
theorem RTabs.fr {S : Nat → Prop} {W w w' : World} {tv : Value} {ts : List TbW} (h : RTabs W w tv ts) (f : Fr S w w') (hn : ∀ k, tv.ownBlock = some k → ¬ S k) : RTabs W w' tv ts :=
 ⟨h.form, fun i hi => by
  obtain ⟨g, cap, vo, vcap, ro, rcap, h1, h2, c0, c1, c2, c3, h3, h4⟩ := h.cell i hi
  have hg : ¬ S g := hn g (by rw [h1]; rfl)
  exact ⟨g, cap, vo, vcap, ro, rcap, h1, Nat.lt_of_lt_of_le h2 f.size, (f.cell h2 hg).trans c0, (f.cell h2 hg).trans c1, (f.cell h2 hg).trans c2, (f.cell h2 hg).trans c3, h3, h4⟩⟩
structure Chk (bs : List Tb) (d : List Nat) (k i v : Nat) : Prop where
 tabs : ∀ k', k' < k → SuppAll (bs.getD k' tb0) d
 ents : ∀ i' x, i' < i → i' < (bs.getD k tb0).vars.length → (d.getD ((bs.getD k tb0).vars.getD i' 0).toNat 0).testBit x = true → Supp (bs.getD k tb0).vars (bs.getD k tb0).rows (bs.getD k tb0).nt d i' x
 vals : ∀ x, x < v → (d.getD ((bs.getD k tb0).vars.getD i 0).toNat 0).testBit x = true → Supp (bs.getD k tb0).vars (bs.getD k tb0).rows (bs.getD k tb0).nt d i x
theorem Chk.start (bs : List Tb) (d : List Nat) : Chk bs d 0 0 0 := ⟨fun _ h => absurd h (Nat.not_lt_zero _), fun _ _ h => absurd h (Nat.not_lt_zero _), fun _ h => absurd h (Nat.not_lt_zero _)⟩
theorem Chk.value {bs : List Tb} {d : List Nat} {k i v : Nat} (h : Chk bs d k i v) (hv : (d.getD ((bs.getD k tb0).vars.getD i 0).toNat 0).testBit v = true → Supp (bs.getD k tb0).vars (bs.getD k tb0).rows (bs.getD k tb0).nt d i v) : Chk bs d k i (v + 1) :=
 ⟨h.tabs, h.ents, fun x hx hb => by
  by_cases e : x = v
  ·subst e
   exact hv hb
  ·exact h.vals x (by omega) hb⟩
theorem Chk.entry {bs : List Tb} {d : List Nat} {k i n : Nat} (h : Chk bs d k i n) (hn : ∀ x, (d.getD ((bs.getD k tb0).vars.getD i 0).toNat 0).testBit x = true → x < n) : Chk bs d k (i + 1) 0 :=
 ⟨h.tabs, fun i' x hi hl hb => by
  by_cases e : i' = i
  ·subst e
   exact h.vals x (hn x hb) hb
  ·exact h.ents i' x (by omega) hl hb, fun _ h => absurd h (Nat.not_lt_zero _)⟩
theorem Chk.table {bs : List Tb} {d : List Nat} {k : Nat} (h : Chk bs d k (bs.getD k tb0).vars.length 0) : Chk bs d (k + 1) 0 0 :=
 ⟨fun k' hk' => by
  by_cases e : k' = k
  ·subst e
   exact fun i x hi hb => h.ents i x hi hi hb
  ·exact h.tabs k' (by omega), fun _ _ h => absurd h (Nat.not_lt_zero _), fun _ h => absurd h (Nat.not_lt_zero _)⟩
structure Pass (W w : World) (lo Y : Nat) (zs : List Int) (szv inv : Value) (vs : List Value) (tv lv : Value) (ts : List TbW) (dead : Bool) (d0 : List Nat) (n0 : Nat) (w0 : World) (bss : List (List Bool)) (again : Bool) (k i v : Nat) : Prop where
 rin : RIn w lo Y zs szv inv vs bss dead tv lv
 tabs : RTabs W w tv ts
 inv : CInv (ts.map TbW.tb) d0 (domB bss)
 fr : Fr (fun q => ∃ u, u < vs.length ∧ (vs.getD u nilS).ownBlock = some q) w0 w
 no : again = false → bitsOf (domB bss) = n0 ∧ Chk (ts.map TbW.tb) (domB bss) k i v
 yes : again = true → bitsOf (domB bss) < n0
theorem offB_bit {bss : List (List Bool)} (h8 : bss.length ≤ 8) (h6 : ∀ u, u < bss.length → (bss.getD u []).length ≤ 6) {u v : Nat} (hu : u < bss.length) (q x : Nat) : ((domB (offB bss u v)).getD q 0).testBit x = true ↔ ((domB bss).getD q 0).testBit x = true ∧ ¬ (q = u ∧ x = v) := by
 have h8' : (offB bss u v).length ≤ 8 := by simpa [offB] using h8
 have h6' : ∀ i, i < (offB bss u v).length → ((offB bss u v).getD i []).length ≤ 6 := fun i hi => by
  have hi' : i < bss.length := by simpa [offB] using hi
  unfold offB
  rw [getD_set_eq _ _ _ _ _ hu]
  split
  ·rw [List.length_set]
   exact h6 u hu
  ·exact h6 i hi'
 rw [domB_bit _ h8' h6', domB_bit _ h8 h6, offB_get _ _ _ _ _ hu]
 by_cases e : u = q ∧ v = x
 ·rw [if_pos e]
  obtain ⟨rfl, rfl⟩ := e
  simp
 ·rw [if_neg e]
  constructor
  ·intro h
   exact ⟨h, fun h' => e ⟨h'.1.symm, h'.2.symm⟩⟩
  ·exact fun h => h.1
theorem offB_less {bss : List (List Bool)} (h8 : bss.length ≤ 8) (h6 : ∀ u, u < bss.length → (bss.getD u []).length ≤ 6) {u v : Nat} (hu : u < bss.length) (hv : (bss.getD u []).getD v false = true) : bitsOf (domB (offB bss u v)) < bitsOf (domB bss) := by
 refine bits_lt (domB_dm _) (domB_dm _) (fun q x hx => ((offB_bit h8 h6 hu q x).1 hx).1) fun e => ?_
 have h1 : ((domB bss).getD u 0).testBit v = true := by rw [domB_bit _ h8 h6]; exact hv
 rw [← e] at h1
 exact ((offB_bit h8 h6 hu u v).1 h1).2 ⟨rfl, rfl⟩

theorem RIn.setDead {w : World} {lo Y : Nat} {zs : List Int} {szv inv : Value} {vs : List Value} {bss : List (List Bool)} {dead : Bool} {tv lv : Value} (h : RIn w lo Y zs szv inv vs bss dead tv lv) (x : Bool) : RIn (w.setCell ⟨Y, 2, none⟩ (.bool x)) lo Y zs szv inv vs bss x tv lv := by
 have hf : Fr (fun k => k = Y) w (w.setCell ⟨Y, 2, none⟩ (.bool x)) := (Fr.refl _ w).setCell _ _ (.inl rfl)
 refine ⟨h.blk.set 2 (.bool x), h.sz.fr hf (fun k hk e => ?_), h.inn.fr hf (fun k hk e => ?_), h.rows.fr hf (fun k cur hk hb => ?_), h.len, h.each, h.zok, h.szlo, h.inlo, h.ylo⟩
 ·rw [e] at hk
  exact h.sz.ne h.blk (by decide) hk
 ·rw [e] at hk
  exact h.inn.ne h.blk (by decide) hk
 ·rw [hk] at hb
  exact absurd (hb.inj h.blk).2 (by decide)
noncomputable def cloReg : Array Oper := regOps Tryz.f81 10
theorem Pass.step {W w w' w0 : World} {lo Y : Nat} {zs : List Int} {szv inv : Value} {vs : List Value} {tv lv : Value} {ts : List TbW} {dead : Bool} {d0 : List Nat} {n0 : Nat} {bss : List (List Bool)} {again : Bool} {k i v : Nat} (h : Pass W w lo Y zs szv inv vs tv lv ts dead d0 n0 w0 bss again k i v) (f : Nw w w') : Pass W w' lo Y zs szv inv vs tv lv ts dead d0 n0 w0 bss again k i v :=
 ⟨h.rin.nw f, h.tabs.fr f (fun _ _ x => x), h.inv, h.fr.trans f (fun _ x => x.elim), h.no, h.yes⟩
theorem Pass.go {W w w0 : World} {lo Y : Nat} {zs : List Int} {szv inv : Value} {vs : List Value} {tv lv : Value} {ts : List TbW} {dead : Bool} {d0 : List Nat} {n0 : Nat} {bss : List (List Bool)} {again : Bool} {k i v k' i' v' : Nat} (h : Pass W w lo Y zs szv inv vs tv lv ts dead d0 n0 w0 bss again k i v) (hc : Chk (ts.map TbW.tb) (domB bss) k i v → Chk (ts.map TbW.tb) (domB bss) k' i' v') : Pass W w lo Y zs szv inv vs tv lv ts dead d0 n0 w0 bss again k' i' v' :=
 ⟨h.rin, h.tabs, h.inv, h.fr, fun e => ⟨(h.no e).1, hc (h.no e).2⟩, h.yes⟩

set_option maxHeartbeats 3200000 in
set_option maxRecDepth 1000000 in
theorem close_any (W : World) (lo Y : Nat) (zs : List Int) (szv inv : Value) (vs : List Value) (bss : List (List Bool)) (dead : Bool) (tv lv : Value) (ts : List TbW) (w : World) (hlo : W.heap.size ≤ lo) (hW : Nw W w) (ht12 : ts.length ≤ 12)
  (hok : ∀ i, i < ts.length → okTable zs (ts.getD i tbw0).tb.vars (ts.getD i tbw0).tb.rows (ts.getD i tbw0).way = true) (hR : RIn w lo Y zs szv inv vs bss dead tv lv) (hT : RTabs W w tv ts) (htv : ∀ k, tv.ownBlock = some k → (∃ cur, Blk w k cur 41)) :
  Calls Tryz.prog 81 #[.pointer (some ⟨Y, 0, none⟩)] w fun e w' => e = .returned (.tuple #[]) ∧ ∃ bss', RIn w' lo Y zs szv inv vs bss' (dead || noneB bss') tv lv ∧ RTabs W w' tv ts ∧ CInv (ts.map TbW.tb) (domB bss) (domB bss') ∧ (∀ b ∈ ts.map TbW.tb, SuppAll b (domB bss')) ∧ Fr (fun q => q = Y ∨ ∃ u, u < vs.length ∧ (vs.getD u nilS).ownBlock = some q) w w' := by
 have HR := hd hR
 have HT := hd hT
 have hnb : ∀ (A : World) (bss : List (List Bool)) (dead : Bool), RIn A lo Y zs szv inv vs bss dead tv lv → ∀ q, (∃ u, u < vs.length ∧ (vs.getD u nilS).ownBlock = some q) → ∃ cur, Blk A q cur 4 := fun A bss dead h q ⟨u, hu, hq⟩ => by
  obtain ⟨cur, hb, _⟩ := (h.rows.row u (by rw [← h.rows.len]; exact hu)).blk hq
  exact ⟨cur, hb⟩
 have hvslo : ∀ q, (∃ u, u < vs.length ∧ (vs.getD u nilS).ownBlock = some q) → lo ≤ q := fun q ⟨u, hu, hq⟩ => hR.rows.lo u (by rw [← hR.rows.len]; exact hu) q hq
 have htvn : ∀ q, (∃ u, u < vs.length ∧ (vs.getD u nilS).ownBlock = some q) → tv.ownBlock ≠ some q := fun q hq e => by
  obtain ⟨cur, hb⟩ := hnb w bss dead hR q hq
  obtain ⟨cur', hb'⟩ := htv q e
  exact absurd (hb.inj hb').2 (by decide)
 have HW := hd hW
 have Hnb := hd hnb
 have Hvslo := hd hvslo
 have Htvn := hd htvn
 have Htv := hd htv
 obtain ⟨io, icap, hio, _, _⟩ := hR.brows
 obtain ⟨tto, tcap, hto⟩ := hT.form
 have hbl : bss.length = zs.length := hR.len
 obtain ⟨hz1, hz8⟩ := okSizes_len hR.zok
 have Hzg := hd (fun i hi => okSizes_get hR.zok i hi)
 subst hto
 clear hR hT hW hnb hvslo htvn htv
 go_enter Tryz.func81, Tryz.ntmps81
 go_wp2_with fail
 go_loopw [2, 3, 4, 5, 6, 7, 8] (fun ag _ _ _ _ _ _ wr => ∃ (b1 : List (List Bool)) (ab : Bool), ag = .bool ab ∧ Hid (RIn wr lo Y zs szv inv vs b1 dead (.slice tto ts.length tcap) lv) ∧ Hid (RTabs W wr (.slice tto ts.length tcap) ts) ∧ Hid (CInv (ts.map TbW.tb) (domB bss) (domB b1)) ∧ Hid (Fr (fun q => ∃ u, u < vs.length ∧ (vs.getD u nilS).ownBlock = some q) w wr) ∧ Hid (ab = false → ∀ b ∈ ts.map TbW.tb, SuppAll b (domB b1))) (fun ag _ _ _ _ _ _ wr => 2 * bitsOf (domB (memIn wr Y)) + (if isTrue ag then 1 else 0))
 case atStart => exact ⟨bss, true, rfl, HR, HT, CInv.refl _ _, Fr.refl _ _, fun h => by cases h⟩
 case round =>
  obtain ⟨b1, ab, rfl, HR1, HT1, HC1, HF1, Hs1⟩ := hrel
  cases ab with
  | true =>
   have Hm := hd (memIn_of HR1.out)
   obtain ⟨n0, hn0⟩ : ∃ n0, bitsOf (domB b1) = n0 := ⟨_, rfl⟩
   have Hn0 := hd hn0
   clear hn0
   have HP0 : Hid (Pass W wr lo Y zs szv inv vs (.slice tto ts.length tcap) lv ts dead (domB bss) n0 w b1 false 0 0 0) := ⟨HR1.out, HT1.out, HC1.out, HF1.out, fun _ => ⟨Hn0.out, Chk.start _ _⟩, fun h => by cases h⟩
   have cT0 : wr.cell? ⟨Y, 3, none⟩ = some (.slice tto ts.length tcap) := HR1.out.blk.cell 3
   have hYl0 := HR1.out.blk.lt
   clear HR1 HT1 HC1 HF1 Hs1
   go_wp2_with fail
   go_loopw [2, 3, 4, 5, 6, 7, 8] (fun ag k _ _ _ _ _ w2 => ∃ (kk : Nat) (b2 : List (List Bool)) (ab : Bool), kk ≤ ts.length ∧ k = .int .i64 (kk : Int) ∧ ag = .bool ab ∧ Hid (Pass W w2 lo Y zs szv inv vs (.slice tto ts.length tcap) lv ts dead (domB bss) n0 w b2 ab kk 0 0)) (fun _ k _ _ _ _ _ _ => ts.length - (intOf k).toNat)
   case atStart => exact ⟨0, b1, false, by omega, rfl, rfl, HP0⟩
   case round =>
    rename World => w2
    clear HP0 cT0 hYl0
    obtain ⟨kk, b2, ab, hkk, rfl, rfl, HP⟩ := hrel
    have cT : w2.cell? ⟨Y, 3, none⟩ = some (.slice tto ts.length tcap) := HP.out.rin.blk.cell 3
    have hYl := HP.out.rin.blk.lt
    by_cases hkl : kk < ts.length
    ·have hdk : (kk : Int) < (ts.length : Int) := by omega
     have Hwt := hd HP.out.rin.blk.lt
     obtain ⟨tg, tc, vo, vcap, ro, rcap, hte, htgl, c0, c1, c2, c3, hIv, hRr⟩ := HP.out.tabs.cell kk hkl
     simp only [Value.slice.injEq] at hte
     obtain ⟨rfl, _, rfl⟩ := hte
     obtain ⟨hway, hv1, hr60, hVO, hvn, hrl⟩ := okTable_parts (hok kk hkl) hz8
     have Hb : Hid ((ts.map TbW.tb).getD kk tb0 = (ts.getD kk tbw0).tb) := hd (by simp [List.getD, hkl])
     have Hbm : Hid ((ts.getD kk tbw0).tb ∈ ts.map TbW.tb) := hd (List.mem_map.2 ⟨ts.getD kk tbw0, by rw [show ts.getD kk tbw0 = ts[kk] by simp [List.getD, hkl]]; exact List.getElem_mem hkl, rfl⟩)
     obtain ⟨⟨⟨vars, rows, nt⟩, way⟩, htw⟩ : ∃ t, ts.getD kk tbw0 = t := ⟨_, rfl⟩
     rw [htw] at c0 c1 c2 c3 hIv hRr hv1 hr60 hVO hvn hrl Hb Hbm
     dsimp only at c0 c1 c2 c3 hIv hRr hv1 hr60 hVO hvn hrl Hb Hbm
     have hv4 := hVO.four
     have HIv := hd hIv
     have HRr := hd hRr
     have HVO := hd hVO
     have Hvn := hd hvn
     have Hrl := hd hrl
     clear hIv hRr hVO hvn hrl htw hway
     rename World => wt
     have hbT : Blk (wt.alloc (.cells #[.slice vo vars.length vcap, .slice ro rows.length rcap, .bool nt, .int .i64 way] 41)) wt.heap.size #[.slice vo vars.length vcap, .slice ro rows.length rcap, .bool nt, .int .i64 way] 41 := Blk.new _ _ _
     have HPT := hd (HP.out.step ((Fr.refl (fun _ => False) wt).alloc (.cells #[.slice vo vars.length vcap, .slice ro rows.length rcap, .bool nt, .int .i64 way] 41)))
     have HbT := hd hbT
     clear hbT HP
     go_wp2_with fail
     go_loopw [2, 5, 6, 7, 8] (fun ag i _ _ _ w4 => ∃ (ii : Nat) (b3 : List (List Bool)) (ab : Bool), ii ≤ vars.length ∧ i = .int .i64 (ii : Int) ∧ ag = .bool ab ∧ Hid (Pass W w4 lo Y zs szv inv vs (.slice (some ⟨tg, 0, none⟩) ts.length tcap) lv ts dead (domB bss) n0 w b3 ab kk ii 0) ∧ Hid (Blk w4 wt.heap.size #[.slice vo vars.length vcap, .slice ro rows.length rcap, .bool nt, .int .i64 way] 41)) (fun _ i _ _ _ _ => vars.length - (intOf i).toNat)
     case atStart => exact ⟨0, b2, ab, by omega, rfl, rfl, HPT, HbT⟩
     case round =>
      rename World => w4
      clear HPT HbT
      obtain ⟨ii, b3, ab, hii, rfl, rfl, HP, HbT⟩ := hrel
      have t0 : w4.cell? ⟨wt.heap.size, 0, none⟩ = some (.slice vo vars.length vcap) := HbT.out.cell 0
      have hTl := HbT.out.lt
      by_cases hil : ii < vars.length
      ·have hdi : (ii : Int) < (vars.length : Int) := by omega
       have hNW4 : Nw W w4 := HW.out.trans HP.out.fr (fun i h => .inr (by have := Hvslo.out i h; omega))
       obtain ⟨vb, vof, hve, hvlW, hvcW⟩ := HIv.out ii hil
       have hvl : vb < w4.heap.size := Nat.lt_of_lt_of_le hvlW hNW4.size
       have hvc := (hNW4.cell hvlW (fun x => x)).trans hvcW
       have hv0 := (HVO.out.ok ii hil).1
       have hvz := Hvn.out ii hil
       obtain ⟨u, hu⟩ : ∃ u : Nat, vars.getD ii 0 = (u : Int) := ⟨(vars.getD ii 0).toNat, by omega⟩
       rw [hu] at hvc hvz hvcW
       have huz : u < zs.length := by omega
       have hub : u < b3.length := by rw [HP.out.rin.len]; exact huz
       obtain ⟨io3, ic3, hio3, hBR3, hcY⟩ := HP.out.rin.brows
       obtain ⟨ib, iof, qo, qc, hie, hibl, hicl, _⟩ := hBR3 u hub
       obtain ⟨g, gcap, hvg, _, hglo⟩ := HP.out.rin.row u hub
       have hqe : (Value.slice qo (b3.getD u []).length qc) = .slice (some ⟨g, 0, none⟩) (b3.getD u []).length gcap := by
        obtain ⟨g2, c2', he2, hb2, hc2, _⟩ := HP.out.rin.inn.cell u (by rw [HP.out.rin.rows.len]; exact hub)
        rw [hio3, hie] at he2
        simp only [Value.slice.injEq, Option.some.injEq, Addr.mk.injEq, and_true] at he2
        obtain ⟨⟨rfl, rfl⟩, _⟩ := he2
        rw [Nat.zero_add, hc2] at hicl
        rw [← hvg]
        simp only [List.getD, HP.out.rin.rows.len, hub, List.getElem?_eq_getElem, Option.getD_some] at hicl ⊢
        simpa using hicl.symm
       have hnl : (b3.getD u []).length = (zs.getD u 0).toNat := HP.out.rin.each u huz
       rw [hqe, hnl] at hicl
       rw [hnl] at hvg
       obtain ⟨n, hn⟩ : ∃ n, (zs.getD u 0).toNat = n := ⟨_, rfl⟩
       have hn6 : n ≤ 6 := by have := (Hzg.out u huz).2; omega
       rw [hn] at hicl hvg
       have Hn := hd hn
       have hYl4 := HP.out.rin.blk.lt
       subst hie
       subst hve
       have Hu := hd hu
       have Hvg := hd hvg
       have Hhio3 := hd hio3
       clear hqe hnl hn hu hBR3 hvg hio3
       have hYl := hYl4
       go_wp2_with fail
       have hK0 : Nw w4 w4.drew := (Fr.refl _ w4).drew
       refine region_H cloReg 12 (fun w'' => Nw w4 w'') (by kernel_rfl) (by kernel_rfl) (by kernel_rfl) ?_
       refine take_at (i := 0) (d := some 34) (v := .pointer (some ⟨Y, 0, none⟩)) (by kernel_rfl) (by kernel_rfl) (fun _ _ _ h => h) (fun w'' hS => by kernel_rfl) hK0 ?_
       refine take_at (i := 1) (d := some 35) (v := .pointer (some ⟨Y, 0, none⟩)) (by kernel_rfl) (by kernel_rfl) (fun _ _ _ h => h) (fun w'' hS => by kernel_rfl) hK0 ?_
       refine take_at (i := 2) (d := some 36) (v := .pointer (some ⟨Y, 1, none⟩)) (by kernel_rfl) (by kernel_rfl) (fun _ _ _ h => h) (fun w'' hS => by kernel_rfl) hK0 ?_
       refine take_at (i := 3) (d := some 37) (v := .slice (some ⟨ib, iof, none⟩) b3.length ic3) (by kernel_rfl) (by kernel_rfl) (fun _ _ _ h => h) (fun w'' hS => exec_load 79 (.tmp 36) (by kernel_rfl) (by kernel_rfl) (by kernel_rfl) ((hS.cell hYl (fun x => x)).trans hcY)) hK0 ?_
       refine take_at (i := 4) (d := some 38) (v := .pointer (some ⟨wt.heap.size, 0, none⟩)) (by kernel_rfl) (by kernel_rfl) (fun _ _ _ h => h) (fun w'' hS => by kernel_rfl) hK0 ?_
       refine take_at (i := 5) (d := some 39) (v := .slice (some ⟨vb, vof, none⟩) vars.length vcap) (by kernel_rfl) (by kernel_rfl) (fun _ _ _ h => h) (fun w'' hS => exec_load 22 (.tmp 38) (by kernel_rfl) (by kernel_rfl) (by kernel_rfl) ((hS.cell hTl (fun x => x)).trans t0)) hK0 ?_
       refine take_at (i := 6) (d := some 40) (v := .int .i64 (ii : Int)) (by kernel_rfl) (by kernel_rfl) (fun _ _ _ h => h) (fun w'' hS => by kernel_rfl) hK0 ?_
       refine take_at (i := 7) (d := some 41) (v := .pointer (some ⟨vb, vof + ii, none⟩)) (by kernel_rfl) (by kernel_rfl) (fun _ _ _ h => h) (fun w'' hS => exec_index (i := ii) (n := vars.length) (cap := vcap) 22 3 (.tmp 39) (.tmp 40) (by kernel_rfl) (by kernel_rfl) (by kernel_rfl) hil (by kernel_rfl) (by kernel_rfl)) hK0 ?_
       refine take_at (i := 8) (d := some 42) (v := .int .i64 (u : Int)) (by kernel_rfl) (by kernel_rfl) (fun _ _ _ h => h) (fun w'' hS => exec_load 3 (.tmp 41) (by kernel_rfl) (by kernel_rfl) (by kernel_rfl) ((hS.cell hvl (fun x => x)).trans hvc)) hK0 ?_
       refine take_at (i := 9) (d := some 43) (v := .pointer (some ⟨ib, iof + u, none⟩)) (by kernel_rfl) (by kernel_rfl) (fun _ _ _ h => h) (fun w'' hS => exec_index (i := u) (n := b3.length) (cap := ic3) 79 84 (.tmp 37) (.tmp 42) (by kernel_rfl) (by kernel_rfl) (by kernel_rfl) hub (by kernel_rfl) (by kernel_rfl)) hK0 ?_
       refine take_at (i := 10) (d := some 44) (v := .slice (some ⟨g, 0, none⟩) n gcap) (by kernel_rfl) (by kernel_rfl) (fun _ _ _ h => h) (fun w'' hS => exec_load 84 (.tmp 43) (by kernel_rfl) (by kernel_rfl) (by kernel_rfl) ((hS.cell hibl (fun x => x)).trans hicl)) hK0 ?_
       refine value_at (i := 11) (d := some 6) (v := .slice (some ⟨g, 0, none⟩) n gcap) (w' := w4.drew) (by kernel_rfl) (by kernel_rfl) (by kernel_rfl) hK0 ?_
       refine wpAnyH_done (by kernel_rfl) ?_ _
       simp only [Act.put, List.setIfInBounds_toArray, List.set_cons_zero, List.set_cons_succ]
       have HP4 := hd (HP.out.step hK0)
       have HbT4 := hd HbT.out.drew
       obtain ⟨wd, hwd⟩ : ∃ wd, w4.drew = wd := ⟨_, rfl⟩
       rw [hwd] at HP4 HbT4 ⊢
       clear HP HbT t0 hTl hvl hvc hcY hibl hicl hYl hYl4 hK0 hwd
       go_wp2_with fail
       go_loopw [2, 7, 8] (fun ag v _ w5 => ∃ (x : Nat) (b4 : List (List Bool)) (ab : Bool), x ≤ n ∧ v = .int .i64 (x : Int) ∧ ag = .bool ab ∧ Hid (Pass W w5 lo Y zs szv inv vs (.slice (some ⟨tg, 0, none⟩) ts.length tcap) lv ts dead (domB bss) n0 w b4 ab kk ii x) ∧ Hid (Blk w5 wt.heap.size #[.slice (some ⟨vb, vof, none⟩) vars.length vcap, .slice ro rows.length rcap, .bool nt, .int .i64 way] 41)) (fun _ v _ _ => n - (intOf v).toNat)
       case atStart => exact ⟨0, b3, ab, by omega, rfl, rfl, HP4, HbT4⟩
       case round =>
        rename World => w5
        clear HP4 HbT4
        obtain ⟨x, b4, ab, hxn, rfl, rfl, HP, HbT⟩ := hrel
        have hub4 : u < b4.length := by rw [HP.out.rin.len]; exact huz
        have hl4 : (b4.getD u []).length = n := by rw [HP.out.rin.each u huz]; exact Hn.out
        have hdb := domB_bit b4 HP.out.rin.in8 HP.out.rin.b6
        have Hb' := Hb
        by_cases hxl : x < n
        ·have hdx : (x : Int) < (n : Int) := by omega
         obtain ⟨g2, gc2, hvg2, hrow5, _⟩ := HP.out.rin.row u hub4
         rw [Hvg.out, hl4] at hvg2
         simp only [Value.slice.injEq, Option.some.injEq, Addr.mk.injEq, and_true] at hvg2
         obtain ⟨rfl, hvgr, rfl⟩ := hvg2
         clear hvgr
         obtain ⟨gx, cx, hex, _, hcx, _⟩ := hrow5.cell x (by rw [List.length_map, hl4]; exact hxl)
         simp only [Value.slice.injEq, Option.some.injEq, Addr.mk.injEq, and_true] at hex
         obtain ⟨rfl, hexr⟩ := hex
         clear hexr
         have hcx' : w5.cell? ⟨g, x, none⟩ = some (.bool ((b4.getD u []).getD x false)) := by
          have hxb : x < (b4.getD u []).length := by rw [hl4]; exact hxl
          rw [hcx, List.getElem_map, getD_of_lt _ _ _ hxb]
         obtain ⟨curg, hbg, _⟩ := hrow5.blk (k := g) rfl
         have hgl := hbg.lt
         have hgf := hbg.free x
         have hbit := hdb u x
         obtain ⟨bit, hbt⟩ : ∃ bit, (b4.getD u []).getD x false = bit := ⟨_, rfl⟩
         rw [hbt] at hcx' hbit
         have Hbt := hd hbt
         have Hbit := hd hbit
         have Hvar : Hid ((vars.getD ii 0).toNat = u) := hd (by rw [Hu.out]; rfl)
         clear hcx hrow5 hbt hbit hdb
         cases bit with
         | false =>
          go_wp2_with fail
          refine ⟨⟨x + 1, b4, ab, by omega, by simp, rfl, HP.out.go (fun h => h.value (fun hb => ?_)), HbT⟩, by simp [intOf]; omega⟩
          rw [Hb.out] at hb
          dsimp only at hb
          rw [Hvar.out, Hbit.out] at hb
          cases hb
         | true =>
          have hNW5 : Nw W w5 := HW.out.trans HP.out.fr (fun i h => .inr (by have := Hvslo.out i h; omega))
          obtain ⟨io4, ic4, hio4, hBR4, hcY4⟩ := HP.out.rin.brows
          have hE : FEnv.Ok ⟨Y, some ⟨vb, vof, none⟩, ro, io4, vcap, rcap, ic4, vars, rows, nt, way, b4, ii, x⟩ w5 :=
           ⟨hv4, hr60, HP.out.rin.in8, HP.out.rin.b6, fun i hi => ⟨(HVO.out.ok i hi).1, by show vars.getD i 0 < b4.length; rw [HP.out.rin.len]; exact Hvn.out i hi⟩, Hrl.out, HIv.out.nw hNW5, HRr.out.nw hNW5, hBR4, hcY4, HP.out.rin.blk.lt, by show ii < 4 ∧ x < 6; omega⟩
          have Hcall := hd (found_any _ w5 hE vars.length [] (.slice none 0 0) w5 (by simp) (Fr.refl _ _) (.inl ⟨rfl, rfl⟩))
          have Hsup := hd (ex_supp (E := ⟨Y, some ⟨vb, vof, none⟩, ro, io4, vcap, rcap, ic4, vars, rows, nt, way, b4, ii, x⟩) HP.out.rin.in8 HP.out.rin.b6 hil)
          have t0 : w5.cell? ⟨wt.heap.size, 0, none⟩ = some (.slice (some ⟨vb, vof, none⟩) vars.length vcap) := HbT.out.cell 0
          have t1 : w5.cell? ⟨wt.heap.size, 1, none⟩ = some (.slice ro rows.length rcap) := HbT.out.cell 1
          have t2 : w5.cell? ⟨wt.heap.size, 2, none⟩ = some (.bool nt) := HbT.out.cell 2
          have t3 : w5.cell? ⟨wt.heap.size, 3, none⟩ = some (.int .i64 way) := HbT.out.cell 3
          have hTl := HbT.out.lt
          clear hio4 hBR4 hcY4 hE
          go_wp2_with fail
          refine Hcall.out.mono ?_
          rintro e w6 ⟨⟨fb, rfl, hfb⟩, hf6⟩
          rw [Hsup.out] at hfb
          have Hfb := hd hfb
          have HP6 := hd (HP.out.step hf6)
          have HbT6 := hd (HbT.out.nw hf6)
          have hgl6 := hbg.nw hf6
          have g6 : w6.cell? ⟨g, x, none⟩ = some (.bool true) := (hf6.cell hgl (fun x => x)).trans hcx'
          have g6f := hgl6.free x
          have g6l := hgl6.lt
          have Hbg6 := hd hgl6
          clear hfb hf6 Hcall Hsup HP HbT hgl6 t0 t1 t2 t3 hTl
          cases fb with
          | true =>
           go_wp2_with fail
           refine ⟨⟨x + 1, b4, ab, by omega, by simp, rfl, HP6.out.go (fun h => h.value (fun hb => ?_)), HbT6⟩, by simp [intOf]; omega⟩
           rw [Hb.out]
           exact Hfb.out.1 trivial
          | false =>
           go_wp2_with fail
           have hf7 : Fr (fun q => q = g) w6 (w6.setCell ⟨g, x, none⟩ (.bool false)) := (Fr.refl _ w6).setCell _ _ (.inl rfl)
           have hgu : ∃ u', u' < vs.length ∧ (vs.getD u' nilS).ownBlock = some g := ⟨u, by rw [HP6.out.rin.rows.len]; exact hub4, by rw [Hvg.out]; rfl⟩
           have hless := offB_less HP6.out.rin.in8 HP6.out.rin.b6 hub4 Hbt.out
           refine ⟨⟨x + 1, offB b4 u x, true, by omega, by simp, rfl, ⟨HP6.out.rin.off u x g n gcap hub4 Hvg.out, HP6.out.tabs.fr hf7 (fun q hq e => Htvn.out g hgu (by rw [← e]; exact hq)), ?_, HP6.out.fr.trans hf7 (fun i h => .inl (by rw [h]; exact hgu)), fun h => (by cases h), fun _ => ?_⟩, HbT6.out.fr hf7 (fun e => ?_)⟩, by simp [intOf]; omega⟩
           ·refine HP6.out.inv.off Hbm.out hil (fun h => absurd (Hfb.out.2 h) (by simp)) (fun q y => ?_)
            rw [offB_bit HP6.out.rin.in8 HP6.out.rin.b6 hub4]
            dsimp only
            rw [Hvar.out]
           ·cases ab with
            | true =>
             have := HP6.out.yes rfl
             omega
            | false =>
             have := (HP6.out.no rfl).1
             omega
           ·have h1 := HbT6.out
            rw [e] at h1
            exact absurd (h1.inj Hbg6.out).2 (by decide)
        ·obtain rfl : n = x := by omega
         have hdx : ¬ ((n : Int) < (n : Int)) := by omega
         have Hvar : Hid ((vars.getD ii 0).toNat = u) := hd (by rw [Hu.out]; rfl)
         have Hdb := hd hdb
         have Hl4 := hd hl4
         clear hdb hl4
         go_wp2_with fail
         refine ⟨⟨ii + 1, b4, ab, by omega, by simp, rfl, HP.out.go (fun h => h.entry (fun y hy => ?_)), HbT⟩, by simp [intOf]; omega⟩
         rw [Hb.out] at hy
         dsimp only at hy
         rw [Hvar.out, Hdb.out] at hy
         refine Classical.byContradiction fun hn => ?_
         simp only [List.getD] at hy
         rw [List.getElem?_eq_none (by have := Hl4.out; simp only [List.getD] at this; omega)] at hy
         cases hy
      ·obtain rfl : vars.length = ii := by omega
       have hdi : ¬ ((vars.length : Int) < (vars.length : Int)) := by omega
       go_wp2_with fail
       refine ⟨⟨kk + 1, b3, ab, by omega, by simp, rfl, HP.out.go (fun h => Chk.table (by rw [Hb.out]; exact h))⟩, by simp [intOf]; omega⟩
    ·obtain rfl : ts.length = kk := by omega
     have hdk : ¬ ((ts.length : Int) < (ts.length : Int)) := by omega
     go_wp2_with fail
     refine ⟨⟨b2, ab, rfl, HP.out.rin, HP.out.tabs, HP.out.inv, HP.out.fr, fun e b hb => ?_⟩, ?_⟩
     ·obtain ⟨t, ht, rfl⟩ := List.mem_map.1 hb
      obtain ⟨i, hi, e2⟩ := List.getElem_of_mem ht
      have := (HP.out.no e).2.tabs i hi
      rw [show (ts.map TbW.tb).getD i tb0 = t.tb by simp [List.getD, hi, e2]] at this
      exact this
     ·rw [memIn_of HP.out.rin, Hm.out, Hn0.out]
      cases ab with
      | true =>
       have := HP.out.yes rfl
       simp [isTrue]
       omega
      | false =>
       have := (HP.out.no rfl).1
       simp [isTrue]
       omega
  | false =>
   obtain ⟨io1, ic1, hio1, hBR, hcY⟩ := HR1.out.brows
   have Hcall := hd (empty_any Y io1 ic1 b1 wr HR1.out.in8 HR1.out.b6 HR1.out.blk.lt hcY hBR)
   clear hio1 hBR hcY
   go_wp2_with fail
   refine Hcall.out.mono ?_
   rintro e w2 ⟨rfl, hf2⟩
   have HR2 := hd (HR1.out.nw hf2)
   have HT2 := hd (HT1.out.fr hf2 (fun _ _ x => x))
   have HF2 := hd (HF1.out.trans hf2 (fun _ x => x.elim))
   have cD : w2.cell? ⟨Y, 2, none⟩ = some (.bool dead) := HR2.out.blk.cell 2
   have cDf := HR2.out.blk.free 2
   have cDl := HR2.out.blk.lt
   have HTY : Hid (∀ k, (Value.slice tto ts.length tcap).ownBlock = some k → k ≠ Y) := fun k hk e => by
    obtain ⟨cur, hb⟩ := Htv.out k hk
    have h1 := hb.fr HF2.out (fun h => Htvn.out k h hk)
    rw [e] at h1
    exact absurd (h1.inj HR2.out.blk).2 (by decide)
   have Hfin : Hid (∀ x, (dead || noneB b1) = x → ∃ bss', RIn (w2.setCell ⟨Y, 2, none⟩ (.bool x)) lo Y zs szv inv vs bss' (dead || noneB bss') (.slice tto ts.length tcap) lv ∧ RTabs W (w2.setCell ⟨Y, 2, none⟩ (.bool x)) (.slice tto ts.length tcap) ts ∧ CInv (ts.map TbW.tb) (domB bss) (domB bss') ∧ (∀ b ∈ ts.map TbW.tb, SuppAll b (domB bss')) ∧ Fr (fun q => q = Y ∨ ∃ u, u < vs.length ∧ (vs.getD u nilS).ownBlock = some q) w (w2.setCell ⟨Y, 2, none⟩ (.bool x))) := fun x hx => by
    have hfx : Fr (fun k => k = Y) w2 (w2.setCell ⟨Y, 2, none⟩ (.bool x)) := (Fr.refl _ w2).setCell _ _ (.inl rfl)
    refine ⟨b1, by rw [hx]; exact HR2.out.setDead x, HT2.out.fr hfx (fun k hk e => HTY.out k hk e), HC1.out, Hs1.out trivial, (HF2.out.mono (fun _ h => .inl (.inr h))).trans hfx (fun i h => .inl (.inl h))⟩
   obtain ⟨nb, hnb⟩ : ∃ nb, noneB b1 = nb := ⟨_, rfl⟩
   rw [hnb] at Hfin ⊢
   clear hf2 HR1 HT1 HF1 HC1 Hs1 Hcall HR2 HT2 HF2 hnb
   cases dead with
   | true =>
    go_wp2_with fail
    go_end0
    exact ⟨rfl, Hfin.out true rfl⟩
   | false =>
    cases nb with
    | true =>
     go_wp2_with fail
     go_end0
     exact ⟨rfl, Hfin.out true rfl⟩
    | false =>
     go_wp2_with fail
     go_end0
     exact ⟨rfl, Hfin.out false rfl⟩
end Go.Proofs.YtkjfpdfkcfgfkaaGreat

namespace Go.Proofs.YtkjfpdfkcfgfkaaGreat
open Go.RowKit

structure Mine (w0 w : World) (v : Value) (e : TypeId) (xs : List Value) : Prop where
 row : Row w v e xs
 nw : Nw w0 w
 since : ∀ q, v.ownBlock = some q → w0.heap.size ≤ q
theorem Mine.nil {w0 w : World} (h : Nw w0 w) (e : TypeId) : Mine w0 w (.slice none 0 0) e [] := ⟨Row.nil _ _, h, fun q hq => (by cases hq)⟩
theorem Mine.more {w0 w w2 : World} {v v' : Value} {e : TypeId} {xs ys : List Value} {g : Nat} (h : Mine w0 w v e xs) (hr : Row w2 v' e ys) (hf : Fr (fun k => v.ownBlock = some k) w w2) (hv : v'.ownBlock = some g) (ha : v.ownBlock = some g ∨ w.heap.size ≤ g) : Mine w0 w2 v' e ys :=
 ⟨hr, h.nw.trans hf (fun i hi => .inr (h.since i hi)), fun q hq => by
  rw [hv] at hq
  cases hq
  rcases ha with h' | h'
  ·exact h.since _ h'
  ·exact Nat.le_trans h.nw.size h'⟩
theorem Mine.step {w0 w w2 : World} {v : Value} {e : TypeId} {xs : List Value} (h : Mine w0 w v e xs) (f : Nw w w2) : Mine w0 w2 v e xs := ⟨h.row.nw f, h.nw.trans f (fun _ x => x.elim), h.since⟩
def trueTo (bs : List Bool) (k : Nat) : List Nat := (List.range k).filter (fun x => bs.getD x false)
theorem trueTo_succ (bs : List Bool) (k : Nat) : trueTo bs (k + 1) = trueTo bs k ++ if bs.getD k false then [k] else [] := by
 unfold trueTo
 rw [List.range_succ, List.filter_append]
 congr 1
 cases h : bs.getD k false with
 | true => simp only [List.filter_cons, h, if_true, List.filter_nil]
 | false => simp only [List.filter_cons, h, Bool.false_eq_true, if_false, List.filter_nil]
theorem trueTo_le (bs : List Bool) (k : Nat) : (trueTo bs k).length ≤ k := Nat.le_trans (List.length_filter_le _ _) (by simp)
theorem vals_true (bss : List (List Bool)) (h8 : bss.length ≤ 8) (h6 : ∀ u, u < bss.length → (bss.getD u []).length ≤ 6) (q : Nat) (hq : q < bss.length) : vals ((domB bss).getD q 0) = trueTo (bss.getD q []) (bss.getD q []).length := by
 have hl := h6 q hq
 obtain ⟨bs, hbs⟩ : ∃ bs, bss.getD q [] = bs := ⟨_, rfl⟩
 have hb : ∀ v, ((domB bss).getD q 0).testBit v = bs.getD v false := fun v => by rw [domB_bit _ h8 h6, hbs]
 rw [hbs] at hl ⊢
 unfold vals trueTo
 have e1 : (List.range 8).filter (fun i => ((domB bss).getD q 0).testBit i) = (List.range 8).filter (fun x => bs.getD x false) := List.filter_congr (fun x _ => hb x)
 rw [e1]
 have e2 : List.range 8 = List.range bs.length ++ (List.range (8 - bs.length)).map (fun x => bs.length + x) := by
  rw [← List.range_add]
  congr 1
  omega
 rw [e2, List.filter_append]
 have e3 : ((List.range (8 - bs.length)).map (fun x => bs.length + x)).filter (fun x => bs.getD x false) = [] := by
  rw [List.filter_eq_nil_iff]
  intro x hx
  obtain ⟨y, _, rfl⟩ := List.mem_map.1 hx
  simp [List.getD]
 rw [e3, List.append_nil]

set_option maxHeartbeats 1600000 in
set_option maxRecDepth 1000000 in
theorem refDomain_any (lo Y : Nat) (zs : List Int) (szv inv : Value) (vs : List Value) (bss : List (List Bool)) (dead : Bool) (tv lv : Value) (q : Nat) (w : World) (hR : RIn w lo Y zs szv inv vs bss dead tv lv) (hq : q < bss.length) :
  Calls Tryz.prog 54 #[.pointer (some ⟨Y, 0, none⟩), .int .i64 (q : Int)] w fun e w' => ∃ v, e = .returned v ∧ Mine w w' v 3 (ints (if dead then [] else trueTo (bss.getD q []) (bss.getD q []).length)) := by
 obtain ⟨i0, hi0, hz0, hz1, hz2⟩ := info_parts Tryz.infoInt
 obtain ⟨io, icap, hio, hBR, hcY⟩ := hR.brows
 obtain ⟨ib, iof, qo, qc, hie, hil, hic, hRow⟩ := hBR q hq
 have hb6 := hR.b6 q hq
 have h8 := hR.in8
 have cD : w.cell? ⟨Y, 2, none⟩ = some (.bool dead) := hR.blk.cell 2
 have hYl := hR.blk.lt
 obtain ⟨bs, hbs⟩ : ∃ bs, bss.getD q [] = bs := ⟨_, rfl⟩
 rw [hbs] at hic hRow hb6 ⊢
 subst hie
 have hqI : (q : Int) < (bss.length : Int) := by omega
 obtain ⟨res, hres⟩ : ∃ res, (if dead = true then [] else trueTo bs bs.length) = res := ⟨_, rfl⟩
 rw [hres]
 have Hres := hd hres
 clear hres
 have HcY := hd hcY
 have HcD := hd cD
 have Hic := hd hic
 have HRow := hd hRow
 clear hBR hcY hR hio hic hRow cD hbs
 go_enter Tryz.func54, Tryz.ntmps54
 go_wp2_with fail
 go_loopw [5, 6] (fun out x wr => ∃ k : Nat, k ≤ bs.length ∧ x = .int .i64 (k : Int) ∧ (dead = true → k = 0) ∧ Hid (Mine w wr out 3 (ints (trueTo bs k)))) (fun _ x _ => bs.length - (intOf x).toNat)
 case atStart => exact ⟨0, by omega, rfl, fun _ => rfl, Mine.nil (Fr.refl _ _) _⟩
 case round =>
  obtain ⟨k, hk, rfl, hdk, HM⟩ := hrel
  have c1 : wr.cell? ⟨Y, 1, none⟩ = some (.slice (some ⟨ib, iof, none⟩) bss.length icap) := (HM.out.nw.cell hYl (fun x => x)).trans HcY.out
  have c2 : wr.cell? ⟨Y, 2, none⟩ = some (.bool dead) := (HM.out.nw.cell hYl (fun x => x)).trans HcD.out
  have hYl1 : Y < wr.heap.size := Nat.lt_of_lt_of_le hYl HM.out.nw.size
  have cic : wr.cell? ⟨ib, iof + q, none⟩ = some (.slice qo bs.length qc) := (HM.out.nw.cell hil (fun x => x)).trans Hic.out
  have hil1 : ib < wr.heap.size := Nat.lt_of_lt_of_le hil HM.out.nw.size
  obtain ⟨oo, oc, hof, _⟩ := HM.out.row.form
  rw [show (ints (trueTo bs k)).length = (trueTo bs k).length by simp [ints]] at hof
  subst hof
  have htl := trueTo_le bs k
  by_cases hlt : k < bs.length
  ·have hdk1 : (k : Int) < (bs.length : Int) := by omega
   cases dead with
   | true =>
    have Hk0 := hd (hdk rfl)
    clear hdk
    go_wp2_with fail
    go_ret
    refine ⟨_, rfl, ?_⟩
    show Mine w wr (.slice oo (trueTo bs k).length oc) 3 (ints res)
    have h1 := HM.out
    have e0 : trueTo bs k = [] := by rw [Hk0.out]; rfl
    have e1 : res = [] := Hres.out.symm
    rw [e0] at h1 ⊢
    rw [e1]
    exact h1
   | false =>
    obtain ⟨qb, qof, hqe, hql, hqc⟩ := (HRow.out.nw HM.out.nw) k hlt
    subst hqe
    have Hs := hd (trueTo_succ bs k)
    obtain ⟨x, hx⟩ : ∃ x, bs.getD k false = x := ⟨_, rfl⟩
    rw [hx] at hqc Hs
    clear hx hdk
    cases x with
    | true =>
     obtain ⟨tl, htl'⟩ : ∃ tl, (trueTo bs k).length = tl := ⟨_, rfl⟩
     have Htl := hd htl'
     rw [htl'] at HM htl ⊢
     clear htl'
     go_wp2_with (at_builtin; refine wpList_append_own_at _ rfl _ _ 22 rfl 0 3 i0 (.int .i64 0) 1 8 Tryz.underlying22 hi0 hz0 hz1 hz2 rfl (by decide) _ _ _ rfl (Row.alloc HM.out.row _) ⟨_, 0, none⟩ 1 1 [.int .i64 (k : Int)] rfl rfl (cell_one_new _ _ _) (by simp [Value.oneCell']) (by rw [show (ints (trueTo bs k)).length = (trueTo bs k).length by simp [ints], Htl.out]; unfold maxLen; omega) (by rw [show (ints (trueTo bs k)).length = (trueTo bs k).length by simp [ints], Htl.out]; omega) (Nat.zero_le _) ?_; intro v' w3 hown' hgrow _ hat; obtain ⟨g', cap', rfl, hr3, hf3, ha3, hlt3⟩ := app1 hown' hgrow hat)
     refine ⟨⟨k + 1, by omega, by simp, fun h => (by cases h), ?_⟩, by simp [intOf]; omega⟩
     rw [Hs.out]
     have e1 : ints (trueTo bs k ++ if true = true then [k] else []) = ints (trueTo bs k) ++ [.int .i64 (k : Int)] := by simp [ints]
     rw [e1]
     rw [show (ints (trueTo bs k)).length = (trueTo bs k).length by simp [ints]] at hr3
     exact HM.out.more (g := g') hr3 hf3 rfl (ha3.imp (fun h => h) (fun h => by omega))
    | false =>
     go_wp2_with fail
     refine ⟨⟨k + 1, by omega, by simp, fun h => (by cases h), ?_⟩, by simp [intOf]; omega⟩
     rw [Hs.out]
     simpa using HM
  ·obtain rfl : bs.length = k := by omega
   have hdk1 : ¬ ((bs.length : Int) < (bs.length : Int)) := by omega
   have Hdk := hd hdk
   clear hdk
   go_wp2_with fail
   go_ret
   refine ⟨_, rfl, ?_⟩
   cases dead with
   | true =>
    show Mine w wr (.slice oo (trueTo bs bs.length).length oc) 3 (ints res)
    have h1 := HM.out
    have e0 : trueTo bs bs.length = [] := by rw [Hdk.out rfl]; rfl
    have e1 : res = [] := Hres.out.symm
    rw [e0] at h1 ⊢
    rw [e1]
    exact h1
   | false =>
    show Mine w wr (.slice oo (trueTo bs bs.length).length oc) 3 (ints res)
    have e1 : res = trueTo bs bs.length := Hres.out.symm
    rw [e1]
    exact HM.out
end Go.Proofs.YtkjfpdfkcfgfkaaGreat

namespace Go.Proofs.YtkjfpdfkcfgfkaaGreat
open Go.RowKit

def struckTo (bss : List (List Bool)) (v value : Nat) (only : Bool) : Nat → List (List Bool)
 | 0 => bss
 | k + 1 => if (decide (k = value)) != only then offB (struckTo bss v value only k) v k else struckTo bss v value only k
theorem struckTo_len (bss : List (List Bool)) (v value : Nat) (only : Bool) : ∀ k, (struckTo bss v value only k).length = bss.length
 | 0 => rfl
 | k + 1 => by
  unfold struckTo
  split
  ·simp [offB, struckTo_len bss v value only k]
  ·exact struckTo_len bss v value only k
theorem struckTo_get (bss : List (List Bool)) (v value : Nat) (only : Bool) (hv : v < bss.length) (q x : Nat) : ∀ k, ((struckTo bss v value only k).getD q []).getD x false = if v = q ∧ x < k ∧ ((decide (x = value)) != only) = true then false else (bss.getD q []).getD x false
 | 0 => by simp [struckTo]
 | k + 1 => by
  have ih := struckTo_get bss v value only hv q x k
  unfold struckTo
  by_cases hc : ((decide (k = value)) != only) = true
  ·rw [if_pos hc, offB_get _ _ _ _ _ (by rw [struckTo_len]; exact hv), ih]
   by_cases h1 : v = q ∧ k = x
   ·obtain ⟨rfl, rfl⟩ := h1
    rw [if_pos ⟨rfl, rfl⟩, if_pos ⟨rfl, by omega, hc⟩]
   ·rw [if_neg h1]
    by_cases h2 : v = q ∧ x < k ∧ ((decide (x = value)) != only) = true
    ·rw [if_pos h2, if_pos ⟨h2.1, by omega, h2.2.2⟩]
    ·rw [if_neg h2, if_neg (fun h3 => h2 ⟨h3.1, by
      have : x ≠ k := fun e => h1 ⟨h3.1, e.symm⟩
      omega, h3.2.2⟩)]
  ·rw [if_neg hc, ih]
   by_cases h2 : v = q ∧ x < k ∧ ((decide (x = value)) != only) = true
   ·rw [if_pos h2, if_pos ⟨h2.1, by omega, h2.2.2⟩]
   ·rw [if_neg h2, if_neg (fun h3 => h2 ⟨h3.1, by
     have : x ≠ k := fun e => hc (by rw [← e]; exact h3.2.2)
     omega, h3.2.2⟩)]

set_option maxHeartbeats 1600000 in
set_option maxRecDepth 1000000 in
theorem refTake_ok (W : World) (lo Y : Nat) (zs : List Int) (szv inv : Value) (vs : List Value) (bss : List (List Bool)) (tv lv : Value) (ts : List TbW) (v value : Nat) (only : Bool) (w : World) (hlo : W.heap.size ≤ lo) (hW : Nw W w) (ht12 : ts.length ≤ 12)
  (hok : ∀ i, i < ts.length → okTable zs (ts.getD i tbw0).tb.vars (ts.getD i tbw0).tb.rows (ts.getD i tbw0).way = true) (hR : RIn w lo Y zs szv inv vs bss false tv lv) (hT : RTabs W w tv ts) (htv : ∀ k, tv.ownBlock = some k → (∃ cur, Blk w k cur 41)) (hv : v < zs.length) (hx : (value : Int) < zs.getD v 0) :
  Calls Tryz.prog 58 #[.pointer (some ⟨Y, 0, none⟩), .int .i64 (v : Int), .int .i64 (value : Int), .bool only] w fun e w' => e = .returned (.int .i64 0) ∧ ∃ bss', RIn w' lo Y zs szv inv vs bss' (noneB bss') tv lv ∧ RTabs W w' tv ts ∧ CInv (ts.map TbW.tb) (domB (struckTo bss v value only (zs.getD v 0).toNat)) (domB bss') ∧ (∀ b ∈ ts.map TbW.tb, SuppAll b (domB bss')) ∧ Fr (fun q => q = Y ∨ ∃ u, u < vs.length ∧ (vs.getD u nilS).ownBlock = some q) w w' := by
 obtain ⟨hz1, hz8⟩ := okSizes_len hR.zok
 have hzg := okSizes_get hR.zok v hv
 obtain ⟨szo, szc, hszf, _⟩ := hR.sz.form
 rw [List.length_map] at hszf
 have hbl := hR.len
 obtain ⟨n, hn⟩ : ∃ n, (zs.getD v 0).toNat = n := ⟨_, rfl⟩
 have hzn : zs.getD v 0 = (n : Int) := by omega
 have hvI : (v : Int) < (zs.length : Int) := by omega
 rw [hn]
 rw [hzn] at hx hzg
 obtain ⟨g, gcap, hvg, _, hglo⟩ := hR.row v (by rw [hbl]; exact hv)
 rw [hR.each v hv, hn] at hvg
 have hszI : IntsAt w szo zs := by
  have h := hR.sz
  rw [hszf] at h
  exact h.ints'
 obtain ⟨sb, sof, hse, hsl, hsc⟩ := hszI v hv
 rw [hzn] at hsc
 subst hse
 have HR := hd hR
 have HT := hd hT
 have HW := hd hW
 have Htv := hd htv
 have Hvg := hd hvg
 have Hszf := hd hszf
 have Hsc := hd hsc
 have Hn := hd hn
 have cS0 : w.cell? ⟨Y, 0, none⟩ = some (.slice (some ⟨sb, sof, none⟩) zs.length szc) := by
  have := hR.blk.cell 0
  rw [hszf] at this
  exact this
 have cD0 : w.cell? ⟨Y, 2, none⟩ = some (.bool false) := hR.blk.cell 2
 have hYl0 := hR.blk.lt
 have hgu : ∃ u, u < vs.length ∧ (vs.getD u nilS).ownBlock = some g := ⟨v, by rw [hR.rows.len, hbl]; exact hv, by rw [hvg]; rfl⟩
 have Hgu := hd hgu
 have Hnb : Hid (∀ q, (∃ u, u < vs.length ∧ (vs.getD u nilS).ownBlock = some q) → ∃ cur, Blk w q cur 4) := fun q ⟨u, hu, hq⟩ => by
  obtain ⟨cur, hb, _⟩ := (hR.rows.row u (by rw [← hR.rows.len]; exact hu)).blk hq
  exact ⟨cur, hb⟩
 have Hvslo : Hid (∀ q, (∃ u, u < vs.length ∧ (vs.getD u nilS).ownBlock = some q) → lo ≤ q) := fun q ⟨u, hu, hq⟩ => hR.rows.lo u (by rw [← hR.rows.len]; exact hu) q hq
 have hv0 : ¬ ((v : Int) < 0) := by omega
 have hx0 : ¬ ((value : Int) < 0) := by omega
 have hvn : ¬ (zs.length ≤ v) := by omega
 have hxn : ¬ (n ≤ value) := by omega
 clear hR hT hW htv hvg hszf hszI hgu hn hzn
 go_enter Tryz.func58, Tryz.ntmps58
 go_wp2_with fail
 go_loopw [9] (fun x wr => ∃ k : Nat, k ≤ n ∧ x = .int .i64 (k : Int) ∧ Hid (RIn wr lo Y zs szv inv vs (struckTo bss v value only k) false tv lv) ∧ Hid (RTabs W wr tv ts) ∧ Hid (Fr (fun q => ∃ u, u < vs.length ∧ (vs.getD u nilS).ownBlock = some q) w wr)) (fun x _ => n - (intOf x).toNat)
 case atStart => exact ⟨0, by omega, rfl, HR, HT, Fr.refl _ _⟩
 case round =>
  clear HR HT
  obtain ⟨k, hk, rfl, HR, HT, HF⟩ := hrel
  have cS : wr.cell? ⟨Y, 0, none⟩ = some (.slice (some ⟨sb, sof, none⟩) zs.length szc) := by
   have := HR.out.blk.cell 0
   rw [Hszf.out] at this
   exact this
  have hYl := HR.out.blk.lt
  have hszI : IntsAt wr (some ⟨sb, sof, none⟩) zs := by
   have h := HR.out.sz
   rw [Hszf.out] at h
   exact h.ints'
  obtain ⟨sb', sof', hse, hsl', hsc'⟩ := hszI v hv
  simp only [Option.some.injEq, Addr.mk.injEq, and_true] at hse
  obtain ⟨rfl, rfl⟩ := hse
  rw [show zs.getD v 0 = (n : Int) by have := Hn.out; omega] at hsc'
  clear hszI
  by_cases hlt : k < n
  ·have hdk : (k : Int) < (n : Int) := by omega
   have hub : v < (struckTo bss v value only k).length := by rw [struckTo_len, hbl]; exact hv
   obtain ⟨io, icap, hio, hBR, hcY⟩ := HR.out.brows
   obtain ⟨ib, iof, qo, qc, hie, hil, hicl, _⟩ := hBR v hub
   obtain ⟨g2, gc2, hvg2, hrow, _⟩ := HR.out.row v hub
   have hl4 : ((struckTo bss v value only k).getD v []).length = n := by rw [HR.out.each v hv]; exact Hn.out
   rw [Hvg.out, hl4] at hvg2
   simp only [Value.slice.injEq, Option.some.injEq, Addr.mk.injEq, and_true] at hvg2
   obtain ⟨rfl, hvgr, rfl⟩ := hvg2
   clear hvgr
   have hqe : (Value.slice qo ((struckTo bss v value only k).getD v []).length qc) = .slice (some ⟨g, 0, none⟩) n gcap := by
    obtain ⟨g3, c3, he3, hb3, hc3, _⟩ := HR.out.inn.cell v (by rw [HR.out.rows.len]; exact hub)
    rw [hio, hie] at he3
    simp only [Value.slice.injEq, Option.some.injEq, Addr.mk.injEq, and_true] at he3
    obtain ⟨⟨rfl, rfl⟩, _⟩ := he3
    rw [Nat.zero_add, hc3] at hicl
    rw [← Hvg.out]
    have hvl : v < vs.length := by rw [HR.out.rows.len]; exact hub
    rw [show vs.getD v nilS = vs[v] by simp [List.getD, hvl]]
    exact (Option.some.inj hicl).symm
   rw [hqe] at hicl
   obtain ⟨curg, hbg, _⟩ := hrow.blk (k := g) rfl
   have hgl := hbg.lt
   have hgf := hbg.free k
   obtain ⟨old, hold⟩ : ∃ old, wr.cell? ⟨g, k, none⟩ = some old := by
    obtain ⟨gx, cx, hex, _, hcx, _⟩ := hrow.cell k (by rw [List.length_map, hl4]; exact hlt)
    simp only [Value.slice.injEq, Option.some.injEq, Addr.mk.injEq, and_true] at hex
    obtain ⟨rfl, _⟩ := hex
    exact ⟨_, hcx⟩
   obtain ⟨sl, hsl4⟩ : ∃ sl, (struckTo bss v value only k).length = sl := ⟨_, rfl⟩
   rw [hsl4] at hcY
   have hvs : (v : Int) < (sl : Int) := by omega
   have hvs' : v < sl := by omega
   subst hie
   have Hst : Hid (struckTo bss v value only (k + 1) = if ((decide (k = value)) != only) = true then offB (struckTo bss v value only k) v k else struckTo bss v value only k) := rfl
   have Hoff : Hid (RIn (wr.setCell ⟨g, k, none⟩ (.bool false)) lo Y zs szv inv vs (offB (struckTo bss v value only k) v k) false tv lv ∧ RTabs W (wr.setCell ⟨g, k, none⟩ (.bool false)) tv ts ∧ Fr (fun q => ∃ u, u < vs.length ∧ (vs.getD u nilS).ownBlock = some q) w (wr.setCell ⟨g, k, none⟩ (.bool false))) := by
    have hf7 : Fr (fun q => q = g) wr (wr.setCell ⟨g, k, none⟩ (.bool false)) := (Fr.refl _ wr).setCell _ _ (.inl rfl)
    refine ⟨HR.out.off v k g n gcap hub Hvg.out, HT.out.fr hf7 (fun q hq e => ?_), HF.out.trans hf7 (fun i h => .inl (by rw [h]; exact Hgu.out))⟩
    obtain ⟨cur, hb⟩ := Htv.out q hq
    obtain ⟨cur2, hb2⟩ := Hnb.out g Hgu.out
    rw [e] at hb
    exact absurd (hb.inj hb2).2 (by decide)
   clear hBR hio hrow hqe hsl4 hub hl4
   by_cases hkv : k = value
   ·have hkb : ((k : Int) == (value : Int)) = true := by rw [hkv]; simp
    have Hkd : Hid (decide (k = value) = true) := hd (by simp [hkv])
    clear hkv
    cases only with
    | true =>
     go_wp2_with fail
     refine ⟨⟨k + 1, by omega, by simp, ?_, HT, HF⟩, by simp [intOf]; omega⟩
     rw [Hst.out, Hkd.out]
     exact HR
    | false =>
     go_wp2_with fail
     refine ⟨⟨k + 1, by omega, by simp, ?_, Hoff.out.2.1, Hoff.out.2.2⟩, by simp [intOf]; omega⟩
     rw [Hst.out, Hkd.out]
     exact Hoff.out.1
   ·have hkb : ((k : Int) == (value : Int)) = false := by rw [beq_eq_false_iff_ne]; omega
    have Hkd : Hid (decide (k = value) = false) := hd (by simp [hkv])
    clear hkv
    cases only with
    | true =>
     go_wp2_with fail
     refine ⟨⟨k + 1, by omega, by simp, ?_, Hoff.out.2.1, Hoff.out.2.2⟩, by simp [intOf]; omega⟩
     rw [Hst.out, Hkd.out]
     exact Hoff.out.1
    | false =>
     go_wp2_with fail
     refine ⟨⟨k + 1, by omega, by simp, ?_, HT, HF⟩, by simp [intOf]; omega⟩
     rw [Hst.out, Hkd.out]
     exact HR
  ·obtain rfl : n = k := by omega
   have hdk : ¬ ((n : Int) < (n : Int)) := by omega
   have Hcall := hd (close_any W lo Y zs szv inv vs (struckTo bss v value only n) false tv lv ts wr hlo (HW.out.trans HF.out (fun i h => .inr (by have := Hvslo.out i h; omega))) ht12 hok HR.out HT.out (fun q hq => by
    obtain ⟨cur, hb⟩ := Htv.out q hq
    exact ⟨cur, hb.fr HF.out (fun h => by
     obtain ⟨cur2, hb2⟩ := Hnb.out q h
     exact absurd (hb.inj hb2).2 (by decide))⟩))
   go_wp2_with fail
   refine Hcall.out.mono ?_
   rintro e w2 ⟨rfl, b', h1, h2, h3, h4, h5⟩
   have Hfin := hd (show ∃ bss', RIn w2 lo Y zs szv inv vs bss' (noneB bss') tv lv ∧ RTabs W w2 tv ts ∧ CInv (ts.map TbW.tb) (domB (struckTo bss v value only n)) (domB bss') ∧ (∀ b ∈ ts.map TbW.tb, SuppAll b (domB bss')) ∧ Fr (fun q => q = Y ∨ ∃ u, u < vs.length ∧ (vs.getD u nilS).ownBlock = some q) w w2 from ⟨b', h1, h2, h3, h4, (HF.out.mono (fun _ h => .inl (.inr h))).trans h5 (fun i h => .inl h)⟩)
   clear h1 h2 h3 h4 h5
   go_wp2_with fail
   go_ret
   exact ⟨rfl, Hfin.out⟩

set_option maxHeartbeats 1600000 in
set_option maxRecDepth 1000000 in
theorem refTake_arg (lo Y : Nat) (zs : List Int) (szv inv : Value) (vs : List Value) (bss : List (List Bool)) (dead : Bool) (tv lv : Value) (v value : Int) (only : Bool) (w : World) (hR : RIn w lo Y zs szv inv vs bss dead tv lv) (hno : ¬ (0 ≤ v ∧ v < zs.length ∧ 0 ≤ value ∧ value < zs.getD v.toNat 0)) :
  Calls Tryz.prog 58 #[.pointer (some ⟨Y, 0, none⟩), .int .i64 v, .int .i64 value, .bool only] w fun e w' => e = .returned (.int .i64 1) ∧ w' = w := by
 obtain ⟨szo, szc, hszf, _⟩ := hR.sz.form
 rw [List.length_map] at hszf
 have cS0 : w.cell? ⟨Y, 0, none⟩ = some (.slice szo zs.length szc) := by
  have := hR.blk.cell 0
  rw [hszf] at this
  exact this
 have hYl := hR.blk.lt
 have hszI : IntsAt w szo zs := by
  have h := hR.sz
  rw [hszf] at h
  exact h.ints'
 clear hR hszf
 go_enter Tryz.func58, Tryz.ntmps58
 by_cases hv0 : v < 0
 ·go_wp2_with fail
  go_ret
  exact ⟨rfl, rfl⟩
 ·by_cases hvl : v < zs.length
  ·obtain ⟨u, rfl⟩ : ∃ u : Nat, v = (u : Int) := ⟨v.toNat, by omega⟩
   have hul : u < zs.length := by omega
   have hun : ¬ (zs.length ≤ u) := by omega
   have hge : ¬ ((zs.length : Int) ≤ (u : Int)) := by omega
   obtain ⟨sb, sof, hse, hsl, hsc⟩ := hszI u hul
   subst hse
   obtain ⟨z, hz⟩ : ∃ z, zs.getD u 0 = z := ⟨_, rfl⟩
   rw [hz] at hsc
   rw [Int.toNat_natCast, hz] at hno
   by_cases hx0 : value < 0
   ·go_wp2_with fail
    go_ret
    exact ⟨rfl, rfl⟩
   ·have hxz : z ≤ value := by omega
    go_wp2_with fail
    go_ret
    exact ⟨rfl, rfl⟩
  ·have hge : (zs.length : Int) ≤ v := by omega
   go_wp2_with fail
   go_ret
   exact ⟨rfl, rfl⟩

set_option maxHeartbeats 1600000 in
set_option maxRecDepth 1000000 in
theorem refTake_dead (lo Y : Nat) (zs : List Int) (szv inv : Value) (vs : List Value) (bss : List (List Bool)) (tv lv : Value) (v value : Nat) (only : Bool) (w : World) (hR : RIn w lo Y zs szv inv vs bss true tv lv) (hv : v < zs.length) (hx : (value : Int) < zs.getD v 0) :
  Calls Tryz.prog 58 #[.pointer (some ⟨Y, 0, none⟩), .int .i64 (v : Int), .int .i64 (value : Int), .bool only] w fun e w' => e = .returned (.int .i64 3) ∧ w' = w := by
 obtain ⟨szo, szc, hszf, _⟩ := hR.sz.form
 rw [List.length_map] at hszf
 have cS0 : w.cell? ⟨Y, 0, none⟩ = some (.slice szo zs.length szc) := by
  have := hR.blk.cell 0
  rw [hszf] at this
  exact this
 have cD0 : w.cell? ⟨Y, 2, none⟩ = some (.bool true) := hR.blk.cell 2
 have hYl := hR.blk.lt
 have hszI : IntsAt w szo zs := by
  have h := hR.sz
  rw [hszf] at h
  exact h.ints'
 obtain ⟨sb, sof, hse, hsl, hsc⟩ := hszI v hv
 subst hse
 have hzg := okSizes_get hR.zok v hv
 obtain ⟨n, hn⟩ : ∃ n : Nat, zs.getD v 0 = (n : Int) := ⟨(zs.getD v 0).toNat, by omega⟩
 rw [hn] at hsc hx
 have hvI : (v : Int) < (zs.length : Int) := by omega
 have hv0 : ¬ ((v : Int) < 0) := by omega
 have hx0 : ¬ ((value : Int) < 0) := by omega
 have hvn : ¬ (zs.length ≤ v) := by omega
 have hxn : ¬ (n ≤ value) := by omega
 clear hR hszf hszI hn hzg
 go_enter Tryz.func58, Tryz.ntmps58
 go_wp2_with fail
 go_ret
 exact ⟨rfl, rfl⟩
end Go.Proofs.YtkjfpdfkcfgfkaaGreat

namespace Go.Proofs.YtkjfpdfkcfgfkaaGreat
open Go.RowKit

def rDom (bss : List (List Bool)) (dead : Bool) (q : Nat) : List Nat := if dead then [] else trueTo (bss.getD q []) (bss.getD q []).length
def leftR (bss : List (List Bool)) (dead : Bool) : Nat → Nat
 | 0 => 0
 | k + 1 => leftR bss dead k + (rDom bss dead k).length
def fixR (bss : List (List Bool)) (dead : Bool) : Nat → Nat
 | 0 => 0
 | k + 1 => fixR bss dead k + if (rDom bss dead k).length = 1 then 1 else 0
theorem rDom_le {bss : List (List Bool)} {dead : Bool} (h6 : ∀ u, u < bss.length → (bss.getD u []).length ≤ 6) (q : Nat) (hq : q < bss.length) : (rDom bss dead q).length ≤ 6 := by
 unfold rDom
 cases dead with
 | true => simp
 | false =>
  have := trueTo_le (bss.getD q []) (bss.getD q []).length
  have := h6 q hq
  simp only [Bool.false_eq_true, if_false]
  omega
theorem leftR_le {bss : List (List Bool)} {dead : Bool} (h6 : ∀ u, u < bss.length → (bss.getD u []).length ≤ 6) : ∀ k, k ≤ bss.length → leftR bss dead k ≤ 6 * k ∧ fixR bss dead k ≤ k
 | 0, _ => ⟨Nat.le_refl _, Nat.le_refl _⟩
 | k + 1, h => by
  obtain ⟨h1, h2⟩ := leftR_le (dead := dead) h6 k (by omega)
  have h3 := rDom_le (dead := dead) h6 k (by omega)
  unfold leftR fixR
  constructor
  ·omega
  ·split <;> omega
theorem store_one {A : World} {b i : Nat} {v old : Value} (h1 : v.oneCell' = true) (hc : A.cell? ⟨b, i, none⟩ = some old) (hf : A.frozen? ⟨b, i, none⟩ = false) : (Sem.store Mode.plain (⟨b, i, none⟩ : Addr) v (.pure ())).run Tryz.prog A = .ok () (A.setCell ⟨b, i, none⟩ v) := by
 cases v <;> first
  | (simp [Value.oneCell'] at h1; done)
  | (unfold Sem.run; simp [hc, hf, Sem.run])
theorem exec_store6 {ev : Operand → Value} {o : Oper} {w : World} {b : Nat} {n0 n1 n2 n4 n5 : Int} {d : Bool} {o0 o1 o2 o3 o4 o5 : Value} {e : TypeId} (t : TypeId) (x y : Operand) (ho : o.op = .store t x y) (hx : ev x = .pointer (some ⟨b, 0, none⟩)) (hy : ev y = .agg #[.int .i64 n0, .int .i64 n1, .int .i64 n2, .bool d, .int .i64 n4, .int .i64 n5]) (hsz : (sizeOf t).run Tryz.prog w = .ok 6 w) (hb : Blk w b #[o0, o1, o2, o3, o4, o5] e) :
  (execOp ev o).run Tryz.prog w = .ok .skip ((((((w.setCell ⟨b, 0, none⟩ (.int .i64 n0)).setCell ⟨b, 1, none⟩ (.int .i64 n1)).setCell ⟨b, 2, none⟩ (.int .i64 n2)).setCell ⟨b, 3, none⟩ (.bool d)).setCell ⟨b, 4, none⟩ (.int .i64 n4)).setCell ⟨b, 5, none⟩ (.int .i64 n5)) := by
 have h0 := store_one (v := .int .i64 n0) rfl (hb.cell 0) (hb.free 0)
 have b1 := hb.set 0 (.int .i64 n0)
 have h1 := store_one (v := .int .i64 n1) rfl (b1.cell 1) (b1.free 1)
 have b2 := b1.set 1 (.int .i64 n1)
 have h2 := store_one (v := .int .i64 n2) rfl (b2.cell 2) (b2.free 2)
 have b3 := b2.set 2 (.int .i64 n2)
 have h3 := store_one (v := .bool d) rfl (b3.cell 3) (b3.free 3)
 have b4 := b3.set 3 (.bool d)
 have h4 := store_one (v := .int .i64 n4) rfl (b4.cell 4) (b4.free 4)
 have b5 := b4.set 4 (.int .i64 n4)
 have h5 := store_one (v := .int .i64 n5) rfl (b5.cell 5) (b5.free 5)
 have hcs : (Value.agg #[.int .i64 n0, .int .i64 n1, .int .i64 n2, .bool d, .int .i64 n4, .int .i64 n5]).cells = #[.int .i64 n0, .int .i64 n1, .int .i64 n2, .bool d, .int .i64 n4, .int .i64 n5] := by kernel_rfl
 unfold execOp
 simp [ho, hx, hy, Instr.storeAt, Instr.sureAddr, storeVar, hcs, hsz, storeCells, Addr.add, store, h0, h1, h2, h3, h4, h5, Result.andThen]
noncomputable def rlkReg : Array Oper := regOps Tryz.f60 1

set_option maxHeartbeats 1600000 in
set_option maxRecDepth 1000000 in
theorem refLook_any (lo Y : Nat) (zs : List Int) (szv inv : Value) (vs : List Value) (bss : List (List Bool)) (dead : Bool) (tto llo : Option Addr) (tn tcap ln lcap : Nat) (w : World) (hR : RIn w lo Y zs szv inv vs bss dead (.slice tto tn tcap) (.slice llo ln lcap)) :
  Calls Tryz.prog 60 #[.pointer (some ⟨Y, 0, none⟩)] w fun e w' => e = .returned (.agg #[.int .i64 (zs.length : Int), .int .i64 (tn : Int), .int .i64 (ln : Int), .bool dead, .int .i64 (leftR bss dead zs.length : Int), .int .i64 (fixR bss dead zs.length : Int)]) ∧ Nw w w' := by
 obtain ⟨szo, szc, hszf, _⟩ := hR.sz.form
 rw [List.length_map] at hszf
 obtain ⟨hz1, hz8⟩ := okSizes_len hR.zok
 obtain ⟨W, hW⟩ : ∃ W, W = w.alloc (.cells #[.int .i64 0, .int .i64 0, .int .i64 0, .bool false, .int .i64 0, .int .i64 0] 110) := ⟨_, rfl⟩
 have hfW : Nw w W := by rw [hW]; exact (Fr.refl _ w).alloc _
 have hbR : Blk W w.heap.size #[.int .i64 0, .int .i64 0, .int .i64 0, .bool false, .int .i64 0, .int .i64 0] 110 := by rw [hW]; exact Blk.new _ _ _
 have hRW := hR.nw hfW
 have c0 : W.cell? ⟨Y, 0, none⟩ = some (.slice szo zs.length szc) := by
  have := hRW.blk.cell 0
  rw [hszf] at this
  exact this
 have c2 : W.cell? ⟨Y, 2, none⟩ = some (.bool dead) := hRW.blk.cell 2
 have c3 : W.cell? ⟨Y, 3, none⟩ = some (.slice tto tn tcap) := hRW.blk.cell 3
 have c4 : W.cell? ⟨Y, 4, none⟩ = some (.slice llo ln lcap) := hRW.blk.cell 4
 have hYl := hRW.blk.lt
 have HRW := hd hRW
 have HbR := hd hbR
 have HfW := hd hfW
 have Hszf := hd hszf
 clear hR hRW hbR hfW hszf
 go_enter Tryz.func60, Tryz.ntmps60
 go_upto_region 1 with fail
 rw [← hW]
 clear hW
 go_cut [3] (fun p wx => ∃ L, p = .pointer (some ⟨L, 0, none⟩) ∧ Hid (Blk wx L #[.int .i64 (zs.length : Int), .int .i64 (tn : Int), .int .i64 (ln : Int), .bool dead, .int .i64 0, .int .i64 0] 110) ∧ Hid (Nw W wx) ∧ W.heap.size ≤ L)
 case first =>
  have hK0 : Nw W W.drew := (Fr.refl _ W).drew
  refine region_H rlkReg 22 (fun w'' => Nw W w'') (by kernel_rfl) (by kernel_rfl) (by kernel_rfl) ?_
  refine take_at (i := 0) (d := some 6) (v := .pointer (some ⟨Y, 0, none⟩)) (by kernel_rfl) (by kernel_rfl) (fun _ _ _ h => h) (fun w'' hS => by kernel_rfl) hK0 ?_
  refine take_at (i := 1) (d := some 7) (v := .pointer (some ⟨Y, 0, none⟩)) (by kernel_rfl) (by kernel_rfl) (fun _ _ _ h => h) (fun w'' hS => by kernel_rfl) hK0 ?_
  refine take_at (i := 2) (d := some 8) (v := .pointer (some ⟨Y, 0, none⟩)) (by kernel_rfl) (by kernel_rfl) (fun _ _ _ h => h) (fun w'' hS => by kernel_rfl) hK0 ?_
  refine take_at (i := 3) (d := some 9) (v := .slice szo zs.length szc) (by kernel_rfl) (by kernel_rfl) (fun _ _ _ h => h) (fun w'' hS => exec_load 22 (.tmp 8) (by kernel_rfl) (by kernel_rfl) (by kernel_rfl) ((hS.cell hYl (fun x => x)).trans c0)) hK0 ?_
  refine take_at (i := 4) (d := some 10) (v := .int .i64 (zs.length : Int)) (by kernel_rfl) (by kernel_rfl) (fun _ _ _ h => h) (fun w'' hS => by kernel_rfl) hK0 ?_
  refine take_at (i := 5) (d := some 11) (v := .pointer (some ⟨Y, 0, none⟩)) (by kernel_rfl) (by kernel_rfl) (fun _ _ _ h => h) (fun w'' hS => by kernel_rfl) hK0 ?_
  refine take_at (i := 6) (d := some 12) (v := .pointer (some ⟨Y, 0, none⟩)) (by kernel_rfl) (by kernel_rfl) (fun _ _ _ h => h) (fun w'' hS => by kernel_rfl) hK0 ?_
  refine take_at (i := 7) (d := some 13) (v := .pointer (some ⟨Y, 3, none⟩)) (by kernel_rfl) (by kernel_rfl) (fun _ _ _ h => h) (fun w'' hS => by kernel_rfl) hK0 ?_
  refine take_at (i := 8) (d := some 14) (v := .slice tto tn tcap) (by kernel_rfl) (by kernel_rfl) (fun _ _ _ h => h) (fun w'' hS => exec_load 80 (.tmp 13) (by kernel_rfl) (by kernel_rfl) (by kernel_rfl) ((hS.cell hYl (fun x => x)).trans c3)) hK0 ?_
  refine take_at (i := 9) (d := some 15) (v := .int .i64 (tn : Int)) (by kernel_rfl) (by kernel_rfl) (fun _ _ _ h => h) (fun w'' hS => by kernel_rfl) hK0 ?_
  refine take_at (i := 10) (d := some 16) (v := .pointer (some ⟨Y, 0, none⟩)) (by kernel_rfl) (by kernel_rfl) (fun _ _ _ h => h) (fun w'' hS => by kernel_rfl) hK0 ?_
  refine take_at (i := 11) (d := some 17) (v := .pointer (some ⟨Y, 0, none⟩)) (by kernel_rfl) (by kernel_rfl) (fun _ _ _ h => h) (fun w'' hS => by kernel_rfl) hK0 ?_
  refine take_at (i := 12) (d := some 18) (v := .pointer (some ⟨Y, 4, none⟩)) (by kernel_rfl) (by kernel_rfl) (fun _ _ _ h => h) (fun w'' hS => by kernel_rfl) hK0 ?_
  refine take_at (i := 13) (d := some 19) (v := .slice llo ln lcap) (by kernel_rfl) (by kernel_rfl) (fun _ _ _ h => h) (fun w'' hS => exec_load 81 (.tmp 18) (by kernel_rfl) (by kernel_rfl) (by kernel_rfl) ((hS.cell hYl (fun x => x)).trans c4)) hK0 ?_
  refine take_at (i := 14) (d := some 20) (v := .int .i64 (ln : Int)) (by kernel_rfl) (by kernel_rfl) (fun _ _ _ h => h) (fun w'' hS => by kernel_rfl) hK0 ?_
  refine take_at (i := 15) (d := some 21) (v := .pointer (some ⟨Y, 0, none⟩)) (by kernel_rfl) (by kernel_rfl) (fun _ _ _ h => h) (fun w'' hS => by kernel_rfl) hK0 ?_
  refine take_at (i := 16) (d := some 22) (v := .pointer (some ⟨Y, 0, none⟩)) (by kernel_rfl) (by kernel_rfl) (fun _ _ _ h => h) (fun w'' hS => by kernel_rfl) hK0 ?_
  refine take_at (i := 17) (d := some 23) (v := .pointer (some ⟨Y, 2, none⟩)) (by kernel_rfl) (by kernel_rfl) (fun _ _ _ h => h) (fun w'' hS => by kernel_rfl) hK0 ?_
  refine take_at (i := 18) (d := some 24) (v := .bool dead) (by kernel_rfl) (by kernel_rfl) (fun _ _ _ h => h) (fun w'' hS => exec_load 4 (.tmp 23) (by kernel_rfl) (by kernel_rfl) (by kernel_rfl) ((hS.cell hYl (fun x => x)).trans c2)) hK0 ?_
  refine take_at (i := 19) (d := some 25) (v := .agg #[.int .i64 (zs.length : Int), .int .i64 (tn : Int), .int .i64 (ln : Int), .bool dead, .int .i64 0, .int .i64 0]) (by kernel_rfl) (by kernel_rfl) (fun _ _ _ h => h) (fun w'' hS => by kernel_rfl) hK0 ?_
  obtain ⟨Z, hZ⟩ : ∃ Z, W.drew.alloc (.cells #[.int .i64 0, .int .i64 0, .int .i64 0, .bool false, .int .i64 0, .int .i64 0] 110) = Z := ⟨_, rfl⟩
  have hNZ : Nw W Z := by rw [← hZ]; exact hK0.alloc _
  have hbZ : Blk Z W.heap.size #[.int .i64 0, .int .i64 0, .int .i64 0, .bool false, .int .i64 0, .int .i64 0] 110 := by rw [← hZ]; exact Blk.new _ _ _
  refine value_at (i := 20) (d := some 3) (v := .pointer (some ⟨W.heap.size, 0, none⟩)) (w' := Z) (by kernel_rfl) (by kernel_rfl) (by rw [← hZ]; kernel_rfl) hNZ ?_
  have z0 : Z.cell? ⟨W.heap.size, 0, none⟩ = some (.int .i64 0) := hbZ.cell 0
  have z1 : Z.cell? ⟨W.heap.size, 1, none⟩ = some (.int .i64 0) := hbZ.cell 1
  have z2 : Z.cell? ⟨W.heap.size, 2, none⟩ = some (.int .i64 0) := hbZ.cell 2
  have z3 : Z.cell? ⟨W.heap.size, 3, none⟩ = some (.bool false) := hbZ.cell 3
  have z4 : Z.cell? ⟨W.heap.size, 4, none⟩ = some (.int .i64 0) := hbZ.cell 4
  have z5 : Z.cell? ⟨W.heap.size, 5, none⟩ = some (.int .i64 0) := hbZ.cell 5
  have hfz := hbZ.free
  have hB8 := ((((((hbZ.set 0 (.int .i64 (zs.length : Int))).set 1 (.int .i64 (tn : Int))).set 2 (.int .i64 (ln : Int))).set 3 (.bool dead)).set 4 (.int .i64 0)).set 5 (.int .i64 0))
  have hN8 : Nw W ((((((Z.setCell ⟨W.heap.size, 0, none⟩ (.int .i64 (zs.length : Int))).setCell ⟨W.heap.size, 1, none⟩ (.int .i64 (tn : Int))).setCell ⟨W.heap.size, 2, none⟩ (.int .i64 (ln : Int))).setCell ⟨W.heap.size, 3, none⟩ (.bool dead)).setCell ⟨W.heap.size, 4, none⟩ (.int .i64 0)).setCell ⟨W.heap.size, 5, none⟩ (.int .i64 0)) := (((((hNZ.setCell _ _ (.inr (Nat.le_refl _))).setCell _ _ (.inr (Nat.le_refl _))).setCell _ _ (.inr (Nat.le_refl _))).setCell _ _ (.inr (Nat.le_refl _))).setCell _ _ (.inr (Nat.le_refl _))).setCell _ _ (.inr (Nat.le_refl _))
  have HB8 := hd hB8
  have HN8 := hd hN8
  refine skip_at (i := 21) (d := none) (w' := ((((((Z.setCell ⟨W.heap.size, 0, none⟩ (.int .i64 (zs.length : Int))).setCell ⟨W.heap.size, 1, none⟩ (.int .i64 (tn : Int))).setCell ⟨W.heap.size, 2, none⟩ (.int .i64 (ln : Int))).setCell ⟨W.heap.size, 3, none⟩ (.bool dead)).setCell ⟨W.heap.size, 4, none⟩ (.int .i64 0)).setCell ⟨W.heap.size, 5, none⟩ (.int .i64 0))) (by kernel_rfl) (by kernel_rfl) ?_ hN8 ?_
  ·exact exec_store6 110 (.tmp 3) (.tmp 25) (by kernel_rfl) (by kernel_rfl) (by kernel_rfl) (by kernel_rfl) hbZ
  refine wpAnyH_done (by kernel_rfl) ?_ _
  simp only [Act.put, List.setIfInBounds_toArray, List.set_cons_zero, List.set_cons_succ]
  clear hK0 hNZ hbZ z0 z1 z2 z3 z4 z5 hfz hB8 hN8 hZ
  go_wp2_with fail
  go_meet
  case rel => exact ⟨W.heap.size, rfl, HB8, HN8, Nat.le_refl _⟩
 case rest =>
  obtain ⟨L, rfl, HB, HF, hL⟩ := hcut
  rename World => wx
  have hc0 : wx.cell? ⟨Y, 0, none⟩ = some (.slice szo zs.length szc) := (HF.out.cell hYl (fun x => x)).trans c0
  have hYx : Y < wx.heap.size := Nat.lt_of_lt_of_le hYl HF.out.size
  go_wp2_with fail
  go_loopw [4, 5] (fun v _ wr => ∃ k : Nat, k ≤ zs.length ∧ v = .int .i64 (k : Int) ∧ Hid (Blk wr L #[.int .i64 (zs.length : Int), .int .i64 (tn : Int), .int .i64 (ln : Int), .bool dead, .int .i64 (leftR bss dead k : Int), .int .i64 (fixR bss dead k : Int)] 110) ∧ Hid (Fr (fun q => q = L) wx wr)) (fun v _ _ => zs.length - (intOf v).toNat)
  case atStart => exact ⟨0, by omega, rfl, HB, Fr.refl _ _⟩
  case round =>
   obtain ⟨k, hk, rfl, HBk, HFk⟩ := hrel
   have hNk : Nw W wr := HF.out.trans HFk.out (fun i h => .inr (by omega))
   have HRk := hd (HRW.out.nw hNk)
   have HNk := hd hNk
   have cS : wr.cell? ⟨Y, 0, none⟩ = some (.slice szo zs.length szc) := (hNk.cell hYl (fun x => x)).trans c0
   have hYk : Y < wr.heap.size := Nat.lt_of_lt_of_le hYl hNk.size
   clear hNk
   have hlb : leftR bss dead k ≤ 6 * k ∧ fixR bss dead k ≤ k := leftR_le HRk.out.b6 k (by rw [HRk.out.len]; exact hk)
   by_cases hlt : k < zs.length
   ·have hdk : (k : Int) < (zs.length : Int) := by omega
    have Hcall := hd (refDomain_any lo Y zs szv inv vs bss dead (.slice tto tn tcap) (.slice llo ln lcap) k wr HRk.out (by rw [HRk.out.len]; exact hlt))
    go_wp2_with fail
    refine Hcall.out.mono ?_
    rintro e w2 ⟨v', rfl, hM⟩
    obtain ⟨oo, oc, hof, _⟩ := hM.row.form
    have hdl : (ints (if dead = true then [] else trueTo (bss.getD k []) (bss.getD k []).length)).length = (rDom bss dead k).length := by simp [ints, rDom]
    rw [hdl] at hof
    subst hof
    have Hl1 : Hid (leftR bss dead (k + 1) = leftR bss dead k + (rDom bss dead k).length) := rfl
    have Hf1 : Hid (fixR bss dead (k + 1) = fixR bss dead k + if (rDom bss dead k).length = 1 then 1 else 0) := rfl
    have hd6 : (rDom bss dead k).length ≤ 6 := rDom_le HRk.out.b6 k (by rw [HRk.out.len]; exact hlt)
    obtain ⟨pn, hpn⟩ : ∃ pn, (rDom bss dead k).length = pn := ⟨_, rfl⟩
    obtain ⟨lf, hlf⟩ : ∃ lf, leftR bss dead k = lf := ⟨_, rfl⟩
    obtain ⟨fx, hfx⟩ : ∃ fx, fixR bss dead k = fx := ⟨_, rfl⟩
    have hb1 := HBk.out.nw hM.nw
    rw [hlf, hfx] at hb1
    rw [hpn] at Hl1 Hf1 hd6 ⊢
    rw [hlf] at Hl1 hlb
    rw [hfx] at Hf1 hlb
    have hc4 : w2.cell? ⟨L, 4, none⟩ = some (.int .i64 (lf : Int)) := hb1.cell 4
    have hc5 : w2.cell? ⟨L, 5, none⟩ = some (.int .i64 (fx : Int)) := hb1.cell 5
    have hfz := hb1.free
    have hLl := hb1.lt
    have HB1 := hd hb1
    have HF1 := hd (HFk.out.trans hM.nw (fun _ x => x.elim))
    clear hM hb1 hdl hpn hlf hfx Hcall HBk
    by_cases h1 : pn = 1
    ·subst h1
     go_wp2_with fail
     refine ⟨⟨k + 1, by omega, by simp, ?_, (HF1.out.setCell ⟨L, 4, none⟩ (.int .i64 ((lf : Int) + 1)) (.inl rfl)).setCell ⟨L, 5, none⟩ (.int .i64 ((fx : Int) + 1)) (.inl rfl)⟩, by simp [intOf]; omega⟩
     rw [Hl1.out, Hf1.out]
     exact (HB1.out.set 4 (.int .i64 ((lf : Int) + 1))).set 5 (.int .i64 ((fx : Int) + 1))
    ·have h1' : ((pn : Int) == 1) = false := by rw [beq_eq_false_iff_ne]; omega
     have Hf2 : Hid (fixR bss dead (k + 1) = fx) := hd (by rw [Hf1.out, if_neg h1]; rfl)
     go_wp2_with fail
     refine ⟨⟨k + 1, by omega, by simp, ?_, HF1.out.setCell ⟨L, 4, none⟩ (.int .i64 ((lf : Int) + (pn : Int))) (.inl rfl)⟩, by simp [intOf]; omega⟩
     rw [Hl1.out, Hf2.out]
     exact HB1.out.set 4 (.int .i64 ((lf : Int) + (pn : Int)))
   ·obtain rfl : zs.length = k := by omega
    have hdk : ¬ ((zs.length : Int) < (zs.length : Int)) := by omega
    obtain ⟨lf, hlf⟩ : ∃ lf, leftR bss dead zs.length = lf := ⟨_, rfl⟩
    obtain ⟨fx, hfx⟩ : ∃ fx, fixR bss dead zs.length = fx := ⟨_, rfl⟩
    have hb1 := HBk.out
    rw [hlf, hfx] at hb1
    have k0 : wr.cell? ⟨L, 0, none⟩ = some (.int .i64 (zs.length : Int)) := hb1.cell 0
    have k1 : wr.cell? ⟨L, 1, none⟩ = some (.int .i64 (tn : Int)) := hb1.cell 1
    have k2 : wr.cell? ⟨L, 2, none⟩ = some (.int .i64 (ln : Int)) := hb1.cell 2
    have k3 : wr.cell? ⟨L, 3, none⟩ = some (.bool dead) := hb1.cell 3
    have k4 : wr.cell? ⟨L, 4, none⟩ = some (.int .i64 (lf : Int)) := hb1.cell 4
    have k5 : wr.cell? ⟨L, 5, none⟩ = some (.int .i64 (fx : Int)) := hb1.cell 5
    have hLl := hb1.lt
    have hR := HbR.out.nw HNk.out
    have r0 : wr.cell? ⟨w.heap.size, 0, none⟩ = some (.int .i64 0) := hR.cell 0
    have r1 : wr.cell? ⟨w.heap.size, 1, none⟩ = some (.int .i64 0) := hR.cell 1
    have r2 : wr.cell? ⟨w.heap.size, 2, none⟩ = some (.int .i64 0) := hR.cell 2
    have r3 : wr.cell? ⟨w.heap.size, 3, none⟩ = some (.bool false) := hR.cell 3
    have r4 : wr.cell? ⟨w.heap.size, 4, none⟩ = some (.int .i64 0) := hR.cell 4
    have r5 : wr.cell? ⟨w.heap.size, 5, none⟩ = some (.int .i64 0) := hR.cell 5
    have hfR := hR.free
    have HR := hd hR
    have Hlf := hd hlf
    have Hfx := hd hfx
    clear hb1 hR hlf hfx
    go_wp2
    have hFW : Nw w wr := HfW.out.trans HNk.out (fun _ x => x.elim)
    have hB := ((((((HR.out.set 0 (.int .i64 (zs.length : Int))).set 1 (.int .i64 (tn : Int))).set 2 (.int .i64 (ln : Int))).set 3 (.bool dead)).set 4 (.int .i64 (lf : Int))).set 5 (.int .i64 (fx : Int)))
    have z0 := hB.cell 0
    have z1 := hB.cell 1
    have z2 := hB.cell 2
    have z3 := hB.cell 3
    have z4 := hB.cell 4
    have z5 := hB.cell 5
    refine bodyPost_ret (v := .agg #[.int .i64 (zs.length : Int), .int .i64 (tn : Int), .int .i64 (ln : Int), .bool dead, .int .i64 (leftR bss dead zs.length : Int), .int .i64 (fixR bss dead zs.length : Int)]) ?_ rfl ⟨rfl, (((((hFW.setCell _ _ (.inr (Nat.le_refl _))).setCell _ _ (.inr (Nat.le_refl _))).setCell _ _ (.inr (Nat.le_refl _))).setCell _ _ (.inr (Nat.le_refl _))).setCell _ _ (.inr (Nat.le_refl _))).setCell _ _ (.inr (Nat.le_refl _))⟩
    simp only [Hlf.out, Hfx.out]
    simp [results, Tryz.results60, go_sem, z0, z1, z2, z3, z4, z5]
end Go.Proofs.YtkjfpdfkcfgfkaaGreat

namespace Go.Proofs.YtkjfpdfkcfgfkaaGreat
open Go.RowKit

theorem okTable_no {zs vars : List Int} {rows : List (List Int)} {way : Int} (h : ¬ (1 ≤ vars.length ∧ vars.length ≤ 4 ∧ rows.length ≤ 60 ∧ (way = 1 ∨ way = 2))) : okTable zs vars rows way = false := by
 cases hk : okTable zs vars rows way with
 | false => rfl
 | true =>
  exfalso
  simp only [okTable, okWay, okVars, Bool.and_eq_true, Bool.or_eq_true, beq_iff_eq, decide_eq_true_eq] at hk
  exact h ⟨hk.1.1.2.1.1, hk.1.1.2.1.2, hk.1.2, hk.1.1.1⟩
theorem okTable_of {zs vars : List Int} {rows : List (List Int)} {way : Int} (h : 1 ≤ vars.length ∧ vars.length ≤ 4 ∧ rows.length ≤ 60 ∧ (way = 1 ∨ way = 2)) : okTable zs vars rows way = ((List.range vars.length).all (okVar zs.length vars) && (List.range rows.length).all (okRowAt zs vars rows)) := by
 have h1 : okWay way = true := by simpa [okWay] using h.2.2.2
 unfold okTable okVars
 rw [h1, decide_eq_true h.1, decide_eq_true h.2.1, decide_eq_true h.2.2.1]
 simp
theorem all_stop {p : Nat → Bool} {n k : Nat} (hk : k < n) (hp : p k = false) : (List.range n).all p = false := by
 rw [List.all_eq_false]
 exact ⟨k, List.mem_range.2 hk, by rw [hp]; simp⟩
theorem all_upto {p : Nat → Bool} {n : Nat} (h : ∀ k, k < n → p k = true) : (List.range n).all p = true := List.all_eq_true.2 fun k hk => h k (List.mem_range.1 hk)

set_option maxHeartbeats 3200000 in
set_option maxRecDepth 1000000 in
theorem refTable_any (lo Y : Nat) (zs : List Int) (szv inv : Value) (vs : List Value) (bss : List (List Bool)) (dead : Bool) (tv lv : Value) (vo ro : Option Addr) (vcap rcap : Nat) (vars : List Int) (rows : List (List Int)) (nt : Bool) (way : Int) (w : World)
  (hl : vars.length * 8 ≤ 140737488355328) (hrl : rows.length * 24 ≤ 140737488355328) (hR : RIn w lo Y zs szv inv vs bss dead tv lv) (hvs : IntsAt w vo vars) (hrs : RowsAt w ro rows) :
  Calls Tryz.prog 93 #[.pointer (some ⟨Y, 0, none⟩), .agg #[.slice vo vars.length vcap, .slice ro rows.length rcap, .bool nt, .int .i64 way]] w fun e w' => e = .returned (.bool (okTable zs vars rows way)) ∧ Nw w w' := by
 obtain ⟨szo, szc, hszf, _⟩ := hR.sz.form
 rw [List.length_map] at hszf
 obtain ⟨hz1, hz8⟩ := okSizes_len hR.zok
 have Hzg := hd (fun i hi => okSizes_get hR.zok i hi)
 obtain ⟨B, hB⟩ : ∃ B, B = w.heap.size := ⟨_, rfl⟩
 obtain ⟨V, hV⟩ : ∃ V, V = w.alloc (.cells #[.slice vo vars.length vcap, .slice ro rows.length rcap, .bool nt, .int .i64 way] 41) := ⟨_, rfl⟩
 have hfV : Nw w V := by rw [hV]; exact (Fr.refl _ w).alloc _
 have hbB : Blk V B #[.slice vo vars.length vcap, .slice ro rows.length rcap, .bool nt, .int .i64 way] 41 := by rw [hV, hB]; exact Blk.new _ _ _
 have hRV := hR.nw hfV
 have hszI : IntsAt V szo zs := by
  have h := hRV.sz
  rw [hszf] at h
  exact h.ints'
 have cS : V.cell? ⟨Y, 0, none⟩ = some (.slice szo zs.length szc) := by
  have := hRV.blk.cell 0
  rw [hszf] at this
  exact this
 have hYl := hRV.blk.lt
 have c0 : V.cell? ⟨B, 0, none⟩ = some (.slice vo vars.length vcap) := hbB.cell 0
 have c1 : V.cell? ⟨B, 1, none⟩ = some (.slice ro rows.length rcap) := hbB.cell 1
 have c3 : V.cell? ⟨B, 3, none⟩ = some (.int .i64 way) := hbB.cell 3
 have hBl := hbB.lt
 have Hvs := hd (hvs.nw hfV)
 have Hrs := hd (hrs.nw hfV)
 have HszI := hd hszI
 have HfV := hd hfV
 have HbB := hd hbB
 clear hR hRV hvs hrs hszI hfV hbB hszf
 by_cases hh : 1 ≤ vars.length ∧ vars.length ≤ 4 ∧ rows.length ≤ 60 ∧ (way = 1 ∨ way = 2)
 ·rw [okTable_of hh]
  obtain ⟨h1, h4, h60, hway⟩ := hh
  have hd1 : ¬ ((vars.length : Int) < 1) := by omega
  have hd4 : ¬ ((4 : Int) < (vars.length : Int)) := by omega
  have hd60 : ¬ ((60 : Int) < (rows.length : Int)) := by omega
  obtain ⟨res, hres⟩ : ∃ res, ((List.range vars.length).all (okVar zs.length vars) && (List.range rows.length).all (okRowAt zs vars rows)) = res := ⟨_, rfl⟩
  rw [hres]
  have Hres := hd hres
  clear hres
  go_enter Tryz.func93, Tryz.ntmps93
  go_upto_region 1 with fail
  rw [← hV, ← hB]
  clear hV hB
  go_cut [34] (fun b wx => b = .bool false ∧ wx = V)
  case first =>
   rcases hway with rfl | rfl
   ·go_wp2_with fail
    go_meet
    exact ⟨rfl, rfl⟩
   ·go_wp2_with fail
    go_meet
    exact ⟨rfl, rfl⟩
  case rest =>
   obtain ⟨rfl, hwx⟩ := hcut
   rw [hwx]
   clear hwx
   go_wp2_with fail
   go_loopw [5, 6] (fun i _ wr => ∃ k : Nat, k ≤ vars.length ∧ i = .int .i64 (k : Int) ∧ Hid (∀ q, q < k → okVar zs.length vars q = true) ∧ Hid (Nw V wr)) (fun i _ _ => vars.length - (intOf i).toNat)
   case atStart => exact ⟨0, by omega, rfl, fun q hq => absurd hq (Nat.not_lt_zero _), Fr.refl _ _⟩
   case round =>
    obtain ⟨k, hk, rfl, Hok, HN⟩ := hrel
    have d0 : wr.cell? ⟨B, 0, none⟩ = some (.slice vo vars.length vcap) := (HN.out.cell hBl (fun x => x)).trans c0
    have d1 : wr.cell? ⟨B, 1, none⟩ = some (.slice ro rows.length rcap) := (HN.out.cell hBl (fun x => x)).trans c1
    have dS : wr.cell? ⟨Y, 0, none⟩ = some (.slice szo zs.length szc) := (HN.out.cell hYl (fun x => x)).trans cS
    have hBl1 : B < wr.heap.size := Nat.lt_of_lt_of_le hBl HN.out.size
    have hYl1 : Y < wr.heap.size := Nat.lt_of_lt_of_le hYl HN.out.size
    by_cases hlt : k < vars.length
    ·have hdk : (k : Int) < (vars.length : Int) := by omega
     obtain ⟨vb, vof, hve, hvl, hvc⟩ := (Hvs.out.nw HN.out) k hlt
     have hokd : okVar zs.length vars k = (decide (0 ≤ vars.getD k 0) && decide (vars.getD k 0 < (zs.length : Int)) && !(vars.take k).contains (vars.getD k 0)) := rfl
     obtain ⟨c, hc⟩ : ∃ c, vars.getD k 0 = c := ⟨_, rfl⟩
     rw [hc] at hvc hokd
     have Hokd := hd hokd
     have Hc := hd hc
     have Hstop : Hid (okVar zs.length vars k = false → res = false) := fun h => by rw [← Hres.out, all_stop hlt h]; rfl
     subst hve
     clear hokd hc
     by_cases hc0 : c < 0
     ·have Hf : Hid (res = false) := hd (Hstop.out (by rw [Hokd.out, decide_eq_false (by omega)]; rfl))
      go_wp2_with fail
      go_quiet (fail)
      go_wp2_with fail
      go_ret
      exact ⟨by rw [Hf.out]; rfl, (HfV.out.trans HN.out (fun _ x => x.elim)).drewN _⟩
     ·by_cases hcz : (zs.length : Int) ≤ c
      ·have Hf : Hid (res = false) := hd (Hstop.out (by rw [Hokd.out, decide_eq_false (show ¬ (c < (zs.length : Int)) by omega), Bool.and_false]; rfl))
       go_wp2_with fail
       go_quiet (fail)
       go_wp2_with fail
       go_ret
       exact ⟨by rw [Hf.out]; rfl, (HfV.out.trans HN.out (fun _ x => x.elim)).drewN _⟩
      ·go_wp2_with fail
       go_quiet (fail)
       go_wp2_with fail
       have HNd := hd (HN.out.drewN nq)
       obtain ⟨wd, hwd⟩ : ∃ wd, wr.drewN nq = wd := ⟨_, rfl⟩
       rw [hwd] at HNd ⊢
       clear hwd HN d0 d1 dS hBl1 hYl1 hvl hvc
       go_loopw [6] (fun j w1 => ∃ q : Nat, q ≤ k ∧ j = .int .i64 (q : Int) ∧ Hid (∀ p, p < q → vars.getD p 0 ≠ c) ∧ Hid (Nw V w1)) (fun j _ => k - (intOf j).toNat)
       case atStart => exact ⟨0, by omega, rfl, fun p hp => absurd hp (Nat.not_lt_zero _), HNd⟩
       case round =>
        rename World => w1
        obtain ⟨q, hq, rfl, Hne, HN1⟩ := hrel
        have d0 : w1.cell? ⟨B, 0, none⟩ = some (.slice (some ⟨vb, vof, none⟩) vars.length vcap) := (HN1.out.cell hBl (fun x => x)).trans c0
        have hBl1 : B < w1.heap.size := Nat.lt_of_lt_of_le hBl HN1.out.size
        by_cases hqk : q < k
        ·have hdq : (q : Int) < (k : Int) := by omega
         have hqI : (q : Int) < (vars.length : Int) := by omega
         obtain ⟨b2, o2, he2, hl2, hc2⟩ := (Hvs.out.nw HN1.out) q (by omega)
         simp only [Option.some.injEq, Addr.mk.injEq, and_true] at he2
         obtain ⟨rfl, rfl⟩ := he2
         obtain ⟨b3, o3, he3, hl3, hc3⟩ := (Hvs.out.nw HN1.out) k hlt
         simp only [Option.some.injEq, Addr.mk.injEq, and_true] at he3
         obtain ⟨rfl, rfl⟩ := he3
         rw [Hc.out] at hc3
         obtain ⟨x, hx⟩ : ∃ x, vars.getD q 0 = x := ⟨_, rfl⟩
         rw [hx] at hc2
         have Hx := hd hx
         clear hx
         by_cases hxc : x = c
         ·subst hxc
          have Hf : Hid (res = false) := hd (Hstop.out (by
           have hm : (vars.take k).contains x = true := by
            rw [List.contains_iff_mem]
            refine List.mem_iff_getElem.2 ⟨q, by simp; omega, ?_⟩
            rw [List.getElem_take]
            have := Hx.out
            simpa [List.getD, show q < vars.length by omega] using this
           rw [Hokd.out, hm, Bool.not_true, Bool.and_false]))
          go_wp2_with fail
          go_quiet (fail)
          go_wp2_with fail
          go_ret
          exact ⟨by rw [Hf.out]; rfl, (HfV.out.trans HN1.out (fun _ x => x.elim)).drewN _⟩
         ·have hxb : (x == c) = false := by rw [beq_eq_false_iff_ne]; exact hxc
          go_wp2_with fail
          go_quiet (fail)
          go_wp2_with fail
          refine ⟨⟨q + 1, by omega, by simp, fun p hp => ?_, HN1.out.drewN _⟩, by simp [intOf]; omega⟩
          by_cases e : p = q
          ·rw [e, Hx.out]
           exact hxc
          ·exact Hne.out p (by omega)
        ·obtain rfl : k = q := by omega
         have hdq : ¬ ((k : Int) < (k : Int)) := by omega
         go_wp2_with fail
         refine ⟨⟨k + 1, by omega, by simp, fun p hp => ?_, HN1⟩, by simp [intOf]; omega⟩
         by_cases e : p = k
         ·subst e
          have hm : (vars.take p).contains c = false := by
           cases h : (vars.take p).contains c with
           | false => rfl
           | true =>
            exfalso
            rw [List.contains_iff_mem] at h
            obtain ⟨i, hi, he⟩ := List.mem_iff_getElem.1 h
            rw [List.getElem_take] at he
            have hi' : i < p := by simp at hi; omega
            exact Hne.out i hi' (by simpa [List.getD, show i < vars.length by omega] using he)
          rw [Hokd.out, hm, decide_eq_true (show 0 ≤ c by omega), decide_eq_true (show c < (zs.length : Int) by omega)]
          rfl
         ·exact Hok.out p (by omega)
    ·obtain rfl : vars.length = k := by omega
     have hdk : ¬ ((vars.length : Int) < (vars.length : Int)) := by omega
     have Hvr : Hid (∀ i, i < vars.length → 0 ≤ vars.getD i 0 ∧ vars.getD i 0 < (zs.length : Int)) := fun i hi => by
      have := Hok.out i hi
      simp only [okVar, Bool.and_eq_true, decide_eq_true_eq] at this
      exact ⟨this.1.1, this.1.2⟩
     have Hall1 : Hid ((List.range vars.length).all (okVar zs.length vars) = true) := hd (all_upto Hok.out)
     clear Hok
     go_wp2_with fail
     clear d0 d1 dS hBl1 hYl1
     go_loopw [7, 8] (fun r _ w2 => ∃ k : Nat, k ≤ rows.length ∧ r = .int .i64 (k : Int) ∧ Hid (∀ q, q < k → okRowAt zs vars rows q = true) ∧ Hid (Nw V w2)) (fun r _ _ => rows.length - (intOf r).toNat)
     case atStart => exact ⟨0, by omega, rfl, fun q hq => absurd hq (Nat.not_lt_zero _), HN⟩
     case round =>
      rename World => w2
      clear HN
      obtain ⟨k, hk, rfl, Hok, HN⟩ := hrel
      have d0 : w2.cell? ⟨B, 0, none⟩ = some (.slice vo vars.length vcap) := (HN.out.cell hBl (fun x => x)).trans c0
      have d1 : w2.cell? ⟨B, 1, none⟩ = some (.slice ro rows.length rcap) := (HN.out.cell hBl (fun x => x)).trans c1
      have hBl1 : B < w2.heap.size := Nat.lt_of_lt_of_le hBl HN.out.size
      by_cases hlt : k < rows.length
      ·have hdk : (k : Int) < (rows.length : Int) := by omega
       obtain ⟨rb, rof, qo, qc, hre, hrbl, hrc, hRow⟩ := (Hrs.out.nw HN.out) k hlt
       have Hstop : Hid (okRowAt zs vars rows k = false → res = false) := fun h => by rw [← Hres.out, all_stop hlt h, Bool.and_false]
       have Hrd : Hid (okRowAt zs vars rows k = okRow zs vars (rows.getD k [])) := rfl
       obtain ⟨row, hrow⟩ : ∃ row, rows.getD k [] = row := ⟨_, rfl⟩
       rw [hrow] at hrc hRow Hrd
       subst hre
       clear hrow
       by_cases hll : row.length = vars.length
       ·have hlb : ((row.length : Int) == (vars.length : Int)) = true := by rw [hll]; simp
        rw [hll] at hrc
        have Hll := hd hll
        have HRow := hd hRow
        clear hll hlb hRow
        go_wp2_with fail
        go_quiet (fail)
        go_wp2_with fail
        have HNd := hd (HN.out.drewN nq)
        obtain ⟨wd, hwd⟩ : ∃ wd, w2.drewN nq = wd := ⟨_, rfl⟩
        have HRd := hd (HRow.out.nw ((Fr.refl (fun _ => False) w2).drewN nq))
        have hrc' : (w2.drewN nq).cell? ⟨rb, rof + k, none⟩ = some (.slice qo vars.length qc) := hrc
        have hrbl' : rb < (w2.drewN nq).heap.size := hrbl
        rw [hwd] at HNd HRd hrc' hrbl' ⊢
        clear hwd HN d0 d1 hBl1 hrbl hrc HRow
        go_loopw [8] (fun j w3 => ∃ q : Nat, q ≤ vars.length ∧ j = .int .i64 (q : Int) ∧ Hid (∀ p, p < q → okEntry zs vars row p = true) ∧ Hid (Nw wd w3)) (fun j _ => vars.length - (intOf j).toNat)
        case atStart => exact ⟨0, by omega, rfl, fun p hp => absurd hp (Nat.not_lt_zero _), Fr.refl _ _⟩
        case round =>
         rename World => w3
         obtain ⟨q, hq, rfl, Hen, HN3⟩ := hrel
         have HNV := hd (HNd.out.trans HN3.out (fun _ x => x.elim))
         have d0 : w3.cell? ⟨B, 0, none⟩ = some (.slice vo vars.length vcap) := (HNV.out.cell hBl (fun x => x)).trans c0
         have d1 : w3.cell? ⟨B, 1, none⟩ = some (.slice (some ⟨rb, rof, none⟩) rows.length rcap) := (HNV.out.cell hBl (fun x => x)).trans c1
         have dS : w3.cell? ⟨Y, 0, none⟩ = some (.slice szo zs.length szc) := (HNV.out.cell hYl (fun x => x)).trans cS
         have hBl3 : B < w3.heap.size := Nat.lt_of_lt_of_le hBl HNV.out.size
         have hYl3 : Y < w3.heap.size := Nat.lt_of_lt_of_le hYl HNV.out.size
         by_cases hql : q < vars.length
         ·have hdq : (q : Int) < (vars.length : Int) := by omega
          have drc : w3.cell? ⟨rb, rof + k, none⟩ = some (.slice qo vars.length qc) := (HN3.out.cell hrbl' (fun x => x)).trans hrc'
          have hrbl3 : rb < w3.heap.size := Nat.lt_of_lt_of_le hrbl' HN3.out.size
          obtain ⟨vb, vof, hve, hvl, hvc⟩ := (Hvs.out.nw HNV.out) q hql
          obtain ⟨hv0, hv1⟩ := Hvr.out q hql
          obtain ⟨u, hu⟩ : ∃ u : Nat, vars.getD q 0 = (u : Int) := ⟨(vars.getD q 0).toNat, by omega⟩
          rw [hu] at hvc hv1
          obtain ⟨sb, sof, hse, hsl, hsc⟩ := (HszI.out.nw HNV.out) u (by omega)
          obtain ⟨qb, qof, hqe, hqbl, hqc⟩ := (HRd.out.nw HN3.out) q (by rw [Hll.out]; exact hql)
          have hsz := Hzg.out u (by omega)
          have Hed : Hid (okEntry zs vars row q = (row.getD q 0 == -1 || (decide (0 ≤ row.getD q 0) && decide (row.getD q 0 < zs.getD u 0)))) := hd (by
           unfold okEntry sizeAt
           rw [hu, Int.toNat_natCast])
          obtain ⟨z, hz⟩ : ∃ z, zs.getD u 0 = z := ⟨_, rfl⟩
          obtain ⟨y, hy⟩ : ∃ y, row.getD q 0 = y := ⟨_, rfl⟩
          rw [hz] at hsc hsz Hed
          rw [hy] at hqc Hed
          have Hrow0 : Hid (okEntry zs vars row q = false → res = false) := fun h => Hstop.out (by
           rw [Hrd.out]
           unfold okRow
           rw [all_stop (by rw [Hll.out]; exact hql) h, Bool.and_false])
          subst hve
          subst hse
          subst hqe
          clear hu hz hy
          by_cases hy1 : y < -1
          ·have Hf : Hid (res = false) := hd (Hrow0.out (by
            rw [Hed.out, decide_eq_false (show ¬ (0 ≤ y) by omega), Bool.false_and, Bool.or_false, beq_eq_false_iff_ne]
            omega))
           go_wp2_with fail
           go_quiet (fail)
           go_wp2_with fail
           go_ret
           exact ⟨by rw [Hf.out]; rfl, (HfV.out.trans HNV.out (fun _ x => x.elim)).drewN _⟩
          ·by_cases hyz : z ≤ y
           ·have Hf : Hid (res = false) := hd (Hrow0.out (by
             rw [Hed.out, decide_eq_false (show ¬ (y < z) by omega), Bool.and_false, Bool.or_false, beq_eq_false_iff_ne]
             omega))
            go_wp2_with fail
            go_quiet (fail)
            go_wp2_with fail
            go_ret
            exact ⟨by rw [Hf.out]; rfl, (HfV.out.trans HNV.out (fun _ x => x.elim)).drewN _⟩
           ·have Hgood : Hid (okEntry zs vars row q = true) := hd (by
             rw [Hed.out]
             by_cases e : y = -1
             ·simp [e]
             ·rw [decide_eq_true (show 0 ≤ y by omega), decide_eq_true (show y < z by omega)]
              simp)
            go_wp2_with fail
            go_quiet (fail)
            go_wp2_with fail
            refine ⟨⟨q + 1, by omega, by simp, fun p hp => ?_, HN3.out.drewN _⟩, by simp [intOf]; omega⟩
            by_cases e : p = q
            ·rw [e]
             exact Hgood.out
            ·exact Hen.out p (by omega)
         ·obtain rfl : vars.length = q := by omega
          have hdq : ¬ ((vars.length : Int) < (vars.length : Int)) := by omega
          go_wp2_with fail
          refine ⟨⟨k + 1, by omega, by simp, fun p hp => ?_, HNV⟩, by simp [intOf]; omega⟩
          by_cases e : p = k
          ·rw [e, Hrd.out]
           unfold okRow
           rw [decide_eq_true Hll.out, all_upto (fun p hp => Hen.out p (by rw [← Hll.out]; exact hp))]
           rfl
          ·exact Hok.out p (by omega)
       ·have hlb : ((row.length : Int) == (vars.length : Int)) = false := by rw [beq_eq_false_iff_ne]; omega
        have hln : ((row.length : Int) != (vars.length : Int)) = true := by rw [bne, hlb]; rfl
        have Hf : Hid (res = false) := hd (Hstop.out (by
         rw [Hrd.out]
         unfold okRow
         rw [decide_eq_false hll]
         rfl))
        clear hRow
        go_wp2_with fail
        go_quiet (fail)
        go_wp2_with fail
        go_ret
        exact ⟨by rw [Hf.out]; rfl, (HfV.out.trans HN.out (fun _ x => x.elim)).drewN _⟩
      ·obtain rfl : rows.length = k := by omega
       have hdk : ¬ ((rows.length : Int) < (rows.length : Int)) := by omega
       have Hf : Hid (res = true) := hd (by rw [← Hres.out, Hall1.out, all_upto Hok.out]; rfl)
       go_wp2_with fail
       go_ret
       exact ⟨by rw [Hf.out]; rfl, HfV.out.trans HN.out (fun _ x => x.elim)⟩
 ·rw [okTable_no hh]
  go_enter Tryz.func93, Tryz.ntmps93
  go_upto_region 1 with fail
  rw [← hV, ← hB]
  clear hV hB
  by_cases h1 : vars.length < 1
  ·have hd1 : (vars.length : Int) < 1 := by omega
   go_wp2_with fail
   go_ret
   exact ⟨rfl, HfV.out⟩
  ·have hd1 : ¬ ((vars.length : Int) < 1) := by omega
   by_cases h4 : 4 < vars.length
   ·have hd4 : (4 : Int) < (vars.length : Int) := by omega
    go_wp2_with fail
    go_ret
    exact ⟨rfl, HfV.out⟩
   ·have hd4 : ¬ ((4 : Int) < (vars.length : Int)) := by omega
    by_cases h60 : 60 < rows.length
    ·have hd60 : (60 : Int) < (rows.length : Int) := by omega
     go_wp2_with fail
     go_ret
     exact ⟨rfl, HfV.out⟩
    ·have hd60 : ¬ ((60 : Int) < (rows.length : Int)) := by omega
     have hw1 : (way == 1) = false := by rw [beq_eq_false_iff_ne]; omega
     have hw2 : (way == 2) = false := by rw [beq_eq_false_iff_ne]; omega
     have hn1 : (way != 1) = true := by rw [bne, hw1]; rfl
     have hn2 : (way != 2) = true := by rw [bne, hw2]; rfl
     go_wp2_with fail
     go_ret
     exact ⟨rfl, HfV.out⟩
end Go.Proofs.YtkjfpdfkcfgfkaaGreat

namespace Go.Proofs.YtkjfpdfkcfgfkaaGreat
open Go.RowKit

def postR (zs vars : List Int) (rows : List (List Int)) (way : Int) (tn ln : Nat) (dead : Bool) : Int := if okTable zs vars rows way = false then 1 else if 12 ≤ tn then 2 else if 0 < ln then 4 else if dead = true then 3 else 0

set_option maxHeartbeats 1600000 in
set_option maxRecDepth 1000000 in
theorem refPost_no (lo Y : Nat) (zs : List Int) (szv inv : Value) (vs : List Value) (bss : List (List Bool)) (dead : Bool) (tto llo : Option Addr) (tn tcap ln lcap : Nat) (vo ro : Option Addr) (vcap rcap : Nat) (vars : List Int) (rows : List (List Int)) (nt : Bool) (way : Int) (w : World)
  (hl : vars.length * 8 ≤ 140737488355328) (hrl : rows.length * 24 ≤ 140737488355328) (hR : RIn w lo Y zs szv inv vs bss dead (.slice tto tn tcap) (.slice llo ln lcap)) (hvs : IntsAt w vo vars) (hrs : RowsAt w ro rows) (hno : postR zs vars rows way tn ln dead ≠ 0) :
  Calls Tryz.prog 79 #[.pointer (some ⟨Y, 0, none⟩), .agg #[.slice vo vars.length vcap, .slice ro rows.length rcap, .bool nt, .int .i64 way]] w fun e w' => e = .returned (.int .i64 (postR zs vars rows way tn ln dead)) ∧ Nw w w' := by
 obtain ⟨B, hB⟩ : ∃ B, B = w.heap.size := ⟨_, rfl⟩
 obtain ⟨V, hV⟩ : ∃ V, V = w.alloc (.cells #[.slice vo vars.length vcap, .slice ro rows.length rcap, .bool nt, .int .i64 way] 41) := ⟨_, rfl⟩
 have hfV : Nw w V := by rw [hV]; exact (Fr.refl _ w).alloc _
 have hbB : Blk V B #[.slice vo vars.length vcap, .slice ro rows.length rcap, .bool nt, .int .i64 way] 41 := by rw [hV, hB]; exact Blk.new _ _ _
 have Hcall := hd (refTable_any lo Y zs szv inv vs bss dead (.slice tto tn tcap) (.slice llo ln lcap) vo ro vcap rcap vars rows nt way V hl hrl (hR.nw hfV) (hvs.nw hfV) (hrs.nw hfV))
 have c0 : V.cell? ⟨B, 0, none⟩ = some (.slice vo vars.length vcap) := hbB.cell 0
 have c1 : V.cell? ⟨B, 1, none⟩ = some (.slice ro rows.length rcap) := hbB.cell 1
 have c2 : V.cell? ⟨B, 2, none⟩ = some (.bool nt) := hbB.cell 2
 have c3 : V.cell? ⟨B, 3, none⟩ = some (.int .i64 way) := hbB.cell 3
 have hBl := hbB.lt
 have HR := hd (hR.nw hfV)
 have HfV := hd hfV
 unfold postR at hno ⊢
 obtain ⟨ok, hok⟩ : ∃ ok, okTable zs vars rows way = ok := ⟨_, rfl⟩
 rw [hok] at Hcall hno ⊢
 clear hbB hfV hR hvs hrs hok
 obtain ⟨res, hres⟩ : ∃ res, (if ok = false then (1 : Int) else if 12 ≤ tn then 2 else if 0 < ln then 4 else if dead = true then 3 else 0) = res := ⟨_, rfl⟩
 rw [hres] at hno ⊢
 have Hres := hd hres
 clear hres
 go_enter Tryz.func79, Tryz.ntmps79
 go_upto_region 1 with fail
 rw [← hV, ← hB]
 clear hV hB
 go_wp2_with fail
 refine Hcall.out.mono ?_
 rintro e w1 ⟨rfl, hf1⟩
 have HR1 := hd (HR.out.nw hf1)
 have Hf1 := hd (HfV.out.trans hf1 (fun _ x => x.elim))
 have d2 : w1.cell? ⟨Y, 2, none⟩ = some (.bool dead) := HR1.out.blk.cell 2
 have d3 : w1.cell? ⟨Y, 3, none⟩ = some (.slice tto tn tcap) := HR1.out.blk.cell 3
 have d4 : w1.cell? ⟨Y, 4, none⟩ = some (.slice llo ln lcap) := HR1.out.blk.cell 4
 have hYl := HR1.out.blk.lt
 clear hf1 Hcall c0 c1 c2 c3
 cases ok with
 | false =>
  have Hr : Hid (res = 1) := hd Hres.out.symm
  go_wp2_with fail
  go_ret
  exact ⟨by rw [Hr.out]; rfl, Hf1.out⟩
 | true =>
  by_cases h12 : 12 ≤ tn
  ·have hd12 : (12 : Int) ≤ (tn : Int) := by omega
   have Hr : Hid (res = 2) := hd (by rw [← Hres.out, if_neg (by simp), if_pos h12])
   go_wp2_with fail
   go_ret
   exact ⟨by rw [Hr.out]; rfl, Hf1.out⟩
  ·have hd12 : ¬ ((12 : Int) ≤ (tn : Int)) := by omega
   by_cases h0 : 0 < ln
   ·have hd0 : (0 : Int) < (ln : Int) := by omega
    have Hr : Hid (res = 4) := hd (by rw [← Hres.out, if_neg (by simp), if_neg h12, if_pos h0])
    go_wp2_with fail
    go_ret
    exact ⟨by rw [Hr.out]; rfl, Hf1.out⟩
   ·have hd0 : ¬ ((0 : Int) < (ln : Int)) := by omega
    cases dead with
    | true =>
     have Hr : Hid (res = 3) := hd (by rw [← Hres.out, if_neg (by simp), if_neg h12, if_neg h0, if_pos rfl])
     go_wp2_with fail
     go_ret
     exact ⟨by rw [Hr.out]; rfl, Hf1.out⟩
    | false =>
     exfalso
     apply hno
     rw [← Hres.out, if_neg (by simp), if_neg h12, if_neg h0, if_neg (by simp)]
end Go.Proofs.YtkjfpdfkcfgfkaaGreat

namespace Go.Proofs.YtkjfpdfkcfgfkaaGreat
open Go.RowKit

theorem Closure.more {n : Nat} {bs bs' : List Tb} {st d d' : List Nat} (h : Closure n bs st d) (hf : Full n d) (hs : ∀ b ∈ bs, b ∈ bs') (k : Closure n bs' d d') : Closure n bs' st d' := by
 obtain ⟨a1, _, a3⟩ := h.full hf
 refine ⟨fun hf' => ?_, fun hn => ?_⟩
 ·obtain ⟨b1, b2, b3⟩ := k.full hf'
  exact ⟨b1.trans a1, b2, fun e he hb => b3 e (a3 e he (fun b hb' => hb b (hs b hb'))) hb⟩
 ·obtain ⟨b1, b2⟩ := k.none hn
  exact ⟨b1, fun e he hb => b2 e (a3 e he (fun b hb' => hb b (hs b hb'))) hb⟩
theorem zero8_not {n : Nat} (hn : 0 < n) : ¬ Full n zero8 := fun h => h 0 hn (zero8_get 0)
theorem Closure.dead {n : Nat} {bs bs' : List Tb} {st st' : List Nat} (hn : 0 < n) (h : Closure n bs st zero8) (hs : ∀ b ∈ bs, b ∈ bs') (hst : SubD st' st) : Closure n bs' st' zero8 :=
 ⟨fun hf => absurd hf (zero8_not hn), fun hd => ⟨rfl, fun e he hb => (h.none hd).2 e (he.trans hst) (fun b hb' => hb b (hs b hb'))⟩⟩
structure Posted (w0 w : World) (X : Nat) (zs : List Int) (s : WS) (bs : List Tb) (st : List Nat) : Prop where
 at_ : WAt w X zs s
 since : Since w0 X s
 nw : Nw w0 w
 busy : s.l.busy = false
 sk : s.sk = []
 clo : Closure zs.length bs st s.d
 all : Full zs.length s.d → s.bs = bs
 few : s.ts.length ≤ bs.length
 sdm : Dm st
theorem Posted.pos {w0 w : World} {X : Nat} {zs : List Int} {s : WS} {bs : List Tb} {st : List Nat} (h : Posted w0 w X zs s bs st) : 0 < zs.length := (okSizes_len h.at_.mem.zok).1
theorem WAt.dead_iff {w : World} {X : Nat} {zs : List Int} {s : WS} (h : WAt w X zs s) : s.d.getD 0 0 = 0 ↔ ¬ Full zs.length s.d := by
 obtain ⟨h0, _⟩ := okSizes_len h.mem.zok
 constructor
 ·intro he hf
  exact hf 0 h0 he
 ·intro hn
  rcases h.good.alive with e | e
  ·rw [e, zero8_get]
  ·exact absurd e hn
theorem WAt.dead_zero {w : World} {X : Nat} {zs : List Int} {s : WS} (h : WAt w X zs s) (h0 : s.d.getD 0 0 = 0) : s.d = zero8 := by
 rcases h.good.alive with e | e
 ·exact e
 ·exact absurd e (h.dead_iff.1 h0)
theorem Posted.step {w0 w w' : World} {X : Nat} {zs : List Int} {s : WS} {bs : List Tb} {st : List Nat} (h : Posted w0 w X zs s bs st) (f : Nw w w') : Posted w0 w' X zs s bs st :=
 ⟨h.at_.nw f, h.since, h.nw.trans f (fun _ x => x.elim), h.busy, h.sk, h.clo, h.all, h.few, h.sdm⟩
theorem post_ps {w0 w : World} {X : Nat} {zs : List Int} {s : WS} {bs : List Tb} {st : List Nat} {vo ro : Option Addr} {vcap rcap : Nat} {vars : List Int} {rows : List (List Int)} {nt : Bool} {way : Int} (h : Posted w0 w X zs s bs st) (hb : bs.length < 12)
  (hok : okTable zs vars rows way = true) (hvcap : vars.length ≤ vcap) (hvs : IntsAt w vo vars) (hrs : RowsAt w ro rows) :
  Calls Tryz.prog 11 #[.pointer (some ⟨X, 0, none⟩), .agg #[.slice vo vars.length vcap, .slice ro rows.length rcap, .bool nt, .int .i64 way]] w fun e w' => e = .returned (.int .i64 (if s.d.getD 0 0 = 0 then 3 else 0)) ∧ ∃ s', Posted w0 w' X zs s' (bs ++ [⟨vars, rows, nt⟩]) st := by
 obtain ⟨hway, hv1, hr60, hVO, hvn, hrl⟩ := okTable_parts hok (okSizes_len h.at_.mem.zok).2
 have hfew := h.few
 have hp : postOf zs s vars rows way = if s.d.getD 0 0 = 0 then 3 else 0 := by
  unfold postOf
  rw [if_neg (by rw [hok]; simp), if_neg (by omega), if_neg (by rw [h.sk]; simp)]
 by_cases h0 : s.d.getD 0 0 = 0
 ·rw [if_pos h0] at hp ⊢
  refine (post_no X vo ro vcap rcap zs s vars rows nt way w h.at_ h.busy (by have := hVO.four; omega) (by omega) hvcap hvs hrs (by rw [hp]; decide)).mono ?_
  rintro e w' ⟨rfl, hf⟩
  rw [hp]
  have hz := h.at_.dead_zero h0
  refine ⟨rfl, s, h.at_.nw hf, h.since, h.nw.trans hf (fun _ x => x.elim), h.busy, h.sk, ?_, fun hF => absurd hF (h.at_.dead_iff.1 h0), by rw [List.length_append]; omega, h.sdm⟩
  have hc := h.clo
  rw [hz] at hc ⊢
  exact hc.dead h.pos (fun b hb => List.mem_append_left _ hb) (SubD.refl _)
 ·rw [if_neg h0] at hp ⊢
  have hF : Full zs.length s.d := h.at_.good.full h0
  refine (post_yes X vo ro vcap rcap zs s vars rows nt way w h.at_ h.busy hvcap hvs hrs hp).mono ?_
  rintro e w' ⟨rfl, so, tcap, x, d', bv, ts, us, h1, h2, h3, h4⟩
  obtain ⟨hsi, hnw⟩ := h4.since h.since h.nw
  have hbs : s.bs = bs := h.all hF
  refine ⟨rfl, _, h3, hsi, hnw, h.busy, h.sk, ?_, fun _ => by show s.bs ++ [_] = _; rw [hbs], ?_, h.sdm⟩
  ·rw [hbs] at h1
   exact h.clo.more hF (fun b hb => List.mem_append_left _ hb) h1
  ·have e1 := h3.mem.fits.1
   rw [e1]
   show (s.bs ++ [_]).length ≤ _
   rw [hbs]
   exact Nat.le_refl _
theorem set_get (d : List Nat) (v x q : Nat) (hv : v < d.length) : (d.set v x).getD q 0 = if v = q then x else d.getD q 0 := by
 by_cases e : v = q
 ·subst e
  simp [List.getD, hv]
 ·simp [List.getD, e]
theorem sub_fix {e d : List Nat} {v x : Nat} (hv : v < d.length) : SubD e (d.set v (fixV (d.getD v 0) x)) ↔ SubD e d ∧ ∀ u, (e.getD v 0).testBit u = true → u = x := by
 constructor
 ·intro h
  refine ⟨fun q u hu => ?_, fun u hu => ?_⟩
  ·have h1 := h q u hu
   rw [set_get _ _ _ _ hv] at h1
   split at h1
   ·rename_i hq
    subst hq
    rw [fixV_bit] at h1
    simp at h1
    exact h1.1
   ·exact h1
  ·have h1 := h v u hu
   rw [set_get _ _ _ _ hv, if_pos rfl, fixV_bit] at h1
   simp at h1
   exact h1.2.symm
 ·rintro ⟨h1, h2⟩ q u hu
  rw [set_get _ _ _ _ hv]
  split
  ·rename_i hq
   subst hq
   rw [fixV_bit, h1 _ u hu, h2 u hu]
   simp
  ·exact h1 q u hu
theorem sub_rem {e d : List Nat} {v x : Nat} (hv : v < d.length) (h64 : d.getD v 0 < 64) : SubD e (d.set v (remV (d.getD v 0) x)) ↔ SubD e d ∧ ∀ u, (e.getD v 0).testBit u = true → u ≠ x := by
 constructor
 ·intro h
  refine ⟨fun q u hu => ?_, fun u hu => ?_⟩
  ·have h1 := h q u hu
   rw [set_get _ _ _ _ hv] at h1
   split at h1
   ·rename_i hq
    subst hq
    rw [remV_bit _ _ _ h64] at h1
    simp at h1
    exact h1.1
   ·exact h1
  ·have h1 := h v u hu
   rw [set_get _ _ _ _ hv, if_pos rfl, remV_bit _ _ _ h64] at h1
   simp at h1
   exact fun e => h1.2 e.symm
 ·rintro ⟨h1, h2⟩ q u hu
  rw [set_get _ _ _ _ hv]
  split
  ·rename_i hq
   subst hq
   rw [remV_bit _ _ _ h64, h1 _ u hu]
   have := h2 u hu
   simp
   exact fun e => this e.symm
  ·exact h1 q u hu
theorem Closure.cut {n : Nat} {bs : List Tb} {st d st' dd d' : List Nat} (h : Closure n bs st d) (hf : Full n d) (P : List Nat → Prop) (h1 : ∀ e, SubD e st' ↔ SubD e st ∧ P e) (h2 : ∀ e, SubD e dd ↔ SubD e d ∧ P e) (k : Closure n bs dd d') : Closure n bs st' d' := by
 obtain ⟨a1, _, a3⟩ := h.full hf
 refine ⟨fun hf' => ?_, fun hn => ?_⟩
 ·obtain ⟨b1, b2, b3⟩ := k.full hf'
  have hb := (h2 _).1 b1
  exact ⟨(h1 _).2 ⟨hb.1.trans a1, hb.2⟩, b2, fun e he hb => b3 e ((h2 e).2 ⟨a3 e ((h1 e).1 he).1 hb, ((h1 e).1 he).2⟩) hb⟩
 ·obtain ⟨b1, b2⟩ := k.none hn
  exact ⟨b1, fun e he hb => b2 e ((h2 e).2 ⟨a3 e ((h1 e).1 he).1 hb, ((h1 e).1 he).2⟩) hb⟩
theorem fix_dm {d : List Nat} (h : Dm d) (v x : Nat) : Dm (d.set v (fixV (d.getD v 0) x)) := ⟨by rw [List.length_set]; exact h.len, fun q => by
 by_cases hv : v < d.length
 ·rw [set_get _ _ _ _ hv]
  split
  ·exact Nat.lt_of_le_of_lt Nat.and_le_left (h.lt v)
  ·exact h.lt q
 ·rw [List.set_eq_of_length_le (by omega)]
  exact h.lt q⟩
theorem rem_dm {d : List Nat} (h : Dm d) (v x : Nat) : Dm (d.set v (remV (d.getD v 0) x)) := ⟨by rw [List.length_set]; exact h.len, fun q => by
 by_cases hv : v < d.length
 ·rw [set_get _ _ _ _ hv]
  split
  ·exact remV_lt _ _ (h.lt v)
  ·exact h.lt q
 ·rw [List.set_eq_of_length_le (by omega)]
  exact h.lt q⟩
theorem fault_ok {zs : List Int} {d : List Nat} {v value : Nat} (hv : v < zs.length) (hx : (value : Int) < zs.getD v 0) : faultOf zs d v value = if d.getD 0 0 = 0 then 3 else 0 := by
 unfold faultOf
 rw [if_pos ⟨by omega, by omega, by omega, by simpa using hx⟩]
theorem fix_ps {w0 w : World} {X : Nat} {zs : List Int} {s : WS} {bs : List Tb} {st : List Nat} {v value : Nat} (h : Posted w0 w X zs s bs st) (hv : v < zs.length) (hx : (value : Int) < zs.getD v 0) :
  Calls Tryz.prog 56 #[.pointer (some ⟨X, 0, none⟩), .int .i64 v, .int .i64 value] w fun e w' => e = .returned (.int .i64 (if s.d.getD 0 0 = 0 then 3 else 0)) ∧ ∃ s', Posted w0 w' X zs s' bs (st.set v (fixV (st.getD v 0) value)) := by
 have hf := fault_ok (d := s.d) hv hx
 have h8 := (okSizes_len h.at_.mem.zok).2
 have hv8 : v < st.length := by rw [h.sdm.len]; omega
 by_cases h0 : s.d.getD 0 0 = 0
 ·rw [if_pos h0] at hf ⊢
  refine (fix_no X zs s v value w h.at_ h.busy (by rw [hf]; decide)).mono ?_
  rintro e w' ⟨rfl, rfl⟩
  rw [hf]
  have hz := h.at_.dead_zero h0
  refine ⟨rfl, s, h.at_, h.since, h.nw, h.busy, h.sk, ?_, h.all, h.few, fix_dm h.sdm _ _⟩
  have hc := h.clo
  rw [hz] at hc ⊢
  exact hc.dead h.pos (fun b hb => hb) ((sub_fix hv8).1 (SubD.refl _)).1
 ·rw [if_neg h0] at hf ⊢
  have hF : Full zs.length s.d := h.at_.good.full h0
  refine (fix_yes X zs s v value w h.at_ h.busy hf).mono ?_
  rintro e w' ⟨rfl, d', bv, ts, us, h1, h2, h3, h4⟩
  obtain ⟨hsi, hnw⟩ := h4.since h.since h.nw
  have hbs : s.bs = bs := h.all hF
  refine ⟨rfl, _, h3, hsi, hnw, h.busy, h.sk, ?_, fun _ => hbs, ?_, fix_dm h.sdm _ _⟩
  ·rw [hbs] at h1
   exact h.clo.cut hF _ (fun e => sub_fix hv8) (fun e => sub_fix (by rw [h.at_.good.dm.len]; omega)) h1
  ·have e1 := h3.mem.fits.1
   rw [e1]
   show s.bs.length ≤ _
   rw [hbs]
   exact Nat.le_refl _
theorem remove_ps {w0 w : World} {X : Nat} {zs : List Int} {s : WS} {bs : List Tb} {st : List Nat} {v value : Nat} (h : Posted w0 w X zs s bs st) (hv : v < zs.length) (hx : (value : Int) < zs.getD v 0) :
  Calls Tryz.prog 13 #[.pointer (some ⟨X, 0, none⟩), .int .i64 v, .int .i64 value] w fun e w' => e = .returned (.int .i64 (if s.d.getD 0 0 = 0 then 3 else 0)) ∧ ∃ s', Posted w0 w' X zs s' bs (st.set v (remV (st.getD v 0) value)) := by
 have hf := fault_ok (d := s.d) hv hx
 have h8 := (okSizes_len h.at_.mem.zok).2
 have hv8 : v < st.length := by rw [h.sdm.len]; omega
 by_cases h0 : s.d.getD 0 0 = 0
 ·rw [if_pos h0] at hf ⊢
  refine (remove_no X zs s v value w h.at_ h.busy (by rw [hf]; decide)).mono ?_
  rintro e w' ⟨rfl, rfl⟩
  rw [hf]
  have hz := h.at_.dead_zero h0
  refine ⟨rfl, s, h.at_, h.since, h.nw, h.busy, h.sk, ?_, h.all, h.few, rem_dm h.sdm _ _⟩
  have hc := h.clo
  rw [hz] at hc ⊢
  exact hc.dead h.pos (fun b hb => hb) ((sub_rem hv8 (h.sdm.lt v)).1 (SubD.refl _)).1
 ·rw [if_neg h0] at hf ⊢
  have hF : Full zs.length s.d := h.at_.good.full h0
  refine (remove_yes X zs s v value w h.at_ h.busy hf).mono ?_
  rintro e w' ⟨rfl, d', bv, ts, us, h1, h2, h3, h4⟩
  obtain ⟨hsi, hnw⟩ := h4.since h.since h.nw
  have hbs : s.bs = bs := h.all hF
  refine ⟨rfl, _, h3, hsi, hnw, h.busy, h.sk, ?_, fun _ => hbs, ?_, rem_dm h.sdm _ _⟩
  ·rw [hbs] at h1
   exact h.clo.cut hF _ (fun e => sub_rem hv8 (h.sdm.lt v)) (fun e => sub_rem (by rw [h.at_.good.dm.len]; omega) (h.at_.good.dm.lt v)) h1
  ·have e1 := h3.mem.fits.1
   rw [e1]
   show s.bs.length ≤ _
   rw [hbs]
   exact Nat.le_refl _
theorem Posted.of_new {w0 w : World} {X : Nat} {zs : List Int} {szv : Value} (hok : okSizes zs = true) (hf : Nw w0 w) (hB : Blk w X (workCells szv (fullTo zs zs.length) (.slice none 0 0) rest0) 66) (hr : Row w szv 3 (zs.map (Value.int .i64))) (hX : w0.heap.size ≤ X) (hs : ∀ k, szv.ownBlock = some k → w0.heap.size ≤ k) :
  Posted w0 w X zs (ws0 zs szv) [] (fullTo zs zs.length) := by
 refine ⟨new_wat hok hB hr, fun k hk => ?_, hf, rfl, rfl, ?_, fun _ => rfl, Nat.le_refl _, full_dm hok⟩
 ·rcases ws0_own hk with rfl | hk
  ·exact hX
  ·exact hs k hk
 ·exact ⟨fun _ => ⟨SubD.refl _, fun b hb => (by cases hb), fun d hd _ => hd⟩, fun hn => absurd (full_full hok) hn⟩
end Go.Proofs.YtkjfpdfkcfgfkaaGreat

namespace Go.Proofs.YtkjfpdfkcfgfkaaGreat
open Go.RowKit

theorem set_getN (d : List Nat) (v x q : Nat) (hv : v < d.length) : (d.set v x).getD q 0 = if v = q then x else d.getD q 0 := getD_set_eq d v q x 0 hv
theorem struck_b6 {bss : List (List Bool)} {v value : Nat} {only : Bool} (hv : v < bss.length) (h6 : ∀ u, u < bss.length → (bss.getD u []).length ≤ 6) : ∀ k u, u < (struckTo bss v value only k).length → ((struckTo bss v value only k).getD u []).length ≤ 6
 | 0, u, hu => h6 u hu
 | k + 1, u, hu => by
  have ih := struck_b6 (value := value) (only := only) hv h6 k
  unfold struckTo at hu ⊢
  by_cases hc : ((decide (k = value)) != only) = true
  ·rw [if_pos hc] at hu ⊢
   have hv' : v < (struckTo bss v value only k).length := by rw [struckTo_len]; exact hv
   unfold offB
   rw [getD_set_eq _ _ _ _ _ hv']
   split
   ·rw [List.length_set]
    exact ih v hv'
   ·exact ih u (by simpa [offB] using hu)
  ·rw [if_neg hc] at hu ⊢
   exact ih u hu
theorem struck_fix {bss : List (List Bool)} {v value n : Nat} (h8 : bss.length ≤ 8) (h6 : ∀ u, u < bss.length → (bss.getD u []).length ≤ 6) (hv : v < bss.length) (hn : (bss.getD v []).length ≤ n) : domB (struckTo bss v value true n) = (domB bss).set v (fixV ((domB bss).getD v 0) value) := by
 have hdl : (domB bss).length = 8 := (domB_dm bss).len
 refine SubD.eq (domB_dm _) (fix_dm (domB_dm bss) v value) (fun q x hx => ?_) (fun q x hx => ?_)
 ·rw [domB_bit _ (by rw [struckTo_len]; exact h8) (struck_b6 hv h6 n), struckTo_get bss v value true hv q x n] at hx
  rw [set_getN _ _ _ _ (by omega)]
  split at hx
  ·cases hx
  ·rename_i hc
   split
   ·rename_i e
    subst e
    rw [fixV_bit, domB_bit _ h8 h6, hx, Bool.true_and, decide_eq_true_eq]
    refine Classical.byContradiction fun hne => hc ⟨rfl, ?_, ?_⟩
    ·refine Nat.lt_of_lt_of_le ?_ hn
     refine Classical.byContradiction fun hge => ?_
     simp only [List.getD] at hx
     rw [List.getElem?_eq_none (by simp only [List.getD] at hge; omega)] at hx
     cases hx
    ·rw [decide_eq_false (fun e => hne e.symm)]
     rfl
   ·rw [domB_bit _ h8 h6]
    exact hx
 ·rw [set_getN _ _ _ _ (by omega)] at hx
  rw [domB_bit _ (by rw [struckTo_len]; exact h8) (struck_b6 hv h6 n), struckTo_get bss v value true hv q x n]
  split at hx
  ·rename_i e
   subst e
   rw [fixV_bit, domB_bit _ h8 h6, Bool.and_eq_true, decide_eq_true_eq] at hx
   rw [if_neg (fun h => by rw [hx.2] at h; simp at h)]
   exact hx.1
  ·rename_i e
   rw [domB_bit _ h8 h6] at hx
   rw [if_neg (fun h => e h.1)]
   exact hx
theorem struck_rem {bss : List (List Bool)} {v value n : Nat} (h8 : bss.length ≤ 8) (h6 : ∀ u, u < bss.length → (bss.getD u []).length ≤ 6) (hv : v < bss.length) (hn : value < n) : domB (struckTo bss v value false n) = (domB bss).set v (remV ((domB bss).getD v 0) value) := by
 have hdl : (domB bss).length = 8 := (domB_dm bss).len
 have h64 := (domB_dm bss).lt v
 refine SubD.eq (domB_dm _) (rem_dm (domB_dm bss) v value) (fun q x hx => ?_) (fun q x hx => ?_)
 ·rw [domB_bit _ (by rw [struckTo_len]; exact h8) (struck_b6 hv h6 n), struckTo_get bss v value false hv q x n] at hx
  rw [set_getN _ _ _ _ (by omega)]
  split at hx
  ·cases hx
  ·rename_i hc
   split
   ·rename_i e
    subst e
    rw [remV_bit _ _ _ h64, domB_bit _ h8 h6, hx, Bool.true_and]
    rw [decide_eq_true_eq]
    intro e
    exact hc ⟨rfl, by omega, by rw [decide_eq_true e.symm]; rfl⟩
   ·rw [domB_bit _ h8 h6]
    exact hx
 ·rw [set_getN _ _ _ _ (by omega)] at hx
  rw [domB_bit _ (by rw [struckTo_len]; exact h8) (struck_b6 hv h6 n), struckTo_get bss v value false hv q x n]
  split at hx
  ·rename_i e
   subst e
   rw [remV_bit _ _ _ h64, domB_bit _ h8 h6] at hx
   simp only [Bool.and_eq_true, decide_eq_true_eq] at hx
   rw [if_neg (fun h => by
    have h2 := h.2.2
    rw [decide_eq_false (fun e => hx.2 e.symm)] at h2
    cases h2)]
   exact hx.1
  ·rename_i e
   rw [domB_bit _ h8 h6] at hx
   rw [if_neg (fun h => e h.1)]
   exact hx
theorem noneB_full {bss : List (List Bool)} (h8 : bss.length ≤ 8) (h6 : ∀ u, u < bss.length → (bss.getD u []).length ≤ 6) : noneB bss = false ↔ Full bss.length (domB bss) := by
 unfold noneB
 rw [List.any_eq_false]
 constructor
 ·intro h q hq e
  have hm : bss.getD q [] ∈ bss := by
   rw [getD_of_lt _ _ _ hq]
   exact List.getElem_mem hq
  have h1 := h _ hm
  have h2 : (bss.getD q []).any id = true := by simpa using h1
  obtain ⟨b, hb, hb1⟩ := List.any_eq_true.1 h2
  obtain ⟨v, hv, rfl⟩ := List.getElem_of_mem hb
  have h3 := domB_bit bss h8 h6 q v
  rw [e, getD_of_lt _ _ _ hv] at h3
  have h4 : (bss.getD q [])[v] = true := hb1
  rw [h4] at h3
  simp at h3
 ·intro h bs hbs
  obtain ⟨q, hq, rfl⟩ := List.getElem_of_mem hbs
  obtain ⟨v, hv⟩ := ne_zero_bit (h q hq)
  rw [domB_bit bss h8 h6, getD_of_lt bss q [] hq] at hv
  have hvl : v < bss[q].length := by
   refine Classical.byContradiction fun hn => ?_
   simp only [List.getD] at hv
   rw [List.getElem?_eq_none (by omega)] at hv
   cases hv
  rw [getD_of_lt _ _ _ hvl] at hv
  have : bss[q].any id = true := List.any_eq_true.2 ⟨_, List.getElem_mem hvl, hv⟩
  rw [this]
  simp
theorem CInv.closure {n : Nat} {bs : List Tb} {d0 d : List Nat} (h : CInv bs d0 d) (hs : ∀ b ∈ bs, SuppAll b d) (hn : 0 < n) : (Full n d → Closure n bs d0 d) ∧ (¬ Full n d → Closure n bs d0 zero8) := by
 refine ⟨fun hf => ⟨fun _ => ⟨h.sub, hs, h.most⟩, fun hn' => absurd hf hn'⟩, fun hf => ⟨fun hz => absurd hz (zero8_not hn), fun _ => ⟨rfl, fun e he hb hF => hf (fun q hq hz => ?_)⟩⟩⟩
 obtain ⟨v, hv⟩ := ne_zero_bit (hF q hq)
 have := h.most e he hb q v hv
 rw [hz] at this
 simp at this
end Go.Proofs.YtkjfpdfkcfgfkaaGreat

namespace Go.Proofs.YtkjfpdfkcfgfkaaGreat
open Go.RowKit

theorem bools_oneCell (bs : List Bool) : ∀ u ∈ bs.map Value.bool, u.oneCell' = true := fun u hu => by
 obtain ⟨b, _, rfl⟩ := List.mem_map.1 hu
 rfl

theorem nil_endB {w w1 : World} {e : TypeId} {v' : Value} {n : Nat} {xs : List Value} (hx : 0 < n) (hn : xs.length = n) (h1 : w1.ownsRow 0 e 1 v' (0 + n) ([] ++ xs))
  (hg : w.grownBy w1 (Value.slice none 0 0).ownBlock) (hat : v'.ownBlock = (Value.slice none 0 0).ownBlock ∨ v'.ownBlock = some w.heap.size) :
  ∃ g cap, v' = .slice (some ⟨g, 0, none⟩) n cap ∧ Nw w w1 ∧ Row w1 v' e xs ∧ w.heap.size ≤ g := by
 subst hn
 have hr : Row w1 v' e xs := by unfold Row; simpa using h1
 have hfr : Nw w w1 := (Fr.refl _ w).grown hg (fun k hk => (by cases hk))
 rcases h1.2 with ⟨_, hn⟩ | ⟨g, cap, cur, rfl, _⟩
 ·omega
 ·refine ⟨g, cap, by simp, hfr, hr, ?_⟩
  rcases hat with hat | hat
  ·simp [Value.ownBlock] at hat
  ·simp [Value.ownBlock] at hat; omega

set_option maxHeartbeats 1600000 in
set_option maxRecDepth 1000000 in
theorem copied_any (io : Option Addr) (icap : Nat) (bss : List (List Bool)) (w : World) (h8 : bss.length ≤ 8) (h6 : ∀ u, u < bss.length → 1 ≤ (bss.getD u []).length ∧ (bss.getD u []).length ≤ 6) (hin : BRowsAt w io bss) :
  Calls Tryz.prog 84 #[.slice io bss.length icap] w fun e w' => ∃ v, e = .returned v ∧ ∃ vs, Mine w w' v 84 vs ∧ InRows w' w.heap.size vs bss := by
 obtain ⟨i0, hi0, hz0, hz1, hz2⟩ := info_parts Tryz.infoBool
 obtain ⟨i1, hi1, hz1a, hz1b, hz1c⟩ := info_parts Tryz.infoBools
 have Hin := hd hin
 clear hin
 go_enter Tryz.func84, Tryz.ntmps84
 go_wp2_with fail
 go_loopw [3, 4, 5] (fun out i _ wr => ∃ (k : Nat) (vs : List Value), k ≤ bss.length ∧ i = .int .i64 (k : Int) ∧ Hid (Mine w wr out 84 vs) ∧ Hid (InRows wr w.heap.size vs (bss.take k))) (fun _ i _ _ => bss.length - (intOf i).toNat)
 case atStart => exact ⟨0, [], by omega, rfl, Mine.nil (Fr.refl _ _) _, InRows.nil _ _⟩
 case round =>
  obtain ⟨k, vs, hk, rfl, HM, HI⟩ := hrel
  obtain ⟨oo, oc, hof, _⟩ := HM.out.row.form
  have hv8 : vs.length ≤ 8 := by rw [HI.out.len, List.length_take]; omega
  subst hof
  by_cases hlt : k < bss.length
  ·have hdk : (k : Int) < (bss.length : Int) := by omega
   obtain ⟨ib, iof, qo, qc, hie, hil, hic, hRow⟩ := (Hin.out.nw HM.out.nw) k hlt
   obtain ⟨h1, h6'⟩ := h6 k hlt
   have Htk : Hid (bss.take (k + 1) = bss.take k ++ [bss.getD k []]) := hd (by
    rw [List.take_succ_eq_append_getElem hlt, getD_of_lt _ _ _ hlt])
   obtain ⟨bs, hbs⟩ : ∃ bs, bss.getD k [] = bs := ⟨_, rfl⟩
   rw [hbs] at hic hRow h1 h6' Htk
   obtain ⟨qb, qof, hqe, hql, _⟩ := hRow 0 (by omega)
   subst hie
   subst hqe
   have Hsrc : Hid (∀ (j : Nat) (v : Value), (bs.map Value.bool)[j]? = some v → wr.cell? ((⟨qb, qof, none⟩ : Addr).add j) = some v) := fun j v hj => by
    have hjl : j < bs.length := by
     have := (List.getElem?_eq_some_iff.1 hj).1
     simpa using this
    obtain ⟨b', o', he, _, hc⟩ := hRow j hjl
    simp only [Option.some.injEq, Addr.mk.injEq, and_true] at he
    obtain ⟨rfl, rfl⟩ := he
    rw [show (⟨qb, qof, none⟩ : Addr).add j = ⟨qb, qof + j, none⟩ from by by_cases h : j = 0 <;> simp [Addr.add, h], hc]
    rw [List.getElem?_map, List.getElem?_eq_getElem hjl] at hj
    simp only [Option.map_some, Option.some.injEq] at hj
    rw [← hj, getD_of_lt _ _ _ hjl]
   clear hRow hbs
   go_wp2_with (at_builtin; first
    | (refine wpList_append_own_at _ rfl _ _ 84 rfl 0 4 i0 (.bool false) 1 1 Tryz.underlying84 hi0 hz0 hz1 hz2 rfl (by decide) _ 0 [] rfl (World.ownsRow_nil _ _ _ _) ⟨qb, qof, none⟩ bs.length qc (bs.map Value.bool) rfl (by simp) Hsrc.out (bools_oneCell _) (by unfold maxLen; omega) (by omega) (Nat.zero_le _) ?_; intro v' w2 hown' hgrow _ hat; obtain ⟨g', cap', rfl, hf2, hr2, hg2⟩ := nil_endB h1 (by simp) hown' hgrow hat; clear hown' hgrow hat; have Hr2 := hd hr2; have Hf2 := hd hf2; have HM2 := hd (HM.out.step hf2); clear hr2 hf2)
    | (refine wpList_append_own_at _ rfl _ _ 79 rfl 0 84 i1 (.slice none 0 0) 1 24 Tryz.underlying79 hi1 hz1a hz1b hz1c rfl (by decide) _ _ _ rfl (Row.alloc HM2.out.row _) ⟨_, 0, none⟩ 1 1 [.slice (some ⟨g', 0, none⟩) bs.length cap'] rfl rfl (cell_one_new _ _ _) (by simp [Value.oneCell']) (by unfold maxLen; omega) (by omega) (Nat.zero_le _) ?_; intro v' w3 hown' hgrow _ hat; obtain ⟨g3, cap3, rfl, hr3, hf3, ha3, hlt3⟩ := app1 hown' hgrow hat))
   have hnb : ∀ q cur, (Value.slice oo vs.length oc).ownBlock = some q → ¬ Blk w2 q cur 4 := fun q cur hq hb => by
    obtain ⟨cur', hb', _⟩ := HM2.out.row.blk hq
    exact absurd (hb.inj hb').2 (by decide)
   have hw2 := HM.out.nw.size
   refine ⟨⟨k + 1, vs ++ [.slice (some ⟨g', 0, none⟩) bs.length cap'], by omega, by simp, HM2.out.more (g := g3) hr3 hf3 rfl (ha3.imp (fun h => h) (fun h => by omega)), ?_⟩, by simp [intOf]; omega⟩
   rw [Htk.out]
   have hI2 := HI.out.fr Hf2.out (fun _ _ x => x.elim)
   refine (hI2.fr hf3 hnb).snoc _ bs (Hr2.out.fr hf3 (fun q hq hS => ?_)) (fun q hq => by cases hq; show w.heap.size ≤ g'; omega) (fun i hi q hq e => ?_)
   ·obtain ⟨cur, hb, _⟩ := Hr2.out.blk hq
    exact hnb q cur hS hb
   ·have h2 := (HI.out.row i hi).lt hq
    have h3 : q = g' := by cases e; rfl
    omega
  ·obtain rfl : bss.length = k := by omega
   have hdk : ¬ ((bss.length : Int) < (bss.length : Int)) := by omega
   have HI' : Hid (InRows wr w.heap.size vs bss) := hd (by have := HI.out; rwa [List.take_length] at this)
   go_wp2_with fail
   go_ret
   refine ⟨_, rfl, vs, ?_, HI'.out⟩
   show Mine w wr (.slice oo vs.length oc) 84 vs
   exact HM.out
end Go.Proofs.YtkjfpdfkcfgfkaaGreat

namespace Go.Proofs.YtkjfpdfkcfgfkaaGreat
open Go.RowKit

set_option maxHeartbeats 1600000 in
set_option maxRecDepth 1000000 in
theorem refPop_no (Y : Nat) (szv inv tv : Value) (dead : Bool) (llo : Option Addr) (lcap : Nat) (w : World) (hb : Blk w Y #[szv, inv, .bool dead, tv, .slice llo 0 lcap] 83) :
  Calls Tryz.prog 64 #[.pointer (some ⟨Y, 0, none⟩)] w fun e w' => e = .returned (.int .i64 4) ∧ w' = w := by
 have c4 : w.cell? ⟨Y, 4, none⟩ = some (.slice llo 0 lcap) := hb.cell 4
 have hYl := hb.lt
 go_enter Tryz.func64, Tryz.ntmps64
 go_wp2_with fail
 go_ret
 exact ⟨rfl, rfl⟩

set_option maxHeartbeats 1600000 in
set_option maxRecDepth 1000000 in
theorem refPop_yes (Y : Nat) (szv inv tv : Value) (dead dead' : Bool) (lg n lcap io' : Nat) (in' ic' : Nat) (w : World) (hb : Blk w Y #[szv, inv, .bool dead, tv, .slice (some ⟨lg, 0, none⟩) (n + 1) lcap] 83) (hlY : lg ≠ Y)
  (c0 : w.cell? ⟨lg, n * 2, none⟩ = some (.slice (some ⟨io', 0, none⟩) in' ic')) (c1 : w.cell? ⟨lg, n * 2 + 1, none⟩ = some (.bool dead')) (hn : n < 20) (hcap : n + 1 ≤ lcap) :
  Calls Tryz.prog 64 #[.pointer (some ⟨Y, 0, none⟩)] w fun e w' => e = .returned (.int .i64 0) ∧ Blk w' Y #[szv, .slice (some ⟨io', 0, none⟩) in' ic', .bool dead', tv, .slice (some ⟨lg, 0, none⟩) n lcap] 83 ∧ Fr (fun q => q = Y) w w' := by
 have c4 : w.cell? ⟨Y, 4, none⟩ = some (.slice (some ⟨lg, 0, none⟩) (n + 1) lcap) := hb.cell 4
 have d1 : w.cell? ⟨Y, 1, none⟩ = some inv := hb.cell 1
 have d2 : w.cell? ⟨Y, 2, none⟩ = some (.bool dead) := hb.cell 2
 have hYl := hb.lt
 have hfz := hb.free
 have hYlg : Y ≠ lg := fun e => hlY e.symm
 have HB := hd hb
 clear hb
 go_enter Tryz.func64, Tryz.ntmps64
 go_wp2_with fail
 go_ret
 refine ⟨rfl, ((HB.out.set 1 (.slice (some ⟨io', 0, none⟩) in' ic')).set 2 (.bool dead')).set 4 (.slice (some ⟨lg, 0, none⟩) n lcap), ?_⟩
 exact (((Fr.refl (fun q => q = Y) w).setCell ⟨Y, 1, none⟩ _ (.inl rfl)).setCell ⟨Y, 2, none⟩ _ (.inl rfl)).setCell ⟨Y, 4, none⟩ _ (.inl rfl)
end Go.Proofs.YtkjfpdfkcfgfkaaGreat

namespace Go.Proofs.YtkjfpdfkcfgfkaaGreat
open Go.RowKit

theorem owns_cell {w : World} {v : Value} {e : TypeId} {sz n : Nat} {xs : List Value} (h : w.ownsRow 0 e sz v n xs) (i : Nat) (hi : i < n * sz) : ∃ g cap, v = .slice (some ⟨g, 0, none⟩) n cap ∧ g < w.heap.size ∧ n ≤ cap ∧ w.cell? ⟨g, i, none⟩ = xs[i]? := by
 rcases h.2 with ⟨_, h0⟩ | ⟨g, cap, cur, hv, _, hg, hn, _⟩
 ·subst h0
  simp at hi
 ·have hcell := h.cells (g := g) (by rw [hv]; rfl)
  have hx : i < xs.length := by rw [h.1]; exact hi
  have := hcell i xs[i] (List.getElem?_eq_getElem hx)
  rw [show (⟨g, 0, none⟩ : Addr).add i = ⟨g, i, none⟩ from by by_cases h : i = 0 <;> simp only [Addr.add, h, if_true, if_false, Nat.zero_add]] at this
  exact ⟨g, cap, hv, lt_of_block hg, hn, by rw [this, List.getElem?_eq_getElem hx]⟩
theorem owns_form {w : World} {v : Value} {e : TypeId} {sz n : Nat} {xs : List Value} (h : w.ownsRow 0 e sz v n xs) : ∃ lo cap, v = .slice lo n cap := by
 rcases h.2 with ⟨rfl, h0⟩ | ⟨g, cap, cur, rfl, _⟩
 ·exact ⟨none, 0, by rw [h0]⟩
 ·exact ⟨_, _, rfl⟩
theorem owns_cut {w : World} {g n cap : Nat} {e : TypeId} {sz : Nat} {xs ys : List Value} (h : w.ownsRow 0 e sz (.slice (some ⟨g, 0, none⟩) (n + 1) cap) (n + 1) (xs ++ ys)) (hx : xs.length = n * sz) : w.ownsRow 0 e sz (.slice (some ⟨g, 0, none⟩) n cap) n xs := by
 rcases h.2 with ⟨h1, _⟩ | ⟨g', cap', cur, hv, h0, hg, h1, h2, h3, h4⟩
 ·cases h1
 ·simp only [Value.slice.injEq, Option.some.injEq, Addr.mk.injEq, and_true, true_and] at hv
  obtain ⟨rfl, rfl⟩ := hv
  refine ⟨hx, .inr ⟨g, cap, cur, rfl, h0, hg, by omega, h2, h3, ?_⟩⟩
  have h5 := congrArg (List.take (n * sz)) h4
  have h6 : (xs ++ ys).take (n * sz) = xs := by rw [List.take_append_of_le_length (by omega), List.take_of_length_le (by omega)]
  rw [List.take_take, Nat.min_eq_left (by rw [Nat.add_mul]; omega), h6] at h5
  exact h5

structure RL where
 inv : Value
 vs : List Value
 bss : List (List Bool)
 dead : Bool
def RL.has (l : RL) (k : Nat) : Prop := ∃ u, u < l.vs.length ∧ (l.vs.getD u nilS).ownBlock = some k
def RL.cells (l : RL) : List Value := [l.inv, .bool l.dead]
structure RLAt (w : World) (lo : Nat) (zs : List Int) (l : RL) : Prop where
 inn : Row w l.inv 84 l.vs
 rows : InRows w lo l.vs l.bss
 len : l.bss.length = zs.length
 each : ∀ u, u < zs.length → (l.bss.getD u []).length = (zs.getD u 0).toNat
 inlo : ∀ k, l.inv.ownBlock = some k → lo ≤ k
theorem InRows.frV {S : Nat → Prop} {w w' : World} {lo : Nat} {vs : List Value} {bss : List (List Bool)} (h : InRows w lo vs bss) (f : Fr S w w') (hn : ∀ k, (∃ u, u < vs.length ∧ (vs.getD u nilS).ownBlock = some k) → ¬ S k) : InRows w' lo vs bss :=
 ⟨h.len, fun i hi => (h.row i hi).fr f (fun k hk => hn k ⟨i, by rw [h.len]; exact hi, hk⟩), h.ne, h.lo⟩
theorem RLAt.fr {S : Nat → Prop} {w w' : World} {lo : Nat} {zs : List Int} {l : RL} (h : RLAt w lo zs l) (f : Fr S w w') (h1 : ∀ k, l.has k → ¬ S k) (h2 : ∀ k, l.inv.ownBlock = some k → ¬ S k) : RLAt w' lo zs l := ⟨h.inn.fr f h2, h.rows.frV f h1, h.len, h.each, h.inlo⟩
theorem RLAt.bool {w : World} {lo : Nat} {zs : List Int} {l : RL} (h : RLAt w lo zs l) {k : Nat} (hk : l.has k) : ∃ cur, Blk w k cur 4 := by
 obtain ⟨u, hu, hk⟩ := hk
 obtain ⟨cur, hb, _⟩ := (h.rows.row u (by rw [← h.rows.len]; exact hu)).blk hk
 exact ⟨cur, hb⟩
theorem RLAt.lo {w : World} {lo : Nat} {zs : List Int} {l : RL} (h : RLAt w lo zs l) {k : Nat} (hk : l.has k) : lo ≤ k := by
 obtain ⟨u, hu, hk⟩ := hk
 exact h.rows.lo u (by rw [← h.rows.len]; exact hu) k hk
theorem RIn.lev {w : World} {lo Y : Nat} {zs : List Int} {szv inv : Value} {vs : List Value} {bss : List (List Bool)} {dead : Bool} {tv lv : Value} (h : RIn w lo Y zs szv inv vs bss dead tv lv) : RLAt w lo zs ⟨inv, vs, bss, dead⟩ := ⟨h.inn, h.rows, h.len, h.each, h.inlo⟩
structure RS where
 szv : Value
 now : RL
 tv : Value
 ts : List TbW
 lv : Value
 ls : List RL
def TCells (W : World) (cells : List Value) (ts : List TbW) : Prop := ∀ i, i < ts.length → ∃ vo vcap ro rcap, cells[i * 4]? = some (.slice vo (ts.getD i tbw0).tb.vars.length vcap) ∧ cells[i * 4 + 1]? = some (.slice ro (ts.getD i tbw0).tb.rows.length rcap) ∧ cells[i * 4 + 2]? = some (.bool (ts.getD i tbw0).tb.nt) ∧ cells[i * 4 + 3]? = some (.int .i64 (ts.getD i tbw0).way) ∧
  IntsAt W vo (ts.getD i tbw0).tb.vars ∧ RowsAt W ro (ts.getD i tbw0).tb.rows
theorem TCells.tabs {W w : World} {tv : Value} {cells : List Value} {ts : List TbW} (h : TCells W cells ts) (ho : w.ownsRow 0 41 4 tv ts.length cells) : RTabs W w tv ts := by
 refine ⟨owns_form ho, fun i hi => ?_⟩
 obtain ⟨vo, vcap, ro, rcap, c0, c1, c2, c3, h1, h2⟩ := h i hi
 obtain ⟨g, cap, hv, hg, _, k0⟩ := owns_cell ho (i * 4) (by omega)
 have key : ∀ c, c < 4 → w.cell? ⟨g, i * 4 + c, none⟩ = cells[i * 4 + c]? := fun c hc => by
  obtain ⟨g', cap', hv', _, _, k1⟩ := owns_cell ho (i * 4 + c) (by omega)
  rw [hv] at hv'
  simp only [Value.slice.injEq, Option.some.injEq, Addr.mk.injEq, and_true, true_and] at hv'
  rw [hv'.1]
  exact k1
 exact ⟨g, cap, vo, vcap, ro, rcap, hv, hg, k0.trans c0, (key 1 (by omega)).trans c1, (key 2 (by omega)).trans c2, (key 3 (by omega)).trans c3, h1, h2⟩
theorem TCells.snoc {W : World} {cells : List Value} {ts : List TbW} (h : TCells W cells ts) (hl : cells.length = ts.length * 4) (t : TbW) (vo ro : Option Addr) (vcap rcap : Nat) (h1 : IntsAt W vo t.tb.vars) (h2 : RowsAt W ro t.tb.rows) :
  TCells W (cells ++ [.slice vo t.tb.vars.length vcap, .slice ro t.tb.rows.length rcap, .bool t.tb.nt, .int .i64 t.way]) (ts ++ [t]) := fun i hi => by
 rw [List.length_append] at hi
 have hi' : i < ts.length + 1 := hi
 by_cases he : i < ts.length
 ·obtain ⟨vo, vcap, ro, rcap, c0, c1, c2, c3, k1, k2⟩ := h i he
  have e1 : (ts ++ [t]).getD i tbw0 = ts.getD i tbw0 := by simp only [List.getD]; rw [List.getElem?_append_left he]
  rw [e1]
  exact ⟨vo, vcap, ro, rcap, by rw [List.getElem?_append_left (by omega)]; exact c0, by rw [List.getElem?_append_left (by omega)]; exact c1, by rw [List.getElem?_append_left (by omega)]; exact c2, by rw [List.getElem?_append_left (by omega)]; exact c3, k1, k2⟩
 ·obtain rfl : i = ts.length := by omega
  have e1 : (ts ++ [t]).getD ts.length tbw0 = t := by simp [List.getD]
  rw [e1]
  refine ⟨vo, vcap, ro, rcap, ?_, ?_, ?_, ?_, h1, h2⟩
  ·rw [List.getElem?_append_right (by omega), hl, Nat.sub_self]
   rfl
  ·rw [List.getElem?_append_right (by omega), hl, Nat.add_sub_cancel_left]
   rfl
  ·rw [List.getElem?_append_right (by omega), hl, Nat.add_sub_cancel_left]
   rfl
  ·rw [List.getElem?_append_right (by omega), hl, Nat.add_sub_cancel_left]
   rfl
def Apart (ls : List RL) : Prop := ls.Pairwise (fun a b => ∀ k, a.has k → ¬ b.has k)
structure RAt (W w : World) (lo Y : Nat) (zs : List Int) (R : RS) : Prop where
 rin : RIn w lo Y zs R.szv R.now.inv R.now.vs R.now.bss R.now.dead R.tv R.lv
 tabs : ∃ cells, w.ownsRow 0 41 4 R.tv R.ts.length cells ∧ TCells W cells R.ts
 t12 : R.ts.length ≤ 12
 tok : ∀ i, i < R.ts.length → okTable zs (R.ts.getD i tbw0).tb.vars (R.ts.getD i tbw0).tb.rows (R.ts.getD i tbw0).way = true
 lrow : w.ownsRow 0 147 2 R.lv R.ls.length (R.ls.reverse.flatMap RL.cells)
 levs : ∀ l ∈ R.ls, RLAt w lo zs l
 l20 : R.ls.length ≤ 20
 apart : Apart (R.now :: R.ls)
 tlo : ∀ k, R.tv.ownBlock = some k → lo ≤ k
 llo : ∀ k, R.lv.ownBlock = some k → lo ≤ k
def RS.wr (Y : Nat) (R : RS) (k : Nat) : Prop := k = Y ∨ R.now.has k ∨ R.tv.ownBlock = some k ∨ R.lv.ownBlock = some k
def RS.own (Y : Nat) (R : RS) (k : Nat) : Prop := R.wr Y k ∨ R.szv.ownBlock = some k ∨ R.now.inv.ownBlock = some k ∨ ∃ l ∈ R.ls, l.has k ∨ l.inv.ownBlock = some k
theorem RAt.rtabs {W w : World} {lo Y : Nat} {zs : List Int} {R : RS} (h : RAt W w lo Y zs R) : RTabs W w R.tv R.ts := by
 obtain ⟨cells, h1, h2⟩ := h.tabs
 exact h2.tabs h1
theorem RAt.fr {S : Nat → Prop} {W w w' : World} {lo Y : Nat} {zs : List Int} {R : RS} (h : RAt W w lo Y zs R) (f : Fr S w w') (hn : ∀ k, R.own Y k → ¬ S k) : RAt W w' lo Y zs R := by
 obtain ⟨cells, h1, h2⟩ := h.tabs
 have hr := h.rin
 refine ⟨⟨hr.blk.fr f (hn Y (.inl (.inl rfl))), hr.sz.fr f (fun k hk => hn k (.inr (.inl hk))), hr.inn.fr f (fun k hk => hn k (.inr (.inr (.inl hk)))), hr.rows.frV f (fun k hk => hn k (.inl (.inr (.inl hk)))), hr.len, hr.each, hr.zok, hr.szlo, hr.inlo, hr.ylo⟩,
  ⟨cells, ownsRow.fr h1 f (fun k hk => hn k (.inl (.inr (.inr (.inl hk))))), h2⟩, h.t12, h.tok, ownsRow.fr h.lrow f (fun k hk => hn k (.inl (.inr (.inr (.inr hk))))), fun l hl => (h.levs l hl).fr f (fun k hk => hn k (.inr (.inr (.inr ⟨l, hl, .inl hk⟩)))) (fun k hk => hn k (.inr (.inr (.inr ⟨l, hl, .inr hk⟩)))), h.l20, h.apart, h.tlo, h.llo⟩
theorem RAt.nw {W w w' : World} {lo Y : Nat} {zs : List Int} {R : RS} (h : RAt W w lo Y zs R) (f : Nw w w') : RAt W w' lo Y zs R := h.fr f (fun _ _ x => x)
def refTys : List TypeId := [83, 4, 41, 147]
theorem RAt.wrTy {W w : World} {lo Y : Nat} {zs : List Int} {R : RS} (h : RAt W w lo Y zs R) {k : Nat} (hk : R.wr Y k) : ∃ cur e, Blk w k cur e ∧ e ∈ refTys := by
 rcases hk with rfl | hk | hk | hk
 ·exact ⟨_, _, h.rin.blk, by decide⟩
 ·obtain ⟨cur, hb⟩ := h.rin.lev.bool hk
  exact ⟨_, _, hb, by decide⟩
 ·obtain ⟨cells, h1, _⟩ := h.tabs
  obtain ⟨cur, hb⟩ := ownsRow.blk h1 hk
  exact ⟨_, _, hb, by decide⟩
 ·obtain ⟨cur, hb⟩ := ownsRow.blk h.lrow hk
  exact ⟨_, _, hb, by decide⟩
theorem RAt.only {W w : World} {lo Y : Nat} {zs : List Int} {R : RS} (h : RAt W w lo Y zs R) : Only w (R.wr Y) refTys := fun k cur e hk hb => by
 obtain ⟨_, _, hb', he⟩ := h.wrTy hk
 rw [(hb.inj hb').2]
 exact he
theorem RAt.ty {W w : World} {lo Y : Nat} {zs : List Int} {R : RS} (h : RAt W w lo Y zs R) {k : Nat} (hk : R.own Y k) : R.szv.ownBlock = some k ∨ ∃ cur e, Blk w k cur e ∧ (e ∈ refTys ∨ e = 84) := by
 rcases hk with hk | hk | hk | ⟨l, hl, hk | hk⟩
 ·obtain ⟨cur, e, hb, he⟩ := h.wrTy hk
  exact .inr ⟨cur, e, hb, .inl he⟩
 ·exact .inl hk
 ·obtain ⟨cur, hb, _⟩ := h.rin.inn.blk hk
  exact .inr ⟨cur, _, hb, .inr rfl⟩
 ·obtain ⟨cur, hb⟩ := (h.levs l hl).bool hk
  exact .inr ⟨cur, _, hb, .inl (by decide)⟩
 ·obtain ⟨cur, hb, _⟩ := (h.levs l hl).inn.blk hk
  exact .inr ⟨cur, _, hb, .inr rfl⟩
theorem RAt.lt {W w : World} {lo Y : Nat} {zs : List Int} {R : RS} (h : RAt W w lo Y zs R) {k : Nat} (hk : R.own Y k) : k < w.heap.size := by
 rcases h.ty hk with h1 | ⟨_, _, hb, _⟩
 ·exact h.rin.sz.lt h1
 ·exact hb.lt
theorem RAt.lo {W w : World} {lo Y : Nat} {zs : List Int} {R : RS} (h : RAt W w lo Y zs R) {k : Nat} (hk : R.own Y k) : lo ≤ k := by
 rcases hk with (rfl | hk | hk | hk) | hk | hk | ⟨l, hl, hk | hk⟩
 ·exact h.rin.ylo
 ·exact h.rin.lev.lo hk
 ·exact h.tlo k hk
 ·exact h.llo k hk
 ·exact h.rin.szlo k hk
 ·exact h.rin.inlo k hk
 ·exact (h.levs l hl).lo hk
 ·exact (h.levs l hl).inlo k hk
end Go.Proofs.YtkjfpdfkcfgfkaaGreat

namespace Go.Proofs.YtkjfpdfkcfgfkaaGreat
open Go.RowKit

def LinkD (n : Nat) (l : RL) (d : List Nat) : Prop := (l.dead = true ∧ d = zero8) ∨ (l.dead = false ∧ d = domB l.bss ∧ Full n d)
theorem LinkD.iff {n : Nat} {l : RL} {d : List Nat} (hn : 0 < n) (h : LinkD n l d) : d.getD 0 0 = 0 ↔ l.dead = true := by
 rcases h with ⟨h1, rfl⟩ | ⟨h1, h2, h3⟩
 ·rw [h1, zero8_get]
  simp
 ·rw [h1]
  constructor
  ·intro h
   exact absurd h (h3 0 hn)
  ·intro h
   cases h
def LinkL (n : Nat) : List RL → List (Nat × List Nat × List TS) → Prop
 | [], [] => True
 | l :: ls, p :: ps => LinkD n l p.2.1 ∧ LinkL n ls ps
 | _, _ => False
theorem LinkL.len {n : Nat} : ∀ {ls : List RL} {ps : List (Nat × List Nat × List TS)}, LinkL n ls ps → ls.length = ps.length
 | [], [], _ => rfl
 | l :: ls, p :: ps, h => by rw [List.length_cons, List.length_cons, h.2.len]
 | [], _ :: _, h => h.elim
 | _ :: _, [], h => h.elim
structure Pair (bz : Bool) (W w : World) (lo X Y : Nat) (zs : List Int) (s : WS) (R : RS) : Prop where
 at_ : WAt w X zs s
 ref : RAt W w lo Y zs R
 busy : s.l.busy = bz
 now : LinkD zs.length R.now s.d
 tabs : s.bs = R.ts.map TbW.tb
 levs : LinkL zs.length R.ls s.sk
 szn : ∀ k, R.szv.ownBlock = some k → ¬ s.own X k
 xlo : ∀ k, s.own X k → lo ≤ k
structure PStep (w w' : World) (X Y : Nat) (s s' : WS) (R R' : RS) : Prop where
 fr : Fr (fun k => s.own X k ∨ R.wr Y k) w w'
 grow : ∀ k, s'.own X k ∨ R'.own Y k → s.own X k ∨ R.own Y k ∨ w.heap.size ≤ k
theorem PStep.nw {w w' : World} (h : Nw w w') (X Y : Nat) (s : WS) (R : RS) : PStep w w' X Y s s R R := ⟨h.mono (fun _ x => x.elim), fun k h => by
 rcases h with h | h
 ·exact .inl h
 ·exact .inr (.inl h)⟩
theorem tys_apart : ownTys.all (fun e => !(refTys.contains e) && e != 84) = true := by decide
theorem WAt.apartR {W w : World} {lo X Y : Nat} {zs zs' : List Int} {s : WS} {R : RS} (h : WAt w X zs' s) (hr : RAt W w lo Y zs R) (hz : ∀ k, R.szv.ownBlock = some k → ¬ s.own X k) (k : Nat) (hk : R.own Y k) : ¬ s.own X k := fun ho => by
 rcases hr.ty hk with h1 | ⟨cur, e, hb, he⟩
 ·exact hz k h1 ho
 ·obtain ⟨cur', e', hb', he'⟩ := h.mem.ty ho
  have e1 := (hb.inj hb').2
  subst e1
  have h2 := List.all_eq_true.1 tys_apart e he'
  simp only [Bool.and_eq_true, Bool.not_eq_true', bne_iff_ne, ne_eq] at h2
  rcases he with he | he
  ·have : refTys.contains e = true := List.contains_iff_mem.2 he
   rw [h2.1] at this
   cases this
  ·exact h2.2 he
theorem Pair.nw {bz : Bool} {W w w' : World} {lo X Y : Nat} {zs : List Int} {s : WS} {R : RS} (h : Pair bz W w lo X Y zs s R) (f : Nw w w') : Pair bz W w' lo X Y zs s R := ⟨h.at_.nw f, h.ref.nw f, h.busy, h.now, h.tabs, h.levs, h.szn, h.xlo⟩
theorem Pair.mid {bz : Bool} {W w w1 w2 : World} {lo X Y : Nat} {zs : List Int} {s s' : WS} {R : RS} (h : Pair bz W w lo X Y zs s R) (k : WStep w w1 X s s') (f : Nw w1 w2) : RAt W w2 lo Y zs R := (h.ref.fr k.fr (h.at_.apartR h.ref h.szn)).nw f
theorem Pair.join {bz : Bool} {W w w1 w2 w3 : World} {lo X Y : Nat} {zs : List Int} {s s' : WS} {R R' : RS} (hlo : W.heap.size ≤ lo) (hW : Nw W w) (hlw : lo ≤ w.heap.size) (h : Pair bz W w lo X Y zs s R) (h1 : WAt w1 X zs s') (k : WStep w w1 X s s') (f : Nw w1 w2) (hr : RAt W w3 lo Y zs R') (hfr : Fr (R.wr Y) w2 w3) (hz : R'.szv = R.szv) (hg : ∀ k, R'.own Y k → R.own Y k ∨ w2.heap.size ≤ k)
  (hb : s'.l.busy = bz) (hn : LinkD zs.length R'.now s'.d) (ht : s'.bs = R'.ts.map TbW.tb) (hl : LinkL zs.length R'.ls s'.sk) : Pair bz W w3 lo X Y zs s' R' ∧ PStep w w3 X Y s s' R R' ∧ Nw W w3 := by
 have hr2 := h.mid k f
 have hz' : ∀ k, R.szv.ownBlock = some k → ¬ s'.own X k := fun q hq ho => by
  rcases k.grow q ho with h2 | h2
  ·exact h.szn q hq h2
  ·have := h.ref.rin.sz.lt hq
   omega
 have h12 := h1.nw f
 have hw2 : w.heap.size ≤ w2.heap.size := Nat.le_trans k.fr.size f.size
 have hwr : Fr (fun k => s.own X k ∨ R.wr Y k) w w3 := ((k.fr.mono (fun i hi => .inl (.inl hi))).trans f (fun i hi => hi.elim)).trans hfr (fun i hi => .inl (.inr hi))
 refine ⟨⟨h12.fr hfr (fun q hq hw => h12.apartR hr2 hz' q (.inl hw) hq) hr2.only (by decide), hr, hb, hn, ht, hl, by rw [hz]; exact hz', fun q hq => ?_⟩, ⟨hwr, fun q hq => ?_⟩, hW.trans hwr (fun i hi => .inr ?_)⟩
 ·rcases k.grow q hq with h2 | h2
  ·exact h.xlo q h2
  ·omega
 ·rcases hq with hq | hq
  ·rcases k.grow q hq with h2 | h2
   ·exact .inl h2
   ·exact .inr (.inr h2)
  ·rcases hg q hq with h2 | h2
   ·exact .inr (.inl h2)
   ·exact .inr (.inr (by omega))
 ·rcases hi with hi | hi
  ·have := h.xlo i hi
   omega
  ·have := h.ref.lo (.inl hi)
   omega
theorem RAt.renow {W w w' : World} {lo Y : Nat} {zs : List Int} {R : RS} {bss : List (List Bool)} {dead : Bool} (h : RAt W w lo Y zs R) (hf : Fr (fun q => q = Y ∨ R.now.has q) w w') (hin : RIn w' lo Y zs R.szv R.now.inv R.now.vs bss dead R.tv R.lv) : RAt W w' lo Y zs { R with now := ⟨R.now.inv, R.now.vs, bss, dead⟩ } := by
 obtain ⟨cells, h1, h2⟩ := h.tabs
 have hty : ∀ q, (q = Y ∨ R.now.has q) → ∃ cur e, Blk w q cur e ∧ (e = 83 ∨ e = 4) := fun q hq => by
  rcases hq with rfl | hq
  ·exact ⟨_, _, h.rin.blk, .inl rfl⟩
  ·obtain ⟨cur, hb⟩ := h.rin.lev.bool hq
   exact ⟨_, _, hb, .inr rfl⟩
 refine ⟨hin, ⟨cells, ownsRow.fr h1 hf (fun q hq hs => ?_), h2⟩, h.t12, h.tok, ownsRow.fr h.lrow hf (fun q hq hs => ?_), fun l hl => (h.levs l hl).fr hf (fun q hq hs => ?_) (fun q hq hs => ?_), h.l20, ?_, h.tlo, h.llo⟩
 ·obtain ⟨cur, e, hb, he⟩ := hty q hs
  obtain ⟨cur', hb'⟩ := ownsRow.blk h1 hq
  rw [(hb.inj hb').2] at he
  exact absurd he (by decide)
 ·obtain ⟨cur, e, hb, he⟩ := hty q hs
  obtain ⟨cur', hb'⟩ := ownsRow.blk h.lrow hq
  rw [(hb.inj hb').2] at he
  exact absurd he (by decide)
 ·rcases hs with rfl | hs
  ·obtain ⟨cur, hb⟩ := (h.levs l hl).bool hq
   exact absurd (hb.inj h.rin.blk).2 (by decide)
  ·exact (List.pairwise_cons.1 h.apart).1 l hl q hs hq
 ·obtain ⟨cur, e, hb, he⟩ := hty q hs
  obtain ⟨cur', hb', _⟩ := (h.levs l hl).inn.blk hq
  rw [(hb.inj hb').2] at he
  exact absurd he (by decide)
 ·have ha := List.pairwise_cons.1 h.apart
  exact List.pairwise_cons.2 ⟨ha.1, ha.2⟩
theorem RAt.tblk {W w : World} {lo Y : Nat} {zs : List Int} {R : RS} (h : RAt W w lo Y zs R) : ∀ k, R.tv.ownBlock = some k → ∃ cur, Blk w k cur 41 := fun k hk => by
 obtain ⟨cells, h1, _⟩ := h.tabs
 exact ownsRow.blk h1 hk
theorem link_close {n : Nat} {bs : List Tb} {d0 : List Nat} {bss : List (List Bool)} {inv : Value} {vs : List Value} (hn : 0 < n) (hl : bss.length = n) (h8 : bss.length ≤ 8) (h6 : ∀ u, u < bss.length → (bss.getD u []).length ≤ 6) (h : CInv bs d0 (domB bss)) (hs : ∀ b ∈ bs, SuppAll b (domB bss)) : ∃ d, Dm d ∧ Closure n bs d0 d ∧ LinkD n ⟨inv, vs, bss, noneB bss⟩ d := by
 obtain ⟨h1, h2⟩ := h.closure hs hn
 have hf := noneB_full h8 h6
 rw [hl] at hf
 cases hb : noneB bss with
 | false =>
  have hF := hf.1 hb
  exact ⟨_, domB_dm bss, h1 hF, .inr ⟨rfl, rfl, hF⟩⟩
 | true =>
  have hF : ¬ Full n (domB bss) := fun hF => by
   rw [hf.2 hF] at hb
   cases hb
  exact ⟨_, zero8_dm, h2 hF, .inl ⟨rfl, rfl⟩⟩
theorem wr_now {Y : Nat} {R : RS} {q : Nat} (h : q = Y ∨ R.now.has q) : R.wr Y q := h.elim .inl (fun h => .inr (.inl h))
theorem take_ref {W w : World} {lo Y : Nat} {zs : List Int} {R : RS} {v value : Nat} {only : Bool} (hlo : W.heap.size ≤ lo) (hW : Nw W w) (h : RAt W w lo Y zs R) (hd : R.now.dead = false) (hv : v < zs.length) (hx : (value : Int) < zs.getD v 0) :
  Calls Tryz.prog 58 #[.pointer (some ⟨Y, 0, none⟩), .int .i64 (v : Int), .int .i64 (value : Int), .bool only] w fun e w' => e = .returned (.int .i64 0) ∧ ∃ now d, RAt W w' lo Y zs { R with now := now } ∧ Fr (R.wr Y) w w' ∧ (∀ k, RS.own Y { R with now := now } k → R.own Y k) ∧ Dm d ∧ Closure zs.length (R.ts.map TbW.tb) (domB (struckTo R.now.bss v value only (zs.getD v 0).toNat)) d ∧ LinkD zs.length now d := by
 have hr := h.rin
 rw [hd] at hr
 refine (refTake_ok W lo Y zs R.szv R.now.inv R.now.vs R.now.bss R.tv R.lv R.ts v value only w hlo hW h.t12 h.tok hr h.rtabs h.tblk hv hx).mono ?_
 rintro e w' ⟨rfl, b', h1, h2, h3, h4, h5⟩
 obtain ⟨d, k1, k2, k3⟩ := link_close (inv := R.now.inv) (vs := R.now.vs) (okSizes_len h.rin.zok).1 h1.len h1.in8 h1.b6 h3 h4
 exact ⟨rfl, _, d, h.renow h5 h1, h5.mono (fun q hq => .inl (wr_now hq)), fun k hk => hk, k1, k2, k3⟩
theorem bit_none (d : List Nat) (q : Nat) (h : ∀ v, (d.getD q 0).testBit v = false) : d.getD q 0 = 0 := Nat.eq_of_testBit_eq (fun v => by rw [h v, Nat.zero_testBit])
theorem LinkD.vals {zs : List Int} {l : RL} {d : List Nat} (h : LinkD zs.length l d) (h8 : l.bss.length ≤ 8) (h6 : ∀ u, u < l.bss.length → (l.bss.getD u []).length ≤ 6) (hl : l.bss.length = zs.length) (q : Nat) : vals (d.getD q 0) = if q < zs.length then rDom l.bss l.dead q else [] := by
 rcases h with ⟨h1, rfl⟩ | ⟨h1, h2, h3⟩
 ·rw [zero8_get, vals_zero, h1]
  simp [rDom]
 ·rw [h1, h2]
  by_cases hq : q < zs.length
  ·rw [if_pos hq, vals_true _ h8 h6 q (by rw [hl]; exact hq)]
   simp [rDom]
  ·rw [if_neg hq, bit_none _ _ (fun v => ?_), vals_zero]
   rw [domB_bit _ h8 h6]
   have : l.bss.getD q [] = [] := by
    simp only [List.getD]
    rw [List.getElem?_eq_none (by omega)]
    rfl
   rw [this]
   rfl
end Go.Proofs.YtkjfpdfkcfgfkaaGreat

namespace Go.Proofs.YtkjfpdfkcfgfkaaGreat
open Go.RowKit

structure ListAt (w : World) (lo : Option Addr) (ls : List Int) (vars : List Int) (l : List Nat) : Prop where
 at_ : IntsAt w lo ls
 len : l.length = vars.length
 get : ∀ i, i < vars.length → (vars.getD i 0).toNat < ls.length ∧ 0 ≤ vars.getD i 0 ∧ ls.getD (vars.getD i 0).toNat 0 = (l.getD i 0 : Nat) ∧ l.getD i 0 < 6
theorem ListAt.nw {w w' : World} {lo : Option Addr} {ls vars : List Int} {l : List Nat} (h : ListAt w lo ls vars l) (f : Nw w w') : ListAt w' lo ls vars l := ⟨h.at_.nw f, h.len, h.get⟩
def covN (br : List Nat) (live : Nat) (l : List Nat) : Nat → Nat
 | 0 => live
 | k + 1 => covN br live l k &&& br.getD (k * 6 + l.getD k 0) 0
theorem covN_lt (br : List Nat) (live : Nat) (l : List Nat) (h : live < 18446744073709551616) : ∀ k, covN br live l k < 18446744073709551616
 | 0 => h
 | k + 1 => Nat.lt_of_le_of_lt Nat.and_le_left (covN_lt br live l h k)
theorem covN_bit (br : List Nat) (live : Nat) (l : List Nat) (j : Nat) : ∀ k, (covN br live l k).testBit j = true ↔ live.testBit j = true ∧ ∀ i, i < k → (br.getD (i * 6 + l.getD i 0) 0).testBit j = true
 | 0 => by simp [covN]
 | k + 1 => by
  unfold covN
  rw [Nat.testBit_and, Bool.and_eq_true, covN_bit br live l j k]
  constructor
  ·rintro ⟨⟨h1, h2⟩, h3⟩
   refine ⟨h1, fun i hi => ?_⟩
   rcases Nat.lt_succ_iff_lt_or_eq.1 hi with h | h
   ·exact h2 i h
   ·subst h
    exact h3
  ·rintro ⟨h1, h2⟩
   exact ⟨⟨h1, fun i hi => h2 i (by omega)⟩, h2 k (by omega)⟩
theorem covN_sem {vars : List Int} {rows : List (List Int)} {dn : List Nat} {live : Nat} (h4 : vars.length ≤ 4) (hd : ∀ q, dn.getD q 0 < 64) (hrow : ∀ j, j < rows.length → (rows.getD j []).length = vars.length) (hR : RsRep vars rows dn live) {l : List Nat} (hO : OutOf vars dn l) (nt : Bool) :
  ((covN (brTo rows rows.length) live l vars.length != 0) != nt) = true ↔ Allow rows nt l := by
 have hc : covN (brTo rows rows.length) live l vars.length ≠ 0 ↔ ∃ j, j < rows.length ∧ Covers (rows.getD j []) l := by
  constructor
  ·intro h
   obtain ⟨j, hj⟩ := ne_zero_bit h
   rw [covN_bit] at hj
   have hjl := hR.1 j hj.1
   refine ⟨j, hjl, fun i hi => ?_⟩
   rw [hO.1] at hi
   have := hj.2 i hi
   rw [Nat.mul_comm] at this
   exact ((brTo_bit rows i _ (by omega) (bit_lt6 (hd _) (hO.2 i hi)) rows.length j).1 this).2.2
  ·rintro ⟨j, hj, hcv⟩ h0
   have : (covN (brTo rows rows.length) live l vars.length).testBit j = true := by
    rw [covN_bit]
    refine ⟨hR.2 j hj ⟨l, hO, hcv⟩, fun i hi => ?_⟩
    rw [Nat.mul_comm]
    exact (brTo_bit rows i _ (by omega) (bit_lt6 (hd _) (hO.2 i hi)) rows.length j).2 ⟨hj, by rw [hrow j hj]; exact hi, hcv i (by rw [hO.1]; exact hi)⟩
   rw [h0] at this
   simp at this
 unfold Allow
 cases nt with
 | false =>
  simp only [Bool.false_eq_true, if_false]
  rw [← hc]
  simp
 | true =>
  simp only [if_true]
  have h2 : (∀ j, j < rows.length → ¬ Covers (rows.getD j []) l) ↔ ¬ covN (brTo rows rows.length) live l vars.length ≠ 0 := by
   rw [hc]
   exact ⟨fun a ⟨j, hj, hh⟩ => a j hj hh, fun a j hj hh => a ⟨j, hj, hh⟩⟩
  rw [h2]
  simp

set_option maxHeartbeats 1600000 in
set_option maxRecDepth 1000000 in
theorem rsAllows_any (G g cap : Nat) (lo : Option Addr) (lc : Nat) (vars ls : List Int) (l : List Nat) (nt : Bool) (br : List Nat) (live : Nat) (w : World) (hG : Blk w G (rsCells (.slice (some ⟨g, 0, none⟩) vars.length cap) nt br live) 131)
  (hv : Row w (.slice (some ⟨g, 0, none⟩) vars.length cap) 3 (vars.map (Value.int .i64))) (h24 : br.length = 24) (hbr : ∀ j, br.getD j 0 < 18446744073709551616) (hlv : live < 18446744073709551616) (h4 : vars.length ≤ 4) (hL : ListAt w lo ls vars l) :
  Calls Tryz.prog 123 #[.pointer (some ⟨G, 0, none⟩), .slice lo ls.length lc] w fun e w' => e = .returned (.bool ((covN br live l vars.length != 0) != nt)) ∧ ∃ m, w' = w.drewN m := by
 have HG := hd hG
 have Hv := hd hv
 have HL := hd hL
 have c0 : w.cell? ⟨G, 0, none⟩ = some (.slice (some ⟨g, 0, none⟩) vars.length cap) := hG.cell 0
 have c26 : w.cell? ⟨G, 26, none⟩ = some (.int .u64 (live : Int)) := (hG.cell 26).trans (rsCells_live _ _ _ _ h24)
 clear hG hv hL
 go_enter Tryz.func123, Tryz.ntmps123
 go_wp2_with fail
 go_loopw [5, 6, 7, 18] (fun c _ _ i wr => ∃ k : Nat, k ≤ vars.length ∧ i = .int .i64 (k : Int) ∧ c = .int .u64 ((covN br live l k : Nat) : Int) ∧ ∃ m, wr = w.drewN m) (fun _ _ _ i _ => vars.length - (intOf i).toNat)
 case atStart => exact ⟨0, by omega, rfl, rfl, 0, rfl⟩
 case round =>
  obtain ⟨k, hk, rfl, rfl, mm, hmm⟩ := hrel
  have HF : Hid (Nw w wr) := by
   rw [hmm]
   exact (Fr.refl _ w).drewN mm
  have Hmm := hd hmm
  clear hmm
  by_cases hlt : k < vars.length
  ·have hdk : (k : Int) < (vars.length : Int) := by omega
   have hk4 : (k : Int) < 4 := by omega
   obtain ⟨g', cap', he, hgo, hgc, _⟩ := (Hv.out.nw HF.out).cell k (by simpa using hlt)
   simp only [List.length_map, Value.slice.injEq, Option.some.injEq, Addr.mk.injEq, and_true, true_and] at he
   obtain ⟨rfl, rfl⟩ := he
   have hgl : g < wr.heap.size := (Hv.out.nw HF.out).lt rfl
   simp only [List.getElem_map] at hgc
   obtain ⟨h1, h2, h3, h6⟩ := HL.out.get k hlt
   have hgd : vars.getD k 0 = vars[k] := by simp [List.getD, hlt]
   obtain ⟨u, hu⟩ : ∃ u : Nat, vars.getD k 0 = (u : Int) := ⟨(vars.getD k 0).toNat, by omega⟩
   rw [← hgd, hu] at hgc
   rw [hu, Int.toNat_natCast] at h1 h3
   obtain ⟨lb, lof, rfl, hlbl, hlc⟩ := (HL.out.at_.nw HF.out) u h1
   rw [h3] at hlc
   have hul : (u : Int) < (ls.length : Int) := by omega
   obtain ⟨x, hx⟩ : ∃ x, l.getD k 0 = x := ⟨_, rfl⟩
   have hx6 : (x : Int) < 6 := by omega
   have hbc : wr.cell? ⟨G, 2 + k * 6 + x, none⟩ = some (.int .u64 (br.getD (k * 6 + x) 0 : Nat)) := by
    rw [Nat.add_assoc]
    exact ((HG.out.nw HF.out).cell _).trans (rsCells_br _ _ _ _ _ (by omega))
   have hbl := hbr (k * 6 + x)
   have hcl := covN_lt br live l hlv k
   have hGl : G < wr.heap.size := (HG.out.nw HF.out).lt
   have hsucc : covN br live l (k + 1) = covN br live l k &&& br.getD (k * 6 + x) 0 := by rw [← hx]; rfl
   rw [hx] at hlc
   obtain ⟨y, hy⟩ : ∃ y, br.getD (k * 6 + x) 0 = y := ⟨_, rfl⟩
   obtain ⟨cv, hcv⟩ : ∃ cv, covN br live l k = cv := ⟨_, rfl⟩
   rw [hy] at hbc hbl hsucc
   rw [hcv] at hcl hsucc ⊢
   have hand := u64_and_nat cv y hcl hbl
   have Hand := hd hand
   have Hsucc := hd hsucc
   clear hx hy hcv hu hgd h3 h2 hgo hand hsucc
   go_wp2_with fail
   go_quiet (fail)
   go_wp2_with fail
   refine ⟨⟨k + 1, by omega, by simp, ?_, mm + nq, by rw [Hmm.out]; simp [World.drewN, Nat.add_assoc]⟩, by simp [intOf]; omega⟩
   rw [Hsucc.out, ← Hand.out]
  ·obtain rfl : k = vars.length := by omega
   have hdk : ¬ ((vars.length : Int) < (vars.length : Int)) := by omega
   have c1 : wr.cell? ⟨G, 1, none⟩ = some (.bool nt) := (HG.out.nw HF.out).cell 1
   have hGl : G < wr.heap.size := (HG.out.nw HF.out).lt
   have hcl := covN_lt br live l hlv vars.length
   obtain ⟨cv, hcv⟩ : ∃ cv, covN br live l vars.length = cv := ⟨_, rfl⟩
   rw [hcv] at hcl
   have Hcv := hd hcv
   rw [Hcv.out]
   clear hcv
   go_wp2_with fail
   go_ret
   refine ⟨?_, mm, Hmm.out⟩
   rw [Hcv.out]
   have e : ((cv : Int) != 0) = (cv != 0) := by cases cv <;> rfl
   show Ending.returned (Value.bool (((cv : Int) != 0) != nt)) = _
   rw [e]

def runD (os : List (List Nat)) (l : List Nat) (root : Nat) : Nat → Nat
 | 0 => root
 | k + 1 => nodeAt os (runD os l root k) (l.getD k 0)
theorem runD_shift (os : List (List Nat)) (l : List Nat) : ∀ (m i old : Nat), levOk os m old → os.getD 0 [] = zero6 → (∀ j, l.getD j 0 < 6) → (dAcc os m i old l ↔ (List.range m).foldl (fun at_ j => nodeAt os at_ (l.getD (i + j) 0)) old = 1)
 | 0, i, old, hl, _, _ => by simp [dAcc]
 | m + 1, i, old, hl, hz, h6 => by
  have hnext : levOk os m (nodeAt os old (l.getD i 0)) := by
   rcases hl with h | ⟨_, _, h⟩
   ·subst h
    have : nodeAt os 0 (l.getD i 0) = 0 := by
     unfold nodeAt
     rw [hz]
     have := h6 i
     match l.getD i 0, this with
     | 0, _ | 1, _ | 2, _ | 3, _ | 4, _ | 5, _ => rfl
    rw [this]
    cases m with
    | zero => exact (by decide : (0 : Nat) < 2)
    | succ m => exact .inl rfl
   ·exact h _ (h6 i)
  have ih := runD_shift os l m (i + 1) _ hnext hz h6
  have e : (List.range (m + 1)).foldl (fun at_ j => nodeAt os at_ (l.getD (i + j) 0)) old = (List.range m).foldl (fun at_ j => nodeAt os at_ (l.getD (i + 1 + j) 0)) (nodeAt os old (l.getD i 0)) := by
   rw [List.range_succ_eq_map, List.foldl_cons, List.foldl_map]
   simp only [Nat.add_zero, Nat.add_succ, Nat.succ_add]
  rw [e, ← ih]
  show (2 ≤ old ∧ dAcc os m (i + 1) (nodeAt os old (l.getD i 0)) l) ↔ dAcc os m (i + 1) (nodeAt os old (l.getD i 0)) l
  constructor
  ·exact fun h => h.2
  ·intro h
   rcases hl with h' | ⟨h2, _⟩
   ·subst h'
    have h0 : nodeAt os 0 (l.getD i 0) = 0 := by
     unfold nodeAt
     rw [hz]
     have := h6 i
     match l.getD i 0, this with
     | 0, _ | 1, _ | 2, _ | 3, _ | 4, _ | 5, _ => rfl
    rw [h0] at h
    exact absurd h (dAcc_zero _ _ _ _)
   ·exact ⟨h2, h⟩
theorem runD_fold (os : List (List Nat)) (l : List Nat) (root : Nat) : ∀ k, runD os l root k = (List.range k).foldl (fun at_ j => nodeAt os at_ (l.getD (0 + j) 0)) root
 | 0 => rfl
 | k + 1 => by
  rw [List.range_succ, List.foldl_append, ← runD_fold os l root k]
  simp [runD]
theorem runD_sem {os : List (List Nat)} {l : List Nat} {root m : Nat} (hl : levOk os m root) (hz : os.getD 0 [] = zero6) (h6 : ∀ j, l.getD j 0 < 6) : dAcc os m 0 root l ↔ runD os l root m = 1 := by
 rw [runD_shift os l m 0 root hl hz h6, ← runD_fold]
theorem runD_lt {os : List (List Nat)} {l : List Nat} (h2 : 2 ≤ os.length) (hz : os.getD 0 [] = zero6) (h6 : ∀ j, l.getD j 0 < 6) {root m : Nat} (hl : levOk os m root) : ∀ k, k ≤ m → levOk os (m - k) (runD os l root k)
 | 0, _ => hl
 | k + 1, hk => by
  have ih := runD_lt h2 hz h6 hl k (by omega)
  rw [show m - k = (m - (k + 1)) + 1 by omega] at ih
  rcases ih with h | ⟨_, _, h⟩
  ·unfold runD
   rw [h]
   have h0 : nodeAt os 0 (l.getD k 0) = 0 := by
    unfold nodeAt
    rw [hz]
    have := h6 k
    match l.getD k 0, this with
    | 0, _ | 1, _ | 2, _ | 3, _ | 4, _ | 5, _ => rfl
   rw [h0]
   cases m - (k + 1) with
   | zero => exact (by decide : (0 : Nat) < 2)
   | succ m => exact .inl rfl
  ·exact h _ (h6 k)
theorem levOk_lt {os : List (List Nat)} {m k : Nat} (h2 : 2 ≤ os.length) (h : levOk os m k) : k < os.length := by
 cases m with
 | zero => exact Nat.lt_of_lt_of_le h h2
 | succ m => rcases h with h | ⟨_, h, _⟩ <;> omega
theorem node_small {os : List (List Nat)} (hok : ∀ n ∈ os, NodeOk n) (old v : Nat) (h : old < os.length) (hv : v < 6) : nodeAt os old v < 9223372036854775808 := by
 have hm : os.getD old [] ∈ os := by
  simp only [List.getD, List.getElem?_eq_getElem h, Option.getD_some]
  exact List.getElem_mem h
 have hn := hok _ hm
 unfold nodeAt
 have e : (os.getD old []).getD v 0 = (os.getD old [])[v]'(by rw [hn.1]; exact hv) := by
  generalize os.getD old [] = n at hn ⊢
  simp [List.getD, hn.1, hv]
 rw [e]
 exact Nat.lt_trans (hn.2 _ (List.getElem_mem _)) (by decide)

set_option maxHeartbeats 1600000 in
set_option maxRecDepth 1000000 in
theorem dgAllows_any (G g cap : Nat) (lo : Option Addr) (lc : Nat) (vars ls : List Int) (l : List Nat) (nv : Value) (os : List (List Nat)) (root : Nat) (w : World) (hD : DAt w G g cap nv vars os root) (hlev : levOk os vars.length root) (hz : os.getD 0 [] = zero6) (h4 : vars.length ≤ 4)
  (hL : ListAt w lo ls vars l) (h6 : ∀ j, l.getD j 0 < 6) :
  Calls Tryz.prog 115 #[.pointer (some ⟨G, 0, none⟩), .slice lo ls.length lc] w fun e w' => e = .returned (.bool (runD os l root vars.length == 1)) ∧ ∃ m, w' = w.drewN m := by
 have HD := hd hD
 have HL := hd hL
 have c0 : w.cell? ⟨G, 0, none⟩ = some (.slice (some ⟨g, 0, none⟩) vars.length cap) := hD.blk.cell 0
 have c2 : w.cell? ⟨G, 2, none⟩ = some (.int .i64 (root : Int)) := hD.blk.cell 2
 have hon : ∃ og ocap, nv = .slice (some ⟨og, 0, none⟩) os.length ocap := by
  rcases hD.row.2 with ⟨_, h0⟩ | ⟨og, ocap, cur, h1, _⟩
  ·have := hD.two
   omega
  ·exact ⟨og, ocap, h1⟩
 obtain ⟨og, ocap, rfl⟩ := hon
 have hcells : ∀ (w' : World), Nw w w' → ∀ old v, old < os.length → v < 6 → w'.cell? ⟨og, old * 6 + v, none⟩ = some (.int .i64 (nodeAt os old v : Nat)) := fun w' hf old v h1 h2 => by
  have := (ownsRow.fr hD.row hf (fun _ _ x => x)).cells (g := og) rfl (old * 6 + v) _ (flat_cell os hD.ok old v h1 h2)
  rw [WideShapes.add_plain, Nat.zero_add] at this
  exact this
 have hogl : ∀ (w' : World), Nw w w' → og < w'.heap.size := fun w' hf => by
  have := World.ownsRow.lt (ownsRow.fr hD.row hf (fun _ _ x => x)) og rfl
  exact this.2
 have Hcells := hd hcells
 have Hogl := hd hogl
 have hrun := fun k hk => runD_lt hD.two hz h6 hlev k hk
 have Hrun := hd hrun
 have h2os := hD.two
 have Hz := hd hz
 clear hD hL hcells hogl hrun hz
 go_enter Tryz.func115, Tryz.ntmps115
 go_wp2_with fail
 go_loopw [5, 7, 18] (fun c _ i wr => ∃ k : Nat, k ≤ vars.length ∧ i = .int .i64 (k : Int) ∧ c = .int .i64 ((runD os l root k : Nat) : Int) ∧ ∃ m, wr = w.drewN m) (fun _ _ i _ => vars.length - (intOf i).toNat)
 case atStart => exact ⟨0, by omega, rfl, rfl, 0, rfl⟩
 case round =>
  obtain ⟨k, hk, rfl, rfl, mm, hmm⟩ := hrel
  have HF : Hid (Nw w wr) := by
   rw [hmm]
   exact (Fr.refl _ w).drewN mm
  have Hmm := hd hmm
  clear hmm
  have hat := levOk_lt h2os (Hrun.out k hk)
  by_cases hlt : k < vars.length
  ·have hdk : (k : Int) < (vars.length : Int) := by omega
   obtain ⟨g', cap', he, hgo, hgc, _⟩ := (HD.out.rv.nw HF.out).cell k (by simpa using hlt)
   simp only [List.length_map, Value.slice.injEq, Option.some.injEq, Addr.mk.injEq, and_true, true_and] at he
   obtain ⟨rfl, rfl⟩ := he
   have hgl : g < wr.heap.size := (HD.out.rv.nw HF.out).lt rfl
   simp only [List.getElem_map] at hgc
   obtain ⟨h1, h2, h3, h6'⟩ := HL.out.get k hlt
   have hgd : vars.getD k 0 = vars[k] := by simp [List.getD, hlt]
   obtain ⟨u, hu⟩ : ∃ u : Nat, vars.getD k 0 = (u : Int) := ⟨(vars.getD k 0).toNat, by omega⟩
   rw [← hgd, hu] at hgc
   rw [hu, Int.toNat_natCast] at h1 h3
   obtain ⟨lb, lof, rfl, hlbl, hlc⟩ := (HL.out.at_.nw HF.out) u h1
   rw [h3] at hlc
   have hul : (u : Int) < (ls.length : Int) := by omega
   have hsucc : runD os l root (k + 1) = nodeAt os (runD os l root k) (l.getD k 0) := rfl
   obtain ⟨x, hx⟩ : ∃ x, l.getD k 0 = x := ⟨_, rfl⟩
   obtain ⟨a, ha⟩ : ∃ a, runD os l root k = a := ⟨_, rfl⟩
   rw [hx] at h6' hlc hsucc
   rw [ha] at hat hsucc ⊢
   have hx6 : (x : Int) < 6 := by omega
   have hal : (a : Int) < (os.length : Int) := by omega
   have hbc := Hcells.out wr HF.out a x hat h6'
   have hogw := Hogl.out wr HF.out
   have hsm := node_small HD.out.ok a x hat h6'
   have c1 : wr.cell? ⟨G, 1, none⟩ = some (.slice (some ⟨og, 0, none⟩) os.length ocap) := (HD.out.blk.nw HF.out).cell 1
   have hGl : G < wr.heap.size := (HD.out.blk.nw HF.out).lt
   obtain ⟨y, hy⟩ : ∃ y, nodeAt os a x = y := ⟨_, rfl⟩
   rw [hy] at hbc hsm hsucc
   have Hsucc := hd hsucc
   clear hx ha hy hu hgd h3 h2 hgo hsucc
   go_wp2_with fail
   go_quiet (fail)
   go_wp2_with fail
   refine ⟨⟨k + 1, by omega, by simp, ?_, mm + nq, by rw [Hmm.out]; simp [World.drewN, Nat.add_assoc]⟩, by simp [intOf]; omega⟩
   rw [Hsucc.out]
  ·obtain rfl : k = vars.length := by omega
   have hdk : ¬ ((vars.length : Int) < (vars.length : Int)) := by omega
   obtain ⟨a, ha⟩ : ∃ a, runD os l root vars.length = a := ⟨_, rfl⟩
   have Ha := hd ha
   rw [Ha.out]
   clear ha
   go_wp2_with fail
   go_ret
   refine ⟨?_, mm, Hmm.out⟩
   have e : ((a : Int) == 1) = (a == 1) := by
    rw [Bool.eq_iff_iff, beq_iff_eq, beq_iff_eq]
    omega
   rw [Ha.out, ← e]
   rfl
end Go.Proofs.YtkjfpdfkcfgfkaaGreat

namespace Go.Proofs.YtkjfpdfkcfgfkaaGreat
open Go.RowKit

def maxTo (l : List Int) : Nat → Int
 | 0 => l.getD 0 0
 | k + 1 => max (maxTo l k) (l.getD k 0)
def lastOf (vars : List Int) : Int := maxTo vars vars.length
theorem maxTo_ge (l : List Int) : ∀ k i, i < k → l.getD i 0 ≤ maxTo l k
 | 0, i, h => absurd h (Nat.not_lt_zero _)
 | k + 1, i, h => by
  unfold maxTo
  rcases Nat.lt_succ_iff_lt_or_eq.1 h with h' | h'
  ·have := maxTo_ge l k i h'
   omega
  ·subst h'
   omega
theorem maxTo_mem (l : List Int) : ∀ k, 0 < k → ∃ i, i < k ∧ maxTo l k = l.getD i 0
 | 0, h => absurd h (Nat.lt_irrefl _)
 | 1, _ => ⟨0, by omega, by simp [maxTo]⟩
 | k + 2, _ => by
  obtain ⟨i, hi, he⟩ := maxTo_mem l (k + 1) (by omega)
  by_cases h : maxTo l (k + 1) ≤ l.getD (k + 1) 0
  ·exact ⟨k + 1, by omega, by unfold maxTo; omega⟩
  ·exact ⟨i, by omega, by rw [← he]; show max (maxTo l (k + 1)) (l.getD (k + 1) 0) = _; omega⟩

set_option maxHeartbeats 800000 in
set_option maxRecDepth 1000000 in
theorem smax_any (b o cap : Nat) (l : List Int) (w : World) (h1 : 1 ≤ l.length) (h4 : l.length ≤ 4) (h : IntsAt w (some ⟨b, o, none⟩) l) :
  Calls Tryz.prog 120 #[.slice (some ⟨b, o, none⟩) l.length cap] w fun e w' => e = .returned (.int .i64 (lastOf l)) ∧ w' = w := by
 have Hh := hd h
 obtain ⟨b', o', he, hbl, hc0⟩ := h 0 (by omega)
 simp only [Option.some.injEq, Addr.mk.injEq, and_true] at he
 obtain ⟨rfl, rfl⟩ := he
 rw [Nat.add_zero] at hc0
 clear h
 go_enter Tryz.func120, Tryz.ntmps120
 go_wp2_with fail
 go_loopw [3, 4] (fun m i wr => wr = w ∧ ∃ k : Nat, 1 ≤ k ∧ k ≤ l.length ∧ i = .int .i64 (k : Int) ∧ m = .int .i64 (maxTo l k)) (fun _ i _ => l.length - (intOf i).toNat)
 case atStart => exact ⟨rfl, 1, by omega, by omega, rfl, by simp [maxTo]⟩
 case round =>
  obtain ⟨rfl, k, hk1, hk, rfl, rfl⟩ := hrel
  by_cases hlt : k < l.length
  ·have hdk : (k : Int) < (l.length : Int) := by omega
   obtain ⟨b', o', he, _, hck⟩ := Hh.out k hlt
   simp only [Option.some.injEq, Addr.mk.injEq, and_true] at he
   obtain ⟨rfl, rfl⟩ := he
   have hs : maxTo l (k + 1) = max (maxTo l k) (l.getD k 0) := rfl
   obtain ⟨x, hx⟩ : ∃ x, l.getD k 0 = x := ⟨_, rfl⟩
   obtain ⟨m, hm⟩ : ∃ m, maxTo l k = m := ⟨_, rfl⟩
   rw [hx] at hck hs
   rw [hm] at hs ⊢
   have Hs := hd hs
   clear hx hm hs
   go_wp2_with fail
   refine ⟨⟨trivial, k + 1, by omega, by omega, by simp, ?_⟩, by simp [intOf]; omega⟩
   rw [Hs.out]
   congr 1
   split <;> omega
  ·obtain rfl : k = l.length := by omega
   have hdk : ¬ ((l.length : Int) < (l.length : Int)) := by omega
   go_wp2_with fail
   go_ret
   exact ⟨rfl, rfl⟩

set_option maxHeartbeats 800000 in
set_option maxRecDepth 1000000 in
theorem last_any (b o cap : Nat) (l : List Int) (w : World) (h1 : 1 ≤ l.length) (h4 : l.length ≤ 4) (h : IntsAt w (some ⟨b, o, none⟩) l) :
  Calls Tryz.prog 117 #[.agg #[.slice (some ⟨b, o, none⟩) l.length cap]] w fun e w' => e = .returned (.int .i64 (lastOf l)) ∧ Nw w w' := by
 have hf : Nw w (w.alloc (.cells #[.slice (some ⟨b, o, none⟩) l.length cap] 118)) := (Fr.refl _ w).alloc _
 have Hh := hd (h.nw hf)
 clear h
 go_enter Tryz.func117, Tryz.ntmps117
 go_wp2_with (go_at_call 120; refine (smax_any b o cap l _ h1 h4 Hh.out).mono ?_; rintro e w' ⟨rfl, rfl⟩)
 go_ret
 exact ⟨rfl, hf⟩
theorem meth_last (G : Nat) (v : Value) (W : World) (h : W.cell? ⟨G, 0, none⟩ = some v) :
  (method 292 91 (.pointer (some ⟨G, 0, none⟩)) "Last").run Tryz.prog W = .ok (117, .agg #[v]) W := by
 have h1 : (method 292 91 (.pointer (some ⟨G, 0, none⟩)) "Last").run Tryz.prog W =
   match W.cell? ⟨G, 0, none⟩ with
   | some v => .ok (117, .agg #[v]) W
   | none => match W.farLoad Tryz.prog ⟨G, 0, none⟩ (Mode.plain == .atomic) with
    | .ok (v, _) => .ok (117, .agg #[v]) W
    | .error h => .halt h W := by kernel_rfl
 rw [h1, h]
theorem meth_dlast (G : Nat) (v : Value) (W : World) (h : W.cell? ⟨G, 0, none⟩ = some v) :
  (method 292 89 (.pointer (some ⟨G, 0, none⟩)) "Last").run Tryz.prog W = .ok (117, .agg #[v]) W := by
 have h1 : (method 292 89 (.pointer (some ⟨G, 0, none⟩)) "Last").run Tryz.prog W =
   match W.cell? ⟨G, 0, none⟩ with
   | some v => .ok (117, .agg #[v]) W
   | none => match W.farLoad Tryz.prog ⟨G, 0, none⟩ (Mode.plain == .atomic) with
    | .ok (v, _) => .ok (117, .agg #[v]) W
    | .error h => .halt h W := by kernel_rfl
 rw [h1, h]
theorem TS.meth_last (t : TS) (G : Nat) (v : Value) (W : World) (h : W.cell? ⟨G, 0, none⟩ = some v) : (method 292 t.ty (.pointer (some ⟨G, 0, none⟩)) "Last").run Tryz.prog W = .ok (117, .agg #[v]) W := by
 cases t with
 | rs nt br live => exact Go.Proofs.YtkjfpdfkcfgfkaaGreat.meth_last G v W h
 | dg nv os root => exact meth_dlast G v W h
theorem meth_allows (G : Nat) (W : World) : (method 292 91 (.pointer (some ⟨G, 0, none⟩)) "Allows").run Tryz.prog W = .ok (123, .pointer (some ⟨G, 0, none⟩)) W := by kernel_rfl
theorem meth_dallows (G : Nat) (W : World) : (method 292 89 (.pointer (some ⟨G, 0, none⟩)) "Allows").run Tryz.prog W = .ok (115, .pointer (some ⟨G, 0, none⟩)) W := by kernel_rfl
def TS.fnAllows : TS → FuncId
 | .rs .. => 123
 | .dg .. => 115
theorem allowsT_any (G g cap : Nat) (b : Tb) (t : TS) (lo : Option Addr) (lc : Nat) (ls : List Int) (l : List Nat) (dn : List Nat) (w : World) (hb : b.Ok) (hdm : Dm dn) (hT : TAt w G g cap b.vars t) (hR : TRep b dn t) (hL : ListAt w lo ls b.vars l) (hO : OutOf b.vars dn l) :
  Calls Tryz.prog t.fnAllows #[.pointer (some ⟨G, 0, none⟩), .slice lo ls.length lc] w fun e w' => e = .returned (.bool (allowB b.rows b.nt l)) ∧ ∃ m, w' = w.drewN m := by
 have h6 : ∀ j, l.getD j 0 < 6 := fun j => by
  by_cases hj : j < b.vars.length
  ·exact bit_lt6 (hdm.lt _) (hO.2 j hj)
  ·have : l.getD j 0 = 0 := by
    simp only [List.getD]
    rw [List.getElem?_eq_none (by rw [hO.1]; omega)]
    rfl
   rw [this]
   decide
 cases t with
 | rs nt br live =>
  obtain ⟨rfl, rfl, hRs⟩ := hR
  obtain ⟨h1, h2, h3, h4, h5, _⟩ := hT
  refine (rsAllows_any G g cap lo lc b.vars ls l b.nt _ live w h1 h2 h3 h4 h5 hb.vars.four hL).mono ?_
  rintro e w' ⟨rfl, hf⟩
  refine ⟨?_, hf⟩
  have h7 : ((covN (brTo b.rows b.rows.length) live l b.vars.length != 0) != b.nt) = allowB b.rows b.nt l := by
   rw [Bool.eq_iff_iff, covN_sem hb.vars.four hdm.lt hb.rows hRs hO b.nt, allowB_iff]
  rw [h7]
 | dg nv os root =>
  obtain ⟨hnz, hlev, hD, hz⟩ := hR
  obtain ⟨h1, _, _, _⟩ := hT
  refine (dgAllows_any G g cap lo lc b.vars ls l nv os root w h1 hlev hz hb.vars.four hL h6).mono ?_
  rintro e w' ⟨rfl, hf⟩
  refine ⟨?_, hf⟩
  have h7 : (runD os l root b.vars.length == 1) = allowB b.rows b.nt l := by
   rw [Bool.eq_iff_iff, beq_iff_eq, ← runD_sem hlev hz h6, allowB_iff]
   exact hD l hO
  rw [h7]
end Go.Proofs.YtkjfpdfkcfgfkaaGreat
