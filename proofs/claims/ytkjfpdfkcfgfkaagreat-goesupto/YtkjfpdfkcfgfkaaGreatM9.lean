/- Parts of the proof, number 9: contracts of the functions that the statement calls. -/
import Derived.Test.YtkjfpdfkcfgfkaaGreatM8
import Derived.Test.YtkjfpdfkcfgfkaaGreatM7

namespace Go.Proofs.YtkjfpdfkcfgfkaaGreat
open Go.RowKit

structure Sd where
 D : Nat
 X : Nat
 Y : Nat
 zs : List Int
 s : WS
 R : RS
 bz : Bool
 sq : Value
 lt : Value
def Sd.cells (d : Sd) : Array Value := #[.pointer (some ⟨d.X, 0, none⟩), .pointer (some ⟨d.Y, 0, none⟩), .bool d.bz, d.sq, d.lt]
def Sd.own (d : Sd) (k : Nat) : Prop := k = d.D ∨ d.s.own d.X k ∨ d.R.own d.Y k
structure SideAt (W w : World) (lo : Nat) (d : Sd) : Prop where
 blk : Blk w d.D d.cells 52
 pair : Pair d.bz W w lo d.X d.Y d.zs d.s d.R
 dlo : lo ≤ d.D
structure LS (W w : World) (lo B : Nat) (L : LW) (d : Sd) : Prop where
 env : Env W w lo
 law : LawAt w lo B L
 side : SideAt W w lo d
 apart : ∀ k, L.own B k → ¬ d.own k
theorem SideAt.lt {W w : World} {lo : Nat} {d : Sd} (h : SideAt W w lo d) {k : Nat} (hk : d.own k) : k < w.heap.size := by
 rcases hk with rfl | hk | hk
 ·exact h.blk.lt
 ·exact h.pair.at_.mem.lt hk
 ·exact h.pair.ref.lt hk
theorem SideAt.lo {W w : World} {lo : Nat} {d : Sd} (h : SideAt W w lo d) {k : Nat} (hk : d.own k) : lo ≤ k := by
 rcases hk with rfl | hk | hk
 ·exact h.dlo
 ·exact h.pair.xlo k hk
 ·exact h.pair.ref.lo hk
def lawTys : List TypeId := [29, 49, 22, 26, 3, 52, 84, 83, 4, 41, 147, 66, 73, 131, 125, 1, 137, 35, 60]
theorem lawTys_own : ∀ e ∈ ownTys, e ∈ lawTys := by decide
theorem lawTys_ref : ∀ e ∈ refTys, e ∈ lawTys := by decide
theorem LawAt.ty {w : World} {lo B : Nat} {L : LW} (h : LawAt w lo B L) {k : Nat} (hk : L.own B k) : ∃ cur e, Blk w k cur e ∧ e ∈ lawTys := by
 rcases hk with rfl | hk | hk | hk | hk | ⟨v, hv, hk⟩ | ⟨v, hv, hk⟩ | ⟨v, hv, hk⟩
 ·exact ⟨_, _, h.blk, by decide⟩
 ·obtain ⟨cur, hb, _⟩ := h.sides.blk hk
  exact ⟨_, _, hb, by decide⟩
 ·obtain ⟨cur, hb, _⟩ := h.keeps.rn.blk hk
  exact ⟨_, _, hb, by decide⟩
 ·obtain ⟨cur, hb, _⟩ := h.keeps.rt.blk hk
  exact ⟨_, _, hb, by decide⟩
 ·obtain ⟨cur, hb, _⟩ := h.keeps.rr.blk hk
  exact ⟨_, _, hb, by decide⟩
 ·obtain ⟨cur, hb⟩ := h.ints v (.inl hv) k hk
  exact ⟨_, _, hb, by decide⟩
 ·obtain ⟨cur, hb⟩ := h.ints v (.inr hv) k hk
  exact ⟨_, _, hb, by decide⟩
 ·obtain ⟨cur, hb⟩ := h.nils v hv k hk
  exact ⟨_, _, hb, by decide⟩
theorem SideAt.ty {W w : World} {lo : Nat} {d : Sd} (h : SideAt W w lo d) {k : Nat} (hk : d.own k) : ∃ cur e, Blk w k cur e ∧ e ∈ lawTys := by
 rcases hk with rfl | hk | hk
 ·exact ⟨_, _, h.blk, by decide⟩
 ·obtain ⟨cur, e, hb, he⟩ := h.pair.at_.mem.ty hk
  exact ⟨cur, e, hb, lawTys_own e he⟩
 ·rcases h.pair.ref.ty hk with h1 | ⟨cur, e, hb, he⟩
  ·obtain ⟨cur, hb, _⟩ := h.pair.ref.rin.sz.blk h1
   exact ⟨_, _, hb, by decide⟩
  ·refine ⟨cur, e, hb, ?_⟩
   rcases he with he | he
   ·exact lawTys_ref e he
   ·rw [he]
    decide
theorem SideAt.fr {S : Nat → Prop} {W w w' : World} {lo : Nat} {d : Sd} (h : SideAt W w lo d) (f : Fr S w w') (hn : ∀ k, d.own k → ¬ S k) {es : List TypeId} (o : Only w S es) (he : 151 ∉ es) : SideAt W w' lo d :=
 ⟨h.blk.fr f (hn _ (.inl rfl)), ⟨h.pair.at_.fr f (fun k hk => hn k (.inr (.inl hk))) o he, h.pair.ref.fr f (fun k hk => hn k (.inr (.inr hk))), h.pair.busy, h.pair.now, h.pair.tabs, h.pair.levs, h.pair.szn, h.pair.xlo⟩, h.dlo⟩
theorem SideAt.nw {W w w' : World} {lo : Nat} {d : Sd} (h : SideAt W w lo d) (f : Nw w w') : SideAt W w' lo d := ⟨h.blk.nw f, h.pair.nw f, h.dlo⟩
theorem LS.nw {W w w' : World} {lo B : Nat} {L : LW} {d : Sd} (h : LS W w lo B L d) (f : Nw w w') : LS W w' lo B L d := ⟨h.env.step f, h.law.nw f, h.side.nw f, h.apart⟩
theorem LS.only {W w : World} {lo B : Nat} {L : LW} {d : Sd} (h : LS W w lo B L d) : Only w (fun k => L.own B k ∨ d.own k) lawTys := fun k cur e hk hb => by
 rcases hk with hk | hk
 ·obtain ⟨_, _, hb', he⟩ := h.law.ty hk
  rw [(hb.inj hb').2]
  exact he
 ·obtain ⟨_, _, hb', he⟩ := h.side.ty hk
  rw [(hb.inj hb').2]
  exact he
structure LStep (w w' : World) (B : Nat) (L L' : LW) (d d' : Sd) : Prop where
 fr : Fr (fun k => L.own B k ∨ d.own k) w w'
 growL : ∀ k, L'.own B k → L.own B k ∨ w.heap.size ≤ k
 growD : ∀ k, d'.own k → d.own k ∨ w.heap.size ≤ k
 ss : L'.ss = L.ss
 dd : d'.D = d.D
 zs : d'.zs = d.zs
 bz : d'.bz = d.bz
 sq : (d'.sq, d'.lt, d'.X) = (d.sq, d.lt, d.X)
 four : L'.nums.length % 4 = L.nums.length % 4
theorem LStep.nw {w w' : World} (h : Nw w w') (B : Nat) (L : LW) (d : Sd) : LStep w w' B L L d d := ⟨h.mono (fun _ x => x.elim), fun _ h => .inl h, fun _ h => .inl h, rfl, rfl, rfl, rfl, rfl, rfl⟩
theorem LStep.trans {a b c : World} {B : Nat} {L L' L'' : LW} {d d' d'' : Sd} (h : LStep a b B L L' d d') (k : LStep b c B L' L'' d' d'') : LStep a c B L L'' d d'' :=
 ⟨h.fr.trans k.fr (fun i hi => by
  rcases hi with hi | hi
  ·rcases h.growL i hi with h1 | h1
   ·exact .inl (.inl h1)
   ·exact .inr h1
  ·rcases h.growD i hi with h1 | h1
   ·exact .inl (.inr h1)
   ·exact .inr h1), fun i hi => by
  rcases k.growL i hi with h1 | h1
  ·exact h.growL i h1
  ·exact .inr (Nat.le_trans h.fr.size h1), fun i hi => by
  rcases k.growD i hi with h1 | h1
  ·exact h.growD i h1
  ·exact .inr (Nat.le_trans h.fr.size h1), k.ss.trans h.ss, k.dd.trans h.dd, k.zs.trans h.zs, k.bz.trans h.bz, k.sq.trans h.sq, k.four.trans h.four⟩
theorem LS.pair {W w w' : World} {lo B : Nat} {L : LW} {d : Sd} {s' : WS} {R' : RS} (h : LS W w lo B L d) (hp : Pair d.bz W w' lo d.X d.Y d.zs s' R') (k : PStep w w' d.X d.Y d.s s' d.R R') (hW : Nw W w') : LS W w' lo B L { d with s := s', R := R' } ∧ LStep w w' B L L d { d with s := s', R := R' } := by
 have hwr : ∀ q, (d.s.own d.X q ∨ d.R.wr d.Y q) → d.own q := fun q hq => by
  rcases hq with hq | hq
  ·exact .inr (.inl hq)
  ·exact .inr (.inr (.inl hq))
 have hown : ∀ q, Sd.own { d with s := s', R := R' } q → d.own q ∨ w.heap.size ≤ q := fun q hq => by
  rcases hq with hq | hq
  ·exact .inl (.inl hq)
  ·rcases k.grow q hq with h1 | h1 | h1
   ·exact .inl (.inr (.inl h1))
   ·exact .inl (.inr (.inr h1))
   ·exact .inr h1
 have hDn : ¬ (d.s.own d.X d.D ∨ d.R.wr d.Y d.D) := fun hq => by
  rcases hq with hq | hq
  ·obtain ⟨cur, e, hb, he⟩ := h.side.pair.at_.mem.ty hq
   rw [(hb.inj h.side.blk).2] at he
   exact absurd he (by decide)
  ·obtain ⟨cur, e, hb, he⟩ := h.side.pair.ref.wrTy hq
   rw [(hb.inj h.side.blk).2] at he
   exact absurd he (by decide)
 have hle := k.fr.size
 refine ⟨⟨⟨h.env.base, hW, Nat.le_trans h.env.le hle⟩, h.law.fr k.fr (fun q hq hs => h.apart q hq (hwr q hs)), ⟨h.side.blk.fr k.fr hDn, hp, h.side.dlo⟩, fun q hq ho => ?_⟩, ⟨k.fr.mono (fun q hq => .inl (.inr (hwr q hq))), fun q hq => .inl hq, hown, rfl, rfl, rfl, rfl, rfl, rfl⟩⟩
 rcases hown q ho with h1 | h1
 ·exact h.apart q hq h1
 ·have := h.law.lt q hq
  omega

set_option maxHeartbeats 800000 in
set_option maxRecDepth 1000000 in
theorem num_any (e : Int) (w : World) : Calls Tryz.prog 80 #[.int .i64 e] w fun x w' => x = .returned (.int .i64 e) ∧ w' = w := by
 go_enter Tryz.func80, Tryz.ntmps80
 go_wp2_with fail
 go_ret
 exact ⟨rfl, rfl⟩

set_option maxHeartbeats 800000 in
set_option maxRecDepth 1000000 in
theorem answer_any (v : Value) (e : Int) (w : World) : Calls Tryz.prog 57 #[v, .int .i64 e, .int .i64 e] w fun x w' => x = .returned (.bool true) ∧ w' = w := by
 have hee : (e == e) = true := by simp
 go_enter Tryz.func57, Tryz.ntmps57
 go_wp2_with (go_at_call 80; refine (num_any e _).mono ?_; rintro x w' ⟨rfl, rfl⟩)
 go_ret
 exact ⟨rfl, rfl⟩
structure OpV where
 kind : Int
 a : Int
 b : Int
 vo : Option Addr
 vcap : Nat
 ro : Option Addr
 rcap : Nat
 vars : List Int
 rows : List (List Int)
 nt : Bool
 way : Int
 which : Bool
 fv : Value
 mv : Value
def OpV.cells (o : OpV) : Array Value := #[.int .i64 o.kind, .int .i64 o.a, .int .i64 o.b, .slice o.vo o.vars.length o.vcap, .slice o.ro o.rows.length o.rcap, .bool o.nt, .int .i64 o.way, .bool o.which, o.fv, o.mv]

structure Chg (w : World) (b0 : Nat) (d : Sd) (o : OpV) : Prop where
 k1 : Blk w d.D d.cells 52
 k2 : Blk w b0 o.cells 54
theorem Chg.fr {S : Nat → Prop} {w w' : World} {b0 : Nat} {d : Sd} {o : OpV} (h : Chg w b0 d o) (f : Fr S w w') {es : List TypeId} (ho : Only w S es) (h1 : 52 ∉ es) (h2 : 54 ∉ es) : Chg w' b0 d o :=
 ⟨h.k1.fr f (fun hs => h1 (ho _ _ _ hs h.k1)), h.k2.fr f (fun hs => h2 (ho _ _ _ hs h.k2))⟩
theorem Chg.nw {w w' : World} {b0 : Nat} {d : Sd} {o : OpV} (h : Chg w b0 d o) (f : Nw w w') : Chg w' b0 d o := ⟨h.k1.nw f, h.k2.nw f⟩
theorem Pair.onlyP {bz : Bool} {W w : World} {lo X Y : Nat} {zs : List Int} {s : WS} {R : RS} (h : Pair bz W w lo X Y zs s R) : Only w (fun k => s.own X k ∨ R.wr Y k) (ownTys ++ refTys) := fun k cur e hk hb => by
 rcases hk with hk | hk
 ·exact List.mem_append_left _ (h.at_.mem.only k cur e hk hb)
 ·exact List.mem_append_right _ (h.ref.only k cur e hk hb)
noncomputable def chg6 : Array Oper := regOps Tryz.f38 6
noncomputable def chg7 : Array Oper := regOps Tryz.f38 7
noncomputable def chg10 : Array Oper := regOps Tryz.f38 10

set_option maxHeartbeats 1600000 in
set_option maxRecDepth 1000000 in
theorem changes_fix (W : World) (lo B : Nat) (L : LW) (d : Sd) (o : OpV) (w : World) (h : LS W w lo B L d) (hbz : d.bz = false) (hk : o.kind = 2) :
  Calls Tryz.prog 38 #[.pointer (some ⟨d.D, 0, none⟩), .agg o.cells] w fun e w' => e = .returned (.bool true) ∧ ∃ d', LS W w' lo B L d' ∧ LStep w w' B L L d d' := by
 obtain ⟨b0, hb0⟩ : ∃ b0, b0 = w.heap.size := ⟨_, rfl⟩
 obtain ⟨V, hV⟩ : ∃ V, V = w.alloc (.cells o.cells 54) := ⟨_, rfl⟩
 have hfV : Nw w V := by rw [hV]; exact (Fr.refl _ w).alloc _
 have hC : Chg V b0 d o := ⟨h.side.blk.nw hfV, by rw [hV, hb0]; exact Blk.new _ _ _⟩
 have hLV := h.nw hfV
 have HC := hd hC
 have HV := hd hLV
 have HfV := hd hfV
 obtain ⟨a, ha⟩ : ∃ a, o.a = a := ⟨_, rfl⟩
 obtain ⟨b, hb⟩ : ∃ b, o.b = b := ⟨_, rfl⟩
 have hcell : ∀ w', Chg w' b0 d o → w'.cell? ⟨b0, 0, none⟩ = some (.int .i64 2) ∧ w'.cell? ⟨b0, 1, none⟩ = some (.int .i64 a) ∧ w'.cell? ⟨b0, 2, none⟩ = some (.int .i64 b) ∧ w'.cell? ⟨d.D, 0, none⟩ = some (.pointer (some ⟨d.X, 0, none⟩)) ∧ w'.cell? ⟨d.D, 1, none⟩ = some (.pointer (some ⟨d.Y, 0, none⟩)) ∧ w'.cell? ⟨d.D, 2, none⟩ = some (.bool false) := fun w' hc => by
  refine ⟨(hc.k2.cell 0).trans ?_, (hc.k2.cell 1).trans ?_, (hc.k2.cell 2).trans ?_, hc.k1.cell 0, hc.k1.cell 1, (hc.k1.cell 2).trans ?_⟩
  ·rw [← hk]; rfl
  ·rw [← ha]; rfl
  ·rw [← hb]; rfl
  ·rw [← hbz]; rfl
 have Hcell := hd hcell
 obtain ⟨c0, c1, c2, _, _, _⟩ := hcell V hC
 have hbl := hC.k2.lt
 have hp0 := hLV.side.pair
 rw [hbz] at hp0
 have Hp0 := hd hp0
 have Hbz := hd hbz
 clear h hLV hC hcell hbz hk ha hb hfV hp0
 go_enter Tryz.func38, Tryz.ntmps38
 go_upto_region 1 with fail
 rw [← hV, ← hb0]
 clear hV hb0
 go_wp2_with fail
 have hK0 : Chg V.drew b0 d o := HC.out.nw ((Fr.refl _ V).drew)
 refine region_H chg6 10 (fun w'' => Chg w'' b0 d o) (by kernel_rfl) (by kernel_rfl) (by kernel_rfl) ?_
 refine take_at (i := 0) (d := some 16) (v := .pointer (some ⟨d.D, 0, none⟩)) (by kernel_rfl) (by kernel_rfl) (fun _ _ _ h => h) (fun w'' hS => by kernel_rfl) hK0 ?_
 refine take_at (i := 1) (d := some 17) (v := .pointer (some ⟨d.D, 0, none⟩)) (by kernel_rfl) (by kernel_rfl) (fun _ _ _ h => h) (fun w'' hS => by kernel_rfl) hK0 ?_
 refine take_at (i := 2) (d := some 18) (v := .pointer (some ⟨d.D, 0, none⟩)) (by kernel_rfl) (by kernel_rfl) (fun _ _ _ h => h) (fun w'' hS => by kernel_rfl) hK0 ?_
 refine take_at (i := 3) (d := some 19) (v := .pointer (some ⟨d.X, 0, none⟩)) (by kernel_rfl) (by kernel_rfl) (fun _ _ _ h => h) (fun w'' hS => exec_load 35 (.tmp 18) (by kernel_rfl) (by kernel_rfl) (by kernel_rfl) (Hcell.out w'' hS).2.2.2.1) hK0 ?_
 refine take_at (i := 4) (d := some 20) (v := .pointer (some ⟨b0, 1, none⟩)) (by kernel_rfl) (by kernel_rfl) (fun _ _ _ h => h) (fun w'' hS => by kernel_rfl) hK0 ?_
 refine take_at (i := 5) (d := some 21) (v := .int .i64 a) (by kernel_rfl) (by kernel_rfl) (fun _ _ _ h => h) (fun w'' hS => exec_load 3 (.tmp 20) (by kernel_rfl) (by kernel_rfl) (by kernel_rfl) (Hcell.out w'' hS).2.1) hK0 ?_
 refine take_at (i := 6) (d := some 22) (v := .pointer (some ⟨b0, 2, none⟩)) (by kernel_rfl) (by kernel_rfl) (fun _ _ _ h => h) (fun w'' hS => by kernel_rfl) hK0 ?_
 refine take_at (i := 7) (d := some 23) (v := .int .i64 b) (by kernel_rfl) (by kernel_rfl) (fun _ _ _ h => h) (fun w'' hS => exec_load 3 (.tmp 22) (by kernel_rfl) (by kernel_rfl) (by kernel_rfl) (Hcell.out w'' hS).2.2.1) hK0 ?_
 refine enter_at (i := 8) (d := some 24) (w' := V.drew) (f := 56) (args := #[.pointer (some ⟨d.X, 0, none⟩), .int .i64 a, .int .i64 b]) (by kernel_rfl) (by kernel_rfl) (by kernel_rfl) ?_
 have hdr : Nw V V.drew := (Fr.refl _ V).drew
 refine (fix_two a b (HV.out.env.step hdr) (Hp0.out.nw hdr)).mono ?_
 rintro e w1 ⟨r, rfl, hf1, hnext⟩
 have hK1 : Chg w1 b0 d o := hK0.fr hf1 (Hp0.out.nw hdr).at_.mem.only (by decide) (by decide)
 refine ⟨_, rfl, hK1, ?_⟩
 refine value_at (i := 9) (d := some 5) (v := .int .i64 r) (w' := w1) (by kernel_rfl) (by kernel_rfl) (by kernel_rfl) hK1 ?_
 refine wpAnyH_done (by kernel_rfl) ?_ _
 simp only [Act.put, List.setIfInBounds_toArray, List.set_cons_zero, List.set_cons_succ]
 have HK1 := hd hK1
 have Hnext := hd hnext
 obtain ⟨_, _, _, _, _, e2⟩ := Hcell.out w1 hK1
 have hDl := hK1.k1.lt
 clear hK1 hnext hf1 hK0 c0 c1 c2 hdr hbl
 go_wp2_with fail
 have hK2 : Chg w1.drew b0 d o := HK1.out.nw ((Fr.refl _ w1).drew)
 refine region_H chg10 16 (fun w'' => Chg w'' b0 d o) (by kernel_rfl) (by kernel_rfl) (by kernel_rfl) ?_
 refine take_at (i := 0) (d := some 40) (v := .pointer (some ⟨d.D, 0, none⟩)) (by kernel_rfl) (by kernel_rfl) (fun _ _ _ h => h) (fun w'' hS => by kernel_rfl) hK2 ?_
 refine take_at (i := 1) (d := some 41) (v := .int .i64 r) (by kernel_rfl) (by kernel_rfl) (fun _ _ _ h => h) (fun w'' hS => by kernel_rfl) hK2 ?_
 refine take_at (i := 2) (d := some 42) (v := .pointer (some ⟨d.D, 0, none⟩)) (by kernel_rfl) (by kernel_rfl) (fun _ _ _ h => h) (fun w'' hS => by kernel_rfl) hK2 ?_
 refine take_at (i := 3) (d := some 43) (v := .pointer (some ⟨d.D, 0, none⟩)) (by kernel_rfl) (by kernel_rfl) (fun _ _ _ h => h) (fun w'' hS => by kernel_rfl) hK2 ?_
 refine take_at (i := 4) (d := some 44) (v := .pointer (some ⟨d.D, 1, none⟩)) (by kernel_rfl) (by kernel_rfl) (fun _ _ _ h => h) (fun w'' hS => by kernel_rfl) hK2 ?_
 refine take_at (i := 5) (d := some 45) (v := .pointer (some ⟨d.Y, 0, none⟩)) (by kernel_rfl) (by kernel_rfl) (fun _ _ _ h => h) (fun w'' hS => exec_load 46 (.tmp 44) (by kernel_rfl) (by kernel_rfl) (by kernel_rfl) (Hcell.out w'' hS).2.2.2.2.1) hK2 ?_
 refine take_at (i := 6) (d := some 46) (v := .pointer (some ⟨b0, 1, none⟩)) (by kernel_rfl) (by kernel_rfl) (fun _ _ _ h => h) (fun w'' hS => by kernel_rfl) hK2 ?_
 refine take_at (i := 7) (d := some 47) (v := .int .i64 a) (by kernel_rfl) (by kernel_rfl) (fun _ _ _ h => h) (fun w'' hS => exec_load 3 (.tmp 46) (by kernel_rfl) (by kernel_rfl) (by kernel_rfl) (Hcell.out w'' hS).2.1) hK2 ?_
 refine take_at (i := 8) (d := some 48) (v := .pointer (some ⟨b0, 2, none⟩)) (by kernel_rfl) (by kernel_rfl) (fun _ _ _ h => h) (fun w'' hS => by kernel_rfl) hK2 ?_
 refine take_at (i := 9) (d := some 49) (v := .int .i64 b) (by kernel_rfl) (by kernel_rfl) (fun _ _ _ h => h) (fun w'' hS => exec_load 3 (.tmp 48) (by kernel_rfl) (by kernel_rfl) (by kernel_rfl) (Hcell.out w'' hS).2.2.1) hK2 ?_
 refine take_at (i := 10) (d := some 50) (v := .pointer (some ⟨b0, 0, none⟩)) (by kernel_rfl) (by kernel_rfl) (fun _ _ _ h => h) (fun w'' hS => by kernel_rfl) hK2 ?_
 refine take_at (i := 11) (d := some 51) (v := .int .i64 2) (by kernel_rfl) (by kernel_rfl) (fun _ _ _ h => h) (fun w'' hS => exec_load 3 (.tmp 50) (by kernel_rfl) (by kernel_rfl) (by kernel_rfl) (Hcell.out w'' hS).1) hK2 ?_
 refine take_at (i := 12) (d := some 52) (v := .bool true) (by kernel_rfl) (by kernel_rfl) (fun _ _ _ h => h) (fun w'' hS => by kernel_rfl) hK2 ?_
 refine enter_at (i := 13) (d := some 53) (w' := w1.drew) (f := 58) (args := #[.pointer (some ⟨d.Y, 0, none⟩), .int .i64 a, .int .i64 b, .bool true]) (by kernel_rfl) (by kernel_rfl) (by kernel_rfl) ?_
 refine (Hnext.out w1.drew ((Fr.refl _ w1).drew)).mono ?_
 rintro e w3 ⟨rfl, s', R', hp3, hs3, hW3⟩
 have hdr : Nw V V.drew := (Fr.refl _ V).drew
 have hK3 : Chg w3 b0 d o := (HC.out.nw hdr).fr hs3.fr (Hp0.out.nw hdr).onlyP (by decide) (by decide)
 refine ⟨_, rfl, hK3, ?_⟩
 refine enter_at (i := 14) (d := some 54) (w' := w3) (f := 57) (args := #[.pointer (some ⟨d.D, 0, none⟩), .int .i64 r, .int .i64 r]) (by kernel_rfl) (by kernel_rfl) (by kernel_rfl) ?_
 refine (answer_any _ r w3).mono ?_
 rintro e w4 ⟨rfl, rfl⟩
 refine ⟨_, rfl, hK3, ?_⟩
 refine value_at (i := 15) (d := some 4) (v := .bool true) (w' := w4) (by kernel_rfl) (by kernel_rfl) (by kernel_rfl) hK3 ?_
 refine wpAnyH_done (by kernel_rfl) ?_ _
 simp only [Act.put, List.setIfInBounds_toArray, List.set_cons_zero, List.set_cons_succ]
 rw [← Hbz.out] at hp3
 have Hfin := hd ((HV.out.nw hdr).pair hp3 hs3 hW3)
 have HfV2 := hd (HfV.out.trans hdr (fun _ x => x.elim))
 clear hK3 hK2 hp3 hs3 hW3 hdr Hnext HK1 e2 hDl
 go_wp2_with fail
 go_ret
 exact ⟨rfl, _, Hfin.out.1, (LStep.nw HfV2.out B L d).trans Hfin.out.2⟩

set_option maxHeartbeats 1600000 in
set_option maxRecDepth 1000000 in
theorem changes_remove (W : World) (lo B : Nat) (L : LW) (d : Sd) (o : OpV) (w : World) (h : LS W w lo B L d) (hbz : d.bz = false) (hk : o.kind = 3) :
  Calls Tryz.prog 38 #[.pointer (some ⟨d.D, 0, none⟩), .agg o.cells] w fun e w' => e = .returned (.bool true) ∧ ∃ d', LS W w' lo B L d' ∧ LStep w w' B L L d d' := by
 obtain ⟨b0, hb0⟩ : ∃ b0, b0 = w.heap.size := ⟨_, rfl⟩
 obtain ⟨V, hV⟩ : ∃ V, V = w.alloc (.cells o.cells 54) := ⟨_, rfl⟩
 have hfV : Nw w V := by rw [hV]; exact (Fr.refl _ w).alloc _
 have hC : Chg V b0 d o := ⟨h.side.blk.nw hfV, by rw [hV, hb0]; exact Blk.new _ _ _⟩
 have hLV := h.nw hfV
 have HC := hd hC
 have HV := hd hLV
 have HfV := hd hfV
 obtain ⟨a, ha⟩ : ∃ a, o.a = a := ⟨_, rfl⟩
 obtain ⟨b, hb⟩ : ∃ b, o.b = b := ⟨_, rfl⟩
 have hcell : ∀ w', Chg w' b0 d o → w'.cell? ⟨b0, 0, none⟩ = some (.int .i64 3) ∧ w'.cell? ⟨b0, 1, none⟩ = some (.int .i64 a) ∧ w'.cell? ⟨b0, 2, none⟩ = some (.int .i64 b) ∧ w'.cell? ⟨d.D, 0, none⟩ = some (.pointer (some ⟨d.X, 0, none⟩)) ∧ w'.cell? ⟨d.D, 1, none⟩ = some (.pointer (some ⟨d.Y, 0, none⟩)) ∧ w'.cell? ⟨d.D, 2, none⟩ = some (.bool false) := fun w' hc => by
  refine ⟨(hc.k2.cell 0).trans ?_, (hc.k2.cell 1).trans ?_, (hc.k2.cell 2).trans ?_, hc.k1.cell 0, hc.k1.cell 1, (hc.k1.cell 2).trans ?_⟩
  ·rw [← hk]; rfl
  ·rw [← ha]; rfl
  ·rw [← hb]; rfl
  ·rw [← hbz]; rfl
 have Hcell := hd hcell
 obtain ⟨c0, c1, c2, _, _, _⟩ := hcell V hC
 have hbl := hC.k2.lt
 have hp0 := hLV.side.pair
 rw [hbz] at hp0
 have Hp0 := hd hp0
 have Hbz := hd hbz
 clear h hLV hC hcell hbz hk ha hb hfV hp0
 go_enter Tryz.func38, Tryz.ntmps38
 go_upto_region 1 with fail
 rw [← hV, ← hb0]
 clear hV hb0
 go_wp2_with fail
 have hK0 : Chg V.drew b0 d o := HC.out.nw ((Fr.refl _ V).drew)
 refine region_H chg7 10 (fun w'' => Chg w'' b0 d o) (by kernel_rfl) (by kernel_rfl) (by kernel_rfl) ?_
 refine take_at (i := 0) (d := some 25) (v := .pointer (some ⟨d.D, 0, none⟩)) (by kernel_rfl) (by kernel_rfl) (fun _ _ _ h => h) (fun w'' hS => by kernel_rfl) hK0 ?_
 refine take_at (i := 1) (d := some 26) (v := .pointer (some ⟨d.D, 0, none⟩)) (by kernel_rfl) (by kernel_rfl) (fun _ _ _ h => h) (fun w'' hS => by kernel_rfl) hK0 ?_
 refine take_at (i := 2) (d := some 27) (v := .pointer (some ⟨d.D, 0, none⟩)) (by kernel_rfl) (by kernel_rfl) (fun _ _ _ h => h) (fun w'' hS => by kernel_rfl) hK0 ?_
 refine take_at (i := 3) (d := some 28) (v := .pointer (some ⟨d.X, 0, none⟩)) (by kernel_rfl) (by kernel_rfl) (fun _ _ _ h => h) (fun w'' hS => exec_load 35 (.tmp 27) (by kernel_rfl) (by kernel_rfl) (by kernel_rfl) (Hcell.out w'' hS).2.2.2.1) hK0 ?_
 refine take_at (i := 4) (d := some 29) (v := .pointer (some ⟨b0, 1, none⟩)) (by kernel_rfl) (by kernel_rfl) (fun _ _ _ h => h) (fun w'' hS => by kernel_rfl) hK0 ?_
 refine take_at (i := 5) (d := some 30) (v := .int .i64 a) (by kernel_rfl) (by kernel_rfl) (fun _ _ _ h => h) (fun w'' hS => exec_load 3 (.tmp 29) (by kernel_rfl) (by kernel_rfl) (by kernel_rfl) (Hcell.out w'' hS).2.1) hK0 ?_
 refine take_at (i := 6) (d := some 31) (v := .pointer (some ⟨b0, 2, none⟩)) (by kernel_rfl) (by kernel_rfl) (fun _ _ _ h => h) (fun w'' hS => by kernel_rfl) hK0 ?_
 refine take_at (i := 7) (d := some 32) (v := .int .i64 b) (by kernel_rfl) (by kernel_rfl) (fun _ _ _ h => h) (fun w'' hS => exec_load 3 (.tmp 31) (by kernel_rfl) (by kernel_rfl) (by kernel_rfl) (Hcell.out w'' hS).2.2.1) hK0 ?_
 refine enter_at (i := 8) (d := some 33) (w' := V.drew) (f := 13) (args := #[.pointer (some ⟨d.X, 0, none⟩), .int .i64 a, .int .i64 b]) (by kernel_rfl) (by kernel_rfl) (by kernel_rfl) ?_
 have hdr : Nw V V.drew := (Fr.refl _ V).drew
 refine (remove_two a b (HV.out.env.step hdr) (Hp0.out.nw hdr)).mono ?_
 rintro e w1 ⟨r, rfl, hf1, hnext⟩
 have hK1 : Chg w1 b0 d o := hK0.fr hf1 (Hp0.out.nw hdr).at_.mem.only (by decide) (by decide)
 refine ⟨_, rfl, hK1, ?_⟩
 refine value_at (i := 9) (d := some 5) (v := .int .i64 r) (w' := w1) (by kernel_rfl) (by kernel_rfl) (by kernel_rfl) hK1 ?_
 refine wpAnyH_done (by kernel_rfl) ?_ _
 simp only [Act.put, List.setIfInBounds_toArray, List.set_cons_zero, List.set_cons_succ]
 have HK1 := hd hK1
 have Hnext := hd hnext
 obtain ⟨_, _, _, _, _, e2⟩ := Hcell.out w1 hK1
 have hDl := hK1.k1.lt
 clear hK1 hnext hf1 hK0 c0 c1 c2 hdr hbl
 go_wp2_with fail
 have hK2 : Chg w1.drew b0 d o := HK1.out.nw ((Fr.refl _ w1).drew)
 refine region_H chg10 16 (fun w'' => Chg w'' b0 d o) (by kernel_rfl) (by kernel_rfl) (by kernel_rfl) ?_
 refine take_at (i := 0) (d := some 40) (v := .pointer (some ⟨d.D, 0, none⟩)) (by kernel_rfl) (by kernel_rfl) (fun _ _ _ h => h) (fun w'' hS => by kernel_rfl) hK2 ?_
 refine take_at (i := 1) (d := some 41) (v := .int .i64 r) (by kernel_rfl) (by kernel_rfl) (fun _ _ _ h => h) (fun w'' hS => by kernel_rfl) hK2 ?_
 refine take_at (i := 2) (d := some 42) (v := .pointer (some ⟨d.D, 0, none⟩)) (by kernel_rfl) (by kernel_rfl) (fun _ _ _ h => h) (fun w'' hS => by kernel_rfl) hK2 ?_
 refine take_at (i := 3) (d := some 43) (v := .pointer (some ⟨d.D, 0, none⟩)) (by kernel_rfl) (by kernel_rfl) (fun _ _ _ h => h) (fun w'' hS => by kernel_rfl) hK2 ?_
 refine take_at (i := 4) (d := some 44) (v := .pointer (some ⟨d.D, 1, none⟩)) (by kernel_rfl) (by kernel_rfl) (fun _ _ _ h => h) (fun w'' hS => by kernel_rfl) hK2 ?_
 refine take_at (i := 5) (d := some 45) (v := .pointer (some ⟨d.Y, 0, none⟩)) (by kernel_rfl) (by kernel_rfl) (fun _ _ _ h => h) (fun w'' hS => exec_load 46 (.tmp 44) (by kernel_rfl) (by kernel_rfl) (by kernel_rfl) (Hcell.out w'' hS).2.2.2.2.1) hK2 ?_
 refine take_at (i := 6) (d := some 46) (v := .pointer (some ⟨b0, 1, none⟩)) (by kernel_rfl) (by kernel_rfl) (fun _ _ _ h => h) (fun w'' hS => by kernel_rfl) hK2 ?_
 refine take_at (i := 7) (d := some 47) (v := .int .i64 a) (by kernel_rfl) (by kernel_rfl) (fun _ _ _ h => h) (fun w'' hS => exec_load 3 (.tmp 46) (by kernel_rfl) (by kernel_rfl) (by kernel_rfl) (Hcell.out w'' hS).2.1) hK2 ?_
 refine take_at (i := 8) (d := some 48) (v := .pointer (some ⟨b0, 2, none⟩)) (by kernel_rfl) (by kernel_rfl) (fun _ _ _ h => h) (fun w'' hS => by kernel_rfl) hK2 ?_
 refine take_at (i := 9) (d := some 49) (v := .int .i64 b) (by kernel_rfl) (by kernel_rfl) (fun _ _ _ h => h) (fun w'' hS => exec_load 3 (.tmp 48) (by kernel_rfl) (by kernel_rfl) (by kernel_rfl) (Hcell.out w'' hS).2.2.1) hK2 ?_
 refine take_at (i := 10) (d := some 50) (v := .pointer (some ⟨b0, 0, none⟩)) (by kernel_rfl) (by kernel_rfl) (fun _ _ _ h => h) (fun w'' hS => by kernel_rfl) hK2 ?_
 refine take_at (i := 11) (d := some 51) (v := .int .i64 3) (by kernel_rfl) (by kernel_rfl) (fun _ _ _ h => h) (fun w'' hS => exec_load 3 (.tmp 50) (by kernel_rfl) (by kernel_rfl) (by kernel_rfl) (Hcell.out w'' hS).1) hK2 ?_
 refine take_at (i := 12) (d := some 52) (v := .bool false) (by kernel_rfl) (by kernel_rfl) (fun _ _ _ h => h) (fun w'' hS => by kernel_rfl) hK2 ?_
 refine enter_at (i := 13) (d := some 53) (w' := w1.drew) (f := 58) (args := #[.pointer (some ⟨d.Y, 0, none⟩), .int .i64 a, .int .i64 b, .bool false]) (by kernel_rfl) (by kernel_rfl) (by kernel_rfl) ?_
 refine (Hnext.out w1.drew ((Fr.refl _ w1).drew)).mono ?_
 rintro e w3 ⟨rfl, s', R', hp3, hs3, hW3⟩
 have hdr : Nw V V.drew := (Fr.refl _ V).drew
 have hK3 : Chg w3 b0 d o := (HC.out.nw hdr).fr hs3.fr (Hp0.out.nw hdr).onlyP (by decide) (by decide)
 refine ⟨_, rfl, hK3, ?_⟩
 refine enter_at (i := 14) (d := some 54) (w' := w3) (f := 57) (args := #[.pointer (some ⟨d.D, 0, none⟩), .int .i64 r, .int .i64 r]) (by kernel_rfl) (by kernel_rfl) (by kernel_rfl) ?_
 refine (answer_any _ r w3).mono ?_
 rintro e w4 ⟨rfl, rfl⟩
 refine ⟨_, rfl, hK3, ?_⟩
 refine value_at (i := 15) (d := some 4) (v := .bool true) (w' := w4) (by kernel_rfl) (by kernel_rfl) (by kernel_rfl) hK3 ?_
 refine wpAnyH_done (by kernel_rfl) ?_ _
 simp only [Act.put, List.setIfInBounds_toArray, List.set_cons_zero, List.set_cons_succ]
 rw [← Hbz.out] at hp3
 have Hfin := hd ((HV.out.nw hdr).pair hp3 hs3 hW3)
 have HfV2 := hd (HfV.out.trans hdr (fun _ x => x.elim))
 clear hK3 hK2 hp3 hs3 hW3 hdr Hnext HK1 e2 hDl
 go_wp2_with fail
 go_ret
 exact ⟨rfl, _, Hfin.out.1, (LStep.nw HfV2.out B L d).trans Hfin.out.2⟩

end Go.Proofs.YtkjfpdfkcfgfkaaGreat

namespace Go.Proofs.YtkjfpdfkcfgfkaaGreat
open Go.RowKit

theorem eqFields_same {P : Program} (d : Nat) (xs : Array Value) (w : World) : ∀ (fs : List Field), (∀ f ∈ fs, ∃ v, (part f.type xs f.offset).run P w = .ok v w ∧ (Op.equalIn d f.type v v).run P w = .ok true w) → (Op.eqFields d xs xs fs).run P w = .ok true w
 | [], _ => by simp [Op.eqFields]
 | f :: fs, h => by
  have ih := eqFields_same d xs w fs (fun f hf => h f (List.mem_cons_of_mem _ hf))
  obtain ⟨v, h1, h2⟩ := h f (List.mem_cons_self ..)
  by_cases hn : f.name ≠ "_"
  ·simp [Op.eqFields, hn, h1, h2, ih, Result.andThen]
  ·simp only [Op.eqFields, if_neg hn]
   exact ih
def lookC (a b c : Int) (dd : Bool) (l f : Int) : Array Value := #[.int .i64 a, .int .i64 b, .int .i64 c, .bool dd, .int .i64 l, .int .i64 f]
theorem eql_look (a b c : Int) (dd : Bool) (l f : Int) (w : World) : (binOp .eql 110 (.agg (lookC a b c dd l f)) (.agg (lookC a b c dd l f))).run Tryz.prog w = .ok (.bool true) w := by
 have u1 : Tryz.prog.underlying 110 = some (.struct (Tryz.prog.fieldsOf 110)) := by kernel_rfl
 have hf : (Tryz.prog.fieldsOf 110).toList.map (fun f => (f.type, f.offset)) = [(3, 0), (3, 1), (3, 2), (4, 3), (3, 4), (3, 5)] := by kernel_rfl
 rw [run_eql_struct, run_equalIn_struct w 9999 _ _ _ u1 (by kernel_rfl), eqFields_same 9999 (lookC a b c dd l f) w _ (fun x hx => ?_), Result.andThen_ok]
 have hm : (x.type, x.offset) ∈ [((3 : TypeId), 0), (3, 1), (3, 2), (4, 3), (3, 4), (3, 5)] := by
  rw [← hf]
  exact List.mem_map_of_mem hx
 simp only [List.mem_cons, Prod.mk.injEq, List.not_mem_nil, or_false] at hm
 rcases hm with ⟨e1, e2⟩ | ⟨e1, e2⟩ | ⟨e1, e2⟩ | ⟨e1, e2⟩ | ⟨e1, e2⟩ | ⟨e1, e2⟩ <;> rw [e1, e2]
 ·exact ⟨.int .i64 a, by kernel_rfl, by rw [run_equalIn_int w 9998 _ _ .i64 a a Tryz.underlying3]; simp⟩
 ·exact ⟨.int .i64 b, by kernel_rfl, by rw [run_equalIn_int w 9998 _ _ .i64 b b Tryz.underlying3]; simp⟩
 ·exact ⟨.int .i64 c, by kernel_rfl, by rw [run_equalIn_int w 9998 _ _ .i64 c c Tryz.underlying3]; simp⟩
 ·exact ⟨.bool dd, by kernel_rfl, by rw [run_equalIn_bool' w 9998 _ dd dd Tryz.underlying4]; simp⟩
 ·exact ⟨.int .i64 l, by kernel_rfl, by rw [run_equalIn_int w 9998 _ _ .i64 l l Tryz.underlying3]; simp⟩
 ·exact ⟨.int .i64 f, by kernel_rfl, by rw [run_equalIn_int w 9998 _ _ .i64 f f Tryz.underlying3]; simp⟩
theorem exec_load6 {ev : Operand → Value} {o : Oper} {w : World} {b : Nat} {v0 v1 v2 v3 v4 v5 : Value} {e : TypeId} (t : TypeId) (x : Operand) (ho : o.op = .load t x) (hx : ev x = .pointer (some ⟨b, 0, none⟩)) (hag : (isAgg t).run Tryz.prog w = .ok true w) (hsz : (sizeOf t).run Tryz.prog w = .ok 6 w)
  (hb : Blk w b #[v0, v1, v2, v3, v4, v5] e) : (execOp ev o).run Tryz.prog w = .ok (.value (.agg #[v0, v1, v2, v3, v4, v5])) w := by
 have hl : ∀ (a : Addr) (v : Value), w.cell? a = some v → (Sem.load Mode.plain a Sem.pure).run Tryz.prog w = .ok v w := fun a v hc => by
  unfold Sem.run
  rw [hc]
  rfl
 have c0 : w.cell? ⟨b, 0, none⟩ = some v0 := hb.cell 0
 have c1 : w.cell? ⟨b, 1, none⟩ = some v1 := hb.cell 1
 have c2 : w.cell? ⟨b, 2, none⟩ = some v2 := hb.cell 2
 have c3 : w.cell? ⟨b, 3, none⟩ = some v3 := hb.cell 3
 have c4 : w.cell? ⟨b, 4, none⟩ = some v4 := hb.cell 4
 have c5 : w.cell? ⟨b, 5, none⟩ = some v5 := hb.cell 5
 unfold execOp
 simp [ho, hx, Instr.loadAt, Instr.sureAddr, loadVar, hag, hsz, Result.andThen, load, loadCells, loadCellsFrom, Addr.add, hl _ _ c0, hl _ _ c1, hl _ _ c2, hl _ _ c3, hl _ _ c4, hl _ _ c5]
theorem exec_eqlV {P : Program} {ev : Operand → Value} {o : Oper} {w : World} {r v u : Value} (x y : Operand) (t tb : TypeId) (ho : o.op = .binOp .eql t x y tb) (hx : ev x = v) (hy : ev y = u) (hg : (eqGuard .eql t x y v u).run P w = .ok () w) (h : (binOp .eql t v u).run P w = .ok r w) : (execOp ev o).run P w = .ok (.value r) w := by
 subst hx
 subst hy
 exact exec_eql x y t tb ho hg h
theorem guard_look (a b c : Int) (dd : Bool) (l f : Int) (x y : Operand) (w : World) : (eqGuard .eql 110 x y (.agg (lookC a b c dd l f)) (.agg (lookC a b c dd l f))).run Tryz.prog w = .ok () w := run_eqGuard_agg w _ _ _ _ _ _ (by kernel_rfl)
noncomputable def chg15 : Array Oper := regOps Tryz.f38 15

set_option maxHeartbeats 1600000 in
set_option maxRecDepth 1000000 in
theorem changes_look (W : World) (lo B : Nat) (L : LW) (d : Sd) (oc : Array Value) (w : World) (h : LS W w lo B L d) (hbz : d.bz = false) (hoc : oc[0]? = some (.int .i64 5)) :
  Calls Tryz.prog 38 #[.pointer (some ⟨d.D, 0, none⟩), .agg oc] w fun e w' => e = .returned (.bool true) ∧ Nw w w' := by
 obtain ⟨b0, hb0⟩ : ∃ b0, b0 = w.heap.size := ⟨_, rfl⟩
 obtain ⟨V, hV⟩ : ∃ V, V = w.alloc (.cells oc 54) := ⟨_, rfl⟩
 have hfV : Nw w V := by rw [hV]; exact (Fr.refl _ w).alloc _
 have hC : Blk V b0 oc 54 := by rw [hV, hb0]; exact Blk.new _ _ _
 have hLV := h.nw hfV
 have HV := hd hLV
 have HfV := hd hfV
 have c0 : V.cell? ⟨b0, 0, none⟩ = some (.int .i64 5) := (hC.cell 0).trans hoc
 have hbl := hC.lt
 have hp0 := hLV.side.pair
 rw [hbz] at hp0
 have Hp0 := hd hp0
 have Hcell := hd (show ∀ w', Blk w' d.D d.cells 52 → w'.cell? ⟨d.D, 0, none⟩ = some (.pointer (some ⟨d.X, 0, none⟩)) ∧ w'.cell? ⟨d.D, 1, none⟩ = some (.pointer (some ⟨d.Y, 0, none⟩)) ∧ w'.cell? ⟨d.D, 2, none⟩ = some (.bool false) from fun w' hc => ⟨hc.cell 0, hc.cell 1, (hc.cell 2).trans (by rw [← hbz]; rfl)⟩)
 obtain ⟨d0, _, _⟩ := Hcell.out V hLV.side.blk
 have hDl := hLV.side.blk.lt
 have Hcall := hd (look_two hp0)
 clear h hLV hC hbz hoc hfV hp0
 go_enter Tryz.func38, Tryz.ntmps38
 go_upto_region 1 with fail
 rw [← hV, ← hb0]
 clear hV hb0
 go_wp2_with (go_at_call 59; refine Hcall.out.mono ?_; rintro e w1 ⟨a, b, c, l, f, dd, rfl, hf1, hnext⟩; have Hf1 := hd hf1; have Hnext := hd hnext; obtain ⟨_, _, d2⟩ := Hcell.out w1 (HV.out.side.blk.nw hf1); have hDl1 := (HV.out.side.blk.nw hf1).lt; clear hf1 hnext)
 obtain ⟨wa, hwa⟩ : ∃ wa, w1.alloc (.cells #[.int .i64 (a : Int), .int .i64 (b : Int), .int .i64 (c : Int), .bool dd, .int .i64 (l : Int), .int .i64 (f : Int)] 110) = wa := ⟨_, rfl⟩
 have hfa : Nw w1 wa := by rw [← hwa]; exact (Fr.refl _ w1).alloc _
 have hba : Blk wa w1.heap.size #[.int .i64 (a : Int), .int .i64 (b : Int), .int .i64 (c : Int), .bool dd, .int .i64 (l : Int), .int .i64 (f : Int)] 110 := by rw [← hwa]; exact Blk.new _ _ _
 rw [hwa]
 have hVa : Nw V wa := Hf1.out.trans hfa (fun _ x => x.elim)
 have hbD := HV.out.side.blk.nw hVa
 have hK0 : Nw wa wa.drew := (Fr.refl _ wa).drew
 refine region_H chg15 8 (fun w'' => Nw wa w'') (by kernel_rfl) (by kernel_rfl) (by kernel_rfl) ?_
 refine take_at (i := 0) (d := some 69) (v := .agg (lookC a b c dd l f)) (by kernel_rfl) (by kernel_rfl) (fun _ _ _ h => h) (fun w'' hS => exec_load6 110 (.tmp 6) (by kernel_rfl) (by kernel_rfl) (by kernel_rfl) (by kernel_rfl) (hba.nw hS)) hK0 ?_
 refine take_at (i := 1) (d := some 70) (v := .pointer (some ⟨d.D, 0, none⟩)) (by kernel_rfl) (by kernel_rfl) (fun _ _ _ h => h) (fun w'' hS => by kernel_rfl) hK0 ?_
 refine take_at (i := 2) (d := some 71) (v := .pointer (some ⟨d.D, 0, none⟩)) (by kernel_rfl) (by kernel_rfl) (fun _ _ _ h => h) (fun w'' hS => by kernel_rfl) hK0 ?_
 refine take_at (i := 3) (d := some 72) (v := .pointer (some ⟨d.D, 1, none⟩)) (by kernel_rfl) (by kernel_rfl) (fun _ _ _ h => h) (fun w'' hS => by kernel_rfl) hK0 ?_
 refine take_at (i := 4) (d := some 73) (v := .pointer (some ⟨d.Y, 0, none⟩)) (by kernel_rfl) (by kernel_rfl) (fun _ _ _ h => h) (fun w'' hS => exec_load 46 (.tmp 72) (by kernel_rfl) (by kernel_rfl) (by kernel_rfl) (Hcell.out w'' (hbD.nw hS)).2.1) hK0 ?_
 refine enter_at (i := 5) (d := some 74) (w' := wa.drew) (f := 60) (args := #[.pointer (some ⟨d.Y, 0, none⟩)]) (by kernel_rfl) (by kernel_rfl) (by kernel_rfl) ?_
 refine (Hnext.out wa.drew (hVa.trans hK0 (fun _ x => x.elim))).mono ?_
 rintro e w3 ⟨rfl, hf3⟩
 have hK3 : Nw wa w3 := hK0.trans hf3 (fun _ x => x.elim)
 refine ⟨_, rfl, hK3, ?_⟩
 refine value_at (i := 6) (d := some 75) (v := .bool true) (w' := w3) (by kernel_rfl) (by kernel_rfl) (exec_eqlV (v := .agg (lookC a b c dd l f)) (u := .agg (lookC a b c dd l f)) (.tmp 69) (.tmp 74) 110 110 (by kernel_rfl) (by kernel_rfl) (by kernel_rfl) (guard_look a b c dd l f _ _ w3) (eql_look a b c dd l f w3)) hK3 ?_
 refine value_at (i := 7) (d := some 4) (v := .bool true) (w' := w3) (by kernel_rfl) (by kernel_rfl) (by kernel_rfl) hK3 ?_
 refine wpAnyH_done (by kernel_rfl) ?_ _
 simp only [Act.put, List.setIfInBounds_toArray, List.set_cons_zero, List.set_cons_succ]
 have Hfin := hd ((HfV.out.trans hVa (fun _ x => x.elim)).trans hK3 (fun _ x => x.elim))
 clear hK3 hK0 hf3 hVa hfa hba hwa hbD d2 hDl1 Hnext Hf1
 go_wp2_with fail
 go_ret
 exact ⟨rfl, Hfin.out⟩

set_option maxHeartbeats 1600000 in
set_option maxRecDepth 1000000 in
theorem changes_push (W : World) (lo B : Nat) (L : LW) (d : Sd) (o : OpV) (w : World) (h : LS W w lo B L d) (hbz : d.bz = false) (hk : o.kind = 6) :
  Calls Tryz.prog 38 #[.pointer (some ⟨d.D, 0, none⟩), .agg o.cells] w fun e w' => e = .returned (.bool true) ∧ ∃ d', LS W w' lo B L d' ∧ LStep w w' B L L d d' := by
 obtain ⟨b0, hb0⟩ : ∃ b0, b0 = w.heap.size := ⟨_, rfl⟩
 obtain ⟨V, hV⟩ : ∃ V, V = w.alloc (.cells o.cells 54) := ⟨_, rfl⟩
 have hfV : Nw w V := by rw [hV]; exact (Fr.refl _ w).alloc _
 have hC : Chg V b0 d o := ⟨h.side.blk.nw hfV, by rw [hV, hb0]; exact Blk.new _ _ _⟩
 have hLV := h.nw hfV
 have HC := hd hC
 have HV := hd hLV
 have HfV := hd hfV
 have hcell : ∀ w', Chg w' b0 d o → w'.cell? ⟨b0, 0, none⟩ = some (.int .i64 6) ∧ w'.cell? ⟨d.D, 0, none⟩ = some (.pointer (some ⟨d.X, 0, none⟩)) ∧ w'.cell? ⟨d.D, 1, none⟩ = some (.pointer (some ⟨d.Y, 0, none⟩)) ∧ w'.cell? ⟨d.D, 2, none⟩ = some (.bool false) := fun w' hc => by
  refine ⟨(hc.k2.cell 0).trans ?_, hc.k1.cell 0, hc.k1.cell 1, (hc.k1.cell 2).trans ?_⟩
  ·rw [← hk]; rfl
  ·rw [← hbz]; rfl
 have Hcell := hd hcell
 obtain ⟨c0, d0, d1, d2⟩ := hcell V hC
 have hbl := hC.k2.lt
 have hDl := hC.k1.lt
 have hp0 := hLV.side.pair
 rw [hbz] at hp0
 have Hp0 := hd hp0
 have Hbz := hd hbz
 clear h hLV hC hcell hbz hk hfV hp0
 go_enter Tryz.func38, Tryz.ntmps38
 go_upto_region 1 with fail
 rw [← hV, ← hb0]
 clear hV hb0
 go_wp2_with (first
  | (go_at_call 61; refine (push_two HV.out.env Hp0.out).mono ?_; rintro e w1 ⟨r, rfl, hf1, hnext⟩; have hK1 : Chg w1 b0 d o := HC.out.fr hf1 Hp0.out.at_.mem.only (by decide) (by decide); have Hnext := hd hnext; obtain ⟨x0, x1, x2, x3⟩ := Hcell.out w1 hK1; have xl := hK1.k1.lt; have xb := hK1.k2.lt; clear hf1 hnext hK1)
  | (go_at_call 63; refine (Hnext.out _ (Fr.refl _ _)).mono ?_; rintro e w3 ⟨rfl, s', R', hp3, hs3, hW3⟩; have hp3' : Pair d.bz W w3 lo d.X d.Y d.zs s' R' := (by rw [Hbz.out]; exact hp3); have Hfin := hd (HV.out.pair hp3' hs3 hW3); clear hp3 hs3 hW3 hp3')
  | (go_at_call 57; refine (answer_any _ r _).mono ?_; rintro e w4 ⟨rfl, rfl⟩))
 go_ret
 exact ⟨rfl, _, Hfin.out.1, (LStep.nw HfV.out B L d).trans Hfin.out.2⟩

set_option maxHeartbeats 1600000 in
set_option maxRecDepth 1000000 in
theorem changes_pop (W : World) (lo B : Nat) (L : LW) (d : Sd) (o : OpV) (w : World) (h : LS W w lo B L d) (hbz : d.bz = false) (hk : o.kind = 7) :
  Calls Tryz.prog 38 #[.pointer (some ⟨d.D, 0, none⟩), .agg o.cells] w fun e w' => e = .returned (.bool true) ∧ ∃ d', LS W w' lo B L d' ∧ LStep w w' B L L d d' := by
 obtain ⟨b0, hb0⟩ : ∃ b0, b0 = w.heap.size := ⟨_, rfl⟩
 obtain ⟨V, hV⟩ : ∃ V, V = w.alloc (.cells o.cells 54) := ⟨_, rfl⟩
 have hfV : Nw w V := by rw [hV]; exact (Fr.refl _ w).alloc _
 have hC : Chg V b0 d o := ⟨h.side.blk.nw hfV, by rw [hV, hb0]; exact Blk.new _ _ _⟩
 have hLV := h.nw hfV
 have HC := hd hC
 have HV := hd hLV
 have HfV := hd hfV
 have hcell : ∀ w', Chg w' b0 d o → w'.cell? ⟨b0, 0, none⟩ = some (.int .i64 7) ∧ w'.cell? ⟨d.D, 0, none⟩ = some (.pointer (some ⟨d.X, 0, none⟩)) ∧ w'.cell? ⟨d.D, 1, none⟩ = some (.pointer (some ⟨d.Y, 0, none⟩)) ∧ w'.cell? ⟨d.D, 2, none⟩ = some (.bool false) := fun w' hc => by
  refine ⟨(hc.k2.cell 0).trans ?_, hc.k1.cell 0, hc.k1.cell 1, (hc.k1.cell 2).trans ?_⟩
  ·rw [← hk]; rfl
  ·rw [← hbz]; rfl
 have Hcell := hd hcell
 obtain ⟨c0, d0, d1, d2⟩ := hcell V hC
 have hbl := hC.k2.lt
 have hDl := hC.k1.lt
 have hp0 := hLV.side.pair
 rw [hbz] at hp0
 have Hp0 := hd hp0
 have Hbz := hd hbz
 clear h hLV hC hcell hbz hk hfV hp0
 go_enter Tryz.func38, Tryz.ntmps38
 go_upto_region 1 with fail
 rw [← hV, ← hb0]
 clear hV hb0
 go_wp2_with (first
  | (go_at_call 62; refine (pop_two HV.out.env Hp0.out).mono ?_; rintro e w1 ⟨r, rfl, hf1, hnext⟩; have hK1 : Chg w1 b0 d o := HC.out.fr hf1 Hp0.out.at_.mem.only (by decide) (by decide); have Hnext := hd hnext; obtain ⟨x0, x1, x2, x3⟩ := Hcell.out w1 hK1; have xl := hK1.k1.lt; have xb := hK1.k2.lt; clear hf1 hnext hK1)
  | (go_at_call 64; refine (Hnext.out _ (Fr.refl _ _)).mono ?_; rintro e w3 ⟨rfl, s', R', hp3, hs3, hW3⟩; have hp3' : Pair d.bz W w3 lo d.X d.Y d.zs s' R' := (by rw [Hbz.out]; exact hp3); have Hfin := hd (HV.out.pair hp3' hs3 hW3); clear hp3 hs3 hW3 hp3')
  | (go_at_call 57; refine (answer_any _ r _).mono ?_; rintro e w4 ⟨rfl, rfl⟩))
 go_ret
 exact ⟨rfl, _, Hfin.out.1, (LStep.nw HfV.out B L d).trans Hfin.out.2⟩

end Go.Proofs.YtkjfpdfkcfgfkaaGreat

namespace Go.Proofs.YtkjfpdfkcfgfkaaGreat
open Go.RowKit

theorem row_blk {w : World} {g : Nat} {xs : List Value} {e : TypeId} (h : Blk w g xs.toArray e) (hm : xs.length ≤ maxLen) : Row w (.slice (some ⟨g, 0, none⟩) xs.length xs.length) e xs := ⟨by simp, .inr ⟨g, xs.length, xs.toArray, rfl, Nat.zero_le _, h, Nat.le_refl _, hm, by simp, by simp⟩⟩
theorem dom_two {W w : World} {lo X Y : Nat} {zs : List Int} {s : WS} {R : RS} (v : Nat) (h : Pair false W w lo X Y zs s R) (hv : v < zs.length) :
  Calls Tryz.prog 12 #[.pointer (some ⟨X, 0, none⟩), .int .i64 (v : Int)] w fun e w1 => ∃ xs : List Int, e = .returned (.tuple #[.slice (some ⟨w.heap.size, 0, none⟩) xs.length xs.length, .int .i64 0]) ∧ Nw w w1 ∧ Blk w1 w.heap.size (xs.map (Value.int .i64)).toArray 3 ∧ xs.length ≤ 8 ∧
   ∀ w2, Nw w1 w2 → Calls Tryz.prog 54 #[.pointer (some ⟨Y, 0, none⟩), .int .i64 (v : Int)] w2 fun e w3 => ∃ bo bc, e = .returned (.slice bo xs.length bc) ∧ IntsAt w3 bo xs ∧ Nw w2 w3 := by
 have hz := okSizes_len h.at_.mem.zok
 have h64 := h.at_.good.dm.lt v
 refine (domain_ok X s.szv s.d _ s.l zs v w h.at_.mem.blk h.at_.mem.sz hz.2 hv h.at_.good.dm.len (by omega) h.busy).mono ?_
 rintro e w1 ⟨rfl, hf, hb⟩
 have hvals := LinkD.vals h.now h.ref.rin.in8 h.ref.rin.b6 h.ref.rin.len v
 rw [if_pos hv] at hvals
 have hil : ∀ l : List Nat, ints l = (l.map (fun n : Nat => (n : Int))).map (Value.int .i64) := fun l => by simp [ints]
 have h8 : (vals (s.d.getD v 0)).length ≤ 8 := Nat.le_trans (List.length_filter_le _ _) (by simp)
 obtain ⟨xs, hxs⟩ : ∃ xs : List Int, (vals (s.d.getD v 0)).map (fun n : Nat => (n : Int)) = xs := ⟨_, rfl⟩
 have hxl : (vals (s.d.getD v 0)).length = xs.length := by rw [← hxs, List.length_map]
 rw [hil, hxs] at hb
 rw [hxl] at h8 ⊢
 refine ⟨xs, rfl, hf, hb, h8, fun w2 f2 => ?_⟩
 refine (refDomain_any lo Y zs R.szv R.now.inv R.now.vs R.now.bss R.now.dead R.tv R.lv v w2 (h.ref.nw (hf.trans f2 (fun _ x => x.elim))).rin (by rw [h.ref.rin.len]; exact hv)).mono ?_
 rintro e w3 ⟨v3, rfl, hM⟩
 have e1 : ints (if R.now.dead then [] else trueTo (R.now.bss.getD v []) (R.now.bss.getD v []).length) = xs.map (Value.int .i64) := by
  rw [← hxs, hvals, hil]
  rfl
 rw [e1] at hM
 obtain ⟨bo, bc, hf3, _⟩ := hM.row.form
 rw [List.length_map] at hf3
 refine ⟨bo, bc, by rw [hf3], ?_, hM.nw⟩
 have hr := hM.row
 rw [hf3] at hr
 exact hr.ints'

set_option maxHeartbeats 1600000 in
set_option maxRecDepth 1000000 in
theorem domains_arg (W : World) (lo B : Nat) (L : LW) (d : Sd) (v : Int) (w : World) (h : LS W w lo B L d) (hbz : d.bz = false) (hv : ¬ (0 ≤ v ∧ v < d.zs.length)) :
  Calls Tryz.prog 36 #[.pointer (some ⟨B, 0, none⟩), .pointer (some ⟨d.D, 0, none⟩), .int .i64 v] w fun e w' => e = .returned (.bool true) ∧ w' = w := by
 have hp := h.side.pair
 have hz := okSizes_len hp.at_.mem.zok
 have Hcall := hd (domain_no d.X d.s.szv d.s.d _ d.s.l d.zs v w hp.at_.mem.blk hp.at_.mem.sz hz.2 hv hp.at_.good.dm.len (by rw [hp.busy]; exact hbz))
 have c0 : w.cell? ⟨d.D, 0, none⟩ = some (.pointer (some ⟨d.X, 0, none⟩)) := h.side.blk.cell 0
 have c1 : w.cell? ⟨d.D, 1, none⟩ = some (.pointer (some ⟨d.Y, 0, none⟩)) := h.side.blk.cell 1
 have c2 : w.cell? ⟨d.D, 2, none⟩ = some (.bool false) := (h.side.blk.cell 2).trans (by rw [← hbz]; rfl)
 obtain ⟨szo, szc, hszf, _⟩ := hp.ref.rin.sz.form
 rw [List.length_map] at hszf
 have c3 : w.cell? ⟨d.Y, 0, none⟩ = some (.slice szo d.zs.length szc) := by
  have := hp.ref.rin.blk.cell 0
  rw [hszf] at this
  exact this
 have hDl := h.side.blk.lt
 have hYl := hp.ref.rin.blk.lt
 have hz8 := hz.2
 clear h hp hz hszf
 by_cases hv0 : v < 0
 ·go_enter Tryz.func36, Tryz.ntmps36
  go_wp2_with (go_at_call 12; refine Hcall.out.mono ?_; rintro e w1 ⟨rfl, rfl⟩)
  go_ret
  exact ⟨rfl, rfl⟩
 ·have hge : (d.zs.length : Int) ≤ v := by omega
  go_enter Tryz.func36, Tryz.ntmps36
  go_wp2_with (go_at_call 12; refine Hcall.out.mono ?_; rintro e w1 ⟨rfl, rfl⟩)
  go_ret
  exact ⟨rfl, rfl⟩

theorem LS.kept {W w w' : World} {lo B : Nat} {L : LW} {d : Sd} {g : Nat} {nv : Value} {news : List Value} {cur : Array Value} (h : LS W w lo B L d) (hg : Blk w g cur 3) (hgn : ¬ d.own g) (hW : W.heap.size ≤ g) (hL : LawAt w' lo B { L with nv := nv, nums := L.nums ++ news }) (hf : Fr (fun k => k = B ∨ L.nv.ownBlock = some k ∨ k = g) w w') (ho : ∀ k, LW.own B { L with nv := nv, nums := L.nums ++ news } k → L.own B k ∨ k = g ∨ w.heap.size ≤ k) :
  LS W w' lo B { L with nv := nv, nums := L.nums ++ news } d := by
 have hon : Only w (fun k => k = B ∨ L.nv.ownBlock = some k ∨ k = g) [29, 22, 3] := fun k cur' e hk hb => by
  rcases hk with rfl | hk | rfl
  ·rw [(hb.inj h.law.blk).2]
   decide
  ·obtain ⟨c2, hb2, _⟩ := h.law.keeps.rn.blk hk
   rw [(hb.inj hb2).2]
   decide
  ·rw [(hb.inj hg).2]
   decide
 have hBo : lo ≤ B := h.law.lo B (.inl rfl)
 refine ⟨⟨h.env.base, h.env.nw.trans hf (fun i hi => .inr ?_), Nat.le_trans h.env.le hf.size⟩, hL, h.side.fr hf (fun k hk hs => ?_) hon (by decide), fun k hk hd => ?_⟩
 ·have hb := h.env.base
  rcases hi with hi | hi | hi
  ·omega
  ·have := h.law.lo i (.inr (.inr (.inl hi)))
   omega
  ·omega
 ·rcases hs with hs | hs | hs
  ·exact h.apart k (.inl hs) hk
  ·exact h.apart k (.inr (.inr (.inl hs))) hk
  ·rw [hs] at hk
   exact hgn hk
 ·rcases ho k hk with h1 | h1 | h1
  ·exact h.apart k h1 hd
  ·rw [h1] at hd
   exact hgn hd
  ·have := h.side.lt hd
   omega

set_option maxHeartbeats 1600000 in
set_option maxRecDepth 1000000 in
theorem domains_ok (W : World) (lo B : Nat) (L : LW) (d : Sd) (v : Nat) (w : World) (h : LS W w lo B L d) (hbz : d.bz = false) (hv : v < d.zs.length) (hn : L.nums.length ≤ 68719476736) (h4 : L.nums.length % 4 = 0) :
  Calls Tryz.prog 36 #[.pointer (some ⟨B, 0, none⟩), .pointer (some ⟨d.D, 0, none⟩), .int .i64 (v : Int)] w fun e w' => e = .returned (.bool true) ∧ ∃ L', LS W w' lo B L' d ∧ LStep w w' B L L' d d ∧ L'.nums.length = L.nums.length + 4 ∧ L'.turned = L.turned ∧ L'.rows = L.rows := by
 have hp := h.side.pair
 rw [hbz] at hp
 have hz := okSizes_len hp.at_.mem.zok
 have Hcall := hd (dom_two v hp hv)
 have hcell : ∀ w', Nw w w' → w'.cell? ⟨d.D, 0, none⟩ = some (.pointer (some ⟨d.X, 0, none⟩)) ∧ w'.cell? ⟨d.D, 1, none⟩ = some (.pointer (some ⟨d.Y, 0, none⟩)) ∧ w'.cell? ⟨d.D, 2, none⟩ = some (.bool false) := fun w' f => ⟨(h.side.blk.nw f).cell 0, (h.side.blk.nw f).cell 1, ((h.side.blk.nw f).cell 2).trans (by rw [← hbz]; rfl)⟩
 have Hcell := hd hcell
 obtain ⟨c0, c1, c2⟩ := hcell w (Fr.refl _ _)
 obtain ⟨szo, szc, hszf, _⟩ := hp.ref.rin.sz.form
 rw [List.length_map] at hszf
 have Hsz := hd (show ∀ w', Nw w w' → w'.cell? ⟨d.Y, 0, none⟩ = some (.slice szo d.zs.length szc) from fun w' f => by
  have := (hp.ref.nw f).rin.blk.cell 0
  rw [hszf] at this
  exact this)
 have hDl := h.side.blk.lt
 have HY := hd hp.ref.rin.blk
 have hv0 : ¬ ((v : Int) < 0) := by omega
 have hvn : ¬ ((d.zs.length : Int) ≤ (v : Int)) := by omega
 have hz8 := hz.2
 have H := hd h
 clear h hp hz hszf hbz hcell
 go_enter Tryz.func36, Tryz.ntmps36
 go_wp2_with (first
  | (go_at_call 12; refine Hcall.out.mono ?_; rintro e w1 ⟨xs, rfl, hf1, hb1, hx8, hnext⟩; obtain ⟨x0, x1, x2⟩ := Hcell.out w1 hf1; have x3 := Hsz.out w1 hf1; have hDl1 := Nat.lt_of_lt_of_le hDl hf1.size; have hYl1 := (HY.out.nw hf1).lt; have Hnext := hd hnext; have Hf1 := hd hf1; have Hb1 := hd hb1; clear hf1 hb1 hnext)
  | (go_at_call 54; refine (Hnext.out _ (Fr.refl _ _)).mono ?_; rintro e w2 ⟨bo, bc, rfl, hI2, hf2⟩; have HI2 := hd hI2; have Hf2 := hd (Hf1.out.trans hf2 (fun _ x => x.elim)); have Hb2 := hd (Hb1.out.nw hf2); clear hI2 hf2)
  | (go_at_call 33; refine (sameInts_eq _ _ _ _ xs _ (by omega) (IntsAt.of_blk Hb2.out 0 xs (fun i hi => by simp [hi])) HI2.out).mono ?_; rintro e w3 ⟨rfl, n3, rfl⟩; have Hf3 := hd (Hf2.out.drewN n3); have Hb3 := hd (Hb2.out.drewN n3))
  | (go_at_call 19; refine (kept_any B _ _ _ _ _ _ _ _ (H.out.law.nw Hf3.out).blk (H.out.law.nw Hf3.out).keeps).mono ?_; rintro e w4 ⟨rfl, rfl⟩)
  | (go_at_call 52; refine (keep_any lo B L w.heap.size xs.length xs.length (xs.map (Value.int .i64)) _ (H.out.law.nw Hf3.out) (by simp) (by have := row_blk Hb3.out (by rw [List.length_map]; unfold maxLen; omega); rw [List.length_map] at this; exact this) (by omega) hn h4 (fun ho => by have := H.out.law.lt _ ho; omega) H.out.env.le (Nat.le_trans H.out.env.le Hf3.out.size)).mono ?_; rintro e w5 ⟨rfl, nv, news, k1, k2, k3, k4⟩; have Hfin := hd ((H.out.nw Hf3.out).kept Hb3.out (fun ho => by have := H.out.side.lt ho; omega) (Nat.le_trans H.out.env.base H.out.env.le) k2 k3 k4); have K1 := hd k1; have K3 := hd k3; have K4 := hd k4; clear k1 k2 k3 k4))
 go_ret
 have hs3 := Hf3.out.size
 refine ⟨rfl, _, Hfin.out, ⟨(Hf3.out.mono (fun _ x => x.elim)).trans K3.out (fun i hi => ?_), fun k hk => ?_, fun k hk => .inl hk, rfl, rfl, rfl, rfl, rfl, ?_⟩, ?_, rfl, rfl⟩
 ·rcases hi with hi | hi | hi
  ·exact .inl (.inl (.inl hi))
  ·exact .inl (.inl (.inr (.inr (.inl hi))))
  ·exact .inr (by omega)
 ·rcases K4.out k hk with h1 | h1 | h1
  ·exact .inl h1
  ·exact .inr (by omega)
  ·exact .inr (by omega)
 ·show (L.nums ++ news).length % 4 = _
  rw [List.length_append, K1.out]
  omega
 ·show (L.nums ++ news).length = _
  rw [List.length_append, K1.out]
end Go.Proofs.YtkjfpdfkcfgfkaaGreat

namespace Go.Proofs.YtkjfpdfkcfgfkaaGreat
open Go.RowKit

def lentV (g : Nat) (l : List Int) : Value := .slice (some ⟨g, 0, none⟩) (l.length + 1) (l.length + 1)
def cutV (g : Nat) (l : List Int) : Value := .slice (some ⟨g, 0, none⟩) l.length (l.length + 1)
def lentL (rows : List (List Int)) (gs : List Nat) : List Value := (List.range gs.length).map (fun j => lentV (gs.getD j 0) (rows.getD j []))
def cutL (rows : List (List Int)) (gs : List Nat) : List Value := (List.range gs.length).map (fun j => cutV (gs.getD j 0) (rows.getD j []))
theorem lentL_len (rows : List (List Int)) (gs : List Nat) : (lentL rows gs).length = gs.length := by simp [lentL]
theorem cutL_len (rows : List (List Int)) (gs : List Nat) : (cutL rows gs).length = gs.length := by simp [cutL]
theorem getD_snoc_lt {α : Type} (l : List α) (x d : α) (j : Nat) (h : j < l.length) : (l ++ [x]).getD j d = l.getD j d := by simp only [List.getD]; rw [List.getElem?_append_left h]
theorem getD_snoc_eq {α : Type} (l : List α) (x d : α) : (l ++ [x]).getD l.length d = x := by simp [List.getD]
theorem lentL_snoc (rows : List (List Int)) (gs : List Nat) (g : Nat) : lentL rows (gs ++ [g]) = lentL rows gs ++ [lentV g (rows.getD gs.length [])] := by
 unfold lentL
 rw [List.length_append, List.length_singleton, List.range_succ, List.map_append]
 congr 1
 ·refine List.map_congr_left fun j hj => ?_
  rw [getD_snoc_lt _ _ _ _ (List.mem_range.1 hj)]
 ·rw [List.map_singleton, getD_snoc_eq]
theorem cutL_snoc (rows : List (List Int)) (gs : List Nat) (g : Nat) : cutL rows (gs ++ [g]) = cutL rows gs ++ [cutV g (rows.getD gs.length [])] := by
 unfold cutL
 rw [List.length_append, List.length_singleton, List.range_succ, List.map_append]
 congr 1
 ·refine List.map_congr_left fun j hj => ?_
  rw [getD_snoc_lt _ _ _ _ (List.mem_range.1 hj)]
 ·rw [List.map_singleton, getD_snoc_eq]
theorem lentL_get (rows : List (List Int)) (gs : List Nat) (j : Nat) (h : j < gs.length) : (lentL rows gs)[j]? = some (lentV (gs.getD j 0) (rows.getD j [])) := by simp [lentL, h]
theorem cutL_get (rows : List (List Int)) (gs : List Nat) (j : Nat) (h : j < gs.length) : (cutL rows gs)[j]? = some (cutV (gs.getD j 0) (rows.getD j [])) := by simp [cutL, h]
def rowsC (rows : List (List Int)) (gs : List Nat) : List Value := cutL rows gs ++ List.replicate (rows.length + 1 - gs.length) nilS
theorem rowsC_len (rows : List (List Int)) (gs : List Nat) (h : gs.length ≤ rows.length) : (rowsC rows gs).length = rows.length + 1 := by
 unfold rowsC
 rw [List.length_append, cutL_len, List.length_replicate]
 omega
theorem rowsC_set (rows : List (List Int)) (gs : List Nat) (g : Nat) (h : gs.length < rows.length) : (rowsC rows gs).set gs.length (cutV g (rows.getD gs.length [])) = rowsC rows (gs ++ [g]) := by
 unfold rowsC
 rw [cutL_snoc, List.length_append, List.length_singleton, List.set_append, if_neg (by rw [cutL_len]; omega), cutL_len, Nat.sub_self, List.append_assoc]
 congr 1
 rw [show rows.length + 1 - gs.length = (rows.length + 1 - (gs.length + 1)) + 1 by omega, List.replicate_succ]
 rfl
theorem rowsC_get (rows : List (List Int)) (gs : List Nat) (j : Nat) (h : j < gs.length) : (rowsC rows gs)[j]? = some (cutV (gs.getD j 0) (rows.getD j [])) := by
 unfold rowsC
 rw [List.getElem?_append_left (by rw [cutL_len]; exact h), cutL_get _ _ _ h]
theorem rowsC_end (rows : List (List Int)) (gs : List Nat) (h : gs.length = rows.length) : (rowsC rows gs)[rows.length]? = some nilS := by
 unfold rowsC
 rw [List.getElem?_append_right (by rw [cutL_len]; omega), cutL_len, h, Nat.sub_self, Nat.add_sub_cancel_left]
 rfl
def lentC (l : List Int) : Array Value := ((l ++ [78]).map (Value.int .i64)).toArray
structure Copies (w : World) (lo1 RB : Nat) (rows : List (List Int)) (gs : List Nat) : Prop where
 rb : Blk w RB (rowsC rows gs).toArray 22
 each : ∀ j, j < gs.length → Blk w (gs.getD j 0) (lentC (rows.getD j [])) 3
 lo : ∀ g ∈ gs, lo1 ≤ g
 ne : gs.Pairwise (· ≠ ·)
 len : gs.length ≤ rows.length
theorem Copies.fr {S : Nat → Prop} {w w' : World} {lo1 RB : Nat} {rows : List (List Int)} {gs : List Nat} (h : Copies w lo1 RB rows gs) (f : Fr S w w') (h1 : ¬ S RB) (h2 : ∀ g ∈ gs, ¬ S g) : Copies w' lo1 RB rows gs :=
 ⟨h.rb.fr f h1, fun j hj => (h.each j hj).fr f (h2 _ (by rw [getD_of_lt _ _ _ hj]; exact List.getElem_mem hj)), h.lo, h.ne, h.len⟩
theorem Copies.nw {w w' : World} {lo1 RB : Nat} {rows : List (List Int)} {gs : List Nat} (h : Copies w lo1 RB rows gs) (f : Nw w w') : Copies w' lo1 RB rows gs := h.fr f (fun x => x) (fun _ _ x => x)
theorem Copies.rowsAt {w : World} {lo1 RB : Nat} {rows : List (List Int)} {gs : List Nat} (h : Copies w lo1 RB rows gs) (hl : gs.length = rows.length) : RowsAt w (some ⟨RB, 0, none⟩) rows := fun i hi => by
 have h1 := h.each i (by omega)
 have h2 := rowsC_get rows gs i (by omega)
 refine ⟨RB, 0, some ⟨gs.getD i 0, 0, none⟩, (rows.getD i []).length + 1, rfl, h.rb.lt, ?_, ?_⟩
 ·rw [Nat.zero_add, h.rb.cell]
  rw [List.getElem?_toArray]
  exact h2
 ·obtain ⟨r, hr⟩ : ∃ r, rows.getD i [] = r := ⟨_, rfl⟩
  rw [hr] at h1 ⊢
  exact IntsAt.of_blk h1 0 _ (fun j hj => by simp [lentC, List.getElem?_append_left, hj])
theorem exec_eqK {ev : Operand → Value} {o : Oper} {w : World} (a b : Int) (r : Bool) (x y : Operand) (ho : o.op = .binOp .eql 3 x y 3) (hx : ev x = .int .i64 a) (hy : ev y = .int .i64 b) (hr : (a == b) = r) : (execOp ev o).run Tryz.prog w = .ok (.value (.bool r)) w := by
 refine exec_eql x y 3 3 ho ?_ ?_
 ·rw [hx, hy]; kernel_rfl
 ·rw [hx, hy, ← hr]; kernel_rfl
theorem Tryz.infoRowsL : (Tryz.prog.info? 26).map (fun i => (i.zero, i.size, i.bytes)) = some (some (.slice none 0 0), 1, 24) := by kernel_rfl
theorem slice_highR (ao : Option Addr) (m cap n : Nat) (hn : n ≤ cap) (W : World) : (Instr.sliceAt 26 (.slice ao m cap) none (some (.int .i64 (n : Int))) none).run Tryz.prog W = .ok (sliced ao 0 n cap 1) W := by
 have hu : Tryz.prog.underlying 26 = some (.slice (Tryz.prog.elem 26)) := by kernel_rfl
 have he : Tryz.prog.elem 26 = 22 := by kernel_rfl
 have hz : (sizeOf 22).run Tryz.prog W = .ok 1 W := by kernel_rfl
 rw [run_sliceAt_slice _ _ _ _ _ _ hu]
 rw [run_slice_h _ _ _ _ _ hu _ _ (by omega) (by omega), he, hz]
 simp [Result.andThen]
theorem sliced_g (g n cap : Nat) : sliced (some ⟨g, 0, none⟩) 0 n cap 1 = .slice (some ⟨g, 0, none⟩) n cap := by
 unfold sliced
 simp [Addr.add]
theorem exec_cutI {ev : Operand → Value} {o : Oper} {w : World} {g m cap n : Nat} (x y : Operand) (ho : o.op = .slice 22 x none (some y) none) (hx : ev x = .slice (some ⟨g, 0, none⟩) m cap) (hy : ev y = .int .i64 (n : Int)) (hn : n ≤ cap) : (execOp ev o).run Tryz.prog w = .ok (.value (.slice (some ⟨g, 0, none⟩) n cap)) w := by
 have h1 := (slice_highI (some ⟨g, 0, none⟩) m cap n hn w).trans (by rw [sliced_g])
 unfold execOp
 simp [ho, hx, hy, h1, Result.andThen]
theorem exec_cutR {ev : Operand → Value} {o : Oper} {w : World} {g m cap n : Nat} (x y : Operand) (ho : o.op = .slice 26 x none (some y) none) (hx : ev x = .slice (some ⟨g, 0, none⟩) m cap) (hy : ev y = .int .i64 (n : Int)) (hn : n ≤ cap) : (execOp ev o).run Tryz.prog w = .ok (.value (.slice (some ⟨g, 0, none⟩) n cap)) w := by
 have h1 := (slice_highR (some ⟨g, 0, none⟩) m cap n hn w).trans (by rw [sliced_g])
 unfold execOp
 simp [ho, hx, hy, h1, Result.andThen]
noncomputable def pstR10 : Array Oper := regOps Tryz.f53 10
noncomputable def pstR15 : Array Oper := regOps Tryz.f53 15
noncomputable def pstR16 : Array Oper := regOps Tryz.f53 16
noncomputable def pstR25 : Array Oper := regOps Tryz.f53 25
structure PBlk (w : World) (B0 : Nat) (d : Sd) (tc : Array Value) : Prop where
 k1 : Blk w d.D d.cells 52
 k2 : Blk w B0 tc 41
theorem rowsC_at (rows : List (List Int)) (gs : List Nat) (h : gs.length ≤ rows.length) : (rowsC rows gs)[gs.length]? = some nilS := by
 unfold rowsC
 rw [List.getElem?_append_right (by rw [cutL_len]; omega), cutL_len, Nat.sub_self, List.getElem?_replicate, if_pos (by omega)]
theorem Copies.int {w : World} {lo1 RB : Nat} {rows : List (List Int)} {gs : List Nat} (h : Copies w lo1 RB rows gs) {g : Nat} (hg : g ∈ gs) : ∃ cur, Blk w g cur 3 := by
 obtain ⟨j, hj, e⟩ := List.getElem_of_mem hg
 have := h.each j hj
 rw [getD_of_lt _ _ _ hj, e] at this
 exact ⟨_, this⟩
theorem app1n {w w1 : World} {e : TypeId} {v v' x : Value} {xs : List Value} {n : Nat} (hn : xs.length = n) (h1 : w1.ownsRow 0 e 1 v' (n + 1) (xs ++ [x])) (hg : (w.alloc (.cells #[x] e)).grownBy w1 v.ownBlock) (hat : v'.ownBlock = v.ownBlock ∨ v'.ownBlock = some (w.alloc (.cells #[x] e)).heap.size) :
  ∃ g cap, v' = .slice (some ⟨g, 0, none⟩) (n + 1) cap ∧ Row w1 v' e (xs ++ [x]) ∧ Fr (fun k => v.ownBlock = some k) w w1 ∧ (v.ownBlock = some g ∨ g = w.heap.size + 1) ∧ g < w1.heap.size := by
 subst hn
 exact app1 h1 hg hat
theorem rowN {w : World} {v : Value} {e : TypeId} {xs : List Value} {n : Nat} (h : Row w v e xs) (hn : xs.length = n) : w.ownsRow 0 e 1 v n xs := by
 subst hn
 exact h
theorem made_nil (n : Nat) : madeCells (Value.slice none 0 0).cells (n * 1) = (List.replicate n nilS).toArray := by
 rw [Nat.mul_one]
 unfold madeCells
 apply Array.ext
 ·simp
 ·intro i h1 h2
  simp only [Array.getElem_map, Array.getElem_range, Value.cells, List.getElem_toArray, List.getElem_replicate]
  show #[Value.slice none 0 0][i % 1]! = _
  rw [Nat.mod_one]
  rfl
theorem rowsC_nil (rows : List (List Int)) : rowsC rows [] = List.replicate (rows.length + 1) nilS := by simp [rowsC, cutL]

structure Ret (wp wq : World) (B RB VB : Nat) (L : LW) (ow : Value) (rows : List (List Int)) (gs : List Nat) (vars : List Int) (k : Nat) (tv : Value) : Prop where
 blk : Blk wq B #[L.sv, L.nv, tv, L.rv] 29
 row : Row wq tv 22 (L.turned ++ [lentV VB vars] ++ (lentL rows gs).take k)
 rb : Blk wq RB (rowsC rows gs).toArray 22
 todo : ∀ j, k ≤ j → j < gs.length → Blk wq (gs.getD j 0) (lentC (rows.getD j [])) 3
 done : ∀ j, j < k → Blk wq (gs.getD j 0) (turnedTo (rows.getD j []) ((rows.getD j []).length + 1)) 3
 vb : Blk wq VB (turnedTo vars (vars.length + 1)) 3
 own : Row wq ow 22 (lentL rows gs)
 fr : Fr (fun q => q = B ∨ L.tv.ownBlock = some q ∨ q = VB ∨ q ∈ gs) wp wq
 grow : ∀ q, tv.ownBlock = some q → L.tv.ownBlock = some q ∨ wp.heap.size ≤ q
theorem Ret.first {wp w5 : World} {lo lo1 B RB VB : Nat} {L : LW} {ow : Value} {rows : List (List Int)} {gs : List Nat} {vars : List Int} {tv : Value} (hL : LawAt wp lo B L) (hC : Copies wp lo1 RB rows gs) (hO : Row wp ow 22 (lentL rows gs)) (hV : Blk wp VB (lentC vars) 3) (hVB : VB ∉ gs) (hRt : ∀ q, L.tv.ownBlock = some q → q ≠ RB ∧ ow.ownBlock ≠ some q)
  (hf : Fr (fun q => q = B ∨ q = VB ∨ L.tv.ownBlock = some q) wp w5) (hb : Blk w5 B #[L.sv, L.nv, tv, L.rv] 29) (hr : Row w5 tv 22 (L.turned ++ [lentV VB vars])) (hg : Blk w5 VB (turnedTo vars (vars.length + 1)) 3) (hgr : ∀ q, tv.ownBlock = some q → L.tv.ownBlock = some q ∨ wp.heap.size ≤ q) :
  Ret wp w5 B RB VB L ow rows gs vars 0 tv := by
 have hI : ∀ {q : Nat} {cur : Array Value}, Blk wp q cur 22 → L.tv.ownBlock ≠ some q → ¬ (q = B ∨ q = VB ∨ L.tv.ownBlock = some q) := fun hq hn hs => by
  rcases hs with hs | hs | hs
  ·rw [hs] at hq
   exact absurd (hq.inj hL.blk).2 (by decide)
  ·rw [hs] at hq
   exact absurd (hq.inj hV).2 (by decide)
  ·exact hn hs
 refine ⟨hb, by rw [List.take_zero, List.append_nil]; exact hr, hC.rb.fr hf (hI hC.rb (fun e => (hRt RB e).1 rfl)), fun j _ hj => (hC.each j hj).fr hf (fun hs => ?_), fun j hj => absurd hj (Nat.not_lt_zero _), hg, hO.fr hf (fun q hq => ?_), hf.mono (fun q hq => .inl ?_), hgr⟩
 ·have hq := hC.each j hj
  rcases hs with hs | hs | hs
  ·rw [hs] at hq
   exact absurd (hq.inj hL.blk).2 (by decide)
  ·refine hVB ?_
   rw [← hs, getD_of_lt _ _ _ hj]
   exact List.getElem_mem hj
  ·obtain ⟨cur', hb', _⟩ := hL.keeps.rt.blk hs
   exact absurd (hq.inj hb').2 (by decide)
 ·obtain ⟨cur, hb', _⟩ := hO.blk hq
  exact hI hb' (fun e => (hRt q e).2 hq)
 ·rcases hq with hq | hq | hq
  ·exact .inl hq
  ·exact .inr (.inr (.inl hq))
  ·exact .inr (.inl hq)
theorem Ret.next {wp wq w' : World} {B RB VB : Nat} {L : LW} {ow : Value} {rows : List (List Int)} {gs : List Nat} {vars : List Int} {k : Nat} {tv tv' : Value} (h : Ret wp wq B RB VB L ow rows gs vars k tv) (hk : k < gs.length) (hne : gs.Pairwise (· ≠ ·)) (hVB : VB ∉ gs) (hRt : ∀ q, L.tv.ownBlock = some q → q ≠ RB ∧ ow.ownBlock ≠ some q) (hRl : RB < wp.heap.size) (hol : ∀ q, ow.ownBlock = some q → q < wp.heap.size)
  (hf : Fr (fun q => q = B ∨ q = gs.getD k 0 ∨ tv.ownBlock = some q) wq w') (hb : Blk w' B #[L.sv, L.nv, tv', L.rv] 29) (hr : Row w' tv' 22 ((L.turned ++ [lentV VB vars] ++ (lentL rows gs).take k) ++ [lentV (gs.getD k 0) (rows.getD k [])])) (hg : Blk w' (gs.getD k 0) (turnedTo (rows.getD k []) ((rows.getD k []).length + 1)) 3) (hgr : ∀ q, tv'.ownBlock = some q → tv.ownBlock = some q ∨ wq.heap.size ≤ q) :
  Ret wp w' B RB VB L ow rows gs vars (k + 1) tv' := by
 have hint : ∀ {q : Nat} {cur : Array Value}, Blk wq q cur 3 → q ≠ gs.getD k 0 → ¬ (q = B ∨ q = gs.getD k 0 ∨ tv.ownBlock = some q) := fun hq hn hs => by
  rcases hs with hs | hs | hs
  ·rw [hs] at hq
   exact absurd (hq.inj h.blk).2 (by decide)
  ·exact hn hs
  ·obtain ⟨cur', hb', _⟩ := h.row.blk hs
   exact absurd (hq.inj hb').2 (by decide)
 have hgk := h.todo k (Nat.le_refl _) hk
 have hI : ∀ {q : Nat} {cur : Array Value}, Blk wq q cur 22 → tv.ownBlock ≠ some q → ¬ (q = B ∨ q = gs.getD k 0 ∨ tv.ownBlock = some q) := fun hq hn hs => by
  rcases hs with hs | hs | hs
  ·rw [hs] at hq
   exact absurd (hq.inj h.blk).2 (by decide)
  ·rw [hs] at hq
   exact absurd (hq.inj hgk).2 (by decide)
  ·exact hn hs
 have hidx : ∀ j, j < gs.length → j ≠ k → gs.getD j 0 ≠ gs.getD k 0 := fun j hj hjk e => by
  rw [getD_of_lt _ _ _ hj, getD_of_lt _ _ _ hk] at e
  have hp := List.pairwise_iff_getElem.1 hne
  rcases Nat.lt_or_gt_of_ne hjk with h1 | h1
  ·exact hp j k hj hk h1 e
  ·exact hp k j hk hj h1 e.symm
 refine ⟨hb, ?_, h.rb.fr hf (hI h.rb (fun e => ?_)), fun j h1 h2 => (h.todo j (by omega) h2).fr hf (hint (h.todo j (by omega) h2) (hidx j h2 (by omega))), fun j hj => ?_, h.vb.fr hf (hint h.vb (fun e => hVB ?_)), h.own.fr hf (fun q hq => ?_), h.fr.trans hf (fun q hq => ?_), fun q hq => ?_⟩
 ·rw [List.take_add_one, lentL_get _ _ _ hk, ← List.append_assoc]
  exact hr
 ·rcases h.grow RB e with h1 | h1
  ·exact (hRt RB h1).1 rfl
  ·omega
 ·by_cases e : j = k
  ·rw [e]
   exact hg
  ·have := h.done j (by omega)
   exact this.fr hf (hint this (hidx j (by omega) e))
 ·rw [e, getD_of_lt _ _ _ hk]
  exact List.getElem_mem hk
 ·obtain ⟨cur, hb', _⟩ := h.own.blk hq
  refine hI hb' (fun e => ?_)
  rcases h.grow q e with h1 | h1
  ·exact (hRt q h1).2 hq
  ·have := hol q hq
   omega
 ·rcases hq with hq | hq | hq
  ·exact .inl (.inl hq)
  ·exact .inl (.inr (.inr (.inr (by rw [hq, getD_of_lt _ _ _ hk]; exact List.getElem_mem hk))))
  ·rcases h.grow q hq with h1 | h1
   ·exact .inl (.inr (.inl h1))
   ·exact .inr h1
 ·rcases hgr q hq with h1 | h1
  ·exact h.grow q h1
  ·exact .inr (Nat.le_trans h.fr.size h1)

structure PEnd (w wp w7 : World) (B RB VB hi : Nat) (L : LW) (rows : List (List Int)) (gs : List Nat) (vars : List Int) (tv rv : Value) (cs : List Value) : Prop where
 fr : Fr (fun q => q = B ∨ L.tv.ownBlock = some q ∨ L.rv.ownBlock = some q ∨ q = VB ∨ q ∈ gs ∨ q = RB) wp w7
 blk : Blk w7 B #[L.sv, L.nv, tv, rv] 29
 rt : Row w7 tv 22 (L.turned ++ [lentV VB vars] ++ lentL rows gs)
 rr : Row w7 rv 26 (L.rows ++ [.slice (some ⟨RB, 0, none⟩) (rows.length + 1) (rows.length + 1)])
 rb : Blk w7 RB cs.toArray 22
 cl : cs.length = rows.length + 1
 cn : ∀ j, j < rows.length + 1 → cs[j]? = some (.slice none 0 0)
 vb : Blk w7 VB (turnedTo vars (vars.length + 1)) 3
 gb : ∀ j, j < gs.length → Blk w7 (gs.getD j 0) (turnedTo (rows.getD j []) ((rows.getD j []).length + 1)) 3
 gt : ∀ q, tv.ownBlock = some q → L.tv.ownBlock = some q ∨ wp.heap.size ≤ q
 gr : ∀ q, rv.ownBlock = some q → L.rv.ownBlock = some q ∨ wp.heap.size ≤ q
 n1 : w.heap.size ≤ VB ∧ VB < hi
 n2 : w.heap.size ≤ RB ∧ RB < hi
 n3 : ∀ g ∈ gs, w.heap.size ≤ g ∧ g < hi
 n4 : w.heap.size ≤ wp.heap.size ∧ hi ≤ wp.heap.size
 on : Only wp (fun q => q = B ∨ L.tv.ownBlock = some q ∨ L.rv.ownBlock = some q ∨ q = VB ∨ q ∈ gs ∨ q = RB) [29, 22, 3, 26]
def LW.post (L : LW) (tv rv : Value) (news : List Value) (r : Value) : LW := { L with tv := tv, rv := rv, turned := L.turned ++ news, rows := L.rows ++ [r] }
theorem PEnd.own {w wp w7 : World} {B RB VB hi : Nat} {L : LW} {rows : List (List Int)} {gs : List Nat} {vars : List Int} {tv rv : Value} {cs : List Value} (h : PEnd w wp w7 B RB VB hi L rows gs vars tv rv cs) (q : Nat) (hq : (L.post tv rv ([lentV VB vars] ++ lentL rows gs) (.slice (some ⟨RB, 0, none⟩) (rows.length + 1) (rows.length + 1))).own B q) :
  L.own B q ∨ (w.heap.size ≤ q ∧ q < hi) ∨ wp.heap.size ≤ q := by
 rcases hq with hq | hq | hq | hq | hq | hq | ⟨v, hv, hq⟩ | ⟨v, hv, hq⟩
 ·exact .inl (.inl hq)
 ·exact .inl (.inr (.inl hq))
 ·exact .inl (.inr (.inr (.inl hq)))
 ·rcases h.gt q hq with h1 | h1
  ·exact .inl (.inr (.inr (.inr (.inl h1))))
  ·exact .inr (.inr h1)
 ·rcases h.gr q hq with h1 | h1
  ·exact .inl (.inr (.inr (.inr (.inr (.inl h1)))))
  ·exact .inr (.inr h1)
 ·exact .inl (.inr (.inr (.inr (.inr (.inr (.inl hq))))))
 ·rcases List.mem_append.1 hv with hv | hv
  ·exact .inl (.inr (.inr (.inr (.inr (.inr (.inr (.inl ⟨v, hv, hq⟩)))))))
  ·rcases List.mem_append.1 hv with hv | hv
   ·rw [List.mem_singleton.1 hv] at hq
    cases hq
    exact .inr (.inl h.n1)
   ·obtain ⟨j, hj, rfl⟩ := List.mem_map.1 hv
    cases hq
    have hjl := List.mem_range.1 hj
    rw [getD_of_lt _ _ _ hjl]
    exact .inr (.inl (h.n3 _ (List.getElem_mem hjl)))
 ·rcases List.mem_append.1 hv with hv | hv
  ·exact .inl (.inr (.inr (.inr (.inr (.inr (.inr (.inr ⟨v, hv, hq⟩)))))))
  ·rw [List.mem_singleton.1 hv] at hq
   cases hq
   exact .inr (.inl h.n2)
theorem PEnd.law {w wp w7 : World} {lo B RB VB hi : Nat} {L : LW} {rows : List (List Int)} {gs : List Nat} {vars : List Int} {tv rv : Value} {cs : List Value} (h : PEnd w wp w7 B RB VB hi L rows gs vars tv rv cs) (hL : LawAt w lo B L) (hp : LawAt wp lo B L) (hlw : lo ≤ w.heap.size) (hgl : gs.length = rows.length) (hvl : vars.length ≤ 1048576) (hrl : rows.length ≤ 1048576) (hrr : ∀ r ∈ rows, r.length ≤ 1048576) (htl : L.turned.length ≤ 8388608) (hrw : L.rows.length ≤ 8388608) :
  LawAt w7 lo B (L.post tv rv ([lentV VB vars] ++ lentL rows gs) (.slice (some ⟨RB, 0, none⟩) (rows.length + 1) (rows.length + 1))) := by
 have hn4 := h.n4
 have hn2 := h.n2
 have hn1 := h.n1
 have hs7 := h.fr.size
 have hno : ∀ q cur e, L.own B q → Blk wp q cur e → e ≠ 29 → L.tv.ownBlock ≠ some q → L.rv.ownBlock ≠ some q → ¬ (q = B ∨ L.tv.ownBlock = some q ∨ L.rv.ownBlock = some q ∨ q = VB ∨ q ∈ gs ∨ q = RB) := fun q cur e hq hb he h2 h3 h4 => by
  have hlt := hL.lt q hq
  rcases h4 with h4 | h4 | h4 | h4 | h4 | h4
  ·rw [h4] at hb
   exact he (hb.inj hp.blk).2
  ·exact h2 h4
  ·exact h3 h4
  ·omega
  ·have := h.n3 q h4
   omega
  ·omega
 have ht : ∀ q cur e, Blk wp q cur e → e ≠ 22 → L.tv.ownBlock ≠ some q := fun q cur e hb he hq => by
  obtain ⟨c2, hb2, _⟩ := hp.keeps.rt.blk hq
  exact he (hb.inj hb2).2
 have hr : ∀ q cur e, Blk wp q cur e → e ≠ 26 → L.rv.ownBlock ≠ some q := fun q cur e hb he hq => by
  obtain ⟨c2, hb2, _⟩ := hp.keeps.rr.blk hq
  exact he (hb.inj hb2).2
 have k1 := fun q hq => (by
  obtain ⟨cur, hb, _⟩ := hp.sides.blk (k := q) hq
  exact hno q cur _ (.inr (.inl hq)) hb (by decide) (ht q cur _ hb (by decide)) (hr q cur _ hb (by decide)) : ¬ _)
 have k2 := fun q hq => (by
  obtain ⟨cur, hb, _⟩ := hp.keeps.rn.blk (k := q) hq
  exact hno q cur _ (.inr (.inr (.inl hq))) hb (by decide) (hL.nt q hq) (hr q cur _ hb (by decide)) : ¬ _)
 have k4 : ∀ v, v ∈ L.nums ∨ v ∈ L.turned → ∀ q, v.ownBlock = some q → ¬ (q = B ∨ L.tv.ownBlock = some q ∨ L.rv.ownBlock = some q ∨ q = VB ∨ q ∈ gs ∨ q = RB) := fun v hv q hq => by
  obtain ⟨cur, hb⟩ := hp.ints v hv q hq
  exact hno q cur _ (hv.elim (fun hv => .inr (.inr (.inr (.inr (.inr (.inl ⟨v, hv, hq⟩)))))) (fun hv => .inr (.inr (.inr (.inr (.inr (.inr (.inl ⟨v, hv, hq⟩)))))))) hb (by decide) (ht q cur _ hb (by decide)) (hr q cur _ hb (by decide))
 have k6 : ∀ v, v ∈ L.rows → ∀ q, v.ownBlock = some q → ¬ (q = B ∨ L.tv.ownBlock = some q ∨ L.rv.ownBlock = some q ∨ q = VB ∨ q ∈ gs ∨ q = RB) := fun v hv q hq => by
  obtain ⟨cur, hb⟩ := hp.nils v hv q hq
  exact hno q cur _ (.inr (.inr (.inr (.inr (.inr (.inr (.inr ⟨v, hv, hq⟩))))))) hb (by decide) (fun e => hL.tr q e v hv hq) (hr q cur _ hb (by decide))
 have hlen : (L.turned ++ ([lentV VB vars] ++ lentL rows gs)).length = L.turned.length + 1 + rows.length := by
  rw [List.length_append, List.length_append, lentL_len, List.length_singleton, hgl]
  omega
 have hnewI : ∀ v ∈ [lentV VB vars] ++ lentL rows gs, AllAre w7 v (-7) ∧ ∀ q, v.ownBlock = some q → ∃ cur, Blk w7 q cur 3 := fun v hv => by
  rcases List.mem_append.1 hv with hv | hv
  ·rw [List.mem_singleton.1 hv]
   refine ⟨turned_all h.vb (by omega), fun q hq => ?_⟩
   cases hq
   exact ⟨_, h.vb⟩
  ·obtain ⟨j, hj, rfl⟩ := List.mem_map.1 hv
   have hjl := List.mem_range.1 hj
   have hjr : j < rows.length := by omega
   have hrl := hrr (rows.getD j []) (by rw [getD_of_lt _ _ _ hjr]; exact List.getElem_mem hjr)
   refine ⟨turned_all (h.gb j hjl) (by omega), fun q hq => ?_⟩
   cases hq
   exact ⟨_, h.gb j hjl⟩
 have hrb : AllNil w7 (.slice (some ⟨RB, 0, none⟩) (rows.length + 1) (rows.length + 1)) := ⟨_, _, _, rfl, by omega, fun i hi => ⟨RB, 0, rfl, h.rb.lt, by rw [Nat.zero_add, h.rb.cell, List.getElem?_toArray]; exact h.cn i hi⟩⟩
 have hk := hp.keeps
 have hallI : ∀ v ∈ L.turned ++ ([lentV VB vars] ++ lentL rows gs), AllAre w7 v (-7) := fun v hv => by
  rcases List.mem_append.1 hv with hv | hv
  ·obtain ⟨i, hi, rfl⟩ := List.getElem_of_mem hv
   exact (hk.at_ i hi).fr h.fr (k4 _ (.inr hv))
  ·exact (hnewI v hv).1
 have hallR : ∀ v ∈ L.rows ++ [Value.slice (some ⟨RB, 0, none⟩) (rows.length + 1) (rows.length + 1)], AllNil w7 v := fun v hv => by
  rcases List.mem_append.1 hv with hv | hv
  ·obtain ⟨i, hi, rfl⟩ := List.getElem_of_mem hv
   exact (hk.ar i hi).fr h.fr (k6 _ hv)
  ·rw [List.mem_singleton.1 hv]
   exact hrb
 refine ⟨h.blk, hp.sides.fr h.fr k1, ⟨hk.rn.fr h.fr k2, ?_, h.rr, hk.ln, ?_, ?_, fun i hi => (hk.an i hi).fr h.fr (k4 _ (.inl (List.getElem_mem hi))), fun i hi => ?_, fun i hi => ?_⟩, fun q hq => ?_, fun q hq => ?_, fun v hv q hq => ?_, fun v hv q hq => ?_, fun q hq => ?_, fun q hq v hv => ?_, fun q hq v hv => ?_⟩
 ·show Row w7 tv 22 (L.turned ++ ([lentV VB vars] ++ lentL rows gs))
  rw [← List.append_assoc]
  exact h.rt
 ·show (L.turned ++ ([lentV VB vars] ++ lentL rows gs)).length * 24 ≤ _
  omega
 ·show (L.rows ++ [_]).length * 24 ≤ _
  have : (L.rows ++ [Value.slice (some ⟨RB, 0, none⟩) (rows.length + 1) (rows.length + 1)]).length = L.rows.length + 1 := by rw [List.length_append]; rfl
  omega
 ·refine hallI _ (List.getElem_mem hi)
 ·refine hallR _ (List.getElem_mem hi)
 ·rcases h.own q hq with h1 | h1 | h1
  ·exact hL.lo q h1
  ·omega
  ·omega
 ·rcases hq with hq | hq | hq | hq | hq | ⟨v, hv, hq⟩ | ⟨v, hv, hq⟩ | ⟨v, hv, hq⟩
  ·have := hp.lt q (.inl hq)
   omega
  ·have := hp.lt q (.inr (.inl hq))
   omega
  ·have := hp.lt q (.inr (.inr (.inl hq)))
   omega
  ·exact h.rt.lt hq
  ·exact h.rr.lt hq
  ·have := hp.lt q (.inr (.inr (.inr (.inr (.inr (.inl ⟨v, hv, hq⟩))))))
   omega
  ·rcases List.mem_append.1 hv with hv | hv
   ·have := hp.lt q (.inr (.inr (.inr (.inr (.inr (.inr (.inl ⟨v, hv, hq⟩)))))))
    omega
   ·obtain ⟨cur, hb⟩ := (hnewI v hv).2 q hq
    exact hb.lt
  ·rcases List.mem_append.1 hv with hv | hv
   ·have := hp.lt q (.inr (.inr (.inr (.inr (.inr (.inr (.inr ⟨v, hv, hq⟩)))))))
    omega
   ·rw [List.mem_singleton.1 hv] at hq
    cases hq
    exact h.rb.lt
 ·rcases hv with hv | hv
  ·obtain ⟨cur, hb⟩ := hp.ints v (.inl hv) q hq
   exact ⟨cur, hb.fr h.fr (k4 v (.inl hv) q hq)⟩
  ·rcases List.mem_append.1 hv with hv | hv
   ·obtain ⟨cur, hb⟩ := hp.ints v (.inr hv) q hq
    exact ⟨cur, hb.fr h.fr (k4 v (.inr hv) q hq)⟩
   ·exact (hnewI v hv).2 q hq
 ·rcases List.mem_append.1 hv with hv | hv
  ·obtain ⟨cur, hb⟩ := hp.nils v hv q hq
   exact ⟨cur, hb.fr h.fr (k6 v hv q hq)⟩
  ·rw [List.mem_singleton.1 hv] at hq
   cases hq
   exact ⟨_, h.rb⟩
 ·intro ht'
  rcases h.gt q ht' with h1 | h1
  ·exact hL.nt q hq h1
  ·have := hL.lt q (.inr (.inr (.inl hq)))
   omega
 ·intro ht'
  rcases List.mem_append.1 hv with hv | hv
  ·exact hL.nr q hq v hv ht'
  ·rw [List.mem_singleton.1 hv] at ht'
   cases ht'
   have := hL.lt RB (.inr (.inr (.inl hq)))
   omega
 ·intro ht'
  rcases h.gt q hq with h1 | h1
  ·rcases List.mem_append.1 hv with hv | hv
   ·exact hL.tr q h1 v hv ht'
   ·rw [List.mem_singleton.1 hv] at ht'
    cases ht'
    have := hL.lt RB (.inr (.inr (.inr (.inl h1))))
    omega
  ·rcases List.mem_append.1 hv with hv | hv
   ·have := hL.lt q (.inr (.inr (.inr (.inr (.inr (.inr (.inr ⟨v, hv, ht'⟩)))))))
    omega
   ·rw [List.mem_singleton.1 hv] at ht'
    cases ht'
    have h2 : wp.heap.size ≤ RB := h1
    omega
theorem PEnd.ref {W w wp w7 : World} {lo B RB VB hi : Nat} {L : LW} {d : Sd} {rows : List (List Int)} {gs : List Nat} {vars : List Int} {tv rv : Value} {cs : List Value} (h : PEnd w wp w7 B RB VB hi L rows gs vars tv rv cs) (H : LS W w lo B L d) (hR : RAt W wp lo d.Y d.zs d.R) (hWp : Nw W wp) : RAt W w7 lo d.Y d.zs d.R ∧ Nw W w7 := by
 have hn1 := h.n1
 have hn2 := h.n2
 have hlw := H.env.le
 have hlb := H.env.base
 refine ⟨hR.fr h.fr (fun q hq hT => ?_), hWp.trans h.fr (fun q hq => .inr ?_)⟩
 ·have hd : d.own q := .inr (.inr hq)
  have := H.side.lt hd
  rcases hT with hT | hT | hT | hT | hT | hT
  ·exact H.apart q (.inl hT) hd
  ·exact H.apart q (.inr (.inr (.inr (.inl hT)))) hd
  ·exact H.apart q (.inr (.inr (.inr (.inr (.inl hT))))) hd
  ·omega
  ·have := h.n3 q hT
   omega
  ·omega
 ·rcases hq with hT | hT | hT | hT | hT | hT
  ·have := H.law.lo q (.inl hT)
   omega
  ·have := H.law.lo q (.inr (.inr (.inr (.inl hT))))
   omega
  ·have := H.law.lo q (.inr (.inr (.inr (.inr (.inl hT)))))
   omega
  ·omega
  ·have := h.n3 q hT
   omega
  ·omega
theorem PEnd.fin {W w wd wp w7 w8 w3 : World} {lo B RB VB hi : Nat} {L : LW} {d : Sd} {s' : WS} {R' : RS} {rows : List (List Int)} {gs : List Nat} {vars : List Int} {tv rv : Value} {cs : List Value} (h : PEnd w wp w7 B RB VB hi L rows gs vars tv rv cs) (H : LS W w lo B L d) (hwd : w.heap.size ≤ wd.heap.size) (hhi : hi ≤ wd.heap.size) (hL7 : LawAt w7 lo B (L.post tv rv ([lentV VB vars] ++ lentL rows gs) (.slice (some ⟨RB, 0, none⟩) (rows.length + 1) (rows.length + 1))))
  (hwwp : Fr (fun q => d.s.own d.X q) w wp) (hA : WAt wp d.X d.zs s') (hS : WStep wd wp d.X d.s s') (hR : RAt W wp lo d.Y d.zs d.R) (hD : Blk wp d.D d.cells 52) (h78 : Nw w7 w8) (hR3 : RAt W w3 lo d.Y d.zs R') (hf3 : Fr (d.R.wr d.Y) w8 w3) (hg3 : ∀ k, R'.own d.Y k → d.R.own d.Y k ∨ w8.heap.size ≤ k) (hz3 : R'.szv = d.R.szv) (hn3 : LinkD d.zs.length R'.now s'.d) (ht3 : s'.bs = R'.ts.map TbW.tb) (hl3 : LinkL d.zs.length R'.ls s'.sk) (hb3 : s'.l.busy = d.bz) :
  LS W w3 lo B (L.post tv rv ([lentV VB vars] ++ lentL rows gs) (.slice (some ⟨RB, 0, none⟩) (rows.length + 1) (rows.length + 1))) { d with s := s', R := R' } ∧ LStep w w3 B L (L.post tv rv ([lentV VB vars] ++ lentL rows gs) (.slice (some ⟨RB, 0, none⟩) (rows.length + 1) (rows.length + 1))) d { d with s := s', R := R' } := by
 have hn4 := h.n4
 have hn1 := h.n1
 have hn2 := h.n2
 have hs7 := h.fr.size
 have hs8 := h78.size
 have hs3 := hf3.size
 have hsp := hS.fr.size
 have hlw := H.env.le
 have hlb := H.env.base
 have hdlt : ∀ q, d.own q → q < w.heap.size := fun q hq => H.side.lt hq
 have hTn : ∀ q, (q = B ∨ L.tv.ownBlock = some q ∨ L.rv.ownBlock = some q ∨ q = VB ∨ q ∈ gs ∨ q = RB) → L.own B q ∨ (w.heap.size ≤ q ∧ q < hi) := fun q hq => by
  rcases hq with hq | hq | hq | hq | hq | hq
  ·exact .inl (.inl hq)
  ·exact .inl (.inr (.inr (.inr (.inl hq))))
  ·exact .inl (.inr (.inr (.inr (.inr (.inl hq)))))
  ·exact .inr (by rw [hq]; exact hn1)
  ·exact .inr (h.n3 q hq)
  ·exact .inr (by rw [hq]; exact hn2)
 have hTd : ∀ q, (q = B ∨ L.tv.ownBlock = some q ∨ L.rv.ownBlock = some q ∨ q = VB ∨ q ∈ gs ∨ q = RB) → ¬ d.own q := fun q hq hd => by
  have := hdlt q hd
  rcases hTn q hq with h1 | h1
  ·exact H.apart q h1 hd
  ·omega
 have hTs : ∀ q, s'.own d.X q → ¬ (q = B ∨ L.tv.ownBlock = some q ∨ L.rv.ownBlock = some q ∨ q = VB ∨ q ∈ gs ∨ q = RB) := fun q hq hT => by
  rcases hS.grow q hq with h1 | h1
  ·exact hTd q hT (.inr (.inl h1))
  ·rcases hTn q hT with h2 | h2
   ·have := H.law.lt q h2
    omega
   ·omega
 have hA8 := (hA.fr h.fr hTs h.on (by decide)).nw h78
 have hR8 := (hR.fr h.fr (fun q hq hT => hTd q hT (.inr (.inr hq)))).nw h78
 have htot : Fr (fun k => L.own B k ∨ d.own k) w w3 := (((hwwp.mono (fun q hq => .inl (.inr (.inr (.inl hq))))).trans h.fr (fun q hq => by
  rcases hTn q hq with h1 | h1
  ·exact .inl (.inl h1)
  ·exact .inr h1.1)).trans h78 (fun _ x => x.elim)).trans hf3 (fun q hq => .inl (.inr (.inr (.inr (.inl hq)))))
 have hgD : ∀ q, Sd.own { d with s := s', R := R' } q → d.own q ∨ (wd.heap.size ≤ q ∧ q < wp.heap.size) ∨ w8.heap.size ≤ q := fun q hq => by
  rcases hq with hq | hq | hq
  ·exact .inl (.inl hq)
  ·rcases hS.grow q hq with h1 | h1
   ·exact .inl (.inr (.inl h1))
   ·exact .inr (.inl ⟨h1, hA.mem.lt hq⟩)
  ·rcases hg3 q hq with h1 | h1
   ·exact .inl (.inr (.inr h1))
   ·exact .inr (.inr h1)
 have hL8 := hL7.nw h78
 have hL3 := hL8.fr hf3 (fun q hq hw => by
  have hd : d.own q := .inr (.inr (.inl hw))
  have := hdlt q hd
  rcases h.own q hq with h1 | h1 | h1
  ·exact H.apart q h1 hd
  ·omega
  ·omega)
 refine ⟨⟨⟨hlb, H.env.nw.trans htot (fun q hq => .inr ?_), by omega⟩, hL3, ⟨?_, ?_, H.side.dlo⟩, fun q hq hd => ?_⟩, ⟨htot, fun q hq => ?_, fun q hq => ?_, rfl, rfl, rfl, rfl, rfl, rfl⟩⟩
 ·rcases hq with hq | hq
  ·have := H.law.lo q hq
   omega
  ·have := H.side.lo hq
   omega
 ·refine ((hD.fr h.fr (fun hT => hTd d.D hT (.inl rfl))).nw h78).fr hf3 (fun hw => ?_)
  obtain ⟨cur, e, hb, he⟩ := hR8.wrTy hw
  rw [(hb.inj ((hD.fr h.fr (fun hT => hTd d.D hT (.inl rfl))).nw h78)).2] at he
  exact absurd he (by decide)
 ·refine Pair.fin hA8 hR8 (fun q hq ho => ?_) (fun q hq => ?_) hR3 hf3 hz3 hb3 hn3 ht3 hl3
  ·rcases hS.grow q ho with h1 | h1
   ·exact H.side.pair.szn q hq h1
   ·have := hdlt q (.inr (.inr (.inr (.inl hq))))
    omega
  ·rcases hS.grow q hq with h1 | h1
   ·exact H.side.pair.xlo q h1
   ·omega
 ·have h0 := hL8.lt q hq
  rcases h.own q hq with h1 | h1 | h1
  ·have h4 := H.law.lt q h1
   rcases hgD q hd with h2 | h2 | h2
   ·exact H.apart q h1 h2
   ·omega
   ·omega
  ·rcases hgD q hd with h2 | h2 | h2
   ·have := hdlt q h2
    omega
   ·omega
   ·omega
  ·rcases hgD q hd with h2 | h2 | h2
   ·have := hdlt q h2
    omega
   ·omega
   ·omega
 ·rcases h.own q hq with h1 | h1 | h1
  ·exact .inl h1
  ·exact .inr h1.1
  ·exact .inr (by omega)
 ·rcases hgD q hq with h1 | h1 | h1
  ·exact .inl h1
  ·exact .inr (by omega)
  ·exact .inr (by omega)
end Go.Proofs.YtkjfpdfkcfgfkaaGreat

namespace Go.Proofs.YtkjfpdfkcfgfkaaGreat
open Go.RowKit

set_option maxHeartbeats 800000 in
set_option maxRecDepth 1000000 in
theorem post_busy (X : Nat) (v0 v1 v2 v3 : Value) (w : World) (hcb : w.cell? ⟨X, 12, none⟩ = some (.bool true)) (hXl : X < w.heap.size) :
  Calls Tryz.prog 11 #[.pointer (some ⟨X, 0, none⟩), .agg #[v0, v1, v2, v3]] w fun e w' => e = .returned (.int .i64 5) ∧ Nw w w' := by
 obtain ⟨V, hV⟩ : ∃ V, V = w.alloc (.cells #[v0, v1, v2, v3] 41) := ⟨_, rfl⟩
 have hfV : Nw w V := by rw [hV]; exact (Fr.refl _ w).alloc _
 have c1 : V.cell? ⟨X, 12, none⟩ = some (.bool true) := (hfV.cell hXl (fun x => x)).trans hcb
 have hXl1 := Nat.lt_of_lt_of_le hXl hfV.size
 have HfV := hd hfV
 clear hfV hcb hXl
 go_enter Tryz.func11, Tryz.ntmps11
 go_upto_region 1 with fail
 rw [← hV]
 clear hV
 go_wp2_with fail
 go_ret
 exact ⟨rfl, HfV.out⟩
theorem WAt.busyC {w : World} {X : Nat} {zs : List Int} {s : WS} (h : WAt w X zs s) (hbz : s.l.busy = true) : w.cell? ⟨X, 12, none⟩ = some (.bool true) ∧ X < w.heap.size := ⟨(h.mem.blk.cell 12).trans ((workCells_busy _ _ _ _ h.good.dm.len).trans (by rw [hbz])), h.mem.blk.lt⟩
def DidB (bz : Bool) (w w' : World) (zs : List Int) (s s' : WS) (vars : List Int) (rows : List (List Int)) (nt : Bool) (way r : Int) : Prop := (bz = false → Did zs s s' vars rows nt way r) ∧ (bz = true → r = 5 ∧ s' = s ∧ Nw w w')
theorem post_gen {bz : Bool} {W w : World} {lo X Y : Nat} {zs : List Int} {s : WS} {R : RS} {vo ro : Option Addr} {vcap rcap : Nat} {vars : List Int} {rows : List (List Int)} {nt : Bool} {way : Int} (h : Pair bz W w lo X Y zs s R)
  (hl : vars.length * 8 ≤ 140737488355328) (hrl : rows.length * 24 ≤ 140737488355328) (hvcap : vars.length ≤ vcap) (hvs : IntsAt w vo vars) (hrs : RowsAt w ro rows) :
  Calls Tryz.prog 11 #[.pointer (some ⟨X, 0, none⟩), .agg #[.slice vo vars.length vcap, .slice ro rows.length rcap, .bool nt, .int .i64 way]] w fun e w' => ∃ (r : Int) (s' : WS), e = .returned (.int .i64 r) ∧ WAt w' X zs s' ∧ WStep w w' X s s' ∧ DidB bz w w' zs s s' vars rows nt way r := by
 cases bz with
 | false =>
  refine (post_prog (nt := nt) (way := way) h.at_ h.busy hl hrl hvcap hvs hrs).mono ?_
  rintro e w' ⟨r, s', rfl, h1, h2, h3⟩
  exact ⟨r, s', rfl, h1, h2, fun _ => h3, fun h => (by cases h)⟩
 | true =>
  obtain ⟨h1, h2⟩ := h.at_.busyC h.busy
  refine (post_busy X _ _ _ _ w h1 h2).mono ?_
  rintro e w' ⟨rfl, hf⟩
  exact ⟨5, s, rfl, h.at_.nw hf, WStep.nw hf X s, fun h => (by cases h), fun _ => ⟨rfl, rfl, hf⟩⟩

set_option maxHeartbeats 3200000 in
set_option maxRecDepth 1000000 in
theorem posts_all (W : World) (lo B : Nat) (L : LW) (d : Sd) (vo ro : Option Addr) (vcap rcap : Nat) (vars : List Int) (rows : List (List Int)) (nt : Bool) (way : Int) (w : World) (h : LS W w lo B L d) (hvs : IntsAt W vo vars) (hrs : RowsAt W ro rows)
  (hvl : vars.length ≤ 1048576) (hrl : rows.length ≤ 1048576) (hrr : ∀ r ∈ rows, r.length ≤ 1048576) (htl : L.turned.length ≤ 8388608) (hrw : L.rows.length ≤ 8388608) :
  Calls Tryz.prog 53 #[.pointer (some ⟨B, 0, none⟩), .pointer (some ⟨d.D, 0, none⟩), .agg #[.slice vo vars.length vcap, .slice ro rows.length rcap, .bool nt, .int .i64 way]] w fun e w' => e = .returned (.bool true) ∧ ∃ L' d', LS W w' lo B L' d' ∧ LStep w w' B L L' d d' ∧ L'.nums = L.nums ∧ L'.turned.length = L.turned.length + 1 + rows.length ∧ L'.rows.length = L.rows.length + 1 ∧ (d.bz = true → d' = d ∧ Fr (fun k => L.own B k) w w') := by
 obtain ⟨i0, hi0, hz0, hz1, hz2⟩ := info_parts Tryz.infoInt
 obtain ⟨i1, hi1, hz1a, hz1b, hz1c⟩ := info_parts Tryz.infoInts
 obtain ⟨i2, hi2, hz2a, hz2b, hz2c⟩ := info_parts Tryz.infoRowsL
 obtain ⟨B0, hB0⟩ : ∃ B0, B0 = w.heap.size := ⟨_, rfl⟩
 obtain ⟨V, hV⟩ : ∃ V, V = w.alloc (.cells #[.slice vo vars.length vcap, .slice ro rows.length rcap, .bool nt, .int .i64 way] 41) := ⟨_, rfl⟩
 have hfV : Nw w V := by rw [hV]; exact (Fr.refl _ w).alloc _
 have hbT : Blk V B0 #[.slice vo vars.length vcap, .slice ro rows.length rcap, .bool nt, .int .i64 way] 41 := by rw [hV, hB0]; exact Blk.new _ _ _
 have H := hd h
 have HfV := hd hfV
 have HbT := hd hbT
 have HB0 := hd hB0
 have hWV : Nw W V := h.env.nw.trans hfV (fun _ x => x.elim)
 have hvV := hvs.nw hWV
 have hrV := hrs.nw hWV
 have hTcell : ∀ w', Blk w' B0 #[.slice vo vars.length vcap, .slice ro rows.length rcap, .bool nt, .int .i64 way] 41 → w'.cell? ⟨B0, 0, none⟩ = some (.slice vo vars.length vcap) ∧ w'.cell? ⟨B0, 1, none⟩ = some (.slice ro rows.length rcap) ∧ w'.cell? ⟨B0, 2, none⟩ = some (.bool nt) ∧ w'.cell? ⟨B0, 3, none⟩ = some (.int .i64 way) ∧ B0 < w'.heap.size := fun w' hb => ⟨hb.cell 0, hb.cell 1, hb.cell 2, hb.cell 3, hb.lt⟩
 have HT := hd hTcell
 obtain ⟨t0, t1, _, _, t4⟩ := hTcell V hbT
 have HvV := hd hvV
 have HrV := hd hrV
 have Hvs := hd hvs
 have Hrs := hd hrs
 obtain ⟨bz, hbz⟩ : ∃ bz, d.bz = bz := ⟨_, rfl⟩
 have Hbz := hd hbz
 have Hrr := hd hrr
 clear h hfV hbT hWV hvV hrV hTcell hvs hrs hbz hrr
 go_enter Tryz.func53, Tryz.ntmps53
 go_upto_region 1 with fail
 rw [← hV, ← hB0]
 clear hV hB0
 go_wp2_with (first
  | (go_at_call 14; refine (lent_any vo vcap vars V (by omega) HvV.out).mono ?_; rintro e w1 ⟨rfl, hf1, hb1⟩; have Hf1 := hd hf1; have Hb1 := hd hb1; obtain ⟨_, s1, _, _, s4⟩ := HT.out w1 (HbT.out.nw hf1); clear hf1 hb1)
  | (at_make; refine wpList_make_full _ rfl _ _ 26 rfl w1.heap.size 22 i1 (.slice none 0 0) 1 Tryz.underlying26 hi1 hz1a hz1b .i64 .i64 _ _ (rows.length + 1) rfl rfl (by go_num) (by go_num) (by rw [hz1c]; omega) (by unfold maxLen; omega) (Nat.le_refl _) ?_; intro w2 hown2 hgrow2))
 obtain ⟨RB, hRB⟩ : ∃ RB, RB = w1.heap.size := ⟨_, rfl⟩
 obtain ⟨VB, hVB⟩ : ∃ VB, VB = V.heap.size := ⟨_, rfl⟩
 have hf2 : Nw w1 w2 := (Fr.refl _ w1).grown hgrow2 (fun k e => by cases e)
 have hC2 : Copies w2 w2.heap.size RB rows [] := by
  refine ⟨?_, fun j hj => absurd hj (Nat.not_lt_zero _), fun g hg => (by cases hg), List.Pairwise.nil, Nat.zero_le _⟩
  rw [rowsC_nil]
  have := blk_of_owns hown2
  rw [made_nil, ← hRB] at this
  exact this
 rw [← hRB, ← hVB]
 rw [← hVB] at Hb1
 have HC2 := hd hC2
 have HNV2 := hd (Hf1.out.trans hf2 (fun _ x => x.elim))
 have Hb2 := hd (Hb1.out.nw hf2)
 have hRBl : RB < w2.heap.size := hC2.rb.lt
 have hVBR : VB < RB := by rw [hRB]; exact Hb1.out.lt
 have hVRB : V.heap.size ≤ VB := by omega
 have HVRB := hd hVRB
 clear hown2 hgrow2 hf2 hC2 hRB hVB hVRB s1 s4 t0 t1 t4
 go_loopw [9, 10, 11] (fun ow i _ wr => ∃ (gs : List Nat), gs.length ≤ rows.length ∧ i = .int .i64 (gs.length : Int) ∧ Hid (Row wr ow 22 (lentL rows gs)) ∧ Hid (Copies wr w2.heap.size RB rows gs) ∧ Hid (Fr (fun k => k = RB) w2 wr) ∧ Hid (∀ k, ow.ownBlock = some k → w2.heap.size ≤ k)) (fun _ i _ _ => rows.length - (intOf i).toNat)
 case atStart => exact ⟨[], Nat.zero_le _, rfl, Row.nil _ _, HC2, Fr.refl _ _, hd (fun k hk => by cases hk)⟩
 case round =>
  clear HC2
  obtain ⟨gs, hgl, rfl, HO, HC, HF, HOl⟩ := hrel
  obtain ⟨oo, oc, hof, _⟩ := HO.out.form
  rw [lentL_len] at hof
  subst hof
  have hNV : Nw V wr := HNV2.out.trans HF.out (fun i hi => .inr (by have := HVRB.out; omega))
  obtain ⟨u0, u1, u2, u3, u4⟩ := HT.out wr (HbT.out.nw hNV)
  by_cases hlt : gs.length < rows.length
  ·have hdl : (gs.length : Int) < (rows.length : Int) := by omega
   obtain ⟨rb, rof, ra, rac, hre, hrbV, hrc, hRI⟩ := HrV.out gs.length hlt
   have Hrc := hd (fun (w' : World) (f : Nw V w') => (show w'.cell? ⟨rb, rof + gs.length, none⟩ = _ from (f.cell hrbV (fun x => x)).trans hrc))
   have hRI := hRI.nw hNV
   have hr6 : (rows.getD gs.length []).length ≤ 1048576 := Hrr.out _ (by rw [getD_of_lt _ _ _ hlt]; exact List.getElem_mem hlt)
   have hset := rowsC_set rows gs
   have HNV := hd hNV
   obtain ⟨r, hr⟩ : ∃ r, rows.getD gs.length [] = r := ⟨_, rfl⟩
   rw [hr] at hrc Hrc hRI hr6
   have Hr := hd hr
   have Hset := hd hset
   have HRI := hd hRI
   subst hre
   have hrcr := Hrc.out wr hNV
   have hrbl := Nat.lt_of_lt_of_le hrbV hNV.size
   clear hNV hr hset hRI hrc
   have hsz2 := HF.out.size
   have HOg := hd (show ∀ g ∈ gs, ¬ (Value.slice oo gs.length oc).ownBlock = some g from fun g hg h => by
    obtain ⟨cur, hb⟩ := HC.out.int hg
    obtain ⟨cur', hb', _⟩ := HO.out.blk h
    exact absurd (hb.inj hb').2 (by decide))
   go_wp2_with (first
    | (go_at_call 14; refine (lent_any ra rac r wr (by omega) HRI.out).mono ?_; rintro e w3 ⟨rfl, hf3, hb3⟩; have HO3 := hd (HO.out.nw hf3); have Hf3 := hd hf3; have Hb3 := hd hb3; clear hf3 hb3)
    | (at_builtin; refine wpList_append_own_at _ rfl _ _ 26 rfl 0 22 i1 (.slice none 0 0) 1 24 Tryz.underlying26 hi1 hz1a hz1b hz1c rfl (by decide) (.slice oo gs.length oc) gs.length _ rfl (rowN (HO3.out.alloc _) (lentL_len rows gs)) ⟨w3.heap.size, 0, none⟩ 1 1 [.slice (some ⟨wr.heap.size, 0, none⟩) (r.length + 1) (r.length + 1)] rfl rfl (cell_one_new _ _ _) (by simp [Value.oneCell']) (by unfold maxLen; omega) (by omega) (Nat.zero_le _) ?_; intro v' w4 hown' hgrow _ hat; obtain ⟨g4, cap4, rfl, hr4, hf4, ha4, hlt4⟩ := app1n (lentL_len rows gs) hown' hgrow hat; have HN4 := hd ((HNV.out.trans Hf3.out (fun _ x => x.elim)).trans hf4 (fun i hi => .inr (by have := HOl.out i hi; have := HNV2.out.size; omega))); obtain ⟨q0, q1, q2, q3, q4⟩ := HT.out w4 (HbT.out.nw HN4.out); have qc := Hrc.out w4 HN4.out; have qrl := Nat.lt_of_lt_of_le hrbV HN4.out.size; have hC4 := (HC.out.nw Hf3.out).fr hf4 (fun h => by have := HOl.out RB h; omega) (fun g hg h => HOg.out g hg h); have hRf := hC4.rb.free gs.length; have hRc : w4.cell? ⟨RB, gs.length, none⟩ = some nilS := (by rw [hC4.rb.cell, List.getElem?_toArray]; exact rowsC_at rows gs hgl); have HC4 := hd hC4; have hRl4 := hC4.rb.lt; clear hC4; have Hr4 := hd hr4; have Hf4 := hd hf4; have Ha4 := hd ha4; clear hown' hgrow hat hr4 hf4 ha4 hlt4))
   have hs3 := Hf3.out.size
   have hgl4 : w2.heap.size ≤ g4 := by
    rcases Ha4.out with h | h
    ·exact HOl.out g4 h
    ·omega
   have hfs : Fr (fun k => k = RB) w4 (w4.setCell ⟨RB, gs.length, none⟩ (.slice (some ⟨wr.heap.size, 0, none⟩) r.length (r.length + 1))) := (Fr.refl (fun k => k = RB) w4).setCell _ _ (.inl rfl)
   have hOw : ¬ (Value.slice oo gs.length oc).ownBlock = some wr.heap.size := fun h => by
    have := HO.out.lt h
    omega
   refine ⟨⟨gs ++ [wr.heap.size], by rw [List.length_append]; exact hlt, by simp, ?_, ⟨?_, fun j hj => ?_, fun g hg => ?_, ?_, by rw [List.length_append]; exact hlt⟩, ?_, hd (fun k hk => by cases hk; exact hgl4)⟩, by simp [intOf]; omega⟩
   ·rw [lentL_snoc, Hr.out]
    exact Hr4.out.fr hfs (fun k hk e => by cases hk; have : g4 = RB := e; omega)
   ·have h1 := HC4.out.rb.set gs.length (.slice (some ⟨wr.heap.size, 0, none⟩) r.length (r.length + 1))
    have h2 := Hset.out wr.heap.size hlt
    rw [Hr.out] at h2
    rw [← h2]
    rw [List.setIfInBounds_toArray] at h1
    exact h1
   ·rw [List.length_append, List.length_singleton] at hj
    by_cases he : j < gs.length
    ·rw [getD_snoc_lt _ _ _ _ he]
     exact (HC4.out.each j he).fr hfs (fun e => by
      have h1 := HC4.out.each j he
      rw [e] at h1
      exact absurd (h1.inj HC4.out.rb).2 (by decide))
    ·obtain rfl : j = gs.length := by omega
     rw [getD_snoc_eq, Hr.out]
     exact (Hb3.out.fr Hf4.out hOw).fr hfs (fun e => by omega)
   ·rcases List.mem_append.1 hg with hg | hg
    ·exact HC.out.lo g hg
    ·rw [List.mem_singleton.1 hg]
     exact hsz2
   ·refine List.pairwise_append.2 ⟨HC.out.ne, List.pairwise_singleton _ _, fun a ha b hb e => ?_⟩
    rw [List.mem_singleton.1 hb] at e
    obtain ⟨cur, hbl⟩ := HC.out.int ha
    have := hbl.lt
    omega
   ·exact ((HF.out.trans Hf3.out (fun _ x => x.elim)).trans Hf4.out (fun i hi => .inr (HOl.out i hi))).trans hfs (fun i hi => .inl hi)
  ·have hgn : gs.length = rows.length := by omega
   have hdl : ¬ ((gs.length : Int) < (rows.length : Int)) := by omega
   have HNV := hd hNV
   have Hgn := hd hgn
   have hRB1 := HC.out.rb
   have hRBl1 := hRB1.lt
   have HbV := hd (Hb2.out.fr HF.out (fun e => by omega))
   have hL1 := H.out.nw (HfV.out.trans hNV (fun _ x => x.elim))
   have HL1 := hd hL1
   have hVl := HbV.out.lt
   rw [hgn] at HO HOl ⊢
   clear hNV hgn hRB1 hL1
   go_wp2_with fail
   have hK0 : PBlk wr.drew B0 d #[.slice vo vars.length vcap, .slice ro rows.length rcap, .bool nt, .int .i64 way] := ⟨HL1.out.side.blk.drew, (HbT.out.nw HNV.out).drew⟩
   refine region_H pstR10 21 (fun w'' => PBlk w'' B0 d #[.slice vo vars.length vcap, .slice ro rows.length rcap, .bool nt, .int .i64 way]) (by kernel_rfl) (by kernel_rfl) (by kernel_rfl) ?_
   refine take_at (i := 0) (d := some 54) (v := .pointer (some ⟨d.D, 0, none⟩)) (by kernel_rfl) (by kernel_rfl) (fun _ _ _ h => h) (fun w'' hS => by kernel_rfl) hK0 ?_
   refine take_at (i := 1) (d := some 55) (v := .pointer (some ⟨d.D, 0, none⟩)) (by kernel_rfl) (by kernel_rfl) (fun _ _ _ h => h) (fun w'' hS => by kernel_rfl) hK0 ?_
   refine take_at (i := 2) (d := some 56) (v := .pointer (some ⟨d.D, 0, none⟩)) (by kernel_rfl) (by kernel_rfl) (fun _ _ _ h => h) (fun w'' hS => by kernel_rfl) hK0 ?_
   refine take_at (i := 3) (d := some 57) (v := .pointer (some ⟨d.X, 0, none⟩)) (by kernel_rfl) (by kernel_rfl) (fun _ _ _ h => h) (fun w'' hS => exec_load 35 (.tmp 56) (by kernel_rfl) (by kernel_rfl) (by kernel_rfl) (hS.k1.cell 0)) hK0 ?_
   refine take_at (i := 4) (d := some 58) (v := .slice (some ⟨VB, 0, none⟩) (vars.length + 1) (vars.length + 1)) (by kernel_rfl) (by kernel_rfl) (fun _ _ _ h => h) (fun w'' hS => by kernel_rfl) hK0 ?_
   refine take_at (i := 5) (d := some 59) (v := .pointer (some ⟨B0, 0, none⟩)) (by kernel_rfl) (by kernel_rfl) (fun _ _ _ h => h) (fun w'' hS => by kernel_rfl) hK0 ?_
   refine take_at (i := 6) (d := some 60) (v := .slice vo vars.length vcap) (by kernel_rfl) (by kernel_rfl) (fun _ _ _ h => h) (fun w'' hS => exec_load 22 (.tmp 59) (by kernel_rfl) (by kernel_rfl) (by kernel_rfl) (hS.k2.cell 0)) hK0 ?_
   refine take_at (i := 7) (d := some 61) (v := .int .i64 (vars.length : Int)) (by kernel_rfl) (by kernel_rfl) (fun _ _ _ h => h) (fun w'' hS => by kernel_rfl) hK0 ?_
   refine take_at (i := 8) (d := some 62) (v := .slice (some ⟨VB, 0, none⟩) vars.length (vars.length + 1)) (by kernel_rfl) (by kernel_rfl) (fun _ _ _ h => h) (fun w'' hS => exec_cutI (m := vars.length + 1) (.tmp 58) (.tmp 61) (by kernel_rfl) (by kernel_rfl) (by kernel_rfl) (by omega)) hK0 ?_
   refine take_at (i := 9) (d := some 63) (v := .slice (some ⟨RB, 0, none⟩) (rows.length + 1) (rows.length + 1)) (by kernel_rfl) (by kernel_rfl) (fun _ _ _ h => h) (fun w'' hS => by kernel_rfl) hK0 ?_
   refine take_at (i := 10) (d := some 64) (v := .pointer (some ⟨B0, 1, none⟩)) (by kernel_rfl) (by kernel_rfl) (fun _ _ _ h => h) (fun w'' hS => by kernel_rfl) hK0 ?_
   refine take_at (i := 11) (d := some 65) (v := .slice ro rows.length rcap) (by kernel_rfl) (by kernel_rfl) (fun _ _ _ h => h) (fun w'' hS => exec_load 26 (.tmp 64) (by kernel_rfl) (by kernel_rfl) (by kernel_rfl) (hS.k2.cell 1)) hK0 ?_
   refine take_at (i := 12) (d := some 66) (v := .int .i64 (rows.length : Int)) (by kernel_rfl) (by kernel_rfl) (fun _ _ _ h => h) (fun w'' hS => by kernel_rfl) hK0 ?_
   refine take_at (i := 13) (d := some 67) (v := .slice (some ⟨RB, 0, none⟩) rows.length (rows.length + 1)) (by kernel_rfl) (by kernel_rfl) (fun _ _ _ h => h) (fun w'' hS => exec_cutR (m := rows.length + 1) (.tmp 63) (.tmp 66) (by kernel_rfl) (by kernel_rfl) (by kernel_rfl) (by omega)) hK0 ?_
   refine take_at (i := 14) (d := some 68) (v := .pointer (some ⟨B0, 2, none⟩)) (by kernel_rfl) (by kernel_rfl) (fun _ _ _ h => h) (fun w'' hS => by kernel_rfl) hK0 ?_
   refine take_at (i := 15) (d := some 69) (v := .bool nt) (by kernel_rfl) (by kernel_rfl) (fun _ _ _ h => h) (fun w'' hS => exec_load 4 (.tmp 68) (by kernel_rfl) (by kernel_rfl) (by kernel_rfl) (hS.k2.cell 2)) hK0 ?_
   refine take_at (i := 16) (d := some 70) (v := .pointer (some ⟨B0, 3, none⟩)) (by kernel_rfl) (by kernel_rfl) (fun _ _ _ h => h) (fun w'' hS => by kernel_rfl) hK0 ?_
   refine take_at (i := 17) (d := some 71) (v := .int .i64 way) (by kernel_rfl) (by kernel_rfl) (fun _ _ _ h => h) (fun w'' hS => exec_load 3 (.tmp 70) (by kernel_rfl) (by kernel_rfl) (by kernel_rfl) (hS.k2.cell 3)) hK0 ?_
   refine take_at (i := 18) (d := some 72) (v := .agg #[.slice (some ⟨VB, 0, none⟩) vars.length (vars.length + 1), .slice (some ⟨RB, 0, none⟩) rows.length (rows.length + 1), .bool nt, .int .i64 way]) (by kernel_rfl) (by kernel_rfl) (fun _ _ _ h => h) (fun w'' hS => by kernel_rfl) hK0 ?_
   refine enter_at (i := 19) (d := some 73) (w' := wr.drew) (f := 11) (args := #[.pointer (some ⟨d.X, 0, none⟩), .agg #[.slice (some ⟨VB, 0, none⟩) vars.length (vars.length + 1), .slice (some ⟨RB, 0, none⟩) rows.length (rows.length + 1), .bool nt, .int .i64 way]]) (by kernel_rfl) (by kernel_rfl) (by kernel_rfl) ?_
   have hdr : Nw wr wr.drew := (Fr.refl _ wr).drew
   have hp0 := (HL1.out.nw hdr).side.pair
   rw [Hbz.out] at hp0
   have hCd := HC.out.nw hdr
   refine (post_gen (nt := nt) (way := way) hp0 (by omega) (by omega) (by omega) (IntsAt.of_blk (HbV.out.nw hdr) 0 vars (fun i hi => by simp [List.getElem?_append_left, hi])) (hCd.rowsAt Hgn.out)).mono ?_
   rintro e wp ⟨r, s', rfl, hAp, hSp, hDid⟩
   have hon := hp0.at_.mem.only
   have hnt : ∀ {q : Nat} {cur : Array Value} {e : TypeId}, Blk wr.drew q cur e → e ∉ ownTys → ¬ d.s.own d.X q := fun hb he ho => he (hon _ _ _ ho hb)
   have hK1 : PBlk wp B0 d #[.slice vo vars.length vcap, .slice ro rows.length rcap, .bool nt, .int .i64 way] := ⟨hK0.k1.fr hSp.fr (hnt hK0.k1 (by decide)), hK0.k2.fr hSp.fr (hnt hK0.k2 (by decide))⟩
   refine ⟨_, rfl, hK1, ?_⟩
   refine value_at (i := 20) (d := some 12) (v := .int .i64 r) (w' := wp) (by kernel_rfl) (by kernel_rfl) (by kernel_rfl) hK1 ?_
   refine wpAnyH_done (by kernel_rfl) ?_ _
   simp only [Act.put, List.setIfInBounds_toArray, List.set_cons_zero, List.set_cons_succ]
   have hsV := HfV.out.size
   have hvv := HVRB.out
   have hs12 := HNV2.out.size
   have hswr := HF.out.size
   have hfresh : ∀ q, w.heap.size ≤ q → ¬ d.s.own d.X q := fun q hq ho => by
    have := H.out.side.lt (.inr (.inl ho))
    omega
   have hCp : Copies wp w2.heap.size RB rows gs := hCd.fr hSp.fr (hfresh RB (by omega)) (fun g hg => hfresh g (by have := hCd.lo g hg; omega))
   have hVp : Blk wp VB (lentC vars) 3 := (HbV.out.nw hdr).fr hSp.fr (hfresh VB (by omega))
   have hOp : Row wp (.slice oo rows.length oc) 22 (lentL rows gs) := (HO.out.nw hdr).fr hSp.fr (fun q hq => hfresh q (by have := HOl.out q hq; omega))
   have hLp : LawAt wp lo B L := (HL1.out.nw hdr).law.fr hSp.fr (fun q hq ho => H.out.apart q hq (.inr (.inl ho)))
   have hWp : Nw W wp := (HL1.out.nw hdr).env.nw.trans hSp.fr (fun i hi => .inr (Nat.le_trans H.out.env.base (H.out.side.pair.xlo i hi)))
   have hRp := hp0.mid hSp (Fr.refl _ _)
   have hszp : wr.heap.size ≤ wp.heap.size := Nat.le_trans hdr.size hSp.fr.size
   have HCp := hd hCp
   have HVp := hd hVp
   have HOp := hd hOp
   have HLp := hd hLp
   have HWp := hd hWp
   have HRp := hd hRp
   have HAp := hd hAp
   have HSp := hd hSp
   have HDid := hd hDid
   have HK1 := hd hK1
   have HwN := hd ((HfV.out.trans HNV.out (fun _ x => x.elim)).trans hdr (fun _ x => x.elim))
   have HwP := hd (show Fr (fun q => d.s.own d.X q) w wp from (((HfV.out.trans HNV.out (fun _ x => x.elim)).trans hdr (fun _ x => x.elim)).mono (fun _ x => x.elim)).trans hSp.fr (fun i hi => .inl hi))
   have hVBw : w.heap.size ≤ VB := by omega
   have hRBw : w.heap.size ≤ RB := by omega
   have hRBp : RB < wp.heap.size := hCp.rb.lt
   have Hgs := hd (show ∀ g ∈ gs, w2.heap.size ≤ g from hCd.lo)
   have Hne := hd hCd.ne
   have HgsL := hd (show ∀ g ∈ gs, g < wr.heap.size from fun g hg => by
    obtain ⟨cur, hb⟩ := HC.out.int hg
    exact hb.lt)
   have HOl2 := hd (show ∀ q, (Value.slice oo rows.length oc).ownBlock = some q → w2.heap.size ≤ q ∧ q < wp.heap.size from fun q hq => ⟨HOl.out q hq, hOp.lt hq⟩)
   obtain ⟨u0, u1, u2, u3, u4⟩ := HT.out wp hK1.k2
   have hRBe : Hid (∀ w', Blk w' RB (rowsC rows gs).toArray 22 → w'.cell? ⟨RB, rows.length, none⟩ = some (.slice none 0 0)) := fun w' hb => by
    rw [hb.cell, List.getElem?_toArray]
    exact rowsC_end rows gs Hgn.out
   clear hCp hVp hOp hLp hWp hRp hAp hSp hDid hK1 hfresh hnt hon hCd hp0 hdr hK0 hVl HC HO HOl HF HL1 HNV2 HNV HbV Hb2 Hb1 Hf1 HvV hdl
   have htl5 : (L.turned.length + 1) * 24 ≤ 140737488355328 := by omega
   have hVBg : VB ∉ gs := fun hg => by
    have := Hgs.out VB hg
    omega
   have hRt : ∀ q, L.tv.ownBlock = some q → q ≠ RB ∧ (Value.slice oo rows.length oc).ownBlock ≠ some q := fun q hq => by
    have h1 := H.out.law.lt q (.inr (.inr (.inr (.inl hq))))
    refine ⟨by omega, fun h2 => ?_⟩
    have := (HOl2.out q h2).1
    omega
   have HVBg := hd hVBg
   have HRt := hd hRt
   have hon5 : Only wp (fun q => q = B ∨ L.tv.ownBlock = some q ∨ q = VB ∨ q ∈ gs) [29, 22, 3] := fun q cur e hq hb => by
    rcases hq with rfl | hq | rfl | hq
    ·rw [(hb.inj HLp.out.blk).2]
     decide
    ·obtain ⟨c2, hb2, _⟩ := HLp.out.keeps.rt.blk hq
     rw [(hb.inj hb2).2]
     decide
    ·rw [(hb.inj HVp.out).2]
     decide
    ·obtain ⟨c2, hb2⟩ := HCp.out.int hq
     rw [(hb.inj hb2).2]
     decide
   have Hon5 := hd hon5
   have HPB := hd (show ∀ w', Fr (fun q => q = B ∨ L.tv.ownBlock = some q ∨ q = VB ∨ q ∈ gs) wp w' → PBlk w' B0 d #[.slice vo vars.length vcap, .slice ro rows.length rcap, .bool nt, .int .i64 way] from fun w' f => ⟨HK1.out.k1.fr f (fun hs => absurd (hon5 _ _ _ hs HK1.out.k1) (by decide)), HK1.out.k2.fr f (fun hs => absurd (hon5 _ _ _ hs HK1.out.k2) (by decide))⟩)
   have HWq := hd (show ∀ w', Fr (fun q => q = B ∨ L.tv.ownBlock = some q ∨ q = VB ∨ q ∈ gs) wp w' → Nw W w' from fun w' f => HWp.out.trans f (fun i hi => .inr (by
    have hb := H.out.env.base
    have he := H.out.env.le
    rcases hi with hi | hi | hi | hi
    ·have := H.out.law.lo i (.inl hi)
     omega
    ·have := H.out.law.lo i (.inr (.inr (.inr (.inl hi))))
     omega
    ·omega
    ·have := Hgs.out i hi
     omega)))
   clear hVBg hRt hon5
   have heqn : ∀ w' : World, (binOp .eql 22 (.slice none 0 0) (.slice none 0 0)).run Tryz.prog w' = .ok (.bool true) w' := fun w' => by kernel_rfl
   go_wp2_with (go_at_call 16; refine (returned_any B VB vo vcap vars L.sv L.nv L.tv L.rv L.turned wp (by omega) HLp.out.blk HLp.out.keeps.rt htl5 HVp.out (Hvs.out.nw HWp.out)).mono ?_; rintro e w5 ⟨rfl, tv5, hf5, hB5, hr5, hg5, hlo5⟩; have HR5 : Hid (Ret wp w5 B RB VB L (.slice oo rows.length oc) rows gs vars 0 tv5) := Ret.first HLp.out HCp.out HOp.out HVp.out HVBg.out HRt.out hf5 hB5 hr5 hg5 hlo5; have HK5 := hd (HPB.out w5 HR5.out.fr); obtain ⟨z0, z1, z2, z3, z4⟩ := HT.out w5 HK5.out.k2; have zR := hRBe.out w5 HR5.out.rb; have zRl := HR5.out.rb.lt; clear hf5 hB5 hr5 hg5 hlo5)
   go_loopw [13, 14, 15, 16] (fun ok i _ _ wq => ∃ (k : Nat) (tv' : Value), k ≤ rows.length ∧ ok = .bool true ∧ i = .int .i64 (k : Int) ∧ Hid (Ret wp wq B RB VB L (.slice oo rows.length oc) rows gs vars k tv')) (fun _ i _ _ _ => rows.length - (intOf i).toNat)
   case atStart => exact ⟨0, tv5, Nat.zero_le _, rfl, rfl, HR5⟩
   case round =>
    rename World => wq
    clear HR5 HK5 z0 z1 z2 z3 z4 zR zRl
    obtain ⟨k, tv', hk, rfl, rfl, HR⟩ := hrel
    obtain ⟨z0, z1, z2, z3, z4⟩ := HT.out wq (HPB.out wq HR.out.fr).k2
    by_cases hlt : k < rows.length
    ·have hdl : (k : Int) < (rows.length : Int) := by omega
     obtain ⟨rb, rof, ra, rac, hre, hrbW, hrcW, hRIW⟩ := Hrs.out k hlt
     have hrowl : (rows.getD k []).length ≤ 1048576 := Hrr.out _ (by rw [getD_of_lt _ _ _ hlt]; exact List.getElem_mem hlt)
     have hkg : k < gs.length := by rw [Hgn.out]; exact hlt
     obtain ⟨og, ocap, hoe, _, hoc, _⟩ := HR.out.own.cell k (by rw [lentL_len]; exact hkg)
     have hoc2 : wq.cell? ⟨og, k, none⟩ = some (lentV (gs.getD k 0) (rows.getD k [])) := by
      rw [hoc]
      have := lentL_get rows gs k hkg
      rw [List.getElem?_eq_getElem (by rw [lentL_len]; exact hkg)] at this
      exact this
     have hRc : wq.cell? ⟨RB, k, none⟩ = some (cutV (gs.getD k 0) (rows.getD k [])) := by
      rw [HR.out.rb.cell, List.getElem?_toArray]
      exact rowsC_get rows gs k hkg
     have hnext := fun w' tv'' => HR.out.next (w' := w') (tv' := tv'') hkg Hne.out HVBg.out HRt.out hRBp (fun q hq => (HOl2.out q hq).2)
     have htodo := HR.out.todo k (Nat.le_refl _) hkg
     have hNWq := HWq.out wq HR.out.fr
     obtain ⟨gk, hgk⟩ : ∃ gk, gs.getD k 0 = gk := ⟨_, rfl⟩
     obtain ⟨row, hrow⟩ : ∃ row, rows.getD k [] = row := ⟨_, rfl⟩
     rw [hgk, hrow] at hoc2 hRc htodo hnext
     rw [hrow] at hrcW hRIW hrowl
     have Hnext := hd hnext
     have Htodo := hd htodo
     have HNWq := hd hNWq
     have HRIW := hd hRIW
     have HrbW := hd hrbW
     have HrcW := hd hrcW
     simp only [Value.slice.injEq] at hoe
     obtain ⟨hoe1, hoe2, hoe3⟩ := hoe
     subst hre
     subst hoe1
     have hrbl : rb < wq.heap.size := Nat.lt_of_lt_of_le hrbW hNWq.size
     have hrc : wq.cell? ⟨rb, rof + k, none⟩ = some (.slice ra row.length rac) := (hNWq.cell hrbW (fun x => x)).trans hrcW
     have cR : wq.cell? ⟨RB, 0 + k, none⟩ = some (.slice (some ⟨gk, 0, none⟩) row.length (row.length + 1)) := by rw [Nat.zero_add]; exact hRc
     have hRl := HR.out.rb.lt
     clear hoe2 hoe3 hoc hgk hrow hnext htodo hNWq hRIW hRc hrcW
     obtain ⟨ob, hob⟩ : ∃ ob, og = ob := ⟨_, rfl⟩
     subst hob
     have cO : wq.cell? ⟨og, 0 + k, none⟩ = some (.slice (some ⟨gk, 0, none⟩) (row.length + 1) (row.length + 1)) := by rw [Nat.zero_add]; exact hoc2
     clear hoc2
     go_wp2_with fail
     have hK0 : Nw wq wq.drew := (Fr.refl _ wq).drew
     refine region_H pstR15 13 (fun w'' => Nw wq w'') (by kernel_rfl) (by kernel_rfl) (by kernel_rfl) ?_
     refine take_at (i := 0) (d := some 95) (v := .slice (some ⟨RB, 0, none⟩) (rows.length + 1) (rows.length + 1)) (by kernel_rfl) (by kernel_rfl) (fun _ _ _ h => h) (fun w'' hS => by kernel_rfl) hK0 ?_
     refine take_at (i := 1) (d := some 96) (v := .int .i64 (k : Int)) (by kernel_rfl) (by kernel_rfl) (fun _ _ _ h => h) (fun w'' hS => by kernel_rfl) hK0 ?_
     refine take_at (i := 2) (d := some 97) (v := .pointer (some ⟨RB, 0 + k, none⟩)) (by kernel_rfl) (by kernel_rfl) (fun _ _ _ h => h) (fun w'' hS => exec_index (i := k) (n := rows.length + 1) (cap := rows.length + 1) 26 22 (.tmp 95) (.tmp 96) (by kernel_rfl) (by kernel_rfl) (by kernel_rfl) (by omega) (by kernel_rfl) (by kernel_rfl)) hK0 ?_
     refine take_at (i := 3) (d := some 98) (v := .slice (some ⟨gk, 0, none⟩) row.length (row.length + 1)) (by kernel_rfl) (by kernel_rfl) (fun _ _ _ h => h) (fun w'' hS => exec_load 22 (.tmp 97) (by kernel_rfl) (by kernel_rfl) (by kernel_rfl) ((hS.cell hRl (fun x => x)).trans cR)) hK0 ?_
     refine take_at (i := 4) (d := some 99) (v := .int .i64 (row.length : Int)) (by kernel_rfl) (by kernel_rfl) (fun _ _ _ h => h) (fun w'' hS => by kernel_rfl) hK0 ?_
     refine take_at (i := 5) (d := some 100) (v := .pointer (some ⟨B0, 1, none⟩)) (by kernel_rfl) (by kernel_rfl) (fun _ _ _ h => h) (fun w'' hS => by kernel_rfl) hK0 ?_
     refine take_at (i := 6) (d := some 101) (v := .slice (some ⟨rb, rof, none⟩) rows.length rcap) (by kernel_rfl) (by kernel_rfl) (fun _ _ _ h => h) (fun w'' hS => exec_load 26 (.tmp 100) (by kernel_rfl) (by kernel_rfl) (by kernel_rfl) ((hS.cell z4 (fun x => x)).trans z1)) hK0 ?_
     refine take_at (i := 7) (d := some 102) (v := .int .i64 (k : Int)) (by kernel_rfl) (by kernel_rfl) (fun _ _ _ h => h) (fun w'' hS => by kernel_rfl) hK0 ?_
     refine take_at (i := 8) (d := some 103) (v := .pointer (some ⟨rb, rof + k, none⟩)) (by kernel_rfl) (by kernel_rfl) (fun _ _ _ h => h) (fun w'' hS => exec_index (i := k) (n := rows.length) (cap := rcap) 26 22 (.tmp 101) (.tmp 102) (by kernel_rfl) (by kernel_rfl) (by kernel_rfl) hlt (by kernel_rfl) (by kernel_rfl)) hK0 ?_
     refine take_at (i := 9) (d := some 104) (v := .slice ra row.length rac) (by kernel_rfl) (by kernel_rfl) (fun _ _ _ h => h) (fun w'' hS => exec_load 22 (.tmp 103) (by kernel_rfl) (by kernel_rfl) (by kernel_rfl) ((hS.cell hrbl (fun x => x)).trans hrc)) hK0 ?_
     refine take_at (i := 10) (d := some 105) (v := .int .i64 (row.length : Int)) (by kernel_rfl) (by kernel_rfl) (fun _ _ _ h => h) (fun w'' hS => by kernel_rfl) hK0 ?_
     refine value_at (i := 11) (d := some 106) (v := .bool true) (w' := wq.drew) (by kernel_rfl) (by kernel_rfl) (exec_eqK (row.length : Int) (row.length : Int) true (.tmp 99) (.tmp 105) (by kernel_rfl) (by kernel_rfl) (by kernel_rfl) (by simp)) hK0 ?_
     refine value_at (i := 12) (d := some 15) (v := .bool true) (w' := wq.drew) (by kernel_rfl) (by kernel_rfl) (by kernel_rfl) hK0 ?_
     refine wpAnyH_done (by kernel_rfl) ?_ _
     simp only [Act.put, List.setIfInBounds_toArray, List.set_cons_zero, List.set_cons_succ]
     clear hK0
     go_wp2_with fail
     obtain ⟨wd, hwd⟩ : ∃ wd, wq.drew.drew = wd := ⟨_, rfl⟩
     have hqd : Nw wq wd := by rw [← hwd]; exact ((Fr.refl _ wq).drew).drew
     have hlenT : (L.turned ++ [lentV VB vars] ++ (lentL rows gs).take k).length = L.turned.length + 1 + k := by
      rw [List.length_append, List.length_append, List.length_take, lentL_len, List.length_singleton]
      omega
     have Hcall := hd (returned_any B gk ra rac row L.sv L.nv tv' L.rv (L.turned ++ [lentV VB vars] ++ (lentL rows gs).take k) wd (by omega) (HR.out.blk.nw hqd) (HR.out.row.nw hqd) (by have := hlenT; omega) (Htodo.out.nw hqd) ((HRIW.out.nw HNWq.out).nw hqd))
     clear hlenT
     have hK2 : wd.cell? ⟨B0, 1, none⟩ = some (.slice (some ⟨rb, rof, none⟩) rows.length rcap) ∧ wd.cell? ⟨og, 0 + k, none⟩ = some (.slice (some ⟨gk, 0, none⟩) (row.length + 1) (row.length + 1)) ∧ wd.cell? ⟨rb, rof + k, none⟩ = some (.slice ra row.length rac) := by
      rw [← hwd]
      exact ⟨z1, cO, hrc⟩
     refine region_H pstR16 12 (fun w'' => w''.cell? ⟨B0, 1, none⟩ = some (.slice (some ⟨rb, rof, none⟩) rows.length rcap) ∧ w''.cell? ⟨og, 0 + k, none⟩ = some (.slice (some ⟨gk, 0, none⟩) (row.length + 1) (row.length + 1)) ∧ w''.cell? ⟨rb, rof + k, none⟩ = some (.slice ra row.length rac)) (by kernel_rfl) (by kernel_rfl) (by kernel_rfl) ?_
     rw [hwd]
     refine take_at (i := 0) (d := some 107) (v := .pointer (some ⟨B, 0, none⟩)) (by kernel_rfl) (by kernel_rfl) (fun _ _ _ h => h) (fun w'' hS => by kernel_rfl) hK2 ?_
     refine take_at (i := 1) (d := some 108) (v := .slice (some ⟨og, 0, none⟩) rows.length oc) (by kernel_rfl) (by kernel_rfl) (fun _ _ _ h => h) (fun w'' hS => by kernel_rfl) hK2 ?_
     refine take_at (i := 2) (d := some 109) (v := .int .i64 (k : Int)) (by kernel_rfl) (by kernel_rfl) (fun _ _ _ h => h) (fun w'' hS => by kernel_rfl) hK2 ?_
     refine take_at (i := 3) (d := some 110) (v := .pointer (some ⟨og, 0 + k, none⟩)) (by kernel_rfl) (by kernel_rfl) (fun _ _ _ h => h) (fun w'' hS => exec_index (i := k) (n := rows.length) (cap := oc) 26 22 (.tmp 108) (.tmp 109) (by kernel_rfl) (by kernel_rfl) (by kernel_rfl) hlt (by kernel_rfl) (by kernel_rfl)) hK2 ?_
     refine take_at (i := 4) (d := some 111) (v := .slice (some ⟨gk, 0, none⟩) (row.length + 1) (row.length + 1)) (by kernel_rfl) (by kernel_rfl) (fun _ _ _ h => h) (fun w'' hS => exec_load 22 (.tmp 110) (by kernel_rfl) (by kernel_rfl) (by kernel_rfl) hS.2.1) hK2 ?_
     refine take_at (i := 5) (d := some 112) (v := .pointer (some ⟨B0, 1, none⟩)) (by kernel_rfl) (by kernel_rfl) (fun _ _ _ h => h) (fun w'' hS => by kernel_rfl) hK2 ?_
     refine take_at (i := 6) (d := some 113) (v := .slice (some ⟨rb, rof, none⟩) rows.length rcap) (by kernel_rfl) (by kernel_rfl) (fun _ _ _ h => h) (fun w'' hS => exec_load 26 (.tmp 112) (by kernel_rfl) (by kernel_rfl) (by kernel_rfl) hS.1) hK2 ?_
     refine take_at (i := 7) (d := some 114) (v := .int .i64 (k : Int)) (by kernel_rfl) (by kernel_rfl) (fun _ _ _ h => h) (fun w'' hS => by kernel_rfl) hK2 ?_
     refine take_at (i := 8) (d := some 115) (v := .pointer (some ⟨rb, rof + k, none⟩)) (by kernel_rfl) (by kernel_rfl) (fun _ _ _ h => h) (fun w'' hS => exec_index (i := k) (n := rows.length) (cap := rcap) 26 22 (.tmp 113) (.tmp 114) (by kernel_rfl) (by kernel_rfl) (by kernel_rfl) hlt (by kernel_rfl) (by kernel_rfl)) hK2 ?_
     refine take_at (i := 9) (d := some 116) (v := .slice ra row.length rac) (by kernel_rfl) (by kernel_rfl) (fun _ _ _ h => h) (fun w'' hS => exec_load 22 (.tmp 115) (by kernel_rfl) (by kernel_rfl) (by kernel_rfl) hS.2.2) hK2 ?_
     refine enter_at (i := 10) (d := some 117) (w' := wd) (f := 16) (args := #[.pointer (some ⟨B, 0, none⟩), .slice (some ⟨gk, 0, none⟩) (row.length + 1) (row.length + 1), .slice ra row.length rac]) (by kernel_rfl) (by kernel_rfl) (by kernel_rfl) ?_
     refine Hcall.out.mono ?_
     rintro e w6 ⟨rfl, tv6, hf6, hB6, hr6, hg6, hlo6⟩
     have hret := Hnext.out w6 tv6 ((hqd.mono (fun _ x => x.elim)).trans hf6 (fun i hi => .inl hi)) hB6 hr6 hg6 (fun q hq => (hlo6 q hq).imp (fun h => h) (fun h => Nat.le_trans hqd.size h))
     have hK6 : w6.cell? ⟨B0, 1, none⟩ = some (.slice (some ⟨rb, rof, none⟩) rows.length rcap) ∧ w6.cell? ⟨og, 0 + k, none⟩ = some (.slice (some ⟨gk, 0, none⟩) (row.length + 1) (row.length + 1)) ∧ w6.cell? ⟨rb, rof + k, none⟩ = some (.slice ra row.length rac) := by
      refine ⟨(HPB.out w6 hret.fr).k2.cell 1, ?_, ((HWq.out w6 hret.fr).cell HrbW.out (fun x => x)).trans HrcW.out⟩
      obtain ⟨g1, c1, he1, _, hc1, _⟩ := hret.own.cell k (by rw [lentL_len]; exact hkg)
      obtain ⟨g2, c2, he2, _, hc2, _⟩ := HR.out.own.cell k (by rw [lentL_len]; exact hkg)
      simp only [Value.slice.injEq, Option.some.injEq, Addr.mk.injEq, and_true] at he1 he2
      rw [Nat.zero_add] at cO ⊢
      rw [← he2.1, cO] at hc2
      rw [he1.1, hc1]
      exact hc2.symm
     refine ⟨_, rfl, hK6, ?_⟩
     refine value_at (i := 11) (d := some 16) (v := .bool true) (w' := w6) (by kernel_rfl) (by kernel_rfl) (by kernel_rfl) hK6 ?_
     refine wpAnyH_done (by kernel_rfl) ?_ _
     simp only [Act.put, List.setIfInBounds_toArray, List.set_cons_zero, List.set_cons_succ]
     have Hret := hd hret
     clear hret hK6 hf6 hB6 hr6 hg6 hlo6 Hcall hK2 hqd hwd cO cR hrc z0 z1 z2 z3 z4
     go_wp2_with fail
     exact ⟨⟨k + 1, tv6, by omega, rfl, by simp, Hret⟩, by simp [intOf]; omega⟩
    ·obtain rfl : rows.length = k := by omega
     have hdl : ¬ ((rows.length : Int) < (rows.length : Int)) := by omega
     have hlR : gs.length ≤ rows.length := by rw [Hgn.out]; exact Nat.le_refl _
     go_wp2_with fail
     go_loopw [17] (fun i wz => ∃ (k : Nat) (cs : List Value), k ≤ rows.length + 1 ∧ i = .int .i64 (k : Int) ∧ Hid (cs.length = rows.length + 1) ∧ Hid (Blk wz RB cs.toArray 22) ∧ Hid (∀ j, j < k → cs[j]? = some (.slice none 0 0)) ∧ Hid (Fr (fun q => q = RB) wq wz)) (fun i _ => rows.length + 1 - (intOf i).toNat)
     case atStart => exact ⟨0, rowsC rows gs, Nat.zero_le _, rfl, rowsC_len rows gs hlR, HR.out.rb, hd (fun j hj => absurd hj (Nat.not_lt_zero _)), Fr.refl _ _⟩
     case round =>
      rename World => wz
      obtain ⟨k, cs, hk, rfl, Hcl, Hcs, Hcn, Hfz⟩ := hrel
      by_cases hlt3 : k < rows.length + 1
      ·have hdl3 : (k : Int) < (rows.length : Int) + 1 := by omega
       obtain ⟨old, hold⟩ : ∃ old, wz.cell? ⟨RB, k, none⟩ = some old := by
        have hkc : k < cs.length := by rw [Hcl.out]; exact hlt3
        exact ⟨cs[k], by rw [Hcs.out.cell, List.getElem?_toArray, List.getElem?_eq_getElem hkc]⟩
       have hRf := Hcs.out.free k
       have hRl3 := Hcs.out.lt
       go_wp2_with fail
       refine ⟨⟨k + 1, cs.set k (.slice none 0 0), by omega, by simp, by rw [List.length_set]; exact Hcl.out, ?_, hd (fun j hj => ?_), hd (Hfz.out.setCell _ _ (.inl rfl))⟩, by simp [intOf]; omega⟩
       ·have := Hcs.out.set k (.slice none 0 0)
        rw [List.setIfInBounds_toArray] at this
        exact this
       ·by_cases e : k = j
        ·subst e
         rw [List.getElem?_set_self (by rw [Hcl.out]; exact hlt3)]
        ·rw [List.getElem?_set_ne e]
         exact Hcn.out j (by omega)
      ·obtain rfl : rows.length + 1 = k := by omega
       have hdl3 : ¬ ((rows.length : Int) + 1 < (rows.length : Int) + 1) := by omega
       have hBR : B ≠ RB := fun e => by
        have h1 := HR.out.rb
        rw [← e] at h1
        exact absurd (h1.inj HR.out.blk).2 (by decide)
       have hBz : Blk wz B #[L.sv, L.nv, tv', L.rv] 29 := HR.out.blk.fr Hfz.out hBR
       have hrvq : Row wq L.rv 26 L.rows := HLp.out.keeps.rr.fr HR.out.fr (fun q hq hs => by
        obtain ⟨c2, hb2, _⟩ := HLp.out.keeps.rr.blk hq
        exact absurd (Hon5.out q c2 _ hs hb2) (by decide))
       have hrvz : Row wz L.rv 26 L.rows := hrvq.fr Hfz.out (fun q hq e => by
        obtain ⟨c2, hb2, _⟩ := hrvq.blk hq
        rw [e] at hb2
        exact absurd (hb2.inj HR.out.rb).2 (by decide))
       obtain ⟨rvo, rvc, hrvf, _⟩ := hrvz.form
       have hBrv : wz.cell? ⟨B, 3, none⟩ = some (.slice rvo L.rows.length rvc) := by
        have := hBz.cell 3
        rw [hrvf] at this
        exact this
       have hPz : PBlk wz B0 d #[.slice vo vars.length vcap, .slice ro rows.length rcap, .bool nt, .int .i64 way] := ⟨(HPB.out wq HR.out.fr).k1.fr Hfz.out (fun e => by
        have h1 := (HPB.out wq HR.out.fr).k1
        rw [e] at h1
        exact absurd (h1.inj HR.out.rb).2 (by decide)), (HPB.out wq HR.out.fr).k2.fr Hfz.out (fun e => by
        have h1 := (HPB.out wq HR.out.fr).k2
        rw [e] at h1
        exact absurd (h1.inj HR.out.rb).2 (by decide))⟩
       have hBzl := hBz.lt
       have HBz := hd hBz
       have Hrvz := hd hrvz
       have HPz := hd hPz
       have Hrvf := hd hrvf
       have hrl24 : (L.rows.length + 1) * 24 ≤ 140737488355328 := by omega
       rw [hrvf] at hrvz
       have Hrvz' := hd hrvz
       clear hBz hrvq hrvz hPz hrvf hBR
       go_upto_region 23 with (at_builtin; refine wpList_append_own_at _ rfl _ _ 27 rfl 0 26 i2 (.slice none 0 0) 1 24 Tryz.underlying27 hi2 hz2a hz2b hz2c rfl (by decide) (.slice rvo L.rows.length rvc) L.rows.length _ rfl (Hrvz'.out.alloc _) ⟨wz.heap.size, 0, none⟩ 1 1 [.slice (some ⟨RB, 0, none⟩) (rows.length + 1) (rows.length + 1)] rfl rfl (cell_one_new _ _ _) (by simp [Value.oneCell']) (by unfold maxLen; omega) hrl24 (Nat.zero_le _) ?_; intro v' w6 hown' hgrow _ hat; obtain ⟨g6, cap6, rfl, hr6, hf6, ha6, hlt6⟩ := app1n rfl hown' hgrow hat; have hB6 := HBz.out.fr hf6 (fun h => by obtain ⟨c2, hb2, _⟩ := Hrvz'.out.blk h; exact absurd (HBz.out.inj hb2).2 (by decide)); have hB6f := hB6.free 3; have hB6c : w6.cell? ⟨B, 3, none⟩ = some (.slice rvo L.rows.length rvc) := (by have := hB6.cell 3; rw [Hrvf.out] at this; exact this); have hP6 : PBlk w6 B0 d #[.slice vo vars.length vcap, .slice ro rows.length rcap, .bool nt, .int .i64 way] := ⟨HPz.out.k1.fr hf6 (fun h => by obtain ⟨c2, hb2, _⟩ := Hrvz'.out.blk h; exact absurd (HPz.out.k1.inj hb2).2 (by decide)), HPz.out.k2.fr hf6 (fun h => by obtain ⟨c2, hb2, _⟩ := Hrvz'.out.blk h; exact absurd (HPz.out.k2.inj hb2).2 (by decide))⟩; have hDB : d.D ≠ B := (fun e => by have h1 := hP6.k1; rw [e] at h1; exact absurd (h1.inj hB6).2 (by decide)); have hB0B : B0 ≠ B := (fun e => by have h1 := hP6.k2; rw [e] at h1; exact absurd (h1.inj hB6).2 (by decide)); have hDc : w6.cell? ⟨d.D, 2, none⟩ = some (.bool bz) := (hP6.k1.cell 2).trans (by rw [← Hbz.out]; rfl); have hDl6 := hP6.k1.lt; have HB6 := hd hB6; have HP6 := hd hP6; have Hr6 := hd hr6; have Hf6 := hd hf6; have Ha6 := hd ha6; clear hown' hgrow hat hr6 hf6 ha6 hlt6 hB6 hP6)
       obtain ⟨w7, hw7⟩ : ∃ w7, w6.setCell ⟨B, 3, none⟩ (.slice (some ⟨g6, 0, none⟩) (L.rows.length + 1) cap6) = w7 := ⟨_, rfl⟩
       have hfs : Fr (fun q => q = B) w6 w7 := by rw [← hw7]; exact (Fr.refl (fun q => q = B) w6).setCell _ _ (.inl rfl)
       rw [hw7]
       have hP7 : PBlk w7 B0 d #[.slice vo vars.length vcap, .slice ro rows.length rcap, .bool nt, .int .i64 way] := ⟨HP6.out.k1.fr hfs hDB, HP6.out.k2.fr hfs hB0B⟩
       have hRBwp := HCp.out.rb.lt
       have hrv6 : ∀ {q : Nat} {cur : Array Value} {e : TypeId}, Blk wz q cur e → e ≠ 26 → ¬ (Value.slice rvo L.rows.length rvc).ownBlock = some q := fun hb he h => by
        obtain ⟨c2, hb2, _⟩ := Hrvz'.out.blk h
        exact he (hb.inj hb2).2
       have hB6' : ∀ {q : Nat} {cur : Array Value} {e : TypeId}, Blk w6 q cur e → e ≠ 29 → ¬ q = B := fun hb he h => by
        rw [h] at hb
        exact he (hb.inj HB6.out).2
       have keep67 : ∀ {q : Nat} {cur : Array Value} {e : TypeId}, Blk wz q cur e → e ≠ 26 → e ≠ 29 → Blk w7 q cur e := fun hb h1 h2 => (hb.fr Hf6.out (hrv6 hb h1)).fr hfs (hB6' (hb.fr Hf6.out (hrv6 hb h1)) h2)
       have hRBq := HR.out.rb
       have keepz : ∀ {q : Nat} {cur : Array Value} {e : TypeId}, Blk wq q cur e → e ≠ 22 → Blk wz q cur e := fun hb he => hb.fr Hfz.out (fun h => by
        rw [h] at hb
        exact he (hb.inj hRBq).2)
       have hend : PEnd w wp w7 B RB VB wr.heap.size L rows gs vars tv' (.slice (some ⟨g6, 0, none⟩) (L.rows.length + 1) cap6) cs := by
        refine ⟨?_, ?_, ?_, ?_, keep67 Hcs.out (by decide) (by decide), Hcl.out, Hcn.out, keep67 (keepz HR.out.vb (by decide)) (by decide) (by decide), fun j hj => keep67 (keepz (HR.out.done j (by rw [← Hgn.out]; exact hj)) (by decide)) (by decide) (by decide), HR.out.grow, fun q hq => ?_, ?_, ?_, fun g hg => ?_, ?_, ?_⟩
        ·refine (((HR.out.fr.mono (fun q hq => .inl ?_)).trans Hfz.out (fun q hq => .inl (.inr (.inr (.inr (.inr (.inr hq))))))).trans Hf6.out (fun q hq => .inl (.inr (.inr (.inl (by rw [Hrvf.out]; exact hq)))))).trans hfs (fun q hq => .inl (.inl hq))
         rcases hq with hq | hq | hq | hq
         ·exact .inl hq
         ·exact .inr (.inl hq)
         ·exact .inr (.inr (.inr (.inl hq)))
         ·exact .inr (.inr (.inr (.inr (.inl hq))))
        ·rw [← hw7]
         have := HB6.out.set 3 (.slice (some ⟨g6, 0, none⟩) (L.rows.length + 1) cap6)
         simpa using this
        ·have h1 := HR.out.row
         rw [List.take_of_length_le (by rw [lentL_len, Hgn.out]; exact Nat.le_refl _)] at h1
         have h2 := h1.fr Hfz.out (fun q hq e => by
          rcases HR.out.grow q hq with h3 | h3
          ·exact (HRt.out q h3).1 e
          ·omega)
         have h3 := h2.fr Hf6.out (fun q hq => by
          obtain ⟨c2, hb2, _⟩ := h2.blk hq
          exact hrv6 hb2 (by decide))
         exact h3.fr hfs (fun q hq => by
          obtain ⟨c2, hb2, _⟩ := h3.blk hq
          exact hB6' hb2 (by decide))
        ·exact Hr6.out.fr hfs (fun q hq => by
          obtain ⟨c2, hb2, _⟩ := Hr6.out.blk hq
          exact hB6' hb2 (by decide))
        ·cases hq
         rcases Ha6.out with h | h
         ·exact .inl (by rw [Hrvf.out]; exact h)
         ·right
          have h1 := HR.out.fr.size
          have h2 := Hfz.out.size
          show wp.heap.size ≤ g6
          omega
        ·exact ⟨hVBw, by omega⟩
        ·exact ⟨hRBw, hRBl1⟩
        ·refine ⟨by have := Hgs.out g hg; omega, ?_⟩
         exact HgsL.out g hg
        ·exact ⟨by omega, hszp⟩
        ·intro q cur e hq hb
         rcases hq with hq | hq | hq | hq | hq | hq
         ·exact List.mem_append_left [26] (Hon5.out q cur e (.inl hq) hb)
         ·exact List.mem_append_left [26] (Hon5.out q cur e (.inr (.inl hq)) hb)
         ·obtain ⟨c2, hb2, _⟩ := HLp.out.keeps.rr.blk hq
          rw [(hb.inj hb2).2]
          decide
         ·exact List.mem_append_left [26] (Hon5.out q cur e (.inr (.inr (.inl hq))) hb)
         ·exact List.mem_append_left [26] (Hon5.out q cur e (.inr (.inr (.inr hq))) hb)
         ·rw [hq] at hb
          rw [(hb.inj HCp.out.rb).2]
          decide
       have hL7 := hend.law H.out.law HLp.out H.out.env.le Hgn.out hvl hrl Hrr.out htl hrw
       obtain ⟨hR7, hW7⟩ := hend.ref H.out HRp.out HWp.out
       have hDc7 : w7.cell? ⟨d.D, 2, none⟩ = some (.bool bz) := (hP7.k1.cell 2).trans (by rw [← Hbz.out]; rfl)
       have hDl7 := hP7.k1.lt
       clear hw7 hDc hDl6 hB6f hB6c
       cases bz with
       | true =>
        have hr5 : r = 5 := (HDid.out.2 rfl).1
        have hss : s' = d.s := (HDid.out.2 rfl).2.1
        have hnwp := (HDid.out.2 rfl).2.2
        subst hr5
        have hfinal := hend.fin (wd := wr.drew) (w8 := w7) (w3 := w7) H.out (Nat.le_trans hsV (Nat.le_trans hs12 hswr)) (Nat.le_refl _) hL7 HwP.out HAp.out HSp.out HRp.out HK1.out.k1 (Fr.refl _ _) hR7 (Fr.refl _ _) (fun q hq => .inl hq) rfl (by rw [hss]; exact H.out.side.pair.now) (by rw [hss]; exact H.out.side.pair.tabs) (by rw [hss]; exact H.out.side.pair.levs) (by rw [hss]; exact H.out.side.pair.busy)
        rw [hss] at hfinal
        have Hfinal := hd hfinal
        have HfrL := hd (show Fr (fun k => L.own B k) w w7 from ((HwN.out.trans hnwp (fun _ x => x.elim)).mono (fun _ x => x.elim)).trans hend.fr (fun q hq => by
         rcases hq with hq | hq | hq | hq | hq | hq
         ·exact .inl (.inl hq)
         ·exact .inl (.inr (.inr (.inr (.inl hq))))
         ·exact .inl (.inr (.inr (.inr (.inr (.inl hq)))))
         ·exact .inr (by omega)
         ·exact .inr (by have := Hgs.out q hq; omega)
         ·exact .inr (by omega)))
        clear hnwp hfinal hend hL7 hR7 hW7 keepz keep67 hB6' hrv6 hss
        go_wp2_with fail
        go_ret
        refine ⟨rfl, _, _, Hfinal.out.1, Hfinal.out.2, rfl, ?_, ?_, fun _ => ⟨rfl, HfrL.out⟩⟩
        ·show (L.turned ++ ([lentV VB vars] ++ lentL rows gs)).length = _
         rw [List.length_append, List.length_append, lentL_len, List.length_singleton, Hgn.out]
         omega
        ·show (L.rows ++ [_]).length = _
         rw [List.length_append]
         rfl
       | false =>
        obtain ⟨w8, hw8⟩ : ∃ w8, w7.drew = w8 := ⟨_, rfl⟩
        have h78 : Nw w7 w8 := by rw [← hw8]; exact (Fr.refl _ w7).drew
        have hlw8 : lo ≤ w8.heap.size := by
         have h0 := H.out.env.le
         have h1 := hend.n4
         have h2 := hend.fr.size
         have h3 := h78.size
         omega
        have Hpd := hd (post_doc (vcap := vcap) (rcap := rcap) H.out.env.base hlw8 (hW7.trans h78 (fun _ x => x.elim)) (hR7.nw h78) H.out.side.pair.at_.mem.fits.1 H.out.side.pair.now H.out.side.pair.tabs H.out.side.pair.levs (by omega) (by omega) Hvs.out Hrs.out (HDid.out.1 rfl))
        have hK7 : PBlk w8 B0 d #[.slice vo vars.length vcap, .slice ro rows.length rcap, .bool nt, .int .i64 way] := ⟨hP7.k1.nw h78, hP7.k2.nw h78⟩
        have Hend := hd hend
        have HL7 := hd hL7
        have H78 := hd h78
        clear hend hL7 hR7 hW7 keepz keep67 hB6' hrv6
        go_wp2_with fail
        refine region_H pstR25 13 (fun w'' => PBlk w'' B0 d #[.slice vo vars.length vcap, .slice ro rows.length rcap, .bool nt, .int .i64 way]) (by kernel_rfl) (by kernel_rfl) (by kernel_rfl) ?_
        rw [hw8]
        refine take_at (i := 0) (d := some 153) (v := .bool true) (by kernel_rfl) (by kernel_rfl) (fun _ _ _ h => h) (fun w'' hS => by kernel_rfl) hK7 ?_
        refine take_at (i := 1) (d := some 154) (v := .bool true) (by kernel_rfl) (by kernel_rfl) (fun _ _ _ h => h) (fun w'' hS => by kernel_rfl) hK7 ?_
        refine take_at (i := 2) (d := some 155) (v := .pointer (some ⟨d.D, 0, none⟩)) (by kernel_rfl) (by kernel_rfl) (fun _ _ _ h => h) (fun w'' hS => by kernel_rfl) hK7 ?_
        refine take_at (i := 3) (d := some 156) (v := .int .i64 r) (by kernel_rfl) (by kernel_rfl) (fun _ _ _ h => h) (fun w'' hS => by kernel_rfl) hK7 ?_
        refine take_at (i := 4) (d := some 157) (v := .pointer (some ⟨d.D, 0, none⟩)) (by kernel_rfl) (by kernel_rfl) (fun _ _ _ h => h) (fun w'' hS => by kernel_rfl) hK7 ?_
        refine take_at (i := 5) (d := some 158) (v := .pointer (some ⟨d.D, 0, none⟩)) (by kernel_rfl) (by kernel_rfl) (fun _ _ _ h => h) (fun w'' hS => by kernel_rfl) hK7 ?_
        refine take_at (i := 6) (d := some 159) (v := .pointer (some ⟨d.D, 1, none⟩)) (by kernel_rfl) (by kernel_rfl) (fun _ _ _ h => h) (fun w'' hS => by kernel_rfl) hK7 ?_
        refine take_at (i := 7) (d := some 160) (v := .pointer (some ⟨d.Y, 0, none⟩)) (by kernel_rfl) (by kernel_rfl) (fun _ _ _ h => h) (fun w'' hS => exec_load 46 (.tmp 159) (by kernel_rfl) (by kernel_rfl) (by kernel_rfl) (hS.k1.cell 1)) hK7 ?_
        refine take_at (i := 8) (d := some 161) (v := .agg #[.slice vo vars.length vcap, .slice ro rows.length rcap, .bool nt, .int .i64 way]) (by kernel_rfl) (by kernel_rfl) (fun _ _ _ h => h) (fun w'' hS => exec_load4 41 (.tmp 5) (by kernel_rfl) (by kernel_rfl) (by kernel_rfl) (by kernel_rfl) (hS.k2.cell 0) (hS.k2.cell 1) (hS.k2.cell 2) (hS.k2.cell 3)) hK7 ?_
        refine enter_at (i := 9) (d := some 162) (w' := w8) (f := 79) (args := #[.pointer (some ⟨d.Y, 0, none⟩), .agg #[.slice vo vars.length vcap, .slice ro rows.length rcap, .bool nt, .int .i64 way]]) (by kernel_rfl) (by kernel_rfl) (by kernel_rfl) ?_
        refine Hpd.out.mono ?_
        rintro e w9 ⟨rfl, R', j1, j2, j3, j4, j5, j6, j7⟩
        have hfinal := Hend.out.fin (wd := wr.drew) H.out (Nat.le_trans hsV (Nat.le_trans hs12 hswr)) (Nat.le_refl _) HL7.out HwP.out HAp.out HSp.out HRp.out HK1.out.k1 H78.out j1 j2 j3 j4 j5 j6 j7 (by rw [(HDid.out.1 rfl).busy]; exact H.out.side.pair.busy)
        have hK9 : PBlk w9 B0 d #[.slice vo vars.length vcap, .slice ro rows.length rcap, .bool nt, .int .i64 way] := ⟨hfinal.1.side.blk, hK7.k2.fr j2 (fun hw => by
         have := H.out.side.lt (.inr (.inr (.inl hw)))
         have := HB0.out
         omega)⟩
        refine ⟨_, rfl, hK9, ?_⟩
        refine enter_at (i := 10) (d := some 163) (w' := w9) (f := 57) (args := #[.pointer (some ⟨d.D, 0, none⟩), .int .i64 r, .int .i64 r]) (by kernel_rfl) (by kernel_rfl) (by kernel_rfl) ?_
        refine (answer_any _ r w9).mono ?_
        rintro e w10 ⟨rfl, rfl⟩
        refine ⟨_, rfl, hK9, ?_⟩
        refine value_at (i := 11) (d := some 164) (v := .bool true) (w' := w10) (by kernel_rfl) (by kernel_rfl) (by kernel_rfl) hK9 ?_
        refine value_at (i := 12) (d := some 6) (v := .bool true) (w' := w10) (by kernel_rfl) (by kernel_rfl) (by kernel_rfl) hK9 ?_
        refine wpAnyH_done (by kernel_rfl) ?_ _
        simp only [Act.put, List.setIfInBounds_toArray, List.set_cons_zero, List.set_cons_succ]
        have Hfinal := hd hfinal
        clear hfinal hK9 j1 j2 j3 j4 j5 j6 j7 hK7 Hpd hP7 hfs hw8 h78
        go_wp2_with fail
        go_ret
        refine ⟨rfl, _, _, Hfinal.out.1, Hfinal.out.2, rfl, ?_, ?_, fun e => (by rw [Hbz.out] at e; cases e)⟩
        ·show (L.turned ++ ([lentV VB vars] ++ lentL rows gs)).length = _
         rw [List.length_append, List.length_append, lentL_len, List.length_singleton, Hgn.out]
         omega
        ·show (L.rows ++ [_]).length = _
         rw [List.length_append]
         rfl
theorem posts_any (W : World) (lo B : Nat) (L : LW) (d : Sd) (vo ro : Option Addr) (vcap rcap : Nat) (vars : List Int) (rows : List (List Int)) (nt : Bool) (way : Int) (w : World) (h : LS W w lo B L d) (_hbz : d.bz = false) (hvs : IntsAt W vo vars) (hrs : RowsAt W ro rows)
  (hvl : vars.length ≤ 1048576) (hrl : rows.length ≤ 1048576) (hrr : ∀ r ∈ rows, r.length ≤ 1048576) (htl : L.turned.length ≤ 8388608) (hrw : L.rows.length ≤ 8388608) :
  Calls Tryz.prog 53 #[.pointer (some ⟨B, 0, none⟩), .pointer (some ⟨d.D, 0, none⟩), .agg #[.slice vo vars.length vcap, .slice ro rows.length rcap, .bool nt, .int .i64 way]] w fun e w' => e = .returned (.bool true) ∧ ∃ L' d', LS W w' lo B L' d' ∧ LStep w w' B L L' d d' ∧ L'.nums = L.nums ∧ L'.turned.length = L.turned.length + 1 + rows.length ∧ L'.rows.length = L.rows.length + 1 :=
 (posts_all W lo B L d vo ro vcap rcap vars rows nt way w h hvs hrs hvl hrl hrr htl hrw).mono fun _ _ ⟨h0, L', d', h1, h2, h3, h4, h5, _⟩ => ⟨h0, L', d', h1, h2, h3, h4, h5⟩
end Go.Proofs.YtkjfpdfkcfgfkaaGreat

namespace Go.Proofs.YtkjfpdfkcfgfkaaGreat
open Go.RowKit

structure Cost (L L' : LW) (n : Nat) : Prop where
 a : L'.nums.length ≤ L.nums.length + 4
 b : L'.turned.length ≤ L.turned.length + 1 + n
 c : L'.rows.length ≤ L.rows.length + 1
structure OpOk (W : World) (o : OpV) : Prop where
 vs : IntsAt W o.vo o.vars
 rs : RowsAt W o.ro o.rows
 vl : o.vars.length ≤ 1048576
 rl : o.rows.length ≤ 1048576
 rr : ∀ r ∈ o.rows, r.length ≤ 1048576
 al : o.a < 9223372036854775808
structure LRoom (L : LW) : Prop where
 n : L.nums.length ≤ 68719476736
 t : L.turned.length ≤ 8388608
 r : L.rows.length ≤ 8388608
 four : L.nums.length % 4 = 0
def PlainPost (W w : World) (lo B : Nat) (L : LW) (d : Sd) (n : Nat) (e : Ending) (w' : World) : Prop := e = .returned (.bool true) ∧ ∃ L' d', LS W w' lo B L' d' ∧ LStep w w' B L L' d d' ∧ Cost L L' n
theorem PlainPost.same {W w w' : World} {lo B : Nat} {L : LW} {d : Sd} {n : Nat} (h : LS W w lo B L d) (f : Nw w w') : PlainPost W w lo B L d n (.returned (.bool true)) w' := ⟨rfl, L, d, h.nw f, LStep.nw f B L d, by omega, by omega, by omega⟩

theorem results_cellK {fn : Func} {p : Tmp} {ty : TypeId} {tmps : Array Value} {w : World} {b off : Nat} {v : Value} (h : fn.results = #[.cell p ty]) (hp : tmps.getD p undef = .pointer (some ⟨b, off, none⟩)) (hag : (isAgg ty).run Tryz.prog w = .ok false w) (hc : w.cell? ⟨b, off, none⟩ = some v) : (results fn tmps).run Tryz.prog w = .ok v w := by
 have hp' : tmps[p]?.getD undef = .pointer (some ⟨b, off, none⟩) := by simpa using hp
 have hl : (Sem.load Mode.plain (⟨b, off, none⟩ : Addr) Sem.pure).run Tryz.prog w = .ok v w := by
  unfold Sem.run
  rw [hc]
  rfl
 simp [results, h, hp', asAddr, loadVar, hag, hl, Result.andThen, load]
theorem PlainPost.box {W w V w1 : World} {lo B rb : Nat} {L L' : LW} {d d' : Sd} {n : Nat} {cur : Array Value} (h : LS W w lo B L d) (hf : Nw w V) (hrb : w.heap.size ≤ rb) (hb : Blk V rb cur 4) (h1 : LS W w1 lo B L' d') (hs : LStep V w1 B L L' d d') (hc : Cost L L' n) : Blk w1 rb cur 4 ∧ PlainPost W w lo B L d n (.returned (.bool true)) (w1.setCell ⟨rb, 0, none⟩ (.bool true)) := by
 have hVl := hb.lt
 have hno : ¬ (L.own B rb ∨ d.own rb) := fun ho => by
  rcases ho with ho | ho
  ·have := h.law.lt rb ho
   omega
  ·have := h.side.lt ho
   omega
 have hb1 := hb.fr hs.fr hno
 have hL1 : ¬ L'.own B rb := fun ho => by
  rcases hs.growL rb ho with h2 | h2
  ·exact hno (.inl h2)
  ·omega
 have hd1 : ¬ d'.own rb := fun ho => by
  rcases hs.growD rb ho with h2 | h2
  ·exact hno (.inr h2)
  ·omega
 have hfs : Fr (fun k => k = rb) w1 (w1.setCell ⟨rb, 0, none⟩ (.bool true)) := (Fr.refl (fun k => k = rb) w1).setCell _ _ (.inl rfl)
 have hlw := h.env.le
 have hlb := h.env.base
 have hsz := hf.size
 refine ⟨hb1, rfl, L', d', ⟨⟨hlb, h1.env.nw.trans hfs (fun i hi => .inr (by omega)), Nat.le_trans h1.env.le hfs.size⟩, h1.law.fr hfs (fun k hk e => hL1 (by rw [← e]; exact hk)), h1.side.fr hfs (fun k hk e => hd1 (by rw [← e]; exact hk)) (Only.one hb1) (by decide), h1.apart⟩, ⟨((hf.mono (fun _ x => x.elim)).trans hs.fr (fun i hi => .inl hi)).trans hfs (fun i hi => .inr (by omega)), fun k hk => ?_, fun k hk => ?_, hs.ss, hs.dd, hs.zs, hs.bz, hs.sq, hs.four⟩, hc⟩
 ·rcases hs.growL k hk with h2 | h2
  ·exact .inl h2
  ·exact .inr (by omega)
 ·rcases hs.growD k hk with h2 | h2
  ·exact .inl h2
  ·exact .inr (by omega)
structure PlAt (w V : World) (b0 rb : Nat) (o : OpV) : Prop where
 nw : Nw w V
 k0 : Blk V b0 o.cells 54
 k1 : Blk V rb #[.bool false] 4
 lo : w.heap.size ≤ rb
theorem PlAt.new (w : World) (o : OpV) : PlAt w ((w.alloc (.cells o.cells 54)).alloc (.cells #[.bool false] 4)) w.heap.size (w.heap.size + 1) o := by
 have h1 : Blk (w.alloc (.cells o.cells 54)) w.heap.size o.cells 54 := Blk.new _ _ _
 have h2 := Blk.new (w.alloc (.cells o.cells 54)) #[.bool false] 4
 have hs : (w.alloc (.cells o.cells 54)).heap.size = w.heap.size + 1 := by simp
 rw [hs] at h2
 exact ⟨((Fr.refl _ w).alloc _).alloc _, h1.alloc _, h2, by omega⟩

def plCall (B D : Nat) (o : OpV) : FuncId × Array Value := if o.kind = 1 then (53, #[.pointer (some ⟨B, 0, none⟩), .pointer (some ⟨D, 0, none⟩), .agg #[.slice o.vo o.vars.length o.vcap, .slice o.ro o.rows.length o.rcap, .bool o.nt, .int .i64 o.way]]) else if o.kind = 4 then (36, #[.pointer (some ⟨B, 0, none⟩), .pointer (some ⟨D, 0, none⟩), .int .i64 o.a]) else if o.kind = 8 then (37, #[.pointer (some ⟨D, 0, none⟩), .int .i64 o.a]) else (38, #[.pointer (some ⟨D, 0, none⟩), .agg o.cells])
def PlEnd (w : World) (o : OpV) (P : World → World → Prop) (e : Ending) (w' : World) : Prop := e = .returned (.bool true) ∧ ∃ V b0 rb w1, PlAt w V b0 rb o ∧ P V w1 ∧ Blk w1 rb #[.bool false] 4 ∧ w' = w1.setCell ⟨rb, 0, none⟩ (.bool true)

set_option maxHeartbeats 6400000 in
set_option maxRecDepth 1000000 in
theorem plain_by (B D : Nat) (o : OpV) (w : World) (P : World → World → Prop) (h1 : 1 ≤ o.kind) (h8 : o.kind ≤ 8) (hcall : ∀ V, Nw w V → Calls Tryz.prog (plCall B D o).1 (plCall B D o).2 V (fun e w1 => e = .returned (.bool true) ∧ P V w1))
  (hbox : ∀ V w1 rb cur, Nw w V → P V w1 → w.heap.size ≤ rb → Blk V rb cur 4 → Blk w1 rb cur 4) :
  Calls Tryz.prog 35 #[.pointer (some ⟨B, 0, none⟩), .pointer (some ⟨D, 0, none⟩), .agg o.cells] w (PlEnd w o P) := by
 obtain ⟨b0, hb0⟩ : ∃ b0, b0 = w.heap.size := ⟨_, rfl⟩
 obtain ⟨rb, hrb⟩ : ∃ rb, rb = w.heap.size + 1 := ⟨_, rfl⟩
 obtain ⟨V, hV⟩ : ∃ V, V = (w.alloc (.cells o.cells 54)).alloc (.cells #[.bool false] 4) := ⟨_, rfl⟩
 have hP : PlAt w V b0 rb o := by rw [hV, hb0, hrb]; exact PlAt.new w o
 have Hcall := hd (hcall V hP.nw)
 have Hbox := hd (fun w1 => hbox V w1 rb #[.bool false] hP.nw)
 have HP := hd hP
 obtain ⟨PP, hPP⟩ : ∃ PP, PP = PlEnd w o P := ⟨_, rfl⟩
 have HPP := hd hPP
 obtain ⟨kk, a, b, vo, vcap, ro, rcap, vars, rows, nt, way, which, fv, mv⟩ := o
 have c0 : V.cell? ⟨b0, 0, none⟩ = some (.int .i64 kk) := hP.k0.cell 0
 have c1 : V.cell? ⟨b0, 1, none⟩ = some (.int .i64 a) := hP.k0.cell 1
 have c2 : V.cell? ⟨b0, 2, none⟩ = some (.int .i64 b) := hP.k0.cell 2
 have c3 : V.cell? ⟨b0, 3, none⟩ = some (.slice vo vars.length vcap) := hP.k0.cell 3
 have c4 : V.cell? ⟨b0, 4, none⟩ = some (.slice ro rows.length rcap) := hP.k0.cell 4
 have c5 : V.cell? ⟨b0, 5, none⟩ = some (.bool nt) := hP.k0.cell 5
 have c6 : V.cell? ⟨b0, 6, none⟩ = some (.int .i64 way) := hP.k0.cell 6
 have c7 : V.cell? ⟨b0, 7, none⟩ = some (.bool which) := hP.k0.cell 7
 have c8 : V.cell? ⟨b0, 8, none⟩ = some fv := hP.k0.cell 8
 have c9 : V.cell? ⟨b0, 9, none⟩ = some mv := hP.k0.cell 9
 have hbl := hP.k0.lt
 have hrl := hP.k1.lt
 rw [← hPP]
 dsimp only at h1 h8
 clear hP hPP hcall hbox
 have hk : kk = 1 ∨ kk = 2 ∨ kk = 3 ∨ kk = 4 ∨ kk = 5 ∨ kk = 6 ∨ kk = 7 ∨ kk = 8 := by omega
 clear h1 h8
 rcases hk with rfl | rfl | rfl | rfl | rfl | rfl | rfl | rfl
 all_goals
  have Hcall2 := Hcall
  simp only [plCall, OpV.cells, reduceIte, Int.reduceEq] at Hcall2
  clear Hcall
  go_enter Tryz.func35, Tryz.ntmps35
  go_upto_region 1 with fail
  rw [← show V = (w.alloc _).alloc _ from hV, ← hrb, ← hb0]
  clear hV hb0 hrb
  go_wp2_with ((first | go_at_call 53 | go_at_call 36 | go_at_call 38 | go_at_call 37); refine Hcall2.out.mono ?_; rintro e w1 ⟨rfl, h1⟩; have hb1 := Hbox.out w1 h1 HP.out.lo HP.out.k1; have HW := hd h1; have hf1 := hb1.free 0; have hcl1 : w1.cell? ⟨rb, 0, none⟩ = some (.bool false) := hb1.cell 0; have hrl1 := hb1.lt; have Hb1 := hd hb1; clear hb1 h1)
  refine bodyPost_ret (results_cellK (v := .bool true) (b := rb) (off := 0) rfl rfl (by kernel_rfl) ((Hb1.out.set 0 (.bool true)).cell 0)) rfl ?_
  rw [HPP.out]
  exact ⟨rfl, V, b0, rb, w1, HP.out, HW.out, Hb1.out, rfl⟩

set_option maxHeartbeats 1600000 in
set_option maxRecDepth 1000000 in
theorem plain_no (B D : Nat) (o : OpV) (w : World) (hk : o.kind ≤ 0 ∨ 9 < o.kind ∨ (o.kind = 9 ∧ w.cell? ⟨D, 2, none⟩ = some (.bool false) ∧ D < w.heap.size)) :
  Calls Tryz.prog 35 #[.pointer (some ⟨B, 0, none⟩), .pointer (some ⟨D, 0, none⟩), .agg o.cells] w (PlEnd w o (fun V w1 => w1 = V)) := by
 obtain ⟨b0, hb0⟩ : ∃ b0, b0 = w.heap.size := ⟨_, rfl⟩
 obtain ⟨rb, hrb⟩ : ∃ rb, rb = w.heap.size + 1 := ⟨_, rfl⟩
 obtain ⟨V, hV⟩ : ∃ V, V = (w.alloc (.cells o.cells 54)).alloc (.cells #[.bool false] 4) := ⟨_, rfl⟩
 have hP : PlAt w V b0 rb o := by rw [hV, hb0, hrb]; exact PlAt.new w o
 obtain ⟨kk, hkk⟩ : ∃ kk, o.kind = kk := ⟨_, rfl⟩
 rw [hkk] at hk
 have c0 : V.cell? ⟨b0, 0, none⟩ = some (.int .i64 kk) := (hP.k0.cell 0).trans (by rw [← hkk]; rfl)
 have n1 : (kk == 1) = false := by rw [beq_eq_false_iff_ne]; omega
 have n2 : (kk == 2) = false := by rw [beq_eq_false_iff_ne]; omega
 have n3 : (kk == 3) = false := by rw [beq_eq_false_iff_ne]; omega
 have n4 : (kk == 4) = false := by rw [beq_eq_false_iff_ne]; omega
 have n5 : (kk == 5) = false := by rw [beq_eq_false_iff_ne]; omega
 have n6 : (kk == 6) = false := by rw [beq_eq_false_iff_ne]; omega
 have n7 : (kk == 7) = false := by rw [beq_eq_false_iff_ne]; omega
 have n8 : (kk == 8) = false := by rw [beq_eq_false_iff_ne]; omega
 have hbl := hP.k0.lt
 have hrl := hP.k1.lt
 have hf1 := hP.k1.free 0
 have hcl1 : V.cell? ⟨rb, 0, none⟩ = some (.bool false) := hP.k1.cell 0
 have HP := hd hP
 obtain ⟨PP, hPP⟩ : ∃ PP, PP = PlEnd w o (fun V w1 => w1 = V) := ⟨_, rfl⟩
 rw [← hPP]
 have HPP := hd hPP
 have hD : kk = 9 → V.cell? ⟨D, 2, none⟩ = some (.bool false) ∧ D < V.heap.size := fun e => by
  obtain ⟨_, h1, h2⟩ : kk = 9 ∧ w.cell? ⟨D, 2, none⟩ = some (.bool false) ∧ D < w.heap.size := by
   rcases hk with h | h | h
   ·omega
   ·omega
   ·exact h
  exact ⟨(hP.nw.cell h2 (fun x => x)).trans h1, Nat.lt_of_lt_of_le h2 hP.nw.size⟩
 clear hP hPP hkk hk
 by_cases e9 : kk = 9
 ·obtain ⟨d2, hDl⟩ := hD e9
  subst e9
  clear hD n1 n2 n3 n4 n5 n6 n7 n8
  go_enter Tryz.func35, Tryz.ntmps35
  go_upto_region 1 with fail
  rw [← hV, ← hrb, ← hb0]
  clear hV hb0 hrb
  go_wp2_with fail
  refine bodyPost_ret (results_cellK (v := .bool true) (b := rb) (off := 0) rfl rfl (by kernel_rfl) ((HP.out.k1.set 0 (.bool true)).cell 0)) rfl ?_
  rw [HPP.out]
  exact ⟨rfl, V, b0, rb, V, HP.out, rfl, HP.out.k1, rfl⟩
 ·have n9 : (kk == 9) = false := by rw [beq_eq_false_iff_ne]; exact e9
  clear hD e9
  go_enter Tryz.func35, Tryz.ntmps35
  go_upto_region 1 with fail
  rw [← hV, ← hrb, ← hb0]
  clear hV hb0 hrb
  go_wp2_with fail
  refine bodyPost_ret (results_cellK (v := .bool true) (b := rb) (off := 0) rfl rfl (by kernel_rfl) ((HP.out.k1.set 0 (.bool true)).cell 0)) rfl ?_
  rw [HPP.out]
  exact ⟨rfl, V, b0, rb, V, HP.out, rfl, HP.out.k1, rfl⟩

theorem domains_any (W : World) (lo B : Nat) (L : LW) (d : Sd) (v : Int) (w : World) (h : LS W w lo B L d) (hbz : d.bz = false) (hr : LRoom L) :
  Calls Tryz.prog 36 #[.pointer (some ⟨B, 0, none⟩), .pointer (some ⟨d.D, 0, none⟩), .int .i64 v] w fun e w' => e = .returned (.bool true) ∧ ∃ L', LS W w' lo B L' d ∧ LStep w w' B L L' d d ∧ (∀ n, Cost L L' n) ∧ L'.turned = L.turned ∧ L'.rows = L.rows := by
 by_cases hv : 0 ≤ v ∧ v < d.zs.length
 ·obtain ⟨v, rfl⟩ : ∃ v' : Nat, v = (v' : Int) := ⟨v.toNat, by omega⟩
  refine (domains_ok W lo B L d v w h hbz (by omega) hr.n hr.four).mono ?_
  rintro e w' ⟨rfl, L', h1, h2, h3, h4, h5⟩
  exact ⟨rfl, L', h1, h2, fun n => ⟨by omega, by rw [h4]; omega, by rw [h5]; omega⟩, h4, h5⟩
 ·refine (domains_arg W lo B L d v w h hbz hv).mono ?_
  rintro e w' ⟨rfl, rfl⟩
  exact ⟨rfl, L, h, LStep.nw (Fr.refl _ _) B L d, fun n => ⟨by omega, by omega, by omega⟩, rfl, rfl⟩

end Go.Proofs.YtkjfpdfkcfgfkaaGreat

namespace Go.Proofs.YtkjfpdfkcfgfkaaGreat
open Go.RowKit

set_option maxHeartbeats 800000 in
set_option maxRecDepth 1000000 in
theorem count_arg (X : Nat) (zs : List Int) (s : WS) (most : Int) (w : World) (hA : WAt w X zs s) (hbz : s.l.busy = false) (hm : most < 0) :
  Calls Tryz.prog 55 #[.pointer (some ⟨X, 0, none⟩), .int .i64 most] w fun e w' => e = .returned (.tuple #[.int .i64 0, .int .i64 1]) ∧ Nw w w' := by
 have hd8 : s.d.length = 8 := hA.good.dm.len
 have hcb : w.cell? ⟨X, 12, none⟩ = some (.bool false) := (hA.mem.blk.cell 12).trans ((workCells_busy _ _ _ _ hd8).trans (by rw [hbz]))
 have hXl := hA.mem.blk.lt
 obtain ⟨V, hV⟩ : ∃ V, V = w.alloc (.cells #[.int .i64 most] 3) := ⟨_, rfl⟩
 have hfV : Nw w V := by rw [hV]; exact (Fr.refl _ w).alloc _
 have hb : Blk V w.heap.size #[.int .i64 most] 3 := by rw [hV]; exact Blk.new _ _ _
 have c0 : V.cell? ⟨w.heap.size, 0, none⟩ = some (.int .i64 most) := hb.cell 0
 have c1 : V.cell? ⟨X, 12, none⟩ = some (.bool false) := (hfV.cell hXl (fun x => x)).trans hcb
 have hbl := hb.lt
 have HfV := hd hfV
 clear hA hcb hb hfV
 go_enter Tryz.func55, Tryz.ntmps55
 go_upto_region 1 with fail
 rw [← hV]
 clear hV
 go_wp2_with fail
 go_ret2
 exact ⟨rfl, HfV.out⟩

set_option maxHeartbeats 800000 in
set_option maxRecDepth 1000000 in
theorem count_busy (X : Nat) (zs : List Int) (s : WS) (most : Int) (w : World) (hA : WAt w X zs s) (hbz : s.l.busy = true) :
  Calls Tryz.prog 55 #[.pointer (some ⟨X, 0, none⟩), .int .i64 most] w fun e w' => e = .returned (.tuple #[.int .i64 0, .int .i64 5]) ∧ Nw w w' := by
 have hd8 : s.d.length = 8 := hA.good.dm.len
 have hcb : w.cell? ⟨X, 12, none⟩ = some (.bool true) := (hA.mem.blk.cell 12).trans ((workCells_busy _ _ _ _ hd8).trans (by rw [hbz]))
 have hXl := hA.mem.blk.lt
 obtain ⟨V, hV⟩ : ∃ V, V = w.alloc (.cells #[.int .i64 most] 3) := ⟨_, rfl⟩
 have hfV : Nw w V := by rw [hV]; exact (Fr.refl _ w).alloc _
 have c1 : V.cell? ⟨X, 12, none⟩ = some (.bool true) := (hfV.cell hXl (fun x => x)).trans hcb
 have HfV := hd hfV
 clear hA hcb hfV
 go_enter Tryz.func55, Tryz.ntmps55
 go_upto_region 1 with fail
 rw [← hV]
 clear hV
 go_wp2_with fail
 go_ret2
 exact ⟨rfl, HfV.out⟩
theorem fitsB_nil {bs : List Tb} {n : Nat} (h : TbsOk n bs) : fitsB bs [] = true := by
 unfold fitsB
 rw [List.all_eq_true]
 intro b hb
 obtain ⟨i, hi, rfl⟩ := List.getElem_of_mem hb
 have hok := h i hi
 rw [show bs.getD i tb0 = bs[i] from getD_of_lt _ _ _ hi] at hok
 have hne : lastOf bs[i].vars ≠ -1 := by
  obtain ⟨q, hq, he⟩ := maxTo_mem bs[i].vars bs[i].vars.length hok.1.pos
  have := (hok.1.vars.ok q hq).1
  unfold lastOf
  omega
 rw [Bool.or_eq_true]
 left
 rw [decide_eq_true_eq]
 exact hne
theorem Pair.sols {bz : Bool} {W w : World} {lo X Y : Nat} {zs : List Int} {s : WS} {R : RS} (h : Pair bz W w lo X Y zs s R) : solF s.d (R.ts.map TbW.tb) zs.length [] = solN s.d s.bs zs.length [] := by
 unfold solF
 rw [← h.tabs, fitsB_nil h.at_.mem.tbok, if_pos rfl]
theorem Pair.doms {bz : Bool} {W w : World} {lo X Y : Nat} {zs : List Int} {s : WS} {R : RS} (h : Pair bz W w lo X Y zs s R) : ∀ q, q < zs.length → vals (s.d.getD q 0) = rDom R.now.bss R.now.dead q := fun q hq => by
 have := LinkD.vals h.now h.ref.rin.in8 h.ref.rin.b6 h.ref.rin.len q
 rw [if_pos hq] at this
 exact this

set_option maxHeartbeats 1600000 in
set_option maxRecDepth 1000000 in
theorem counts_arg (W : World) (lo B : Nat) (L : LW) (d : Sd) (most : Int) (w : World) (h : LS W w lo B L d) (hbz : d.bz = false) (hm : most < 0) :
  Calls Tryz.prog 37 #[.pointer (some ⟨d.D, 0, none⟩), .int .i64 most] w fun e w' => e = .returned (.bool true) ∧ ∃ d', LS W w' lo B L d' ∧ LStep w w' B L L d d' := by
 have hp := h.side.pair
 have Hcall := hd (count_arg d.X d.zs d.s most w hp.at_ (by rw [hp.busy]; exact hbz) hm)
 have Hcell := hd (show ∀ w', Nw w w' → w'.cell? ⟨d.D, 2, none⟩ = some (.bool false) ∧ d.D < w'.heap.size from fun w' f => ⟨((h.side.blk.nw f).cell 2).trans (by rw [← hbz]; rfl), (h.side.blk.nw f).lt⟩)
 have c0 : w.cell? ⟨d.D, 0, none⟩ = some (.pointer (some ⟨d.X, 0, none⟩)) := h.side.blk.cell 0
 have hDl := h.side.blk.lt
 have H := hd h
 clear h hp hbz
 go_enter Tryz.func37, Tryz.ntmps37
 go_wp2_with (go_at_call 55; refine Hcall.out.mono ?_; rintro e w1 ⟨rfl, hf1⟩; obtain ⟨c2, hDl1⟩ := Hcell.out w1 hf1; have Hf1 := hd hf1; clear hf1)
 go_ret
 exact ⟨rfl, d, H.out.nw Hf1.out, LStep.nw Hf1.out B L d⟩

set_option maxHeartbeats 1600000 in
set_option maxRecDepth 1000000 in
theorem counts_ok (W : World) (lo B : Nat) (L : LW) (d : Sd) (most : Nat) (w : World) (h : LS W w lo B L d) (hbz : d.bz = false) (hm : (most : Int) < 9223372036854775808) :
  Calls Tryz.prog 37 #[.pointer (some ⟨d.D, 0, none⟩), .int .i64 (most : Int)] w fun e w' => e = .returned (.bool true) ∧ ∃ d', LS W w' lo B L d' ∧ LStep w w' B L L d d' := by
 have hp := h.side.pair
 rw [hbz] at hp
 have Hcall := hd (count_all d.X d.zs d.s most w hp.at_ hp.busy hm hp.at_.pos)
 obtain ⟨N, hN⟩ : ∃ N, min most (solN d.s.d d.s.bs d.zs.length []).length = N := ⟨_, rfl⟩
 rw [hN] at Hcall
 have HN := hd hN
 have hNb : N ≤ most := by omega
 have Hp := hd hp
 have H := hd h
 have Hbz := hd hbz
 have c0 : w.cell? ⟨d.D, 0, none⟩ = some (.pointer (some ⟨d.X, 0, none⟩)) := h.side.blk.cell 0
 have hDl := h.side.blk.lt
 have hge : ¬ ((most : Int) < 0) := by omega
 have Hmid := hd (show ∀ w1, WAt w1 d.X d.zs d.s → Fr (d.s.own d.X) w w1 → LS W w1 lo B L d from fun w1 ha hf => by
  have hs : WStep w w1 d.X d.s d.s := ⟨hf, fun _ h => .inl h⟩
  obtain ⟨q1, q2, q3⟩ := hp.join h.env.base h.env.nw h.env.le ha hs (Fr.refl _ _) (hp.mid hs (Fr.refl _ _)) (Fr.refl _ _) rfl (fun q hq => .inl hq) hp.busy hp.now hp.tabs hp.levs
  rw [← hbz] at q1
  exact (h.pair q1 q2 q3).1)
 have Hstep := hd (show ∀ w1, Fr (d.s.own d.X) w w1 → LStep w w1 B L L d d from fun w1 hf => ⟨hf.mono (fun q hq => .inl (.inr (.inr (.inl hq)))), fun _ h => .inl h, fun _ h => .inl h, rfl, rfl, rfl, rfl, rfl, rfl⟩)
 have Hso := hd (show ∀ w1, LS W w1 lo B L d → Calls Tryz.prog 51 #[.pointer (some ⟨d.Y, 0, none⟩), .slice none 0 0, .int .i64 (most : Int)] w1 (fun e w' => ∃ v vs, e = .returned v ∧ SolRow w1 w' v vs ((solN d.s.d d.s.bs d.zs.length []).take most)) from fun w1 hL1 => by
  have := refSol_any W lo d.Y d.zs d.R d.s.d hp.doms d.zs.length [] (.slice none 0 0) most w1 (by simp) hL1.env.nw hL1.side.pair.ref (.inl ⟨rfl, rfl⟩) hm
  rw [hp.sols] at this
  exact this)
 clear h hp hbz hN hm hNb
 go_enter Tryz.func37, Tryz.ntmps37
 go_wp2_with (first
  | (go_at_call 55; refine Hcall.out.mono ?_; rintro e w1 ⟨rfl, hA1, hf1⟩; have hL1 := Hmid.out w1 hA1 hf1; have c2 : w1.cell? ⟨d.D, 2, none⟩ = some (.bool false) := (hL1.side.blk.cell 2).trans (by rw [← Hbz.out]; rfl); have c1 : w1.cell? ⟨d.D, 1, none⟩ = some (.pointer (some ⟨d.Y, 0, none⟩)) := hL1.side.blk.cell 1; have hDl1 := hL1.side.blk.lt; have HL1 := hd hL1; have Hf1 := hd hf1; have Hsol := hd (Hso.out w1 hL1); clear hA1 hf1 hL1)
  | (go_at_call 51; refine Hsol.out.mono ?_; rintro e w2 ⟨v, vs, rfl, hS⟩; obtain ⟨so, sc, hsf, _⟩ := hS.mine.row.form; have hvl : vs.length = N := (by rw [hS.len, List.length_take]; exact HN.out); rw [hvl] at hsf; subst hsf; have Hf2 := hd hS.mine.nw; clear hS hvl))
 go_ret
 exact ⟨rfl, d, HL1.out.nw Hf2.out, (Hstep.out w1 Hf1.out).trans (LStep.nw Hf2.out B L d)⟩
end Go.Proofs.YtkjfpdfkcfgfkaaGreat

namespace Go.Proofs.YtkjfpdfkcfgfkaaGreat
open Go.RowKit

theorem plain_any (W : World) (lo B : Nat) (L : LW) (d : Sd) (o : OpV) (w : World) (h : LS W w lo B L d) (hbz : d.bz = false) (ho : OpOk W o) (hr : LRoom L) :
  Calls Tryz.prog 35 #[.pointer (some ⟨B, 0, none⟩), .pointer (some ⟨d.D, 0, none⟩), .agg o.cells] w (PlainPost W w lo B L d o.rows.length) := by
 by_cases hk : 1 ≤ o.kind ∧ o.kind ≤ 8
 ·refine (plain_by B d.D o w (fun V w1 => ∃ L' d', LS W w1 lo B L' d' ∧ LStep V w1 B L L' d d' ∧ Cost L L' o.rows.length) hk.1 hk.2 (fun V hf => ?_) (fun V w1 rb cur hf ⟨L', d', h1, h2, h3⟩ hrb hb => (PlainPost.box h hf hrb hb h1 h2 h3).1)).mono ?_
  ·have hV := h.nw hf
   have hc : ∀ d', LS W V lo B L d' → Cost L L o.rows.length := fun _ _ => ⟨by omega, by omega, by omega⟩
   have hch : ∀ {e : Ending} {w1 : World}, (e = .returned (.bool true) ∧ ∃ d', LS W w1 lo B L d' ∧ LStep V w1 B L L d d') → e = .returned (.bool true) ∧ ∃ L' d', LS W w1 lo B L' d' ∧ LStep V w1 B L L' d d' ∧ Cost L L' o.rows.length := fun ⟨h1, d', h2, h3⟩ => ⟨h1, L, d', h2, h3, hc d hV⟩
   by_cases k1 : o.kind = 1
   ·rw [plCall, if_pos k1]
    refine (posts_any W lo B L d o.vo o.ro o.vcap o.rcap o.vars o.rows o.nt o.way V hV hbz ho.vs ho.rs ho.vl ho.rl ho.rr hr.t hr.r).mono ?_
    rintro e w1 ⟨rfl, L', d', h1, h2, h3, h4, h5⟩
    exact ⟨rfl, L', d', h1, h2, by rw [h3]; omega, by omega, by omega⟩
   rw [plCall, if_neg k1]
   by_cases k4 : o.kind = 4
   ·rw [if_pos k4]
    refine (domains_any W lo B L d o.a V hV hbz hr).mono ?_
    rintro e w1 ⟨rfl, L', h1, h2, h3, _⟩
    exact ⟨rfl, L', d, h1, h2, h3 _⟩
   rw [if_neg k4]
   by_cases k8 : o.kind = 8
   ·rw [if_pos k8]
    by_cases ha : o.a < 0
    ·exact (counts_arg W lo B L d o.a V hV hbz ha).mono (fun e w1 => hch)
    ·obtain ⟨a, ha⟩ : ∃ a : Nat, o.a = (a : Int) := ⟨o.a.toNat, by omega⟩
     have := ho.al
     rw [ha] at this ⊢
     exact (counts_ok W lo B L d a V hV hbz this).mono (fun e w1 => hch)
   rw [if_neg k8]
   have hc5 : o.kind = 2 ∨ o.kind = 3 ∨ o.kind = 5 ∨ o.kind = 6 ∨ o.kind = 7 := by omega
   rcases hc5 with k | k | k | k | k
   ·exact (changes_fix W lo B L d o V hV hbz k).mono (fun e w1 => hch)
   ·exact (changes_remove W lo B L d o V hV hbz k).mono (fun e w1 => hch)
   ·exact (changes_look W lo B L d o.cells V hV hbz (by rw [← k]; rfl)).mono (fun e w1 ⟨h1, h2⟩ => ⟨h1, L, d, hV.nw h2, LStep.nw h2 B L d, hc d hV⟩)
   ·exact (changes_push W lo B L d o V hV hbz k).mono (fun e w1 => hch)
   ·exact (changes_pop W lo B L d o V hV hbz k).mono (fun e w1 => hch)
  ·rintro e w' ⟨rfl, V, b0, rb, w1, hP, ⟨L', d', h1, h2, h3⟩, hb, rfl⟩
   exact (PlainPost.box h hP.nw hP.lo hP.k1 h1 h2 h3).2
 ·refine (plain_no B d.D o w ?_).mono ?_
  ·by_cases k9 : o.kind = 9
   ·exact .inr (.inr ⟨k9, (h.side.blk.cell 2).trans (by rw [← hbz]; rfl), h.side.blk.lt⟩)
   ·omega
  ·rintro e w' ⟨rfl, V, b0, rb, w1, hP, rfl, hb, rfl⟩
   exact (PlainPost.box h hP.nw hP.lo hP.k1 (h.nw hP.nw) (LStep.nw (Fr.refl _ _) B L d) ⟨by omega, by omega, by omega⟩).2
end Go.Proofs.YtkjfpdfkcfgfkaaGreat
