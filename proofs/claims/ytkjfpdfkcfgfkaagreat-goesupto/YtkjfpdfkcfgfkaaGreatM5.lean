/- Parts of the proof, number 5: contracts of the functions that the statement calls. -/
import Derived.Test.YtkjfpdfkcfgfkaaGreatM4
import Derived.Test.YtkjfpdfkcfgfkaaGreatM0
import Derived.Test.YtkjfpdfkcfgfkaaGreatM3

namespace Go.Proofs.YtkjfpdfkcfgfkaaGreat
open Go.RowKit

def ts00 : TS := .rs false [] 0
structure WS where
 szv : Value
 d : List Nat
 so : Option Addr
 tcap : Nat
 l : Rest
 ts : List Tab
 bs : List Tb
 us : List Un
 sk : List (Nat × List Nat × List TS)
structure Good (zs : List Int) (bs : List Tb) (d : List Nat) (tss : List TS) : Prop where
 dm : Dm d
 inn : SubD d (fullTo zs zs.length)
 alive : d = zero8 ∨ Full zs.length d
 clo : ∀ b ∈ bs, SuppAll b d
 len : tss.length = bs.length
 rep : ∀ k, k < bs.length → TRep (bs.getD k tb0) d (tss.getD k ts00)
def StackOk (zs : List Int) (bs : List Tb) : List Un → List Nat × List TS → List (Nat × List Nat × List TS) → Prop
 | us, _, [] => us = []
 | us, cur, (n, s) :: r => n ≤ us.length ∧ (us.drop n).foldr Un.undo cur = s ∧ Good zs bs s.1 s.2 ∧ n + 900 * bitsOf s.1 ≤ 57600 ∧ StackOk zs bs (us.take n) s r
def startsOf (sk : List (Nat × List Nat × List TS)) : List Value := sk.reverse.map (fun p => Value.int .i64 (p.1 : Int))
theorem startsOf_empty (sk : List (Nat × List Nat × List TS)) : (startsOf sk).isEmpty = true ↔ sk = [] := by
 cases sk with
 | nil => simp [startsOf]
 | cons p r => simp [startsOf]
structure WMem (w : World) (X : Nat) (zs : List Int) (s : WS) : Prop where
 blk : Blk w X (workCells s.szv s.d (.slice s.so s.ts.length s.tcap) s.l) 66
 sz : Row w s.szv 3 (zs.map (Value.int .i64))
 zok : okSizes zs = true
 tabs : TabsAt w s.so s.tcap s.ts
 inj : Inj s.ts
 t12 : s.ts.length ≤ 12
 fits : Fits s.bs s.ts
 tbok : TbsOk zs.length s.bs
 tr : TrAt w s.l (startsOf s.sk) (s.us.map Un.val)
 un : ∀ u ∈ s.us, u.At w X s.ts
 apart : ∀ k, s.l.starts.ownBlock = some k → s.szv.ownBlock ≠ some k ∧ ∀ i, i < s.ts.length → (s.ts.getD i tab0).g ≠ k
structure WAt (w : World) (X : Nat) (zs : List Int) (s : WS) : Prop where
 mem : WMem w X zs s
 good : Good zs s.bs s.d (s.ts.map Tab.t)
 cnt : s.us.length + 900 * bitsOf s.d ≤ 57600
 sk : StackOk zs s.bs s.us (s.d, s.ts.map Tab.t) s.sk
 lev : s.sk.length ≤ 20
theorem okSizes_len {zs : List Int} (h : okSizes zs = true) : 0 < zs.length ∧ zs.length ≤ 8 := by
 simp only [okSizes, Bool.and_eq_true, decide_eq_true_eq] at h
 omega
def WS.own (X : Nat) (s : WS) (k : Nat) : Prop := k = X ∨ s.szv.ownBlock = some k ∨ (Value.slice s.so s.ts.length s.tcap).ownBlock = some k ∨ (∃ i, i < s.ts.length ∧ (k = (s.ts.getD i tab0).G ∨ k = (s.ts.getD i tab0).g)) ∨ s.l.backs.ownBlock = some k ∨ s.l.starts.ownBlock = some k ∨ ∃ u ∈ s.us, u.boxes k
def ownTys : List TypeId := [66, 3, 73, 131, 125, 1, 137, 35, 60]
theorem TAt.tyg {w : World} {G g cap : Nat} {vars : List Int} {t : TS} (h : TAt w G g cap vars t) : ∃ cur, Blk w g cur 3 := by
 cases t with
 | rs nt br live =>
  obtain ⟨cur, hb, _⟩ := h.2.1.blk rfl
  exact ⟨cur, hb⟩
 | dg nv os root =>
  obtain ⟨cur, hb, _⟩ := h.1.rv.blk rfl
  exact ⟨cur, hb⟩
theorem TAt.tyn {w : World} {G g cap : Nat} {vars : List Int} {t : TS} (h : TAt w G g cap vars t) {k : Nat} (hk : t.nodes k) : ∃ cur, Blk w k cur 151 := by
 cases t with
 | rs nt br live => exact hk.elim
 | dg nv os root => exact ownsRow.blk h.1.row hk
theorem Un.At.box {w : World} {X : Nat} {ts : List Tab} {u : Un} (h : u.At w X ts) {k : Nat} (hk : u.boxes k) : ∃ cur e, Blk w k cur e ∧ (e = 73 ∨ e = 137 ∨ e = 35 ∨ e = 60) := by
 cases u with
 | n T S j t0 =>
  rcases hk with rfl | rfl
  ·exact ⟨_, _, h.2.1, .inl rfl⟩
  ·exact ⟨_, _, h.2.2.1, .inr (.inl rfl)⟩
 | r T D d0 =>
  rcases hk with rfl | rfl
  ·exact ⟨_, _, h.1, .inr (.inr (.inl rfl))⟩
  ·exact ⟨_, _, h.2.1, .inr (.inr (.inr rfl))⟩
theorem Un.At.fr {S : Nat → Prop} {w w' : World} {X : Nat} {ts : List Tab} {u : Un} (h : u.At w X ts) (f : Fr S w w') (hn : ∀ k, u.boxes k → ¬ S k) {es : List TypeId} (o : Only w S es) (he : 151 ∉ es) : u.At w' X ts := by
 cases u with
 | n T S' j t0 => exact ⟨h.1, h.2.1.fr f (hn _ (.inl rfl)), h.2.2.1.fr f (hn _ (.inr rfl)), h.2.2.2.frO f o he⟩
 | r T D d0 => exact ⟨h.1.fr f (hn _ (.inl rfl)), h.2.1.fr f (hn _ (.inr rfl)), h.2.2⟩
theorem WMem.ty {w : World} {X : Nat} {zs : List Int} {s : WS} (h : WMem w X zs s) {k : Nat} (hk : s.own X k) : ∃ cur e, Blk w k cur e ∧ e ∈ ownTys := by
 rcases hk with rfl | hk | hk | ⟨i, hi, rfl | rfl⟩ | hk | hk | ⟨u, hu, hk⟩
 ·exact ⟨_, _, h.blk, by decide⟩
 ·obtain ⟨cur, hb, _⟩ := h.sz.blk hk
  exact ⟨_, _, hb, by decide⟩
 ·obtain ⟨cur, hb, _⟩ := h.tabs.row.blk hk
  exact ⟨_, _, hb, by decide⟩
 ·obtain ⟨cur, e, hb, he⟩ := (h.tabs.at_ i hi).tyG
  refine ⟨_, _, hb, ?_⟩
  rcases he with rfl | rfl <;> decide
 ·obtain ⟨cur, hb⟩ := (h.tabs.at_ i hi).tyg
  exact ⟨_, _, hb, by decide⟩
 ·obtain ⟨cur, hb, _⟩ := h.tr.backs.blk hk
  exact ⟨_, _, hb, by decide⟩
 ·obtain ⟨cur, hb, _⟩ := h.tr.starts.blk hk
  exact ⟨_, _, hb, by decide⟩
 ·obtain ⟨cur, e, hb, he⟩ := (h.un u hu).box hk
  refine ⟨_, _, hb, ?_⟩
  rcases he with rfl | rfl | rfl | rfl <;> decide
theorem WMem.lt {w : World} {X : Nat} {zs : List Int} {s : WS} (h : WMem w X zs s) {k : Nat} (hk : s.own X k) : k < w.heap.size := by
 obtain ⟨_, _, hb, _⟩ := h.ty hk
 exact hb.lt
theorem WMem.only {w : World} {X : Nat} {zs : List Int} {s : WS} (h : WMem w X zs s) : Only w (s.own X) ownTys := fun k cur e hk hb => by
 obtain ⟨_, _, hb', he⟩ := h.ty hk
 rw [(hb.inj hb').2]
 exact he
theorem WMem.fr {S : Nat → Prop} {w w' : World} {X : Nat} {zs : List Int} {s : WS} (h : WMem w X zs s) (f : Fr S w w') (hn : ∀ k, s.own X k → ¬ S k) {es : List TypeId} (o : Only w S es) (he : 151 ∉ es) : WMem w' X zs s := by
 refine ⟨h.blk.fr f (hn _ (.inl rfl)), h.sz.fr f (fun k hk => hn k (.inr (.inl hk))), h.zok, ⟨h.tabs.row.fr f (fun k hk => hn k (.inr (.inr (.inl hk)))), fun i hi => (h.tabs.at_ i hi).fr f ?_, h.tabs.four, h.tabs.ok⟩, h.inj, h.t12, h.fits, h.tbok, h.tr.fr f (fun k hk => hn k (.inr (.inr (.inr (.inr (.inr (.inl hk))))))) (fun k hk => hn k (.inr (.inr (.inr (.inr (.inl hk)))))), fun u hu => (h.un u hu).fr f (fun k hk => hn k (.inr (.inr (.inr (.inr (.inr (.inr ⟨u, hu, hk⟩))))))) o he, h.apart⟩
 rintro k (hk | hk | hk)
 ·exact hn k (.inr (.inr (.inr (.inl ⟨i, hi, .inl hk⟩))))
 ·exact hn k (.inr (.inr (.inr (.inl ⟨i, hi, .inr hk⟩))))
 ·obtain ⟨cur, hb⟩ := (h.tabs.at_ i hi).tyn hk
  exact fun hs => he (o k cur _ hs hb)
theorem WAt.fr {S : Nat → Prop} {w w' : World} {X : Nat} {zs : List Int} {s : WS} (h : WAt w X zs s) (f : Fr S w w') (hn : ∀ k, s.own X k → ¬ S k) {es : List TypeId} (o : Only w S es) (he : 151 ∉ es) : WAt w' X zs s := ⟨h.mem.fr f hn o he, h.good, h.cnt, h.sk, h.lev⟩
theorem WAt.nw {w w' : World} {X : Nat} {zs : List Int} {s : WS} (h : WAt w X zs s) (f : Nw w w') : WAt w' X zs s := h.fr f (fun _ _ x => x) (Only.none w) (by decide)
theorem WMem.nw {w w' : World} {X : Nat} {zs : List Int} {s : WS} (h : WMem w X zs s) (f : Nw w w') : WMem w' X zs s := h.fr f (fun _ _ x => x) (Only.none w) (by decide)
structure WStep (w w' : World) (X : Nat) (s s' : WS) : Prop where
 fr : Fr (s.own X) w w'
 grow : ∀ k, s'.own X k → s.own X k ∨ w.heap.size ≤ k
theorem WStep.refl (w : World) (X : Nat) (s : WS) : WStep w w X s s := ⟨Fr.refl _ _, fun _ h => .inl h⟩
theorem WStep.nw {w w' : World} (h : Nw w w') (X : Nat) (s : WS) : WStep w w' X s s := ⟨h.mono (fun _ x => x.elim), fun _ h => .inl h⟩
theorem WStep.trans {a b c : World} {X : Nat} {s s' s'' : WS} (h : WStep a b X s s') (k : WStep b c X s' s'') : WStep a c X s s'' := ⟨h.fr.trans k.fr h.grow, fun i hi => by
 rcases k.grow i hi with h1 | h1
 ·exact h.grow i h1
 ·exact .inr (Nat.le_trans h.fr.size h1)⟩
theorem WAt.other {w w' : World} {X Y : Nat} {zs ys : List Int} {s s' t : WS} (h : WAt w Y ys t) (hx : WMem w X zs s) (k : WStep w w' X s s') (hn : ∀ q, t.own Y q → ¬ s.own X q) : WAt w' Y ys t ∧ ∀ q, t.own Y q → ¬ s'.own X q :=
 ⟨h.fr k.fr hn hx.only (by decide), fun q hq hs => (k.grow q hs).elim (hn q hq) (fun h' => absurd (h.mem.lt hq) (by omega))⟩

theorem zero_supp (b : Tb) : SuppAll b zero8 := fun i v _ h => by rw [zero8_get] at h; simp at h
theorem bits_max (d : List Nat) : bitsOf d ≤ 64 := by
 have key : ∀ (l : List Nat) (a : Nat), (l.map (fun q => (vals (d.getD q 0)).length)).foldl (· + ·) a ≤ a + 8 * l.length := by
  intro l
  induction l with
  | nil => intro a; simp
  | cons q l ih =>
   intro a
   have h1 := ih (a + (vals (d.getD q 0)).length)
   have h2 : (vals (d.getD q 0)).length ≤ 8 := by
    have := List.length_filter_le (fun v => (d.getD q 0).testBit v) (List.range 8)
    simpa [vals] using this
   simp only [List.map_cons, List.foldl_cons, List.length_cons]
   omega
 have := key (List.range 8) 0
 simpa [bitsOf] using this
theorem mapT_getD (ts : List Tab) (k : Nat) : (ts.map Tab.t).getD k ts00 = (ts.getD k tab0).t := by
 simp only [List.getD, List.getElem?_map]
 cases ts[k]? <;> rfl
def WS.ctx (X : Nat) (zs : List Int) (s : WS) (start : List Nat) : SCtx := ⟨X, s.szv, zs, s.d, s.so, s.tcap, s.l, startsOf s.sk, s.us.map Un.val, s.ts, s.bs, start⟩
def WS.set (s : WS) (d' : List Nat) (bv : Value) (ts : List Tab) (us : List Un) : WS := { s with d := d', l := ⟨bv, s.l.starts, s.l.busy⟩, ts := ts, us := if s.sk.isEmpty then [] else s.us ++ us }
theorem WMem.onlyS {w : World} {X : Nat} {zs : List Int} {s : WS} (h : WMem w X zs s) : Only w (SFr X s.ts s.l.backs) [66, 131, 125, 1] := by
 rintro k cur e (rfl | ⟨i, hi, rfl⟩ | hk) hb
 ·rw [(hb.inj h.blk).2]
  decide
 ·obtain ⟨cur', e', hb', he⟩ := (h.tabs.at_ i hi).tyG
  rw [(hb.inj hb').2]
  rcases he with rfl | rfl <;> decide
 ·obtain ⟨cur', hb', _⟩ := h.tr.backs.blk hk
  rw [(hb.inj hb').2]
  decide
theorem StackOk.add {zs : List Int} {bs : List Tb} {us us' : List Un} {cur cur' : List Nat × List TS} (hb : us'.foldr Un.undo cur' = cur) : ∀ {sk : List (Nat × List Nat × List TS)}, StackOk zs bs us cur sk → StackOk zs bs (if sk.isEmpty then [] else us ++ us') cur' sk
 | [], _ => rfl
 | (n, s) :: r, ⟨h1, h2, h3, h4, h5⟩ => by
  show StackOk zs bs (us ++ us') cur' ((n, s) :: r)
  refine ⟨by rw [List.length_append]; omega, ?_, h3, h4, ?_⟩
  ·rw [List.drop_append_of_le_length h1, List.foldr_append, hb]
   exact h2
  ·rw [List.take_append_of_le_length h1]
   exact h5
theorem WMem.settled {w w' : World} {X : Nat} {zs : List Int} {s : WS} {start : List Nat} {B : Nat} {d' : List Nat} {bv : Value} {ts : List Tab} {us : List Un} (h : WMem w X zs s) (hk : StackOk zs s.bs s.us (s.d, s.ts.map Tab.t) s.sk)
  (hin : SubD start (fullTo zs zs.length)) (hdm : Dm s.d) (hsub : SubD start s.d) (hc : s.us.length + 900 * bitsOf s.d ≤ 57600) (hB1 : B ≤ 850) (hB2 : d' = s.d → s.sk ≠ [] → B ≤ bitsOf s.d * 13) (hlev : s.sk.length ≤ 20) (set : Settled (s.ctx X zs start) B w w' d' bv ts us) :
  WAt w' X zs (s.set d' bv ts us) ∧ WStep w w' X s (s.set d' bv ts us) := by
 have hsame : SameT s.ts ts := set.same
 have hfr : Fr (SFr X s.ts s.l.backs) w w' := set.fr
 have oS := h.onlyS
 have hd' : SubD d' s.d := by
  by_cases hF : Full zs.length d'
  ·exact ((set.clo.full hF).1).trans hsub
  ·rw [(set.clo.none hF).1]
   exact zero8_sub _
 refine ⟨⟨⟨set.blk, set.sz, h.zok, set.tabs, hsame.inj h.inj, by show ts.length ≤ 12; rw [hsame.len]; exact h.t12, hsame.fits h.fits, h.tbok, ?_, ?_, fun k hk => ⟨(h.apart k hk).1, fun i hi => ?_⟩⟩, ?_, ?_, ?_, hlev⟩, ?_⟩
 ·have htr := set.tr
  show TrAt w' ⟨bv, s.l.starts, s.l.busy⟩ (startsOf s.sk) ((if s.sk.isEmpty then [] else s.us ++ us).map Un.val)
  have e : (if s.sk.isEmpty then [] else s.us ++ us).map Un.val = keepIf (startsOf s.sk) (s.us.map Un.val) us := by
   cases hsk : s.sk with
   | nil =>
    rw [hsk] at hk
    have hu : s.us = [] := hk
    simp [keepIf, startsOf, hu]
   | cons p r => simp [keepIf, startsOf]
  rw [e]
  exact htr
 ·intro u hu
  have key : ∀ u ∈ s.us, u.At w' X ts := fun u hu => ((h.un u hu).frO hfr oS (by decide) (.inr (by decide))).same hsame
  have hu' : u ∈ (if s.sk.isEmpty then [] else s.us ++ us) := hu
  split at hu'
  ·cases hu'
  ·rcases List.mem_append.1 hu' with h1 | h1
   ·exact key u h1
   ·exact set.un u h1
 ·have hi' : i < s.ts.length := by rw [← hsame.len]; exact hi
  show (ts.getD i tab0).g ≠ k
  rw [(hsame.at_ i hi').2.1]
  exact (h.apart k hk).2 i hi'
 ·refine ⟨set.dm, ?_, ?_, ?_, ?_, ?_⟩
  ·show SubD d' _
   by_cases hF : Full zs.length d'
   ·exact ((set.clo.full hF).1).trans hin
   ·rw [(set.clo.none hF).1]
    exact zero8_sub _
  ·by_cases hF : Full zs.length d'
   ·exact .inr hF
   ·exact .inl (set.clo.none hF).1
  ·by_cases hF : Full zs.length d'
   ·exact (set.clo.full hF).2.1
   ·intro b hb
    show SuppAll b d'
    rw [(set.clo.none hF).1]
    exact zero_supp b
  ·show (ts.map Tab.t).length = s.bs.length
   rw [List.length_map, hsame.len, h.fits.1]
  ·intro k hk'
   show TRep _ d' ((ts.map Tab.t).getD k ts00)
   rw [mapT_getD]
   exact set.rep k hk'
 ·show (if s.sk.isEmpty then [] else s.us ++ us).length + 900 * bitsOf d' ≤ 57600
  have hcnt := set.cnt
  have hm1 := bits_max d'
  cases hsk : s.sk with
  | nil =>
   simp
   omega
  | cons p r =>
   simp only [List.isEmpty_cons, Bool.false_eq_true, if_false, List.length_append]
   have hcnt : us.length + bitsOf d' * 13 ≤ B + (if d' = s.d then 0 else 1) := hcnt
   by_cases e : d' = s.d
   ·rw [if_pos e] at hcnt
    have h2 := hB2 e (by rw [hsk]; simp)
    rw [e] at hcnt ⊢
    omega
   ·rw [if_neg e] at hcnt
    have h2 := bits_lt set.dm hdm hd' e
    omega
 ·exact hk.add set.back
 ·refine ⟨hfr.mono ?_, ?_⟩
  ·rintro i (rfl | ⟨j, hj, rfl⟩ | hi)
   ·exact .inl (.inl rfl)
   ·exact .inl (.inr (.inr (.inr (.inl ⟨j, hj, .inl rfl⟩))))
   ·exact .inl (.inr (.inr (.inr (.inr (.inl hi)))))
  ·rintro k (rfl | hk' | hk' | ⟨i, hi, hk'⟩ | hk' | hk' | ⟨u, hu, hk'⟩)
   ·exact .inl (.inl rfl)
   ·exact .inl (.inr (.inl hk'))
   ·refine .inl (.inr (.inr (.inl ?_)))
    have hk2 : (Value.slice s.so ts.length s.tcap).ownBlock = some k := hk'
    rw [hsame.len] at hk2
    exact hk2
   ·have hi' : i < s.ts.length := by rw [← hsame.len]; exact hi
    have hk2 : k = (ts.getD i tab0).G ∨ k = (ts.getD i tab0).g := hk'
    rw [(hsame.at_ i hi').1, (hsame.at_ i hi').2.1] at hk2
    exact .inl (.inr (.inr (.inr (.inl ⟨i, hi', hk2⟩))))
   ·rcases set.own k hk' with h1 | h1
    ·exact .inl (.inr (.inr (.inr (.inr (.inl h1)))))
    ·exact .inr h1
   ·exact .inl (.inr (.inr (.inr (.inr (.inr (.inl hk'))))))
   ·have hu' : u ∈ (if s.sk.isEmpty then [] else s.us ++ us) := hu
    split at hu'
    ·cases hu'
    ·rcases List.mem_append.1 hu' with h1 | h1
     ·exact .inl (.inr (.inr (.inr (.inr (.inr (.inr ⟨u, h1, hk'⟩))))))
     ·exact .inr (set.new u h1 k hk')
end Go.Proofs.YtkjfpdfkcfgfkaaGreat

namespace Go.Proofs.YtkjfpdfkcfgfkaaGreat
open Go.RowKit

def noMarks : List Bool := List.replicate 12 false
theorem noMarks_get (k : Nat) : noMarks.getD k false = false := by
 simp only [noMarks, List.getD, List.getElem?_replicate]
 split <;> rfl
theorem list12 {α : Type} {l : List α} (h : l.length = 12) : ∃ a0 a1 a2 a3 a4 a5 a6 a7 a8 a9 a10 a11, l = [a0, a1, a2, a3, a4, a5, a6, a7, a8, a9, a10, a11] := by
 match l, h with
 | [a0, a1, a2, a3, a4, a5, a6, a7, a8, a9, a10, a11], _ => exact ⟨_, _, _, _, _, _, _, _, _, _, _, _, rfl⟩
theorem Good.restr {zs : List Int} {bs : List Tb} {ts : List Tab} {d dn : List Nat} (h : Good zs bs d (ts.map Tab.t)) (hf : Fits bs ts) (h12 : ts.length ≤ 12) (hdn : Dm dn) (hsub : SubD dn d) : SInv bs ts (wakeTo ts d dn noMarks ts.length) dn dn := by
 refine ⟨hdn, SubD.refl _, fun _ h _ => h, fun k hk hq => ?_, fun k hk => ?_⟩
 ·have hw := wakeTo_get ts d dn noMarks (by show ts.length ≤ 12; exact h12) k ts.length (Nat.le_refl _)
  have h2 : changedB (bs.getD k tb0).vars d dn (bs.getD k tb0).vars.length = false := by
   cases hx : changedB (bs.getD k tb0).vars d dn (bs.getD k tb0).vars.length with
   | false => rfl
   | true =>
    rw [← hf.2 k hk] at hx
    rw [hw.2 (.inr ⟨by rw [hf.1]; exact hk, hx⟩)] at hq
    cases hq
  exact (h.clo _ (getD_mem hk)).same (changed_same h2)
 ·have := (h.rep k hk).mono hsub
  rw [mapT_getD] at this
  exact this
theorem wakeTo_off (ts : List Tab) (a b : List Nat) (h12 : ts.length ≤ 12) (k : Nat) (hk : ts.length ≤ k) : (wakeTo ts a b noMarks ts.length).getD k false = false := by
 have hw := wakeTo_get ts a b noMarks (by show ts.length ≤ 12; exact h12) k ts.length (Nat.le_refl _)
 cases hx : (wakeTo ts a b noMarks ts.length).getD k false with
 | false => rfl
 | true =>
  rcases hw.1 hx with h1 | ⟨h1, _⟩
  ·rw [noMarks_get] at h1
   cases h1
  ·omega

set_option maxHeartbeats 3200000 in
set_option maxRecDepth 1000000 in
theorem restrict_any (X : Nat) (zs : List Int) (s : WS) (v x : Nat) (w : World) (h : WAt w X zs s) (hv : v < zs.length) (hsub : SubD (s.d.set v x) s.d) (hfull : Full zs.length s.d) :
  Calls Tryz.prog 31 #[.pointer (some ⟨X, 0, none⟩), .int .i64 v, .int .u8 x] w fun e w' => e = .returned (.tuple #[]) ∧ ∃ d' bv ts us, Closure zs.length s.bs (s.d.set v x) d' ∧ Dm d' ∧
   WAt w' X zs (s.set d' bv ts us) ∧ WStep w w' X s (s.set d' bv ts us) := by
 obtain ⟨hz0, hzl⟩ := okSizes_len h.mem.zok
 have hd8 : s.d.length = 8 := h.good.dm.len
 obtain ⟨v0, v1, v2, v3, v4, v5, v6, v7, hdv⟩ := domV8 hd8
 obtain ⟨⟨x0, rfl⟩, ⟨x1, rfl⟩, ⟨x2, rfl⟩, ⟨x3, rfl⟩, ⟨x4, rfl⟩, ⟨x5, rfl⟩, ⟨x6, rfl⟩, ⟨x7, rfl⟩⟩ := domV_one s.d hdv
 obtain ⟨dn, hdn⟩ : ∃ dn, s.d.set v x = dn := ⟨_, rfl⟩
 have h8 : dn.length = 8 := by rw [← hdn]; simpa using hd8
 rw [hdn] at hsub ⊢
 have hdm : Dm dn := ⟨h8, fun q => subD_lt hsub (h.good.dm.lt q)⟩
 obtain ⟨m0, m1, m2, m3, m4, m5, m6, m7, hnv⟩ := domV8 h8
 have hX := h.mem.blk
 have hXlt := hX.lt
 have hi8 : (v : Int) < 8 := by omega
 obtain ⟨c0, c1, c2, c3, c4, c5, c6, c7⟩ := work8 hX hdv
 obtain ⟨mk, hmk⟩ : ∃ mk, wakeTo s.ts s.d dn noMarks s.ts.length = mk := ⟨_, rfl⟩
 have hml : mk.length = 12 := by rw [← hmk, wakeTo_length]; rfl
 obtain ⟨b0, b1, b2, b3, b4, b5, b6, b7, b8, b9, b10, b11, hmb⟩ := list12 hml
 have hmv : mksV mk = #[.bool b0, .bool b1, .bool b2, .bool b3, .bool b4, .bool b5, .bool b6, .bool b7, .bool b8, .bool b9, .bool b10, .bool b11] := by rw [hmb]; rfl
 have HH := hd h
 have HX := hd hX
 have Hdv := hd hdv
 have Hnv := hd hnv
 have Hdn := hd hdn
 have Hmk := hd hmk
 have Hmv := hd hmv
 have Hsub := hd hsub
 have Hfull := hd hfull
 clear h hX hdv hnv hdn hmk hmv hmb hsub hfull
 go_enter Tryz.func31, Tryz.ntmps31
 go_upto_region 1 with fail
 obtain ⟨W, hW⟩ : ∃ W, W = w.alloc (.cells (domV s.d) 60) := ⟨_, rfl⟩
 have hfW : Nw w W := by rw [hW]; exact (Fr.refl _ w).alloc _
 have hbN : Blk W w.heap.size (domV s.d) 60 := by rw [hW]; exact Blk.new _ _ _
 rw [← Hdv.out]
 rw [← hW]
 clear hW c0 c1 c2 c3 c4 c5 c6 c7
 have hfz := hbN.free v
 obtain ⟨xv, hcv⟩ : ∃ xv, W.cell? ⟨w.heap.size, v, none⟩ = some xv := ⟨_, (hbN.cell _).trans (domV_get s.d v (by omega))⟩
 have HbN := hd hbN
 clear hbN
 go_upto_region 2 with fail
 obtain ⟨U, hU⟩ : ∃ U, U = W.setCell ⟨w.heap.size, v, none⟩ (.int .u8 (x : Int)) := ⟨_, rfl⟩
 have hbU : Blk U w.heap.size (domV dn) 60 := by rw [hU, ← Hdn.out, ← domV_set]; exact HbN.out.set v _
 have hfU : Nw w U := by rw [hU]; exact hfW.setCell _ _ (.inr (Nat.le_refl _))
 have hlU := hbU.lt
 rw [← hU]
 clear hU hfW hcv hfz HbN
 have HbU := hd hbU
 clear hbU
 go_upto_region 3 with fail
 obtain ⟨V, hV⟩ : ∃ V, V = U.alloc (.cells (mksV noMarks) 71) := ⟨_, rfl⟩
 have hfV : Nw w V := by rw [hV]; exact hfU.alloc _
 have hbV : Blk V w.heap.size (domV dn) 60 := by rw [hV]; exact HbU.out.alloc _
 have hbM : Blk V U.heap.size (mksV noMarks) 71 := by rw [hV]; exact Blk.new _ _ _
 rw [show U.alloc (Obj.cells #[Value.bool false, Value.bool false, Value.bool false, Value.bool false, Value.bool false, Value.bool false, Value.bool false, Value.bool false, Value.bool false, Value.bool false, Value.bool false, Value.bool false] 71) = V from hV.symm]
 clear hV
 have hlM := hbM.lt
 have hHV := HH.out.mem.nw hfV
 obtain ⟨c0, c1, c2, c3, c4, c5, c6, c7⟩ := work8 hHV.blk Hdv.out
 obtain ⟨e0, e1, e2, e3, e4, e5, e6, e7⟩ := cells8 (Hnv.out ▸ hbV)
 have HbV := hd hbV
 have HbM := hd hbM
 have HHV := hd hHV
 have HHd := hd (hHV.nw ((Fr.refl _ V).drew))
 have HfV := hd hfV
 have Hown : Hid (∀ k, s.own X k → k < w.heap.size) := fun k hk => HH.out.mem.lt hk
 clear hbV hbM hfV hfU HX HbU hHV
 go_still_tail 6, (by kernel_rfl)
 go_wp2_with fail
 rw [← Hdv.out, ← Hnv.out]
 refine (wake_any X U.heap.size s.so s.tcap s.szv s.d s.l s.ts s.d dn noMarks _ HHd.out.blk hd8 HHd.out.tabs HHd.out.t12 rfl (fun i hi => ⟨fun e => ?_, fun e => ?_⟩) (fun o ho e => ?_) hd8 h8 HbM.out.drew).mono ?_
 ·have := Hown.out _ (.inr (.inr (.inr (.inl ⟨i, hi, .inl rfl⟩))))
  omega
 ·have := Hown.out _ (.inr (.inr (.inr (.inl ⟨i, hi, .inr rfl⟩))))
  omega
 ·obtain ⟨so', sc', hfo, hg⟩ := HHd.out.tabs.row.form
  have e2 : s.so = so' := by injection hfo
  obtain ⟨g, hg1, hg2⟩ := hg o (by rw [← e2]; exact ho)
  have := Hown.out _ (.inr (.inr (.inl hg2)))
  subst hg1
  have e3 : g = U.heap.size := e
  omega
 rw [Hmk.out]
 rintro e w1 ⟨rfl, hf1, hM1⟩
 have hf1' : Fr (fun k => k = U.heap.size) V w1 := hf1.of_drew
 have hs1 := hf1'.size
 have hb1 := HbV.out.fr hf1' (by omega)
 have hH1 := HHV.out.fr hf1' (fun k hk e => by have := Hown.out k hk; omega) ((Only.one HbM.out).mono (fun _ x => x) (fun _ x => x)) (by decide)
 clear c0 c1 c2 c3 c4 c5 c6 c7 e0 e1 e2 e3 e4 e5 e6 e7
 obtain ⟨e0, e1, e2, e3, e4, e5, e6, e7⟩ := cells8 (Hnv.out ▸ hb1)
 rw [Hmv.out] at hM1
 have r0 : w1.cell? ⟨U.heap.size, 0, none⟩ = some (.bool b0) := hM1.cell 0
 have r1 : w1.cell? ⟨U.heap.size, 1, none⟩ = some (.bool b1) := hM1.cell 1
 have r2 : w1.cell? ⟨U.heap.size, 2, none⟩ = some (.bool b2) := hM1.cell 2
 have r3 : w1.cell? ⟨U.heap.size, 3, none⟩ = some (.bool b3) := hM1.cell 3
 have r4 : w1.cell? ⟨U.heap.size, 4, none⟩ = some (.bool b4) := hM1.cell 4
 have r5 : w1.cell? ⟨U.heap.size, 5, none⟩ = some (.bool b5) := hM1.cell 5
 have r6 : w1.cell? ⟨U.heap.size, 6, none⟩ = some (.bool b6) := hM1.cell 6
 have r7 : w1.cell? ⟨U.heap.size, 7, none⟩ = some (.bool b7) := hM1.cell 7
 have r8 : w1.cell? ⟨U.heap.size, 8, none⟩ = some (.bool b8) := hM1.cell 8
 have r9 : w1.cell? ⟨U.heap.size, 9, none⟩ = some (.bool b9) := hM1.cell 9
 have r10 : w1.cell? ⟨U.heap.size, 10, none⟩ = some (.bool b10) := hM1.cell 10
 have r11 : w1.cell? ⟨U.heap.size, 11, none⟩ = some (.bool b11) := hM1.cell 11
 have HF1 : Hid (Nw w w1) := HfV.out.trans hf1' (fun i h => .inr (by omega))
 have HH1 := hd hH1
 have hin : SubD dn (fullTo zs zs.length) := Hsub.out.trans HH.out.good.inn
 have hbm := bits_max dn
 have hmm := marks_le mk
 have hcn := HH.out.cnt
 have hS : SInv s.bs s.ts mk dn dn := by rw [← Hmk.out]; exact HH.out.good.restr HH.out.mem.fits HH.out.mem.t12 hdm Hsub.out
 have hoff : ∀ k, s.ts.length ≤ k → mk.getD k false = false := fun k hk => by rw [← Hmk.out]; exact wakeTo_off _ _ _ HH.out.mem.t12 k hk
 have HS := hd hS
 have Hoff := hd hoff
 have Hin := hd hin
 have Hdm := hd hdm
 clear hb1 hM1 hf1 hf1' hH1 hS hoff hin hdm
 go_wp2_with (go_at_call 27; rw [← Hnv.out, ← Hmv.out]; refine (settle_any (s.ctx X zs dn) dn mk _ HH1.out.blk HH1.out.sz hz0 hzl hd8 HH.out.good.dm.mem HH1.out.tabs HH1.out.inj HH1.out.t12 hml Hoff.out HH1.out.tr (by show (s.us.map Un.val).length + _ ≤ 900000; rw [List.length_map]; omega) HS.out HH1.out.tbok HH1.out.fits).mono ?_; rintro e w2 ⟨rfl, d', bv, ts, us, hset⟩)
 go_end0
 have hB2 : d' = s.d → s.sk ≠ [] → bitsOf dn * 13 + marksOf mk ≤ bitsOf s.d * 13 := by
  intro e _
  have h1 : SubD s.d dn := by
   have h2 := (hset.clo.full (by rw [e]; exact Hfull.out)).1
   rw [e] at h2
   exact h2
  have h3 : dn = s.d := SubD.eq Hdm.out HH.out.good.dm Hsub.out h1
  have h4 : mk = noMarks := by rw [← Hmk.out, h3, wakeTo_same]
  rw [h3, h4]
  exact Nat.le_of_eq rfl
 obtain ⟨hA, hB⟩ := HH1.out.settled HH.out.sk Hin.out HH.out.good.dm Hsub.out HH.out.cnt (by omega) hB2 HH.out.lev hset
 exact ⟨rfl, d', bv, ts, us, hset.clo, hset.dm, hA, (WStep.nw HF1.out X s).trans hB⟩
end Go.Proofs.YtkjfpdfkcfgfkaaGreat

namespace Go.Proofs.YtkjfpdfkcfgfkaaGreat
open Go.RowKit

def fixV (y v : Nat) : Nat := y &&& 2 ^ v
def remV (y v : Nat) : Nat := if y.testBit v then y - 2 ^ v else y
theorem bits_fix (y v : Nat) (hy : y < 64) (hv : v < 6) : bits .and .u8 (y : Int) (2 ^ v : Nat) = (fixV y v : Nat) := by
 have key : ∀ y : Fin 64, ∀ v : Fin 6, bits .and .u8 ((y.val : Nat) : Int) ((2 ^ v.val : Nat) : Int) = (fixV y.val v.val : Nat) := by decide +kernel
 exact key ⟨y, hy⟩ ⟨v, hv⟩
theorem bits_rem (y v : Nat) (hy : y < 64) (hv : v < 6) : bits .andNot .u8 (y : Int) (2 ^ v : Nat) = (remV y v : Nat) := by
 have key : ∀ y : Fin 64, ∀ v : Fin 6, bits .andNot .u8 ((y.val : Nat) : Int) ((2 ^ v.val : Nat) : Int) = (remV y.val v.val : Nat) := by decide +kernel
 exact key ⟨y, hy⟩ ⟨v, hv⟩
theorem fixV_bit (y v u : Nat) : (fixV y v).testBit u = (y.testBit u && decide (v = u)) := by
 simp [fixV, Nat.testBit_two_pow]
theorem remV_lt (y v : Nat) (hy : y < 64) : remV y v < 64 := by
 unfold remV
 split
 ·exact Nat.lt_of_le_of_lt (Nat.sub_le _ _) hy
 ·exact hy
theorem remV_bit (y v u : Nat) (hy : y < 64) : (remV y v).testBit u = (y.testBit u && decide (v ≠ u)) := by
 by_cases hu : u < 6
 ·by_cases hv : v < 6
  ·have key : ∀ y : Fin 64, ∀ v : Fin 6, ∀ u : Fin 6, (remV y.val v.val).testBit u.val = (y.val.testBit u.val && decide (v.val ≠ u.val)) := by decide +kernel
   exact key ⟨y, hy⟩ ⟨v, hv⟩ ⟨u, hu⟩
  ·have h1 : y.testBit v = false := by
    cases hx : y.testBit v with
    | false => rfl
    | true => exact absurd (bit_lt6 hy hx) hv
   have h2 : v ≠ u := by omega
   simp [remV, h1, h2]
 ·have h1 : y.testBit u = false := by
   cases hx : y.testBit u with
   | false => rfl
   | true => exact absurd (bit_lt6 hy hx) hu
  have h2 : (remV y v).testBit u = false := by
   cases hx : (remV y v).testBit u with
   | false => rfl
   | true => exact absurd (bit_lt6 (remV_lt y v hy) hx) hu
  rw [h1, h2]
  rfl
theorem set_sub {d : List Nat} {v x : Nat} (h : ∀ u, x.testBit u = true → (d.getD v 0).testBit u = true) : SubD (d.set v x) d := by
 intro q u hu
 by_cases e : v = q
 ·subst e
  by_cases hl : v < d.length
  ·have e2 : (d.set v x).getD v 0 = x := by simp [List.getD, hl]
   rw [e2] at hu
   exact h u hu
  ·have e2 : d.set v x = d := List.set_eq_of_length_le (by omega)
   rw [e2] at hu
   exact hu
 ·have e2 : (d.set v x).getD q 0 = d.getD q 0 := by simp [List.getD, e]
  rw [e2] at hu
  exact hu
theorem fault_zero {zs : List Int} {d : List Nat} {v value : Int} (h : faultOf zs d v value = 0) : 0 ≤ v ∧ v < zs.length ∧ 0 ≤ value ∧ value < zs.getD v.toNat 0 ∧ d.getD 0 0 ≠ 0 := by
 unfold faultOf at h
 split at h
 ·rename_i h1
  split at h
  ·omega
  ·rename_i h2
   exact ⟨h1.1, h1.2.1, h1.2.2.1, h1.2.2.2, h2⟩
 ·omega
theorem okSizes_get {zs : List Int} (h : okSizes zs = true) (i : Nat) (hi : i < zs.length) : 1 ≤ zs.getD i 0 ∧ zs.getD i 0 ≤ 6 := by
 simp only [okSizes, Bool.and_eq_true, decide_eq_true_eq, List.all_eq_true] at h
 have h2 := h.2 zs[i] (List.getElem_mem hi)
 simp only [okSize, decide_eq_true_eq] at h2
 simpa [List.getD, hi] using h2
theorem Good.full {zs : List Int} {bs : List Tb} {d : List Nat} {tss : List TS} (h : Good zs bs d tss) (h0 : d.getD 0 0 ≠ 0) : Full zs.length d := by
 rcases h.alive with e | e
 ·rw [e, zero8_get] at h0
  exact absurd rfl h0
 ·exact e

set_option maxHeartbeats 3200000 in
set_option maxRecDepth 1000000 in
theorem fix_no (X : Nat) (zs : List Int) (s : WS) (v value : Int) (w : World) (h : WAt w X zs s) (hbz : s.l.busy = false) (hf : faultOf zs s.d v value ≠ 0) :
  Calls Tryz.prog 56 #[.pointer (some ⟨X, 0, none⟩), .int .i64 v, .int .i64 value] w fun e w' => e = .returned (.int .i64 (faultOf zs s.d v value)) ∧ w' = w := by
 obtain ⟨hz0, hzl⟩ := okSizes_len h.mem.zok
 have HH := hd h
 have hd8 : s.d.length = 8 := h.good.dm.len
 obtain ⟨r, hr⟩ : ∃ r, faultOf zs s.d v value = r := ⟨_, rfl⟩
 have Hr := hd hr
 rw [hr] at hf ⊢
 clear h hr
 go_enter Tryz.func56, Tryz.ntmps56
 go_wp2_with (go_at_call 30; refine (fault_any X s.szv s.d _ s.l zs v value _ HH.out.mem.blk HH.out.mem.sz hzl hd8 hbz).mono ?_; rw [Hr.out]; rintro e w' ⟨rfl, rfl⟩)
 go_ret
 exact ⟨rfl, rfl⟩

set_option maxHeartbeats 3200000 in
set_option maxRecDepth 1000000 in
theorem remove_no (X : Nat) (zs : List Int) (s : WS) (v value : Int) (w : World) (h : WAt w X zs s) (hbz : s.l.busy = false) (hf : faultOf zs s.d v value ≠ 0) :
  Calls Tryz.prog 13 #[.pointer (some ⟨X, 0, none⟩), .int .i64 v, .int .i64 value] w fun e w' => e = .returned (.int .i64 (faultOf zs s.d v value)) ∧ w' = w := by
 obtain ⟨hz0, hzl⟩ := okSizes_len h.mem.zok
 have HH := hd h
 have hd8 : s.d.length = 8 := h.good.dm.len
 obtain ⟨r, hr⟩ : ∃ r, faultOf zs s.d v value = r := ⟨_, rfl⟩
 have Hr := hd hr
 rw [hr] at hf ⊢
 clear h hr
 go_enter Tryz.func13, Tryz.ntmps13
 go_wp2_with (go_at_call 30; refine (fault_any X s.szv s.d _ s.l zs v value _ HH.out.mem.blk HH.out.mem.sz hzl hd8 hbz).mono ?_; rw [Hr.out]; rintro e w' ⟨rfl, rfl⟩)
 go_ret
 exact ⟨rfl, rfl⟩

set_option maxHeartbeats 3200000 in
set_option maxRecDepth 1000000 in
theorem fix_yes (X : Nat) (zs : List Int) (s : WS) (v value : Nat) (w : World) (h : WAt w X zs s) (hbz : s.l.busy = false) (hf : faultOf zs s.d v value = 0) :
  Calls Tryz.prog 56 #[.pointer (some ⟨X, 0, none⟩), .int .i64 v, .int .i64 value] w fun e w' => e = .returned (.int .i64 0) ∧ ∃ d' bv ts us, Closure zs.length s.bs (s.d.set v (fixV (s.d.getD v 0) value)) d' ∧ Dm d' ∧
   WAt w' X zs (s.set d' bv ts us) ∧ WStep w w' X s (s.set d' bv ts us) := by
 obtain ⟨hz0, hzl⟩ := okSizes_len h.mem.zok
 obtain ⟨_, hv1, _, hv3, hv4⟩ := fault_zero hf
 rw [Int.toNat_natCast] at hv3
 have hvz : v < zs.length := by omega
 have hval : value < 6 := by
  have := okSizes_get h.mem.zok v hvz
  omega
 have hi8 : (v : Int) < 8 := by omega
 have hd8 : s.d.length = 8 := h.good.dm.len
 have hcd : w.cell? ⟨X, 1 + v, none⟩ = some (.int .u8 (s.d.getD v 0 : Nat)) := (h.mem.blk.cell _).trans (workCells_dom _ _ _ _ _ (by omega))
 have hy64 := h.good.dm.lt v
 obtain ⟨y, hy⟩ : ∃ y, s.d.getD v 0 = y := ⟨_, rfl⟩
 have hsub : SubD (s.d.set v (fixV y value)) s.d := set_sub (fun u hu => by rw [fixV_bit] at hu; rw [hy]; simp at hu; exact hu.1)
 have hfull := h.good.full hv4
 rw [hy] at hcd hy64 ⊢
 have hbf := bits_fix y value hy64 hval
 have HH := hd h
 have Hy := hd hy
 have Hsub := hd hsub
 have Hfull := hd hfull
 have Hbf := hd hbf
 clear h hy hsub hfull hbf
 go_enter Tryz.func56, Tryz.ntmps56
 go_upto_region 4 with (go_at_call 30; refine (fault_any X s.szv s.d _ s.l zs v value _ HH.out.mem.blk HH.out.mem.sz hzl hd8 hbz).mono ?_; rw [hf]; rintro e w' ⟨rfl, rfl⟩)
 go_still_tail 11, (by kernel_rfl)
 refine still_call (f := 32) (args := #[.int .i64 (value : Int)]) (.int .u8 (2 ^ value : Nat)) (by kernel_rfl) (by kernel_rfl) (one_any value _ (by omega)) ?_
 simp only [Act.put, List.setIfInBounds_toArray, List.set_cons_zero, List.set_cons_succ]
 refine still_value (.int .u8 (fixV y value : Nat)) (by kernel_rfl) ?_ ?_
 ·have hxx := Hbf.out
  clear hf hv4 hcd hv3
  go_simp
  simpa using hxx
 refine wpStill_nil ?_
 simp only [Act.put, List.setIfInBounds_toArray, List.set_cons_zero, List.set_cons_succ]
 go_wp2_with (go_at_call 31; refine (restrict_any X zs s v (fixV y value) _ (HH.out.nw ((Fr.refl _ _).drew)) hvz Hsub.out Hfull.out).mono ?_; rintro e w2 ⟨rfl, d', bv, ts, us, h1, h2, h3, h4⟩)
 go_ret
 exact ⟨rfl, d', bv, ts, us, h1, h2, h3, ⟨h4.fr.of_drew, h4.grow⟩⟩

set_option maxHeartbeats 3200000 in
set_option maxRecDepth 1000000 in
theorem remove_yes (X : Nat) (zs : List Int) (s : WS) (v value : Nat) (w : World) (h : WAt w X zs s) (hbz : s.l.busy = false) (hf : faultOf zs s.d v value = 0) :
  Calls Tryz.prog 13 #[.pointer (some ⟨X, 0, none⟩), .int .i64 v, .int .i64 value] w fun e w' => e = .returned (.int .i64 0) ∧ ∃ d' bv ts us, Closure zs.length s.bs (s.d.set v (remV (s.d.getD v 0) value)) d' ∧ Dm d' ∧
   WAt w' X zs (s.set d' bv ts us) ∧ WStep w w' X s (s.set d' bv ts us) := by
 obtain ⟨hz0, hzl⟩ := okSizes_len h.mem.zok
 obtain ⟨_, hv1, _, hv3, hv4⟩ := fault_zero hf
 rw [Int.toNat_natCast] at hv3
 have hvz : v < zs.length := by omega
 have hval : value < 6 := by
  have := okSizes_get h.mem.zok v hvz
  omega
 have hi8 : (v : Int) < 8 := by omega
 have hd8 : s.d.length = 8 := h.good.dm.len
 have hcd : w.cell? ⟨X, 1 + v, none⟩ = some (.int .u8 (s.d.getD v 0 : Nat)) := (h.mem.blk.cell _).trans (workCells_dom _ _ _ _ _ (by omega))
 have hy64 := h.good.dm.lt v
 obtain ⟨y, hy⟩ : ∃ y, s.d.getD v 0 = y := ⟨_, rfl⟩
 have hsub : SubD (s.d.set v (remV y value)) s.d := set_sub (fun u hu => by rw [remV_bit _ _ _ (by rw [← hy]; exact hy64)] at hu; rw [hy]; simp at hu; exact hu.1)
 have hfull := h.good.full hv4
 rw [hy] at hcd hy64 ⊢
 have hbf := bits_rem y value hy64 hval
 have HH := hd h
 have Hy := hd hy
 have Hsub := hd hsub
 have Hfull := hd hfull
 have Hbf := hd hbf
 clear h hy hsub hfull hbf
 go_enter Tryz.func13, Tryz.ntmps13
 go_upto_region 4 with (go_at_call 30; refine (fault_any X s.szv s.d _ s.l zs v value _ HH.out.mem.blk HH.out.mem.sz hzl hd8 hbz).mono ?_; rw [hf]; rintro e w' ⟨rfl, rfl⟩)
 go_still_tail 11, (by kernel_rfl)
 refine still_call (f := 32) (args := #[.int .i64 (value : Int)]) (.int .u8 (2 ^ value : Nat)) (by kernel_rfl) (by kernel_rfl) (one_any value _ (by omega)) ?_
 simp only [Act.put, List.setIfInBounds_toArray, List.set_cons_zero, List.set_cons_succ]
 refine still_value (.int .u8 (remV y value : Nat)) (by kernel_rfl) ?_ ?_
 ·have hxx := Hbf.out
  clear hf hv4 hcd hv3
  go_simp
  simpa using hxx
 refine wpStill_nil ?_
 simp only [Act.put, List.setIfInBounds_toArray, List.set_cons_zero, List.set_cons_succ]
 go_wp2_with (go_at_call 31; refine (restrict_any X zs s v (remV y value) _ (HH.out.nw ((Fr.refl _ _).drew)) hvz Hsub.out Hfull.out).mono ?_; rintro e w2 ⟨rfl, d', bv, ts, us, h1, h2, h3, h4⟩)
 go_ret
 exact ⟨rfl, d', bv, ts, us, h1, h2, h3, ⟨h4.fr.of_drew, h4.grow⟩⟩
end Go.Proofs.YtkjfpdfkcfgfkaaGreat

namespace Go.Proofs.YtkjfpdfkcfgfkaaGreat
open Go.RowKit

theorem okTable_parts {zs vars : List Int} {rows : List (List Int)} {way : Int} (h : okTable zs vars rows way = true) (hz : zs.length ≤ 8) : (way = 1 ∨ way = 2) ∧ 1 ≤ vars.length ∧ rows.length ≤ 60 ∧ VarsOk vars ∧ (∀ i, i < vars.length → vars.getD i 0 < zs.length) ∧ (∀ j, j < rows.length → (rows.getD j []).length = vars.length) := by
 simp only [okTable, Bool.and_eq_true, decide_eq_true_eq, List.all_eq_true, List.mem_range] at h
 obtain ⟨⟨⟨h1, h2⟩, h3⟩, h4⟩ := h
 obtain ⟨b1, b2, b3⟩ := okVars_bounds h2
 refine ⟨by simpa [okWay] using h1, b1, h3, ⟨b2, fun i hi => ⟨(b3 i hi).1, by have := (b3 i hi).2; omega⟩, ?_⟩, fun i hi => (b3 i hi).2, fun j hj => ?_⟩
 ·have key : ∀ i k, i < k → k < vars.length → vars.getD i 0 ≠ vars.getD k 0 := by
   intro i k hik hk e
   simp only [okVars, Bool.and_eq_true, decide_eq_true_eq, List.all_eq_true, List.mem_range] at h2
   have h5 := h2.2 k hk
   simp only [okVar, Bool.and_eq_true, decide_eq_true_eq, Bool.not_eq_true'] at h5
   have h6 : (vars.take k).contains (vars.getD k 0) = true := by
    rw [List.contains_iff_mem, List.mem_iff_getElem]
    refine ⟨i, by simp; omega, ?_⟩
    have hi : i < vars.length := by omega
    rw [List.getElem_take, ← e]
    simp [List.getD, hi]
   rw [h6] at h5
   exact absurd h5.2 (by simp)
  intro i k hi hk e
  rcases Nat.lt_trichotomy i k with h | h | h
  ·exact absurd e (key i k h hk)
  ·exact h
  ·exact absurd e.symm (key k i h hi)
 ·have h5 := h4 j hj
  simp only [okRowAt, okRow, Bool.and_eq_true, decide_eq_true_eq] at h5
  exact h5.1
theorem getD_app (ts : List Tab) (x : Tab) (i : Nat) : (ts ++ [x]).getD i tab0 = if i < ts.length then ts.getD i tab0 else if i = ts.length then x else tab0 := by
 by_cases h : i < ts.length
 ·rw [if_pos h]
  simp [List.getD, List.getElem?_append_left h]
 ·rw [if_neg h]
  by_cases e : i = ts.length
  ·subst e
   simp [List.getD]
  ·rw [if_neg e]
   have : (ts ++ [x]).length ≤ i := by simp; omega
   simp [List.getD, List.getElem?_eq_none this]
theorem getD_appB (bs : List Tb) (b : Tb) (i : Nat) : (bs ++ [b]).getD i tb0 = if i < bs.length then bs.getD i tb0 else if i = bs.length then b else tb0 := by
 by_cases h : i < bs.length
 ·rw [if_pos h]
  simp [List.getD, List.getElem?_append_left h]
 ·rw [if_neg h]
  by_cases e : i = bs.length
  ·subst e
   simp [List.getD]
  ·rw [if_neg e]
   have : (bs ++ [b]).length ≤ i := by simp; omega
   simp [List.getD, List.getElem?_eq_none this]
def WS.more (s : WS) (so : Option Addr) (tcap : Nat) (x : Tab) (b : Tb) : WS := { s with so := so, tcap := tcap, ts := s.ts ++ [x], bs := s.bs ++ [b] }
theorem WMem.more {S : Nat → Prop} {w Z : World} {X : Nat} {zs : List Int} {s : WS} {so : Option Addr} {tcap : Nat} {x : Tab} {b : Tb} (h : WMem w X zs s) (hu : s.us = []) (f : Fr S w Z) (o : Only w S [66, 73])
  (hX : Blk Z X (workCells s.szv s.d (.slice so (s.ts.length + 1) tcap) s.l) 66) (hrow : Row Z (.slice so (s.ts.length + 1) tcap) 73 (s.ts.map Tab.val ++ [x.val])) (hx : TAt Z x.G x.g x.cap x.vars x.t) (hG : w.heap.size ≤ x.G) (hg : w.heap.size ≤ x.g)
  (h12 : s.ts.length < 12) (hv : x.vars = b.vars) (hb : b.Ok) (hbn : ∀ i, i < b.vars.length → b.vars.getD i 0 < zs.length) : WMem Z X zs (s.more so tcap x b) := by
 refine ⟨?_, h.sz.frO f o (by decide), h.zok, ⟨?_, ?_, ?_, ?_⟩, ?_, ?_, ⟨?_, ?_⟩, ?_, h.tr.frO f o (by decide), ?_, fun k hk => ⟨(h.apart k hk).1, fun i hi => ?_⟩⟩
 ·show Blk Z X (workCells s.szv s.d (.slice so (s.ts ++ [x]).length tcap) s.l) _
  rw [List.length_append]
  exact hX
 ·show Row Z (.slice so (s.ts ++ [x]).length tcap) _ ((s.ts ++ [x]).map Tab.val)
  rw [List.length_append, List.map_append]
  exact hrow
 ·intro i hi
  have hi' : i < s.ts.length + 1 := by simpa [WS.more] using hi
  simp only [WS.more]
  rw [getD_app]
  by_cases h1 : i < s.ts.length
  ·rw [if_pos h1]
   exact (h.tabs.at_ i h1).frO f o (by decide)
  ·rw [if_neg h1, if_pos (by omega)]
   exact hx
 ·intro i hi
  show ((s.ts ++ [x]).getD i tab0).vars.length ≤ 4
  have hi' : i < s.ts.length + 1 := by simpa [WS.more] using hi
  rw [getD_app]
  by_cases h1 : i < s.ts.length
  ·rw [if_pos h1]
   exact h.tabs.four i h1
  ·rw [if_neg h1, if_pos (by omega), hv]
   exact hb.vars.four
 ·intro i hi
  show ∀ k, k < ((s.ts ++ [x]).getD i tab0).vars.length → _
  have hi' : i < s.ts.length + 1 := by simpa [WS.more] using hi
  simp only [WS.more]
  rw [getD_app]
  by_cases h1 : i < s.ts.length
  ·rw [if_pos h1]
   exact h.tabs.ok i h1
  ·rw [if_neg h1, if_pos (by omega), hv]
   exact hb.vars.ok
 ·intro i j hi hj e
  have hi' : i < s.ts.length + 1 := by simpa [WS.more] using hi
  have hj' : j < s.ts.length + 1 := by simpa [WS.more] using hj
  simp only [WS.more] at e
  rw [getD_app, getD_app] at e
  by_cases h1 : i < s.ts.length
  ·rw [if_pos h1] at e
   by_cases h2 : j < s.ts.length
   ·rw [if_pos h2] at e
    exact h.inj i j h1 h2 e
   ·rw [if_neg h2, if_pos (by omega)] at e
    have := (h.tabs.at_ i h1).lt (.inl rfl)
    omega
  ·rw [if_neg h1, if_pos (by omega)] at e
   by_cases h2 : j < s.ts.length
   ·rw [if_pos h2] at e
    have := (h.tabs.at_ j h2).lt (.inl rfl)
    omega
   ·omega
 ·show (s.ts ++ [x]).length ≤ 12
  simp
  omega
 ·simp [WS.more, h.fits.1]
 ·intro k hk
  have hk' : k < s.bs.length + 1 := by simpa [WS.more] using hk
  simp only [WS.more]
  rw [getD_app, getD_appB, h.fits.1]
  by_cases h1 : k < s.bs.length
  ·rw [if_pos h1, if_pos h1]
   exact h.fits.2 k h1
  ·rw [if_neg h1, if_neg h1, if_pos (by omega), if_pos (by omega)]
   exact hv
 ·intro k hk
  have hk' : k < s.bs.length + 1 := by simpa [WS.more] using hk
  simp only [WS.more]
  rw [getD_appB]
  by_cases h1 : k < s.bs.length
  ·rw [if_pos h1]
   exact h.tbok k h1
  ·rw [if_neg h1, if_pos (by omega)]
   refine ⟨hb, fun i hi => ?_⟩
   have := hbn i hi
   have := hb.vars.ok i hi
   omega
 ·intro u hu'
  have : u ∈ s.us := hu'
  rw [hu] at this
  cases this
 ·have hi' : i < s.ts.length + 1 := by simpa [WS.more] using hi
  simp only [WS.more]
  rw [getD_app]
  by_cases h1 : i < s.ts.length
  ·rw [if_pos h1]
   exact (h.apart k hk).2 i h1
  ·rw [if_neg h1, if_pos (by omega)]
   have := h.tr.starts.lt hk
   omega
theorem Good.more {zs : List Int} {s : WS} (h : Good zs s.bs s.d (s.ts.map Tab.t)) (hf : Fits s.bs s.ts) (h12 : s.ts.length < 12) {so : Option Addr} {tcap : Nat} {x : Tab} {b : Tb} (hr : TRep b s.d x.t) :
  SInv (s.more so tcap x b).bs (s.more so tcap x b).ts (noMarks.set s.ts.length true) s.d s.d := by
 refine ⟨h.dm, SubD.refl _, fun _ h _ => h, fun k hk hq => ?_, fun k hk => ?_⟩
 ·have hk' : k < s.bs.length + 1 := by simpa [WS.more] using hk
  simp only [WS.more]
  rw [getD_appB]
  by_cases h1 : k < s.bs.length
  ·rw [if_pos h1]
   exact h.clo _ (getD_mem h1)
  ·have e : s.ts.length = k := by rw [hf.1]; omega
   rw [getD_setB, if_pos ⟨e, by show s.ts.length < 12; exact h12⟩] at hq
   cases hq
 ·have hk' : k < s.bs.length + 1 := by simpa [WS.more] using hk
  simp only [WS.more]
  rw [getD_appB, getD_app, hf.1]
  by_cases h1 : k < s.bs.length
  ·rw [if_pos h1, if_pos h1, ← mapT_getD]
   exact h.rep k h1
  ·rw [if_neg h1, if_neg h1, if_pos (by omega), if_pos (by omega)]
   exact hr
theorem WStep.more {S : Nat → Prop} {w Z : World} {X : Nat} {s : WS} {so : Option Addr} {tcap : Nat} {x : Tab} {b : Tb} (f : Fr S w Z) (hS : ∀ k, S k → s.own X k) (hso : ∀ k, (Value.slice so (s.ts.length + 1) tcap).ownBlock = some k → (Value.slice s.so s.ts.length s.tcap).ownBlock = some k ∨ w.heap.size ≤ k) (hG : w.heap.size ≤ x.G) (hg : w.heap.size ≤ x.g) :
  WStep w Z X s (s.more so tcap x b) := by
 refine ⟨f.mono (fun i hi => .inl (hS i hi)), ?_⟩
 rintro k (rfl | hk' | hk' | ⟨i, hi, hk'⟩ | hk' | hk' | ⟨u, hu, hk'⟩)
 ·exact .inl (.inl rfl)
 ·exact .inl (.inr (.inl hk'))
 ·have hk2 : (Value.slice so (s.ts ++ [x]).length tcap).ownBlock = some k := hk'
  rw [List.length_append] at hk2
  exact (hso k hk2).imp (fun h => .inr (.inr (.inl h))) id
 ·have hi' : i < s.ts.length + 1 := by simpa [WS.more] using hi
  have hk2 : k = ((s.ts ++ [x]).getD i tab0).G ∨ k = ((s.ts ++ [x]).getD i tab0).g := hk'
  rw [getD_app] at hk2
  by_cases h1 : i < s.ts.length
  ·rw [if_pos h1] at hk2
   exact .inl (.inr (.inr (.inr (.inl ⟨i, h1, hk2⟩))))
  ·rw [if_neg h1, if_pos (by omega)] at hk2
   rcases hk2 with rfl | rfl
   ·exact .inr hG
   ·exact .inr hg
 ·exact .inl (.inr (.inr (.inr (.inr (.inl hk')))))
 ·exact .inl (.inr (.inr (.inr (.inr (.inr (.inl hk'))))))
 ·exact .inl (.inr (.inr (.inr (.inr (.inr (.inr ⟨u, hu, hk'⟩))))))
end Go.Proofs.YtkjfpdfkcfgfkaaGreat

namespace Go.Proofs.YtkjfpdfkcfgfkaaGreat
open Go.RowKit

def postOf (zs : List Int) (s : WS) (vars : List Int) (rows : List (List Int)) (way : Int) : Int :=
 if okTable zs vars rows way = false then 1 else if s.ts.length = 12 then 2 else if s.sk.length ≠ 0 then 4 else if s.d.getD 0 0 = 0 then 3 else 0
theorem startsOf_form {w : World} {l : Rest} {sk : List (Nat × List Nat × List TS)} {xs : List Value} (h : TrAt w l (startsOf sk) xs) : ∃ so sc, l.starts = .slice so sk.length sc := by
 obtain ⟨so, sc, hf, _⟩ := h.starts.form
 exact ⟨so, sc, by rw [hf]; simp [startsOf]⟩

set_option maxHeartbeats 3200000 in
set_option maxRecDepth 1000000 in
theorem post_no (X : Nat) (vo ro : Option Addr) (vcap rcap : Nat) (zs : List Int) (s : WS) (vars : List Int) (rows : List (List Int)) (nt : Bool) (way : Int) (w : World) (h : WAt w X zs s) (hbz : s.l.busy = false)
  (hl : vars.length * 8 ≤ 140737488355328) (hrl : rows.length * 24 ≤ 140737488355328) (hvcap : vars.length ≤ vcap) (hvs : IntsAt w vo vars) (hrs : RowsAt w ro rows) (hno : postOf zs s vars rows way ≠ 0) :
  Calls Tryz.prog 11 #[.pointer (some ⟨X, 0, none⟩), .agg #[.slice vo vars.length vcap, .slice ro rows.length rcap, .bool nt, .int .i64 way]] w fun e w' => e = .returned (.int .i64 (postOf zs s vars rows way)) ∧ Nw w w' := by
 have hd8 : s.d.length = 8 := h.good.dm.len
 obtain ⟨sa, scap, hszv, _⟩ := h.mem.sz.form
 simp only [List.length_map] at hszv
 obtain ⟨W, hW⟩ : ∃ W, W = w.alloc (.cells #[.slice vo vars.length vcap, .slice ro rows.length rcap, .bool nt, .int .i64 way] 41) := ⟨_, rfl⟩
 have hfW : Nw w W := by rw [hW]; exact (Fr.refl _ w).alloc _
 have hbT : Blk W w.heap.size #[.slice vo vars.length vcap, .slice ro rows.length rcap, .bool nt, .int .i64 way] 41 := by rw [hW]; exact Blk.new _ _ _
 have t0 : W.cell? ⟨w.heap.size, 0, none⟩ = some (.slice vo vars.length vcap) := hbT.cell 0
 have t1 : W.cell? ⟨w.heap.size, 1, none⟩ = some (.slice ro rows.length rcap) := hbT.cell 1
 have t2 : W.cell? ⟨w.heap.size, 2, none⟩ = some (.bool nt) := hbT.cell 2
 have t3 : W.cell? ⟨w.heap.size, 3, none⟩ = some (.int .i64 way) := hbT.cell 3
 have hM := h.mem.nw hfW
 have hcs : W.cell? ⟨X, 0, none⟩ = some (.slice sa zs.length scap) := (hM.blk.cell 0).trans ((workCells_sz ..).trans (by rw [hszv]))
 have hcb : W.cell? ⟨X, 12, none⟩ = some (.bool false) := (hM.blk.cell 12).trans ((workCells_busy _ _ _ _ hd8).trans (by rw [hbz]))
 have HsR : Hid (Row W (.slice sa zs.length scap) 3 (zs.map (Value.int .i64))) := by rw [← hszv]; exact hM.sz
 have HM := hd hM
 have Hvs := hd (hvs.nw hfW)
 have Hrs := hd (hrs.nw hfW)
 have HW := hd hW
 have HfW := hd hfW
 have h12 := h.mem.t12
 obtain ⟨so', sc', hst⟩ := startsOf_form h.mem.tr
 have Hst := hd hst
 obtain ⟨r, hr⟩ : ∃ r, postOf zs s vars rows way = r := ⟨_, rfl⟩
 rw [hr] at hno ⊢
 have Hr := hd hr
 clear h hM hvs hrs hbT hW hfW hszv hst hr
 go_enter Tryz.func11, Tryz.ntmps11
 go_upto_region 1 with fail
 rw [← HW.out]
 go_upto_region 2 with fail
 go_still_tail 5, (by kernel_rfl)
 go_wp2_with fail
 refine (valid_any vo ro sa vcap rcap scap vars rows nt way zs _ hl hrl hvcap Hvs.out.drew Hrs.out.drew (HsR.out.drew.ints')).mono ?_
 cases hok : okTable zs vars rows way with
 | false =>
  have hr1 : r = 1 := by rw [← Hr.out]; unfold postOf; rw [if_pos hok]
  subst hr1
  rintro e w1 ⟨rfl, hf1⟩
  have Hf1 : Hid (Nw w w1) := HfW.out.trans hf1.of_drew (fun i h => h.elim)
  clear hf1 hok t0 t1 t2 t3 hcs hcb
  go_wp2
  go_ret
  exact ⟨rfl, Hf1.out⟩
 | true =>
  rintro e w1 ⟨rfl, hf1⟩
  have hM1 := HM.out.nw hf1.of_drew
  have Hf1 : Hid (Nw w w1) := HfW.out.trans hf1.of_drew (fun i h => h.elim)
  have hct : w1.cell? ⟨X, 9, none⟩ = some (.slice s.so s.ts.length s.tcap) := (hM1.blk.cell 9).trans (workCells_tabs _ _ _ _ hd8)
  have hcl : w1.cell? ⟨X, 11, none⟩ = some (.slice so' s.sk.length sc') := (hM1.blk.cell 11).trans ((workCells_starts _ _ _ _ hd8).trans (by rw [Hst.out]))
  have HM1 := hd hM1
  have hok' : ¬ okTable zs vars rows way = false := by rw [hok]; simp
  clear hf1 hM1 t0 t1 t2 t3 hcs hcb HM
  by_cases h1 : s.ts.length = 12
  ·have hr1 : r = 2 := by rw [← Hr.out]; unfold postOf; rw [if_neg hok', if_pos h1]
   subst hr1
   rw [h1] at hct
   clear hok hok'
   go_wp2
   go_ret
   exact ⟨rfl, Hf1.out⟩
  ·have h1' : ((s.ts.length : Int) == 12) = false := by simp; omega
   by_cases h2 : s.sk.length ≠ 0
   ·have hr1 : r = 4 := by rw [← Hr.out]; unfold postOf; rw [if_neg hok', if_neg h1, if_pos h2]
    subst hr1
    have h2' : ((s.sk.length : Int) != 0) = true := by simp; simpa using h2
    clear hok hok'
    go_wp2_with (go_at_call 24; refine (level_any X so' s.sk.length sc' _ hcl).mono ?_; rintro e w' ⟨rfl, rfl⟩)
    go_ret
    exact ⟨rfl, Hf1.out⟩
   ·have h2' : ((s.sk.length : Int) != 0) = false := by simp; simpa using h2
    have h3 : s.d.getD 0 0 = 0 := by
     refine Classical.byContradiction fun hc => hno ?_
     rw [← Hr.out]
     unfold postOf
     rw [if_neg hok', if_neg h1, if_neg h2, if_neg hc]
    have hr1 : r = 3 := by rw [← Hr.out]; unfold postOf; rw [if_neg hok', if_neg h1, if_neg h2, if_pos h3]
    subst hr1
    have h3' : (s.d.getD 0 0 == 0) = true := by simpa using h3
    have H3 := hd h3'
    clear hok hok' h3 h3'
    go_wp2_with (first
     | (go_at_call 24; refine (level_any X so' s.sk.length sc' _ hcl).mono ?_; rintro e w' ⟨rfl, rfl⟩)
     | (go_at_call 25; refine (dead_any X _ s.d _ s.l _ HM1.out.blk hd8).mono ?_; rw [H3.out]; rintro e w' ⟨rfl, rfl⟩))
    go_ret
    exact ⟨rfl, Hf1.out⟩

theorem postOf_zero {zs : List Int} {s : WS} {vars : List Int} {rows : List (List Int)} {way : Int} (h : postOf zs s vars rows way = 0) : okTable zs vars rows way = true ∧ s.ts.length ≠ 12 ∧ s.sk = [] ∧ s.d.getD 0 0 ≠ 0 := by
 unfold postOf at h
 by_cases h1 : okTable zs vars rows way = false
 ·rw [if_pos h1] at h
  omega
 ·rw [if_neg h1] at h
  by_cases h2 : s.ts.length = 12
  ·rw [if_pos h2] at h
   omega
  ·rw [if_neg h2] at h
   by_cases h3 : s.sk.length ≠ 0
   ·rw [if_pos h3] at h
    omega
   ·rw [if_neg h3] at h
    by_cases h4 : s.d.getD 0 0 = 0
    ·rw [if_pos h4] at h
     omega
    ·exact ⟨by simpa using h1, h2, by simpa using h3, h4⟩

set_option maxHeartbeats 6400000 in
set_option maxRecDepth 1000000 in
theorem post_yes (X : Nat) (vo ro : Option Addr) (vcap rcap : Nat) (zs : List Int) (s : WS) (vars : List Int) (rows : List (List Int)) (nt : Bool) (way : Int) (w : World) (h : WAt w X zs s) (hbz : s.l.busy = false)
  (hvcap : vars.length ≤ vcap) (hvs : IntsAt w vo vars) (hrs : RowsAt w ro rows) (hyes : postOf zs s vars rows way = 0) :
  Calls Tryz.prog 11 #[.pointer (some ⟨X, 0, none⟩), .agg #[.slice vo vars.length vcap, .slice ro rows.length rcap, .bool nt, .int .i64 way]] w fun e w' => e = .returned (.int .i64 0) ∧ ∃ so tcap x d' bv ts us, Closure zs.length (s.bs ++ [⟨vars, rows, nt⟩]) s.d d' ∧ Dm d' ∧
   WAt w' X zs ((s.more so tcap x ⟨vars, rows, nt⟩).set d' bv ts us) ∧ WStep w w' X s ((s.more so tcap x ⟨vars, rows, nt⟩).set d' bv ts us) := by
 obtain ⟨hz0, hzl⟩ := okSizes_len h.mem.zok
 have hd8 : s.d.length = 8 := h.good.dm.len
 obtain ⟨hok, hn12, hsk, halive⟩ := postOf_zero hyes
 have h12 : s.ts.length < 12 := by have := h.mem.t12; omega
 have hus : s.us = [] := by
  have := h.sk
  rw [hsk] at this
  exact this
 obtain ⟨hway, hv1, hr60, hVO, hvn, hrl⟩ := okTable_parts hok hzl
 have hTb : (⟨vars, rows, nt⟩ : Tb).Ok := ⟨hVO, hrl, hv1⟩
 obtain ⟨b, o, hvo, _, _⟩ := hvs 0 hv1
 subst hvo
 obtain ⟨sa, scap, hszv, _⟩ := h.mem.sz.form
 simp only [List.length_map] at hszv
 obtain ⟨v0, v1, v2, v3, v4, v5, v6, v7, hdv⟩ := domV8 hd8
 obtain ⟨⟨x0, rfl⟩, ⟨x1, rfl⟩, ⟨x2, rfl⟩, ⟨x3, rfl⟩, ⟨x4, rfl⟩, ⟨x5, rfl⟩, ⟨x6, rfl⟩, ⟨x7, rfl⟩⟩ := domV_one s.d hdv
 obtain ⟨W, hW⟩ : ∃ W, W = w.alloc (.cells #[.slice (some ⟨b, o, none⟩) vars.length vcap, .slice ro rows.length rcap, .bool nt, .int .i64 way] 41) := ⟨_, rfl⟩
 have hfW : Nw w W := by rw [hW]; exact (Fr.refl _ w).alloc _
 have hbT : Blk W w.heap.size #[.slice (some ⟨b, o, none⟩) vars.length vcap, .slice ro rows.length rcap, .bool nt, .int .i64 way] 41 := by rw [hW]; exact Blk.new _ _ _
 have t0 : W.cell? ⟨w.heap.size, 0, none⟩ = some (.slice (some ⟨b, o, none⟩) vars.length vcap) := hbT.cell 0
 have t1 : W.cell? ⟨w.heap.size, 1, none⟩ = some (.slice ro rows.length rcap) := hbT.cell 1
 have t2 : W.cell? ⟨w.heap.size, 2, none⟩ = some (.bool nt) := hbT.cell 2
 have t3 : W.cell? ⟨w.heap.size, 3, none⟩ = some (.int .i64 way) := hbT.cell 3
 have hM := h.mem.nw hfW
 have hcs : W.cell? ⟨X, 0, none⟩ = some (.slice sa zs.length scap) := (hM.blk.cell 0).trans ((workCells_sz ..).trans (by rw [hszv]))
 have hcb : W.cell? ⟨X, 12, none⟩ = some (.bool false) := (hM.blk.cell 12).trans ((workCells_busy _ _ _ _ hd8).trans (by rw [hbz]))
 have HsR : Hid (Row W (.slice sa zs.length scap) 3 (zs.map (Value.int .i64))) := by rw [← hszv]; exact hM.sz
 have hXlt := h.mem.blk.lt
 have HM := hd hM
 have HH := hd h
 have Hvs := hd (hvs.nw hfW)
 have Hrs := hd (hrs.nw hfW)
 have HbT := hd hbT
 have HW := hd hW
 have HfW := hd hfW
 have Hdv := hd hdv
 have h12i : (s.ts.length : Int) < 12 := by omega
 have hne12 : ((s.ts.length : Int) == 12) = false := by simp; omega
 obtain ⟨so', sc', hst⟩ := startsOf_form h.mem.tr
 rw [hsk] at hst
 have hst0 : s.l.starts = .slice so' 0 sc' := hst
 have Hst := hd hst0
 have Hsk := hd hsk
 have Hus := hd hus
 have Hok := hd hok
 have Hal : Hid ((s.d.getD 0 0 == 0) = false) := by show (s.d.getD 0 0 == 0) = false; simpa using halive
 have HVO := hd hVO
 have HTb := hd hTb
 have Hrl := hd hrl
 have Hvn := hd hvn
 clear h hM hvs hrs hbT hW hfW hszv hst hst0 hsk hus hok halive hVO hTb hrl hvn hdv hyes hn12
 go_enter Tryz.func11, Tryz.ntmps11
 go_upto_region 1 with fail
 rw [← HW.out]
 go_upto_region 2 with fail
 go_still_tail 5, (by kernel_rfl)
 go_wp2_with fail
 refine (valid_any (some ⟨b, o, none⟩) ro sa vcap rcap scap vars rows nt way zs _ (by have := HVO.out.four; omega) (by omega) hvcap Hvs.out.drew Hrs.out.drew (HsR.out.drew.ints')).mono ?_
 rw [Hok.out]
 rintro e w1 ⟨rfl, hf1⟩
 have hf1' : Nw W w1 := hf1.of_drew
 have hM1 := HM.out.nw hf1'
 have hct : w1.cell? ⟨X, 9, none⟩ = some (.slice s.so s.ts.length s.tcap) := (hM1.blk.cell 9).trans (workCells_tabs _ _ _ _ hd8)
 have hcl : w1.cell? ⟨X, 11, none⟩ = some (.slice so' 0 sc') := (hM1.blk.cell 11).trans ((workCells_starts _ _ _ _ hd8).trans (by rw [Hst.out]))
 have HM1 := hd hM1
 have Hvs1 := hd (Hvs.out.nw hf1')
 have Hrs1 := hd (Hrs.out.nw hf1')
 have HbT1 := hd (HbT.out.nw hf1')
 have hs1 : w.heap.size + 1 ≤ w1.heap.size := by have := HbT1.out.lt; omega
 have Hf1 : Hid (Nw w w1) := HfW.out.trans hf1' (fun i h => h.elim)
 clear hf1 hf1' hM1 HM Hvs Hrs HbT t0 t1 t2 t3 hcs hcb HfW HW HsR
 go_upto_region 12 with (first
  | (go_at_call 24; refine (level_any X so' 0 sc' _ hcl).mono ?_; rintro e w' ⟨rfl, rfl⟩)
  | (go_at_call 25; refine (dead_any X _ s.d _ s.l _ HM1.out.blk hd8).mono ?_; rw [Hal.out]; rintro e w' ⟨rfl, rfl⟩))
 obtain ⟨V, hV⟩ : ∃ V, V = w'.alloc (.cells (mksV noMarks) 71) := ⟨_, rfl⟩
 have hfV : Nw w' V := by rw [hV]; exact (Fr.refl _ w').alloc _
 have hbM : Blk V w'.heap.size (mksV noMarks) 71 := by rw [hV]; exact Blk.new _ _ _
 rw [show w'.alloc (Obj.cells #[Value.bool false, Value.bool false, Value.bool false, Value.bool false, Value.bool false, Value.bool false, Value.bool false, Value.bool false, Value.bool false, Value.bool false, Value.bool false, Value.bool false] 71) = V from hV.symm]
 clear hV hct hcl
 have hct : V.cell? ⟨X, 9, none⟩ = some (.slice s.so s.ts.length s.tcap) := ((HM1.out.nw hfV).blk.cell 9).trans (workCells_tabs _ _ _ _ hd8)
 have hcM : V.cell? ⟨w'.heap.size, s.ts.length, none⟩ = some (.bool (noMarks.getD s.ts.length false)) := (hbM.cell _).trans (mksV_get _ _ (by show s.ts.length < 12; exact h12))
 have hfM := hbM.free s.ts.length
 have HbM := hd hbM
 clear hbM
 go_upto_region 13 with fail
 obtain ⟨U, hU⟩ : ∃ U, U = V.setCell ⟨w'.heap.size, s.ts.length, none⟩ (.bool true) := ⟨_, rfl⟩
 have hfU : Nw w' U := by rw [hU]; exact hfV.setCell _ _ (.inr (Nat.le_refl _))
 have hbM : Blk U w'.heap.size (mksV (noMarks.set s.ts.length true)) 71 := by
  have h5 := HbM.out.set s.ts.length (.bool true)
  have e6 : mksV (noMarks.set s.ts.length true) = (mksV noMarks).setIfInBounds s.ts.length (.bool true) := by simp [mksV, List.map_set]
  rw [hU, e6]
  exact h5
 rw [← hU]
 have hMl := hbM.lt
 clear hU hct hcM hfM HbM hfV
 have hMU := HM1.out.nw hfU
 have hXU := hMU.blk
 have hTU := HbT1.out.nw hfU
 have HfU : Hid (Nw w U) := Hf1.out.trans hfU (fun i h => h.elim)
 have HvU := hd (Hvs1.out.nw hfU)
 have HrU := hd (Hrs1.out.nw hfU)
 have HMU := hd hMU
 have HbM := hd hbM
 obtain ⟨xs, hxs⟩ : ∃ xs, s.ts.map Tab.val = xs := ⟨_, rfl⟩
 have hxl : s.ts.length = xs.length := by rw [← hxs]; simp
 have hrU : Row U (.slice s.so xs.length s.tcap) 73 xs := by
  have := hMU.tabs.row
  rw [hxs, hxl] at this
  exact this
 have HrT := hd hrU
 have Hxs := hd hxs
 have Hxl := hd hxl
 rw [hxl] at hXU
 rw [hxl] at h12 h12i
 clear hbM Hvs1 Hrs1 HbT1 Hf1 hfU hMU HM1 hrU hxs hxl hne12
 obtain ⟨szv, hszv⟩ : ∃ szv, s.szv = szv := ⟨_, rfl⟩
 have hK0 : Blk U.drew X (workCells s.szv s.d (.slice s.so xs.length s.tcap) s.l) 66 ∧ Blk U.drew w.heap.size #[.slice (some ⟨b, o, none⟩) vars.length vcap, .slice ro rows.length rcap, .bool nt, .int .i64 way] 41 := ⟨hXU.drew, hTU.drew⟩
 refine region_U (S := fun w'' => Blk w'' X (workCells s.szv s.d (.slice s.so xs.length s.tcap) s.l) 66 ∧ Blk w'' w.heap.size #[.slice (some ⟨b, o, none⟩) vars.length vcap, .slice ro rows.length rcap, .bool nt, .int .i64 way] 41) 15 (by kernel_rfl) ?_
 refine anyU_take (i := 0) (v := .pointer (some ⟨X, 0, none⟩)) (by kernel_rfl) rfl (by kernel_rfl) (by kernel_rfl) (by kernel_rfl) (fun _ _ _ h => h) (.inl ⟨by kernel_rfl, fun w'' hS => by kernel_rfl⟩) hK0 ?_
 refine anyU_take (i := 1) (v := .pointer (some ⟨X, 0, none⟩)) (by kernel_rfl) rfl (by kernel_rfl) (by kernel_rfl) (by kernel_rfl) (fun _ _ _ h => h) (.inl ⟨by kernel_rfl, fun w'' hS => by kernel_rfl⟩) hK0 ?_
 refine anyU_take (i := 2) (v := .pointer (some ⟨X, 0, none⟩)) (by kernel_rfl) rfl (by kernel_rfl) (by kernel_rfl) (by kernel_rfl) (fun _ _ _ h => h) (.inl ⟨by kernel_rfl, fun w'' hS => by kernel_rfl⟩) hK0 ?_
 refine anyU_take (i := 3) (v := .pointer (some ⟨X, 9, none⟩)) (by kernel_rfl) rfl (by kernel_rfl) (by kernel_rfl) (by kernel_rfl) (fun _ _ _ h => h) (.inl ⟨by kernel_rfl, fun w'' hS => by kernel_rfl⟩) hK0 ?_
 refine anyU_take (i := 4) (v := .slice s.so xs.length s.tcap) (by kernel_rfl) rfl (by kernel_rfl) (by kernel_rfl) (by kernel_rfl) (fun _ _ _ h => h) (.inl ⟨by kernel_rfl, fun w'' hS => ?_⟩) hK0 ?_
 ·have hc := (hS.1.cell 9).trans (workCells_tabs _ _ _ _ hd8)
  clear hS hK0 hXU hTU hszv
  simp only [Act.put, List.setIfInBounds_toArray, List.set_cons_zero, List.set_cons_succ, List.getElem_toArray, List.getElem_cons_zero, List.getElem_cons_succ]
  go_simp
 refine anyU_take (i := 5) (v := .agg #[.slice (some ⟨b, o, none⟩) vars.length vcap, .slice ro rows.length rcap, .bool nt, .int .i64 way]) (by kernel_rfl) rfl (by kernel_rfl) (by kernel_rfl) (by kernel_rfl) (fun _ _ _ h => h) (.inl ⟨by kernel_rfl, fun w'' hS => ?_⟩) hK0 ?_
 ·have q0 : w''.cell? ⟨w.heap.size, 0, none⟩ = some (.slice (some ⟨b, o, none⟩) vars.length vcap) := hS.2.cell 0
  have q1 : w''.cell? ⟨w.heap.size, 1, none⟩ = some (.slice ro rows.length rcap) := hS.2.cell 1
  have q2 : w''.cell? ⟨w.heap.size, 2, none⟩ = some (.bool nt) := hS.2.cell 2
  have q3 : w''.cell? ⟨w.heap.size, 3, none⟩ = some (.int .i64 way) := hS.2.cell 3
  clear hS hK0 hXU hTU hszv
  simp only [Act.put, List.setIfInBounds_toArray, List.set_cons_zero, List.set_cons_succ, List.getElem_toArray, List.getElem_cons_zero, List.getElem_cons_succ]
  go_simp
 refine anyU_take (i := 6) (v := .pointer (some ⟨X, 0, none⟩)) (by kernel_rfl) rfl (by kernel_rfl) (by kernel_rfl) (by kernel_rfl) (fun _ _ _ h => h) (.inl ⟨by kernel_rfl, fun w'' hS => by kernel_rfl⟩) hK0 ?_
 refine anyU_take (i := 7) (v := .pointer (some ⟨X, 0, none⟩)) (by kernel_rfl) rfl (by kernel_rfl) (by kernel_rfl) (by kernel_rfl) (fun _ _ _ h => h) (.inl ⟨by kernel_rfl, fun w'' hS => by kernel_rfl⟩) hK0 ?_
 refine anyU_take (i := 8) (v := .pointer (some ⟨X, 1, none⟩)) (by kernel_rfl) rfl (by kernel_rfl) (by kernel_rfl) (by kernel_rfl) (fun _ _ _ h => h) (.inl ⟨by kernel_rfl, fun w'' hS => by kernel_rfl⟩) hK0 ?_
 refine anyU_take (i := 9) (v := .agg (domV s.d)) (by kernel_rfl) rfl (by kernel_rfl) (by kernel_rfl) (by kernel_rfl) (fun _ _ _ h => h) (.inl ⟨by kernel_rfl, fun w'' hS => ?_⟩) hK0 ?_
 ·obtain ⟨k0, k1, k2, k3, k4, k5, k6, k7⟩ := work8 hS.1 Hdv.out
  clear hS hK0 hXU hTU hszv
  rw [Hdv.out]
  simp only [Act.put, List.setIfInBounds_toArray, List.set_cons_zero, List.set_cons_succ, List.getElem_toArray, List.getElem_cons_zero, List.getElem_cons_succ]
  go_simp
 refine anyU_one (i := 10) (by kernel_rfl) ?_
 refine op_enter (f := 26) (args := #[.agg #[.slice (some ⟨b, o, none⟩) vars.length vcap, .slice ro rows.length rcap, .bool nt, .int .i64 way], .agg (domV s.d)]) (w' := U.drew) rfl (by kernel_rfl) (by kernel_rfl) ?_
 refine (makeT_any b o ro vcap rcap vars rows nt way hway s.d _ hd8 hv1 HVO.out.four HVO.out.ok HH.out.good.dm.lt hr60 Hrl.out HvU.out.drew HrU.out.drew).mono ?_
 rintro e w2 ⟨G, g, cap, t, rfl, hf2, hmade, hT2, hnew⟩
 have hf2' : Nw U w2 := hf2.of_drew
 obtain ⟨ty, hty⟩ : ∃ ty, t.ty = ty := ⟨_, rfl⟩
 rw [hty]
 refine ⟨_, rfl, fun _ => ⟨hXU.nw hf2', hTU.nw hf2'⟩, ?_⟩
 refine anyU_one (i := 11) (by kernel_rfl) ?_
 refine op_value (v := .slice (some ⟨w2.heap.size, 0, none⟩) 1 1) (w' := w2.alloc (.cells #[.iface ty (.pointer (some ⟨G, 0, none⟩))] 73)) rfl (by kernel_rfl) ?_ ⟨fun _ => ⟨(hXU.nw hf2').alloc _, (hTU.nw hf2').alloc _⟩, ?_⟩
 ·kernel_rfl
 obtain ⟨i0, hi0, hz0', hz1, hz2⟩ := info_parts Tryz.infoTable
 obtain ⟨v', w3, hr, hown, hgrow, _, hat⟩ := run_append_own_at (P := Tryz.prog) (w2.alloc (.cells #[.iface ty (.pointer (some ⟨G, 0, none⟩))] 73)) 0 61 61 73 i0 .nilIface 1 16 Tryz.underlying61 hi0 hz0' hz1 hz2 rfl (by decide) (.slice s.so xs.length s.tcap) xs.length xs (Row.alloc (HrT.out.nw hf2') _) ⟨w2.heap.size, 0, none⟩ 1 1 [.iface ty (.pointer (some ⟨G, 0, none⟩))] rfl (cell_one_new _ _ _) (by simp [Value.oneCell']) (by unfold maxLen; omega) (by omega) (Nat.zero_le _)
 obtain ⟨tb, tcap, rfl, hr3, hf3, ha3, hlt3⟩ := app1 hown hgrow hat
 clear hown hgrow hat
 have o3 : Only w2 (fun k => (Value.slice s.so xs.length s.tcap).ownBlock = some k) [73] := Only.row (HrT.out.nw hf2')
 have hX3 := (hXU.nw hf2').frO hf3 o3 (by decide)
 have hT3 := (hTU.nw hf2').frO hf3 o3 (by decide)
 refine anyU_one (i := 12) (by kernel_rfl) ?_
 refine op_value (v := .slice (some ⟨tb, 0, none⟩) (xs.length + 1) tcap) (w' := w3) rfl (by kernel_rfl) ?_ ⟨fun _ => ⟨hX3, hT3⟩, ?_⟩
 ·simp only [Act.put, List.setIfInBounds_toArray, List.set_cons_zero, List.set_cons_succ, List.getElem_toArray, List.getElem_cons_zero, List.getElem_cons_succ]
  unfold execOp
  simp only [resolve, invoke, builtin, Sem.run_bind, Sem.run_pure, Result.andThen_ok, List.map_toArray, List.map_cons, List.map_nil, Act.eval]
  erw [hr]
  rfl
 refine anyU_one (i := 13) (by kernel_rfl) ?_
 refine op_value (v := .pointer (some ⟨X, 0, none⟩)) (w' := w3) rfl (by kernel_rfl) (by kernel_rfl) ⟨fun _ => ⟨hX3, hT3⟩, ?_⟩
 refine anyU_one (i := 14) (by kernel_rfl) ?_
 refine op_value (v := .pointer (some ⟨X, 9, none⟩)) (w' := w3) rfl (by kernel_rfl) (by kernel_rfl) ⟨fun _ => ⟨hX3, hT3⟩, ?_⟩
 refine anyU_one (i := 15) (by kernel_rfl) ?_
 have hc9 := (hX3.cell 9).trans (workCells_tabs _ _ _ _ hd8)
 have hf9 := hX3.free 9
 refine op_skip (w' := w3.setCell ⟨X, 9, none⟩ (.slice (some ⟨tb, 0, none⟩) (xs.length + 1) tcap)) rfl (by kernel_rfl) ?_ ⟨fun h => absurd rfl h, anyU_done (by kernel_rfl) ?_ _⟩
 ·clear hK0 hXU hTU hX3 hT3 hf3 hr hr3 hf2 hf2' hT2 hmade hnew o3 hszv ha3
  simp only [Act.put, List.setIfInBounds_toArray, List.set_cons_zero, List.set_cons_succ, List.getElem_toArray, List.getElem_cons_zero, List.getElem_cons_succ]
  go_simp
 simp only [Act.put, List.setIfInBounds_toArray, List.set_cons_zero, List.set_cons_succ, List.getElem_toArray, List.getElem_cons_zero, List.getElem_cons_succ]
 obtain ⟨Z, hZ⟩ : ∃ Z, Z = w3.setCell ⟨X, 9, none⟩ (.slice (some ⟨tb, 0, none⟩) (xs.length + 1) tcap) := ⟨_, rfl⟩
 have hfZ : Fr (fun k => k = X) w3 Z := by rw [hZ]; exact (Fr.refl _ w3).setCell _ _ (.inl rfl)
 have hXZ : Blk Z X (workCells s.szv s.d (.slice (some ⟨tb, 0, none⟩) (xs.length + 1) tcap) s.l) 66 := by
  rw [hZ, ← workCells_setTabs _ _ _ _ _ hd8]
  exact hX3.set 9 _
 rw [← hZ]
 clear hZ
 have oX : Only w3 (fun k => k = X) [66] := Only.one hX3
 have hTZ := (hT2.frO hf3 o3 (by decide)).frO hfZ oX (by decide)
 have hrZ := hr3.frO hfZ oX (by decide)
 have hUZ : Fr (fun k => k = X ∨ (Value.slice s.so xs.length s.tcap).ownBlock = some k) U Z := ((hf2'.mono (S' := fun k => k = X ∨ (Value.slice s.so xs.length s.tcap).ownBlock = some k) (fun i h => h.elim)).trans hf3 (fun i h => .inl (.inr h))).trans hfZ (fun i h => .inl (.inl h))
 have hwZ : Fr (fun k => k = X ∨ (Value.slice s.so xs.length s.tcap).ownBlock = some k) w Z := (HfU.out.mono (fun i h => h.elim)).trans hUZ (fun i h => .inl h)
 have hrw : Row w (.slice s.so xs.length s.tcap) 73 xs := by
  have := HH.out.mem.tabs.row
  rw [Hxs.out, Hxl.out] at this
  exact this
 have oZ : Only w (fun k => k = X ∨ (Value.slice s.so xs.length s.tcap).ownBlock = some k) [66, 73] := (Only.one HH.out.mem.blk).or (Only.row hrw)
 have hGn : w.heap.size ≤ G := by
  have h1 : U.heap.size ≤ G := hnew G (.inl rfl)
  have := HfU.out.size
  omega
 have hgn : w.heap.size ≤ g := by
  have h1 : U.heap.size ≤ g := hnew g (.inr (.inl rfl))
  have := HfU.out.size
  omega
 have hMZ := WMem.more (x := ⟨G, g, cap, vars, t⟩) (b := ⟨vars, rows, nt⟩) HH.out.mem Hus.out hwZ oZ (by rw [Hxl.out]; exact hXZ) (by rw [Hxl.out, Hxs.out]; show Row Z _ _ (xs ++ [Value.iface t.ty _]); rw [hty]; exact hrZ) hTZ hGn hgn (by rw [Hxl.out]; exact h12) rfl HTb.out Hvn.out
 have hSt : WStep w Z X s (s.more (some ⟨tb, 0, none⟩) tcap ⟨G, g, cap, vars, t⟩ ⟨vars, rows, nt⟩) := WStep.more hwZ (fun k hk => hk.elim (fun e => .inl e) (fun e => .inr (.inr (.inl (by rw [Hxl.out]; exact e))))) (fun k hk => by
  rw [Hxl.out]
  have e : tb = k := by cases hk; rfl
  subst e
  rcases ha3 with h1 | h1
  ·exact .inl h1
  ·have := HfU.out.size
   have := hf2'.size
   exact .inr (by omega)) hGn hgn
 have hSI := HH.out.good.more (so := some ⟨tb, 0, none⟩) (tcap := tcap) (x := ⟨G, g, cap, vars, t⟩) (b := ⟨vars, rows, nt⟩) HH.out.mem.fits (by rw [Hxl.out]; exact h12) (made_rep HTb.out HH.out.good.dm hmade)
 have hbMZ := HbM.out.frO hUZ ((Only.one hXU).or (Only.row HrT.out)) (by decide)
 have Hmc : Hid (mksV (noMarks.set s.ts.length true) = mksV (noMarks.set s.ts.length true)) := rfl
 obtain ⟨mk, hmk⟩ : ∃ mk, noMarks.set s.ts.length true = mk := ⟨_, rfl⟩
 have hml : mk.length = 12 := by rw [← hmk]; simp [noMarks]
 obtain ⟨b0, b1, b2, b3, b4, b5, b6, b7, b8, b9, b10, b11, hmb⟩ := list12 hml
 have hmv : mksV mk = #[.bool b0, .bool b1, .bool b2, .bool b3, .bool b4, .bool b5, .bool b6, .bool b7, .bool b8, .bool b9, .bool b10, .bool b11] := by rw [hmb]; rfl
 rw [hmk] at hSI hbMZ
 have hoff : ∀ k, s.ts.length + 1 ≤ k → mk.getD k false = false := fun k hk => by
  rw [← hmk, getD_setB, if_neg (fun e => by omega)]
  exact noMarks_get k
 have hmc : marksOf mk ≤ 12 := by have := marks_le mk; omega
 have hbm := bits_max s.d
 obtain ⟨c0, c1, c2, c3, c4, c5, c6, c7⟩ := work8 hXZ Hdv.out
 rw [hmv] at hbMZ
 have r0 : Z.cell? ⟨w'.heap.size, 0, none⟩ = some (.bool b0) := hbMZ.cell 0
 have r1 : Z.cell? ⟨w'.heap.size, 1, none⟩ = some (.bool b1) := hbMZ.cell 1
 have r2 : Z.cell? ⟨w'.heap.size, 2, none⟩ = some (.bool b2) := hbMZ.cell 2
 have r3 : Z.cell? ⟨w'.heap.size, 3, none⟩ = some (.bool b3) := hbMZ.cell 3
 have r4 : Z.cell? ⟨w'.heap.size, 4, none⟩ = some (.bool b4) := hbMZ.cell 4
 have r5 : Z.cell? ⟨w'.heap.size, 5, none⟩ = some (.bool b5) := hbMZ.cell 5
 have r6 : Z.cell? ⟨w'.heap.size, 6, none⟩ = some (.bool b6) := hbMZ.cell 6
 have r7 : Z.cell? ⟨w'.heap.size, 7, none⟩ = some (.bool b7) := hbMZ.cell 7
 have r8 : Z.cell? ⟨w'.heap.size, 8, none⟩ = some (.bool b8) := hbMZ.cell 8
 have r9 : Z.cell? ⟨w'.heap.size, 9, none⟩ = some (.bool b9) := hbMZ.cell 9
 have r10 : Z.cell? ⟨w'.heap.size, 10, none⟩ = some (.bool b10) := hbMZ.cell 10
 have r11 : Z.cell? ⟨w'.heap.size, 11, none⟩ = some (.bool b11) := hbMZ.cell 11
 have HMZ := hd hMZ
 have HSt := hd hSt
 have HSI := hd hSI
 have Hoff := hd hoff
 have Hmv := hd hmv
 have hlen1 : (s.more (some ⟨tb, 0, none⟩) tcap ⟨G, g, cap, vars, t⟩ ⟨vars, rows, nt⟩).ts.length = s.ts.length + 1 := by simp [WS.more]
 have Hlen1 := hd hlen1
 clear hMZ hSt hSI hoff hmv hmb hmk Hmc hbMZ hXZ hX3 hT3 hc9 hf9 hr hr3 hf3 ha3 hlt3 hf2 hf2' hmade hT2 hnew hK0 hXU hTU o3 oX oZ hTZ hrZ hUZ hwZ hrw hfZ hGn hgn HvU HrU HMU HbM HrT hty hszv hlen1
 simp only [Exit.then]
 go_upto_region 14 with fail
 go_still_tail 6, (by kernel_rfl)
 go_wp2_with fail
 rw [← Hdv.out, ← Hmv.out]
 have HMd := HMZ.out.nw ((Fr.refl _ Z).drew)
 refine (settle_any ((s.more (some ⟨tb, 0, none⟩) tcap ⟨G, g, cap, vars, t⟩ ⟨vars, rows, nt⟩).ctx X zs s.d) s.d mk _ HMd.blk HMd.sz hz0 hzl hd8 HH.out.good.dm.mem HMd.tabs HMd.inj HMd.t12 hml (fun k hk => Hoff.out k (by rw [← Hlen1.out]; exact hk)) HMd.tr (by show (s.us.map Un.val).length + _ ≤ 900000; rw [Hus.out]; simp; omega) HSI.out HMd.tbok HMd.fits).mono ?_
 rintro e w4 ⟨rfl, d', bv, ts, us, hset⟩
 obtain ⟨hA, hB⟩ := HMd.settled (by show StackOk zs _ s.us _ s.sk; rw [Hsk.out, Hus.out]; rfl) HH.out.good.inn HH.out.good.dm (SubD.refl _) (by show s.us.length + 900 * bitsOf s.d ≤ _; rw [Hus.out]; simp; omega) (by omega) (fun _ hc => absurd Hsk.out hc) (by show s.sk.length ≤ 20; rw [Hsk.out]; simp) hset
 have hB' : WStep Z w4 X (s.more (some ⟨tb, 0, none⟩) tcap ⟨G, g, cap, vars, t⟩ ⟨vars, rows, nt⟩) _ := ⟨hB.fr.of_drew, hB.grow⟩
 have HA := hd hA
 have HB := hd (HSt.out.trans hB')
 have Hclo := hd hset.clo
 have Hdm := hd hset.dm
 clear hset hA hB hB' HMd c0 c1 c2 c3 c4 c5 c6 c7 r0 r1 r2 r3 r4 r5 r6 r7 r8 r9 r10 r11
 go_wp2_with fail
 go_ret
 exact ⟨rfl, _, _, _, d', bv, ts, us, Hclo.out, Hdm.out, HA.out, HB.out⟩
end Go.Proofs.YtkjfpdfkcfgfkaaGreat

namespace Go.Proofs.YtkjfpdfkcfgfkaaGreat
open Go.RowKit Go.Shelf
attribute [local go_sem] Oper.semAt_some

def BRd (Bx : Nat) (ao : Option Addr) (cap : Nat) (xs : List Value) (W : World) : Prop := W.cell? ⟨Bx, 0, none⟩ = some (.slice ao xs.length cap) ∧ ∀ i, i < xs.length → ∃ b o, ao = some ⟨b, o, none⟩ ∧ W.cell? ⟨b, o + i, none⟩ = some (xs.getD i undef)

set_option maxHeartbeats 1600000 in
theorem backw_in (n l Bx : Nat) (ao : Option Addr) (cap : Nat) (xs : List Value) (hxl : xs.length ≤ 1000000) (J : Nat → World → Prop) (W : World) (h0 : J xs.length W) (hR : ∀ i W, J i W → BRd Bx ao cap xs W)
  (hY : ∀ (i : Nat) (W1 : World), i < xs.length → J (i + 1) W1 → YieldAt Fence.wide (n - 1) Tryz.prog l #[.int .i64 (i : Int), xs.getD i undef] W1 fun e W' => e = .returned (.bool true) ∧ J i W') :
  CallsIn Fence.wide n Tryz.prog 99 #[.func (.yield l) #[] #[], .pointer (some ⟨Bx, 0, none⟩)] W fun e W' => (∃ v, e = .returned v) ∧ J 0 W' := by
 refine callsIn_of_wp Tryz.func99 rfl trivial ?_ rfl
 simp only [Tryz.ntmps99, List.size_toArray, List.length_cons, List.length_nil, Nat.reduceAdd, Nat.reduceSub, Array.replicate_succ, Array.replicate_zero, List.push_toArray, List.append_toArray, List.nil_append, List.cons_append]
 have hc0 := (hR _ _ h0).1
 gi_wp2
 gi_loopw [3] (fun p wr => ∃ i : Nat, i ≤ xs.length ∧ p = .int .i64 ((i : Int) - 1) ∧ J i wr) (fun p _ => (intOf p + 1).toNat)
 case atStart => exact ⟨xs.length, Nat.le_refl _, by go_num, h0⟩
 case round =>
  obtain ⟨i, hi, rfl, hJ⟩ := hrel
  clear hc0
  cases i with
  | zero =>
   gi_wp2
   go_end0
   exact ⟨⟨_, rfl⟩, hJ⟩
  | succ i =>
   obtain ⟨hc, hx⟩ := hR _ _ hJ
   obtain ⟨b, o, hao, hcx⟩ := hx i (by omega)
   subst hao
   obtain ⟨fn, tmps, assign, body, hy, hRd⟩ := hY i wr (by omega) hJ
   obtain ⟨v, hv⟩ : ∃ v, xs.getD i undef = v := ⟨_, rfl⟩
   rw [hv] at hcx hy
   have e1 : ((i + 1 : Nat) : Int) - 1 = (i : Int) := by omega
   rw [e1]
   have hil : (i : Int) < xs.length := by omega
   have hi0 : (0 : Int) ≤ i := by omega
   clear hx
   gi_wp2_with fail
   refine ⟨(fun h => by cases h), ?_⟩
   refine hRd.mono ?_
   rintro e W3 ⟨rfl, hJ3⟩
   gi_wp2
   exact ⟨⟨i, by omega, by go_num, hJ3⟩, by simp [intOf]⟩

theorem wp_backw {n Bx : Nat} {ao : Option Addr} {cap : Nat} {xs : List Value} (hxl : xs.length ≤ 1000000) {g : Operand} {t0 t d : Tmp} {rid : Nat} {ty : TypeId} {pos : String} {body : Code} {Q : Exit → Act → World → Prop} {a : Act} {w : World}
  (hg : a.eval g = .func (.func 99) #[] #[.pointer (some ⟨Bx, 0, none⟩)]) (ht : t < a.tmps.size) (I : Nat → World → Prop) (hI : ∀ i A B, I i A → Bk w.heap.size A B → I i B) (hR : ∀ i W, I i W → BRd Bx ao cap xs W) (h0 : I xs.length w)
  (hround : ∀ (l : Nat) (i : Nat) (W : World), i < xs.length → I (i + 1) W →
   body.wpIn (Fence.wide.inRound l) (n - 1 - 1) Tryz.prog (eachPost (I i) W) { tmps := ((a.tmps.setIfInBounds t0 (.int .i64 (i : Int))).setIfInBounds t (xs.getD i undef)).setIfInBounds d (xs.getD i undef), defers := [] } W)
  (hdone : ∀ (D : Nat) (W : World), w.heap.size ≤ D → I 0 W → W.heap[D]? = some (.deferred (some [])) → Q .normal { a with defers := mark D :: a.defers } W) :
  (Code.rangeFunc g #[t0, t] (Code.region rid #[{ dst := some d, op := .assign (.tmp t), type := ty, pos := pos, after := #[], guard := none }] false) body).wpIn Fence.wide n Tryz.prog Q a w := by
 generalize hA : Code.region rid #[{ dst := some d, op := Op.assign (.tmp t), type := ty, pos := pos, after := #[], guard := none }] false = assign
 have hassign : ∀ (l : Nat) (i : Nat) (v : Value) (W : World) (K : Act → World → Prop), K { tmps := ((a.tmps.setIfInBounds t0 (.int .i64 (i : Int))).setIfInBounds t v).setIfInBounds d v, defers := [] } W →
   assign.wpIn (Fence.wide.inRound l) (n - 1 - 1) Tryz.prog (Exit.then K (fun _ _ _ => False)) { tmps := (a.tmps.setIfInBounds t0 (.int .i64 (i : Int))).setIfInBounds t v, defers := [] } W := by
  intro l i v W K hK
  subst hA
  have hget : ((a.tmps.setIfInBounds t0 (.int .i64 (i : Int))).setIfInBounds t v).getD t undef = v := by
   simp [ht]
  gi_wp2
  exact hK
 refine wpIn_rangeFunc ?_
 intro fn hfn
 obtain ⟨rec, hrec⟩ : ∃ rec : LoopState → Option Code → Loop, rec = fun st pe => { state := st, pending := pe, fn, tmps := a.tmps, params := #[t0, t], assign, body, defers := w.heap.size } := ⟨_, rfl⟩
 obtain ⟨W1, hW1⟩ : ∃ W1, (w.alloc (.deferred (some []))).alloc (.loop (rec .ready none)) = W1 := ⟨_, rfl⟩
 have hL1 : W1.heap[w.heap.size + 1]? = some (.loop (rec .ready none)) := by
  rw [← hW1]
  have := heap_alloc_new (w.alloc (.deferred (some []))) (.loop (rec .ready none))
  simpa using this
 have hK1 : W1.heap[w.heap.size]? = some (.deferred (some [])) := by
  rw [← hW1]; exact (Below.heap_alloc _ _ _ (by simp)).trans (heap_alloc_new w _)
 have hI1 : I xs.length W1 := by rw [← hW1]; exact hI _ _ _ (hI _ _ _ h0 (Bk.alloc _ _ _)) (Bk.alloc _ _ _)
 refine ⟨w.heap.size + 1, [mark w.heap.size], W1, { target := .fn (.func 99) #[.pointer (some ⟨Bx, 0, none⟩)], args := #[.func (.yield (w.heap.size + 1)) #[] #[]] }, W1, 99,
  #[.func (.yield (w.heap.size + 1)) #[] #[], .pointer (some ⟨Bx, 0, none⟩)], W1, ?_, ?_, ?_, ?_, (fun h => by cases h), ?_⟩
 ·rw [← hW1, hrec]; exact run_enterLoop_outer _ _ _ _ _
 ·simp only [resolve, hg]
  simp [go_sem]
 ·intro f' _; trivial
 ·simp [invoke, go_sem]
 ·refine (backw_in (n - 1) (w.heap.size + 1) Bx ao cap xs hxl
   (fun i W => I i W ∧ W.heap[w.heap.size + 1]? = some (.loop (rec .ready none)) ∧ W.heap[w.heap.size]? = some (.deferred (some []))) W1 ⟨hI1, hL1, hK1⟩ (fun i W h => hR i W h.1) ?_).mono ?_
  ·rintro i W hpre ⟨hi, hl, hk⟩
   have hlt : w.heap.size + 1 < W.heap.size := (Array.getElem?_eq_some_iff.1 hl).1
   have hy := run_yield (P := Tryz.prog) (args := #[.int .i64 (i : Int), xs.getD i undef]) hl (by rw [hrec]; rfl)
   rw [hrec] at hy
   dsimp only at hy
   have hfold : ((#[t0, t] : Array Tmp).zip #[Value.int .i64 (i : Int), xs.getD i undef]).foldl (fun tmps (x : Tmp × Value) => match x with | (t, a) => tmps.setIfInBounds t a) a.tmps = (a.tmps.setIfInBounds t0 (.int .i64 (i : Int))).setIfInBounds t (xs.getD i undef) := by simp
   rw [hfold] at hy
   have hl2 : (W.putObj (w.heap.size + 1) (.loop { rec .ready none with state := .busy })).heap[w.heap.size + 1]? = some (.loop { rec .ready none with state := .busy }) := World.putObj_heap_same hlt
   have hk2 : (W.putObj (w.heap.size + 1) (.loop { rec .ready none with state := .busy })).heap[w.heap.size]? = some (.deferred (some [])) := (World.putObj_heap_other (by omega)).trans hk
   have hbody := hround (w.heap.size + 1) i _ hpre (hI _ _ _ hi (Bk.put (.loop { rec .ready none with state := .busy }) (by omega) hl rfl))
   refine ⟨fn, _, assign, body, hy, roundIn_of_wpIn hfn ?_⟩
   refine hassign _ i _ W _ ?_
   refine ⟨_, run_beginRound hl (by rw [hrec]), ?_⟩
   refine wpIn_mono hbody ?_
   rintro e a3 W3 hp
   cases e with
   | normal =>
    obtain ⟨hk3, hi3⟩ := hp
    have hl3 := hk3.same _ _ hl2 rfl
    have hend := run_endRound (P := Tryz.prog) none hl3
    refine ⟨_, _, hend, rfl, hI _ _ _ hi3 (Bk.put _ (by omega) hl3 rfl), ?_, (World.putObj_heap_other (by omega)).trans (hk3.same _ _ hk2 rfl)⟩
    rw [World.putObj_heap_same (Array.getElem?_eq_some_iff.1 hl3).1, hrec]
    rfl
   | ret => exact hp.elim
   | exit id => exact hp.elim
   | goto t => exact hp.elim
   | panic ch => exact hp.elim
   | outgrown => exact hp.elim
  ·rintro e W2 ⟨⟨v, rfl⟩, hi, hl, hk⟩
   refine ⟨none, _, ?_, hdone w.heap.size _ (Nat.le_refl _) (hI _ _ _ hi (Bk.put (.loop { rec .ready none with state := .exhausted }) (by omega) hl rfl)) ((World.putObj_heap_other (by omega)).trans hk)⟩
   have := run_endLoop (P := Tryz.prog) hl (by rw [hrec]; simp)
   rw [hrec] at this ⊢
   exact this

set_option maxHeartbeats 400000 in
theorem backward_any (ao : Option Addr) (n cap : Nat) (w : World) :
  Calls Tryz.prog 96 #[.slice ao n cap] w fun e w' => e = .returned (.func (.func 99) #[] #[.pointer (some ⟨w.heap.size, 0, none⟩)]) ∧ w' = w.alloc (.cells #[.slice ao n cap] 62) := by
 have hmf : ∀ (fn : Fn) (first cap : Array Value) (w : World), (Instr.makeFunc fn first cap).run Tryz.prog w = .ok (.func fn first cap) w := fun _ _ _ _ => rfl
 go_enter Tryz.func96, Tryz.ntmps96
 go_wp2
 go_ret
 exact ⟨rfl, rfl⟩
end Go.Proofs.YtkjfpdfkcfgfkaaGreat

namespace Go.Proofs.YtkjfpdfkcfgfkaaGreat
open Go.RowKit

theorem Row.take {w : World} {ao : Option Addr} {m cap : Nat} {e : TypeId} {xs : List Value} (h : Row w (.slice ao m cap) e xs) (n : Nat) (hn : n ≤ xs.length) : Row w (.slice ao n cap) e (xs.take n) := by
 have hl : (xs.take n).length = n := by simp; omega
 refine ⟨by rw [hl]; simp, ?_⟩
 rcases h.2 with ⟨he, h0⟩ | ⟨g, cap', cur, he, hb, hg, hc, hm, hs, ht⟩
 ·have hn0 : n = 0 := by omega
  subst hn0
  have e2 : (Value.slice ao 0 cap) = .slice none 0 0 := by
   injection he with e1 e2 e3
   rw [e1, e3]
  exact .inl ⟨by rw [e2], by simp⟩
 ·injection he with e1 e2 e3
  subst e1 e3
  refine .inr ⟨g, cap, cur, by rw [hl], hb, hg, by rw [hl]; omega, hm, hs, ?_⟩
  rw [hl, ← ht, List.take_take]
  congr 1
  omega
theorem Row.sliced0 {w : World} {ao : Option Addr} {m cap : Nat} {e : TypeId} {xs : List Value} (h : Row w (.slice ao m cap) e xs) (n : Nat) : sliced ao 0 n cap 1 = .slice ao n cap := by
 unfold sliced
 rcases h.2 with ⟨he, h0⟩ | ⟨g, cap', cur, he, _⟩
 ·injection he with e1 e2 e3
  subst e1 e3
  simp
 ·injection he with e1 e2 e3
  subst e1
  split
  ·simp
  ·simp [Addr.add]
theorem Row.tail {w : World} {ao : Option Addr} {m cap : Nat} {e : TypeId} {xs : List Value} (h : Row w (.slice ao m cap) e xs) (n : Nat) (hn : n ≤ xs.length) : ∃ ao', sliced ao n m cap 1 = .slice ao' (xs.drop n).length (cap - n) ∧ ((∃ g, ao = some ⟨g, 0, none⟩ ∧ n < xs.length ∧ ao' = some ⟨g, n, none⟩) ∨ n = xs.length) := by
 have hm : m = xs.length := by
  rcases h.2 with ⟨he, h0⟩ | ⟨g, cap', cur, he, _⟩
  ·injection he with e1 e2 e3
   omega
  ·injection he with e1 e2 e3
 subst hm
 unfold sliced
 by_cases e1 : n = xs.length
 ·exact ⟨if cap = n then ao else Option.map (fun x => x.add (n * 1)) ao, by simp, .inr e1⟩
 ·have hlt : n < xs.length := by omega
  rcases h.2 with ⟨he, h0⟩ | ⟨g, cap', cur, he, _, _, hc, _⟩
  ·omega
  ·injection he with e2 e3 e4
   subst e2 e4
   have hne : ¬ cap = n := by omega
   refine ⟨some ⟨g, n, none⟩, ?_, .inl ⟨g, rfl, hlt, rfl⟩⟩
   rw [if_neg hne]
   simp [Addr.add]
   exact fun h => h.symm
theorem Fr.setRow {S : Nat → Prop} {a b : World} (h : Fr S a b) (g : Nat) (c : Array Value) (hg : S g ∨ a.heap.size ≤ g) : Fr S a (b.setRow g c) :=
 ⟨h.os, h.tape, h.output, by rw [setRow_size]; exact h.size, fun k hk hn => (setRow_other _ _ _ _ (fun e => by subst e; exact hg.elim hn (fun h' => by omega))).trans (h.block k hk hn)⟩
theorem Tryz.zeroFunc (w : World) : (zeroValue 1).run Tryz.prog w = .ok .nilFunc w := by kernel_rfl
theorem clear_tail {w : World} {ao : Option Addr} {m cap : Nat} {xs : List Value} (ty : TypeId) (h : Row w (.slice ao m cap) 1 xs) (n : Nat) (hn : n ≤ xs.length) {ao' : Option Addr} {k cap' : Nat} (hs : sliced ao n m cap 1 = .slice ao' k cap') :
  ∃ w', (Builtin.clear_ #[62] ty #[.slice ao' k cap']).run Tryz.prog w = .ok (.tuple #[]) w' ∧ Fr (fun k => (Value.slice ao m cap).ownBlock = some k) w w' ∧ Row w' (.slice ao n cap) 1 (xs.take n) := by
 obtain ⟨ao2, he, hc⟩ := h.tail n hn
 rw [hs] at he
 injection he with e1 e2 e3
 subst e1 e2
 have hu : Tryz.prog.underlying 62 = some (.slice 1) := by kernel_rfl
 rcases hc with ⟨g, rfl, hlt, rfl⟩ | rfl
 ·rcases h.2 with ⟨he, h0⟩ | ⟨g', cap2, cur, he, hb, hg, hc, hm, hsz, ht⟩
  ·cases he
  ·injection he with e1 e2 e3
   cases e1
   subst e2 e3
   have hk0 : (xs.drop n).length ≠ 0 := by rw [List.length_drop]; omega
   obtain ⟨k', hk'⟩ : ∃ k', (xs.drop n).length = k' + 1 := ⟨(xs.drop n).length - 1, by omega⟩
   have hzl : (Builtin.zeroCells (Value.nilFunc).cells (k' + 1)).toList = List.replicate (k' + 1) Value.nilFunc := by
    refine List.ext_getElem (by simp [Builtin.zeroCells, Value.cells]) (fun i h1 h2 => ?_)
    simp [Builtin.zeroCells, Value.cells, Nat.mod_one]
   have hst := run_storeCells_at (P := Tryz.prog) g n 1 (List.replicate (k' + 1) Value.nilFunc) 0 cur w hg (by rw [List.length_replicate, ← hk', List.length_drop]; simp at hsz; omega) (fun v hv => by
    rw [List.eq_of_mem_replicate hv]
    rfl)
   refine ⟨w.setRow g (cur.toList.take (n + 0) ++ List.replicate (k' + 1) Value.nilFunc ++ cur.toList.drop (n + 0 + (List.replicate (k' + 1) Value.nilFunc).length)).toArray, ?_, (Fr.refl _ w).setRow g _ (.inl rfl), ?_⟩
   ·rw [hk']
    simp only [Builtin.clear_, Sem.run_bind, run_underlying hu, Tryz.zeroFunc, Result.andThen_ok, hzl, hst, Sem.run_pure, List.getElem?_toArray, List.getElem?_cons_zero]
   ·have hl : (xs.take n).length = n := by simp; omega
    refine ⟨by rw [hl]; simp, .inr ⟨g, cap, _, by rw [hl], Nat.zero_le _, setRow_heap w g cur _ _ _ hg, by rw [hl]; omega, hm, ?_, ?_⟩⟩
    ·simp only [Nat.add_zero, List.size_toArray, List.length_append, List.length_take, List.length_drop, List.length_replicate, Array.length_toList]
     rw [← hk', List.length_drop]
     simp at hsz
     omega
    ·rw [hl]
     simp only [Nat.add_zero, Nat.mul_one, List.append_assoc]
     have h9 := congrArg (List.take n) ht
     rw [List.take_take, Nat.mul_one, Nat.min_eq_left hn] at h9
     rw [← h9, List.take_append_of_le_length (by simp; simp at hsz; omega), List.take_take, Nat.min_self]
 ·have hk0 : (xs.drop xs.length).length = 0 := by simp
  refine ⟨w, ?_, Fr.refl _ _, h.take _ (Nat.le_refl _)⟩
  rw [hk0]
  cases ao' with
  | none =>
   simp only [Builtin.clear_, Sem.run_bind, run_underlying hu, Result.andThen_ok, Sem.run_pure, List.getElem?_toArray, List.getElem?_cons_zero]
  | some a =>
   simp only [Builtin.clear_, Sem.run_bind, run_underlying hu, Result.andThen_ok, Sem.run_pure, List.getElem?_toArray, List.getElem?_cons_zero]
theorem Un.call (u : Un) : ∃ fn cs, u.val = .func (.func fn) #[] cs ∧ ∀ a W, (callFunc fn a).run Tryz.prog W = .ok (.enter fn a) W := by
 cases u with
 | n T S k t0 => exact ⟨_, _, rfl, fun a W => by kernel_rfl⟩
 | r T D d0 => exact ⟨_, _, rfl, fun a W => by kernel_rfl⟩
def noS : Nat → Prop := fun _ => False
theorem WMem.undo {W : World} {X : Nat} {zs : List Int} {s : WS} (h : WMem W X zs s) (hd8 : s.d.length = 8) {u : Un} (hu : u ∈ s.us) {fn : FuncId} {cs : Array Value} (hv : u.val = .func (.func fn) #[] cs) :
  Calls Tryz.prog fn cs W fun e W' => e = .returned (.tuple #[]) ∧ Fr (SFr X s.ts (.slice none 0 0)) W W' ∧ ∃ d ts, u.undo (s.d, s.ts.map Tab.t) = (d, ts.map Tab.t) ∧ SameT s.ts ts ∧ d.length = 8 ∧ WMem W' X zs { s with d := d, ts := ts } := by
 cases u with
 | n T S k t0 =>
  obtain ⟨hk, hT, hS, hW⟩ := h.un _ hu
  have hv' : backN T S = .func (.func fn) #[] cs := hv
  injection hv' with e1 e2 e3
  injection e1 with e1
  subst e1 e3
  refine (backN_any T S _ _ _ _ _ t0 W (h.tabs.at_ k hk) hW hW.form hT hS).mono ?_
  rintro e W' ⟨rfl, f, hA⟩
  have hs := SameT.set hk hW.kin0
  obtain ⟨cG, eG, hbG, hcG⟩ := (h.tabs.at_ k hk).tyG
  have o : Only W (fun q => q = (s.ts.getD k tab0).G) [131, 125] := (Only.one hbG).mono (fun _ x => x) (by rcases hcG with rfl | rfl <;> decide)
  refine ⟨rfl, f.mono (fun i hi => .inl (.inr (.inl ⟨k, hk, hi⟩))), s.d, s.ts.set k { s.ts.getD k tab0 with t := t0 }, ?_, hs, hd8, ⟨?_, h.sz.frO f o (by decide), h.zok, ?_, hs.inj h.inj, by rw [hs.len]; exact h.t12, hs.fits h.fits, h.tbok, h.tr.frO f o (by decide), fun u hu => ((h.un u hu).frO f o (by decide) (.inr (by decide))).same hs, fun k' hk' => ⟨(h.apart k' hk').1, fun i hi => by rw [(hs.at_ i (by rw [← hs.len]; exact hi)).2.1]; exact (h.apart k' hk').2 i (by rw [← hs.len]; exact hi)⟩⟩⟩
  ·simp only [Un.undo, List.map_set]
  ·show Blk W' X (workCells s.szv s.d (.slice s.so (s.ts.set k _).length s.tcap) s.l) _
   rw [hs.len]
   exact h.blk.frO f o (by decide)
  ·exact h.tabs.step (S := noS) h.inj hk (Only.none W) (f.mono (fun i hi => .inl (.inl hi))) (fun _ _ => List.not_mem_nil) hW.kin0 hA
 | r T D d0 =>
  obtain ⟨hT, hD, h8, h64⟩ := h.un _ hu
  have hv' : backR T D = .func (.func fn) #[] cs := hv
  injection hv' with e1 e2 e3
  injection e1 with e1
  subst e1 e3
  refine (backR_any X T D s.szv d0 s.d _ s.l W h.blk h8 hd8 hT hD).mono ?_
  rintro e W' ⟨rfl, f, hB⟩
  have o : Only W (fun k => k = X) [66] := Only.one h.blk
  exact ⟨rfl, f.mono (fun i hi => .inl (.inl hi)), d0, s.ts, rfl, SameT.refl _, h8, ⟨hB, h.sz.frO f o (by decide), h.zok, h.tabs.frO f o (by decide), h.inj, h.t12, h.fits, h.tbok, h.tr.frO f o (by decide), fun u hu => (h.un u hu).frO f o (by decide) (.inr (by decide)), h.apart⟩⟩
theorem WMem.bk {lo : Nat} {A B : World} {X : Nat} {zs : List Int} {s : WS} (h : WMem A X zs s) (hb : Bk lo A B) : WMem B X zs s := by
 obtain ⟨row, hg, hr⟩ := hb
 have key : ∀ k cur e, row = some k → ¬ Blk A k cur e := by
  intro k cur e hk hB
  obtain ⟨_, o, ho, hc⟩ := hr k hk
  have h' : A.heap[k]? = some (.cells cur e (0, 0)) := hB
  rw [h'] at ho
  cases ho
  cases hc
 refine h.fr (S := fun k => row = some k) ((Fr.refl _ A).grown hg (fun k hk => .inl hk)) (fun k hk hs => ?_) (es := []) (fun k cur e hs hB => absurd hB (key k cur e hs)) (by decide)
 obtain ⟨cur, e, hB, _⟩ := h.ty hk
 exact key k cur e hs hB
theorem WAt.bk {lo : Nat} {A B : World} {X : Nat} {zs : List Int} {s : WS} (h : WAt A X zs s) (hb : Bk lo A B) : WAt B X zs s := ⟨h.mem.bk hb, h.good, h.cnt, h.sk, h.lev⟩
end Go.Proofs.YtkjfpdfkcfgfkaaGreat

namespace Go.Proofs.YtkjfpdfkcfgfkaaGreat
open Go.RowKit Go.Shelf
attribute [local go_sem] Oper.semAt_some

def PopI (w : World) (X : Nat) (zs : List Int) (s : WS) (n Bx : Nat) (sv : Value) (i : Nat) (W : World) : Prop := ∃ d ts, (s.us.drop (n + i)).foldr Un.undo (s.d, s.ts.map Tab.t) = (d, ts.map Tab.t) ∧ SameT s.ts ts ∧ d.length = 8 ∧ WMem W X zs { s with d := d, ts := ts } ∧ Fr (SFr X s.ts (.slice none 0 0)) w W ∧ Blk W Bx #[sv] 62
theorem slice_low (ao : Option Addr) (m cap n : Nat) (hn : n ≤ m) (W : World) : (Instr.sliceAt 62 (.slice ao m cap) (some (.int .i64 (n : Int))) none none).run Tryz.prog W = .ok (sliced ao n m cap 1) W := by
 have hu : Tryz.prog.underlying 62 = some (.slice (Tryz.prog.elem 62)) := by kernel_rfl
 have he : Tryz.prog.elem 62 = 1 := by kernel_rfl
 have hz : (sizeOf 1).run Tryz.prog W = .ok 1 W := by kernel_rfl
 rw [run_sliceAt_slice _ _ _ _ _ _ hu]
 rw [run_slice_l _ _ _ _ _ hu _ _ (by omega) (by omega), he, hz]
 simp [Result.andThen]
theorem slice_highF (ao : Option Addr) (m cap n : Nat) (hn : n ≤ cap) (W : World) : (Instr.sliceAt 62 (.slice ao m cap) none (some (.int .i64 (n : Int))) none).run Tryz.prog W = .ok (sliced ao 0 n cap 1) W := by
 have hu : Tryz.prog.underlying 62 = some (.slice (Tryz.prog.elem 62)) := by kernel_rfl
 have he : Tryz.prog.elem 62 = 1 := by kernel_rfl
 have hz : (sizeOf 1).run Tryz.prog W = .ok 1 W := by kernel_rfl
 rw [run_sliceAt_slice _ _ _ _ _ _ hu]
 rw [run_slice_h _ _ _ _ _ hu _ _ (by omega) (by omega), he, hz]
 simp [Result.andThen]
theorem slice_highI (ao : Option Addr) (m cap n : Nat) (hn : n ≤ cap) (W : World) : (Instr.sliceAt 22 (.slice ao m cap) none (some (.int .i64 (n : Int))) none).run Tryz.prog W = .ok (sliced ao 0 n cap 1) W := by
 have hu : Tryz.prog.underlying 22 = some (.slice (Tryz.prog.elem 22)) := by kernel_rfl
 have he : Tryz.prog.elem 22 = 3 := by kernel_rfl
 have hz : (sizeOf 3).run Tryz.prog W = .ok 1 W := by kernel_rfl
 rw [run_sliceAt_slice _ _ _ _ _ _ hu]
 rw [run_slice_h _ _ _ _ _ hu _ _ (by omega) (by omega), he, hz]
 simp [Result.andThen]
theorem Row.capG {w : World} {ao : Option Addr} {m cap : Nat} {e : TypeId} {xs : List Value} (h : Row w (.slice ao m cap) e xs) : xs.length ≤ cap := by
 rcases h.2 with ⟨he, h0⟩ | ⟨g, cap', cur, he, _, _, hc, _⟩
 ·omega
 ·injection he with e1 e2 e3
  omega
theorem startsOf_cons (n : Nat) (p : List Nat × List TS) (r : List (Nat × List Nat × List TS)) : startsOf ((n, p) :: r) = startsOf r ++ [.int .i64 (n : Int)] := by simp [startsOf]
theorem startsOf_len (r : List (Nat × List Nat × List TS)) : (startsOf r).length = r.length := by simp [startsOf]

set_option maxHeartbeats 6400000 in
set_option maxRecDepth 1000000 in
theorem tpop_any (X : Nat) (zs : List Int) (s : WS) (n : Nat) (p : List Nat × List TS) (r : List (Nat × List Nat × List TS)) (w : World) (h : WMem w X zs s) (hd8 : s.d.length = 8) (hus : s.us.length ≤ 1000000) (hrl : r.length ≤ 100) (hsk : s.sk = (n, p) :: r) (hn : n ≤ s.us.length)
  (he : (s.us.drop n).foldr Un.undo (s.d, s.ts.map Tab.t) = p) :
  Calls Tryz.prog 83 #[.pointer (some ⟨X, 10, none⟩)] w fun e w' => e = .returned (.tuple #[]) ∧ ∃ ts bv sv, SameT s.ts ts ∧ ts.map Tab.t = p.2 ∧ p.1.length = 8 ∧
   WMem w' X zs { s with d := p.1, ts := ts, l := ⟨bv, sv, s.l.busy⟩, us := s.us.take n, sk := r } ∧ Fr (SFr X s.ts s.l.backs) w w' ∧ bv.ownBlock = s.l.backs.ownBlock ∧ sv.ownBlock = s.l.starts.ownBlock := by
 obtain ⟨bo, bcap, hbk, _⟩ := h.tr.backs.form
 rw [List.length_map] at hbk
 obtain ⟨so', sc, hst⟩ := startsOf_form h.tr
 rw [hsk, List.length_cons] at hst
 have hrb : Row w (.slice bo s.us.length bcap) 1 (s.us.map Un.val) := hbk ▸ h.tr.backs
 have hrs : Row w (.slice so' (r.length + 1) sc) 3 (startsOf r ++ [.int .i64 (n : Int)]) := by
  have := h.tr.starts
  rw [hst, hsk, startsOf_cons] at this
  exact this
 obtain ⟨ao', hsl, htail⟩ := hrb.tail n (by rw [List.length_map]; exact hn)
 obtain ⟨m, hm⟩ : ∃ m, ((s.us.map Un.val).drop n).length = m := ⟨_, rfl⟩
 have hml : m = s.us.length - n := by rw [← hm]; simp
 have Hml := hd hml
 clear hml
 have hbcap := hrb.capG
 rw [List.length_map] at hbcap
 have hscap := hrs.capG
 rw [List.length_append, startsOf_len] at hscap
 simp only [List.length_singleton] at hscap
 have hcb : w.cell? ⟨X, 10, none⟩ = some (.slice bo s.us.length bcap) := (h.blk.cell 10).trans ((workCells_backs _ _ _ _ hd8).trans (by rw [hbk]))
 have hcl : w.cell? ⟨X, 11, none⟩ = some (.slice so' (r.length + 1) sc) := (h.blk.cell 11).trans ((workCells_starts _ _ _ _ hd8).trans (by rw [hst]))
 obtain ⟨sb, sc2, hso, _, hci, _⟩ := hrs.cell r.length (by simp [startsOf])
 have hso2 : so' = some ⟨sb, 0, none⟩ := by injection hso
 subst hso2
 have hcN : w.cell? ⟨sb, r.length, none⟩ = some (.int .i64 (n : Int)) := by
  rw [hci]
  congr 1
  rw [List.getElem_append_right (by simp [startsOf])]
  simp [startsOf]
 have hsl2 := fun W => (slice_low bo s.us.length bcap n hn W).trans (by rw [hsl, hm])
 have hmf : ∀ (fn : Fn) (first cap : Array Value) (w : World), (Instr.makeFunc fn first cap).run Tryz.prog w = .ok (.func fn first cap) w := fun _ _ _ _ => rfl
 have hsub1 : ((r.length + 1 : Nat) : Int) - 1 = (r.length : Int) := by omega
 have hne0 : (((r.length + 1 : Nat) : Int) == 0) = false := by simp; omega
 have HH := hd h
 have Hbk := hd hbk
 have Hst := hd hst
 have Hsk := hd hsk
 have He := hd he
 have Hsl := hd hsl
 have Htail := hd htail
 have Hm := hd hm
 have Hrb := hd hrb
 have Hrs := hd hrs
 clear h hbk hst hsk he hsl htail hm hrb hrs hso hci
 refine (callsIn_wide (n := 9)).1 ?_
 refine callsIn_of_wp_marks Tryz.func83 rfl trivial ?_ rfl
 simp only [Tryz.ntmps83, List.size_toArray, List.length_cons, List.length_nil, Nat.reduceAdd, Nat.reduceSub, Array.replicate_succ, Array.replicate_zero, List.push_toArray, List.append_toArray, List.nil_append, List.cons_append]
 gi_wp2_with (first
  | (refine ⟨trivial, ?_⟩; gi_at_call 24; refine (callsIn_wide.2 (level_any X _ (r.length + 1) sc _ hcl)).mono ?_; rintro e w' ⟨rfl, rfl⟩)
  | (refine ⟨trivial, ?_⟩; gi_at_call 96; refine (callsIn_wide.2 (backward_any _ _ _ _)).mono ?_; rintro e w1 ⟨rfl, rfl⟩))
 have hal : Nw w' (w'.alloc (.cells #[.slice ao' m (bcap - n)] 62)) := (Fr.refl _ w').alloc _
 refine wp_backw (Bx := w'.heap.size) (ao := ao') (cap := bcap - n) (xs := (s.us.map Un.val).drop n) (by rw [Hm.out, Hml.out]; omega) rfl (by simp) (PopI w' X zs s n w'.heap.size (.slice ao' m (bcap - n))) ?bk ?rd ?start ?round ?done
 case bk =>
  rintro i A B ⟨d, ts, h1, h2, h3, h4, h5, h6⟩ hb
  exact ⟨d, ts, h1, h2, h3, h4.bk hb, h5.bk hb (by simp), h6.bk hb⟩
 case rd =>
  rintro i W ⟨d, ts, h1, h2, h3, h4, h5, h6⟩
  refine ⟨by rw [Hm.out]; exact h6.cell 0, fun j hj => ?_⟩
  have hrow := h4.tr.backs
  have hrow2 : Row W (.slice bo s.us.length bcap) 1 (s.us.map Un.val) := by rw [← Hbk.out]; exact hrow
  have hj2 : j < s.us.length - n := by simpa using hj
  rcases Htail.out with ⟨g, hg1, hg2, hg3⟩ | hg
  ·subst hg1
   refine ⟨g, n, hg3, ?_⟩
   have hlt : n + j < s.us.length := by omega
   rw [(hrow2.at_ (n + j) (by simp; omega)).1]
   simp [List.getD, List.getElem?_drop, hlt]
  ·rw [List.length_map] at hg
   omega
 case start =>
  have h1 : n + ((s.us.map Un.val).drop n).length = s.us.length := by rw [Hm.out, Hml.out]; omega
  refine ⟨s.d, s.ts, ?_, SameT.refl _, hd8, HH.out.nw hal, hal.mono (fun i h => h.elim), Blk.new _ _ _⟩
  rw [h1, List.drop_length]
  rfl
 case round =>
  rintro l i W hi ⟨d, ts, h1, h2, h3, h4, h5, h6⟩
  have hi2 : n + i < s.us.length := by simp at hi; omega
  obtain ⟨u, hu⟩ : ∃ u, s.us[n + i] = u := ⟨_, rfl⟩
  have hmem : u ∈ s.us := by rw [← hu]; exact List.getElem_mem hi2
  have hval : ((s.us.map Un.val).drop n).getD i undef = u.val := by simp [List.getD, List.getElem?_drop, hi2, hu]
  obtain ⟨fn, cs, hv, hcall⟩ := u.call
  rw [hval, hv]
  have hcalls := h4.undo h3 (u := u) hmem hv
  have hdrop : s.us.drop (n + i) = u :: s.us.drop (n + (i + 1)) := by
   rw [List.drop_eq_getElem_cons hi2, hu]
   rfl
  have Hcalls := hd hcalls
  have Hdrop := hd hdrop
  have H1 := hd h1
  have H2 := hd h2
  have H4 := hd h4
  have H5 := hd h5
  have H6 := hd h6
  have hWB := h5.size
  clear hcalls hdrop h1 h2 h4 h5 h6 hval hu hmem hv
  gi_wp2_with fail
  refine ⟨trivial, ?_⟩
  refine (CallsIn.inRound l (callsIn_wide.2 Hcalls.out)).mono ?_
  rintro e W' ⟨rfl, hf, d', ts', he', hs', hd', hM'⟩
  gi_wp2
  have o := H4.out.onlyS
  have o2 : Only W (SFr X ts (.slice none 0 0)) [66, 131, 125, 1] := o.mono (fun k hk => hk.elim .inl (fun h => h.elim (fun h => .inr (.inl h)) (fun h => by cases h))) (fun _ h => h)
  refine ⟨hf.keeps (fun k hk => ?_), d', ts', ?_, H2.out.trans hs', hd', hM', H5.out.trans hf (fun k hk => ?_), H6.out.frO hf o2 (by decide)⟩
  ·rcases hk with rfl | ⟨j, hj, rfl⟩ | hk
   ·exact ⟨_, _, H4.out.blk⟩
   ·obtain ⟨cur, e, hb, _⟩ := (H4.out.tabs.at_ j hj).tyG
    exact ⟨_, _, hb⟩
   ·cases hk
  ·rw [Hdrop.out, List.foldr_cons, H1.out]
   exact he'
  ·rcases hk with rfl | ⟨j, hj, rfl⟩ | hk
   ·exact .inl (.inl rfl)
   ·have hj' : j < s.ts.length := by rw [← H2.out.len]; exact hj
    exact .inl (.inr (.inl ⟨j, hj', (H2.out.at_ j hj').1⟩))
   ·cases hk
 case done =>
  rintro D W hD ⟨d, ts, h1, h2, h3, h4, h5, h6⟩ hK
  have hp : p = (d, ts.map Tab.t) := by
   rw [← He.out, ← h1]
   rfl
  have hcb2 : W.cell? ⟨X, 10, none⟩ = some (.slice bo s.us.length bcap) := (h4.blk.cell 10).trans ((workCells_backs _ _ _ _ h3).trans (by rw [← Hbk.out]))
  have hrow2 : Row W (.slice bo s.us.length bcap) 1 (s.us.map Un.val) := by rw [← Hbk.out]; exact h4.tr.backs
  have hcl2 := fun ty => clear_tail ty hrow2 n (by rw [List.length_map]; exact hn) (Hsl.out.trans (by rw [Hm.out]))
  obtain ⟨W2, hclr, hf2, hr2⟩ := hcl2 0
  have hclr' : ∀ ty, (Builtin.clear_ #[62] ty #[.slice ao' m (bcap - n)]).run Tryz.prog W = .ok (.tuple #[]) W2 := fun ty => hclr
  have H1 := hd h1
  have H2 := hd h2
  have H4 := hd h4
  have H5 := hd h5
  have HK := hd hK
  have Hp := hd hp
  have Hf2 := hd hf2
  have Hr2 := hd hr2
  have Hrow2 := hd hrow2
  clear h1 h2 h4 h5 h6 hK hp hf2 hr2 hrow2 hclr hcl2 hcb hcl hcN
  gi_upto_region 7 with fail
  have hblk2 : Blk W2 X (workCells s.szv d (.slice s.so ts.length s.tcap) s.l) 66 := H4.out.blk.frO Hf2.out (Only.row Hrow2.out) (by decide)
  have hc10 : W2.cell? ⟨X, 10, none⟩ = some (.slice bo s.us.length bcap) := (hblk2.cell 10).trans ((workCells_backs _ _ _ _ h3).trans (by rw [← Hbk.out]))
  have hc11 : W2.cell? ⟨X, 11, none⟩ = some (.slice (some ⟨sb, 0, none⟩) (r.length + 1) sc) := (hblk2.cell 11).trans ((workCells_starts _ _ _ _ h3).trans (by rw [← Hst.out]))
  have hfz := hblk2.free
  have hsF := fun W => (slice_highF bo s.us.length bcap n (by omega) W).trans (by rw [Hr2.out.sliced0 n])
  have hsI := fun W => (slice_highI (some ⟨sb, 0, none⟩) (r.length + 1) sc r.length (by omega) W).trans (by rw [Hrs.out.sliced0 r.length])
  obtain ⟨bv, hbv⟩ : ∃ bv, Value.slice bo n bcap = bv := ⟨_, rfl⟩
  obtain ⟨sv, hsv⟩ : ∃ sv, Value.slice (some ⟨sb, 0, none⟩) r.length sc = sv := ⟨_, rfl⟩
  have hfz2 : Fr (fun k => k = X) W2 ((W2.drew.setCell ⟨X, 10, none⟩ (.slice bo n bcap)).setCell ⟨X, 11, none⟩ (.slice (some ⟨sb, 0, none⟩) r.length sc)) := (((Fr.refl (fun k => k = X) W2).drew).setCell _ _ (.inl rfl)).setCell _ _ (.inl rfl)
  have hoX : Only W2 (fun k => k = X) [66] := Only.one hblk2
  have hoB : Only W (fun k => (Value.slice bo s.us.length bcap).ownBlock = some k) [1] := Only.row Hrow2.out
  have hBZ : Blk ((W2.drew.setCell ⟨X, 10, none⟩ (.slice bo n bcap)).setCell ⟨X, 11, none⟩ (.slice (some ⟨sb, 0, none⟩) r.length sc)) X (workCells s.szv d (.slice s.so ts.length s.tcap) ⟨.slice bo n bcap, .slice (some ⟨sb, 0, none⟩) r.length sc, s.l.busy⟩) 66 := by
   have h5 := (hblk2.drew.set 10 (.slice bo n bcap)).set 11 (.slice (some ⟨sb, 0, none⟩) r.length sc)
   rw [workCells_setBacks _ _ _ _ h3, workCells_setStarts _ _ _ _ h3] at h5
   exact h5
  have hMZ : WMem ((W2.drew.setCell ⟨X, 10, none⟩ (.slice bo n bcap)).setCell ⟨X, 11, none⟩ (.slice (some ⟨sb, 0, none⟩) r.length sc)) X zs { s with d := d, ts := ts, l := ⟨.slice bo n bcap, .slice (some ⟨sb, 0, none⟩) r.length sc, s.l.busy⟩, us := s.us.take n, sk := r } := by
   refine ⟨hBZ, (H4.out.sz.frO Hf2.out hoB (by decide)).frO hfz2 hoX (by decide), H4.out.zok, (H4.out.tabs.frO Hf2.out hoB (by decide)).frO hfz2 hoX (by decide), H4.out.inj, H4.out.t12, H4.out.fits, H4.out.tbok, ⟨?_, ?_⟩, fun u hu => ((H4.out.un u (List.mem_of_mem_take hu)).frO Hf2.out hoB (by decide) (.inr (by decide))).frO hfz2 hoX (by decide) (.inr (by decide)), fun k hk => H4.out.apart k (by show s.l.starts.ownBlock = some k; rw [Hst.out]; exact hk)⟩
   ·have h6 : Row W (.slice (some ⟨sb, 0, none⟩) (r.length + 1) sc) 3 (startsOf r ++ [.int .i64 (n : Int)]) := by
     have := H4.out.tr.starts
     have e1 : s.l.starts = .slice (some ⟨sb, 0, none⟩) (r.length + 1) sc := Hst.out
     have e2 : startsOf s.sk = startsOf r ++ [.int .i64 (n : Int)] := by rw [Hsk.out, startsOf_cons]
     simp only at this
     rw [e1, e2] at this
     exact this
    have h7 := ((h6.frO Hf2.out hoB (by decide)).frO hfz2 hoX (by decide)).take r.length (by simp [startsOf])
    rw [List.take_append_of_le_length (by simp [startsOf]), List.take_of_length_le (by simp [startsOf])] at h7
    exact h7
   ·have h7 := Hr2.out.frO hfz2 hoX (by decide)
    rw [← List.map_take] at h7
    exact h7
  have hDW := lt_of_block HK.out
  have hKW2 : W2.heap[D]? = some (.deferred (some [])) := (Hf2.out.block D hDW (fun hs => by
   obtain ⟨cur, hb, _⟩ := Hrow2.out.blk hs
   have h' : W.heap[D]? = some (.cells cur 1 (0, 0)) := hb
   rw [HK.out] at h'
   cases h')).trans HK.out
  have hKZ : ((W2.drew.setCell ⟨X, 10, none⟩ (.slice bo n bcap)).setCell ⟨X, 11, none⟩ (.slice (some ⟨sb, 0, none⟩) r.length sc)).heap[D]? = some (.deferred (some [])) := (hfz2.block D (by have := Hf2.out.size; omega) (fun hs => by
   subst hs
   have h' : W2.heap[D]? = some (.cells _ 66 (0, 0)) := hblk2
   rw [hKW2] at h'
   cases h')).trans hKW2
  have hDl : w'.heap.size ≤ D := by have := hal.size; omega
  have HKZ := hd hKZ
  have Hfin : Hid (Ending.returned (.tuple #[]) = Ending.returned (.tuple #[]) ∧ ∃ ts bv sv, SameT s.ts ts ∧ ts.map Tab.t = p.2 ∧ p.1.length = 8 ∧
    WMem (((W2.drew.setCell ⟨X, 10, none⟩ (.slice bo n bcap)).setCell ⟨X, 11, none⟩ (.slice (some ⟨sb, 0, none⟩) r.length sc)).putObj D (.deferred none)) X zs { s with d := p.1, ts := ts, l := ⟨bv, sv, s.l.busy⟩, us := s.us.take n, sk := r } ∧ Fr (SFr X s.ts s.l.backs) w' (((W2.drew.setCell ⟨X, 10, none⟩ (.slice bo n bcap)).setCell ⟨X, 11, none⟩ (.slice (some ⟨sb, 0, none⟩) r.length sc)).putObj D (.deferred none)) ∧ bv.ownBlock = s.l.backs.ownBlock ∧ sv.ownBlock = s.l.starts.ownBlock) := by
   refine ⟨rfl, ts, .slice bo n bcap, .slice (some ⟨sb, 0, none⟩) r.length sc, H2.out, by rw [Hp.out], by rw [Hp.out]; exact h3, ?_, ?_, by rw [Hbk.out]; cases bo <;> rfl, by rw [Hst.out]; rfl⟩
   ·rw [Hp.out]
    exact hMZ.bk (Bk.put (.deferred none) hDl hKZ rfl)
   ·refine Fr.bk (lo := w'.heap.size) ?_ (Bk.put (.deferred none) hDl hKZ rfl) (Nat.le_refl _)
    refine ((H5.out.mono ?_).trans Hf2.out ?_).trans hfz2 ?_
    ·rintro k (rfl | hk | hk)
     ·exact .inl (.inl rfl)
     ·exact .inl (.inr (.inl hk))
     ·cases hk
    ·intro k hk
     exact .inl (.inr (.inr (by rw [Hbk.out]; exact hk)))
    ·rintro k rfl
     exact .inl (.inl rfl)
  clear hMZ hKZ hBZ hfz2 hoX hoB hKW2 hDW
  have Hblk2 := hd hblk2
  clear hblk2
  refine wpIn_wide.2 ?_
  refine wp_region_noPanic ?_
  refine wp_region_held (S := fun _ => True) (by kernel_rfl) ?_
  refine wpAnyH_take (i := 0) (v := .pointer (some ⟨X, 10, none⟩)) rfl (by kernel_rfl) (by kernel_rfl) (by kernel_rfl) (fun _ _ _ h => h) (.inl ⟨by kernel_rfl, fun w'' hS => by kernel_rfl⟩) trivial ?_
  refine wpAnyH_take (i := 1) (v := .pointer (some ⟨X, 10, none⟩)) rfl (by kernel_rfl) (by kernel_rfl) (by kernel_rfl) (fun _ _ _ h => h) (.inl ⟨by kernel_rfl, fun w'' hS => by kernel_rfl⟩) trivial ?_
  refine wpAnyH_take (i := 2) (v := .pointer (some ⟨X, 10, none⟩)) rfl (by kernel_rfl) (by kernel_rfl) (by kernel_rfl) (fun _ _ _ h => h) (.inl ⟨by kernel_rfl, fun w'' hS => by kernel_rfl⟩) trivial ?_
  refine wpAnyH_take (i := 3) (v := .pointer (some ⟨X, 10, none⟩)) rfl (by kernel_rfl) (by kernel_rfl) (by kernel_rfl) (fun _ _ _ h => h) (.inl ⟨by kernel_rfl, fun w'' hS => by kernel_rfl⟩) trivial ?_
  refine wpAnyH_take (i := 4) (v := .pointer (some ⟨X, 10, none⟩)) rfl (by kernel_rfl) (by kernel_rfl) (by kernel_rfl) (fun _ _ _ h => h) (.inl ⟨by kernel_rfl, fun w'' hS => by kernel_rfl⟩) trivial ?_
  refine wpAnyH_take (i := 6) (v := .int .i64 (n : Int)) rfl (by kernel_rfl) (by kernel_rfl) (by kernel_rfl) (fun _ _ _ h => h) (.inl ⟨by kernel_rfl, fun w'' hS => by kernel_rfl⟩) trivial ?_
  refine wpAnyH_take (i := 8) (v := .pointer (some ⟨X, 10, none⟩)) rfl (by kernel_rfl) (by kernel_rfl) (by kernel_rfl) (fun _ _ _ h => h) (.inl ⟨by kernel_rfl, fun w'' hS => by kernel_rfl⟩) trivial ?_
  refine wpAnyH_take (i := 9) (v := .pointer (some ⟨X, 10, none⟩)) rfl (by kernel_rfl) (by kernel_rfl) (by kernel_rfl) (fun _ _ _ h => h) (.inl ⟨by kernel_rfl, fun w'' hS => by kernel_rfl⟩) trivial ?_
  refine wpAnyH_take (i := 10) (v := .pointer (some ⟨X, 11, none⟩)) rfl (by kernel_rfl) (by kernel_rfl) (by kernel_rfl) (fun _ _ _ h => h) (.inl ⟨by kernel_rfl, fun w'' hS => by kernel_rfl⟩) trivial ?_
  refine wpAnyH_take (i := 12) (v := .int .i64 (r.length : Int)) rfl (by kernel_rfl) (by kernel_rfl) (by kernel_rfl) (fun _ _ _ h => h) (.inl ⟨by kernel_rfl, fun w'' hS => by kernel_rfl⟩) trivial ?_
  refine wpAnyH_all (rs := [5, 11]) (by kernel_rfl) (by simp) (fun i hi => ?_)
  rcases List.mem_cons.1 hi with rfl | hi
  ·refine op_value (v := .slice bo s.us.length bcap) (w' := W2.drew) rfl (by kernel_rfl) ?_ ⟨trivial, ?_⟩
   ·have hc : W2.drew.cell? ⟨X, 10, none⟩ = some (.slice bo s.us.length bcap) := hc10
    clear Hblk2 hcb2 hclr' hbv hsv hD hsl2 hmf hsub1 hne0 hc10 hc11 hfz hsF hsI
    simp only [Act.put, List.setIfInBounds_toArray, List.set_cons_zero, List.set_cons_succ, List.getElem_toArray, List.getElem_cons_zero, List.getElem_cons_succ]
    go_simp
   refine wpAnyH_take (i := 7) (v := .slice bo n bcap) rfl (by kernel_rfl) (by kernel_rfl) (by kernel_rfl) (fun _ _ _ h => h) (.inl ⟨by kernel_rfl, fun w'' hS => ?_⟩) trivial ?_
   ·have hh := hsF w''
    clear Hblk2 hcb2 hclr' hbv hsv hD hsl2 hmf hsub1 hne0 hc10 hc11 hfz hsF hsI
    simp only [Act.put, List.setIfInBounds_toArray, List.set_cons_zero, List.set_cons_succ, List.getElem_toArray, List.getElem_cons_zero, List.getElem_cons_succ]
    go_simp
   refine wpAnyH_all (rs := [11]) (by kernel_rfl) (by simp) (fun i hi => ?_)
   obtain rfl : i = 11 := by simpa using hi
   refine op_value (v := .slice (some ⟨sb, 0, none⟩) (r.length + 1) sc) (w' := W2.drew) rfl (by kernel_rfl) ?_ ⟨trivial, ?_⟩
   ·have hc : W2.drew.cell? ⟨X, 11, none⟩ = some (.slice (some ⟨sb, 0, none⟩) (r.length + 1) sc) := hc11
    clear Hblk2 hcb2 hclr' hbv hsv hD hsl2 hmf hsub1 hne0 hc10 hc11 hfz hsF hsI
    simp only [Act.put, List.setIfInBounds_toArray, List.set_cons_zero, List.set_cons_succ, List.getElem_toArray, List.getElem_cons_zero, List.getElem_cons_succ]
    go_simp
   refine wpAnyH_take (i := 13) (v := .slice (some ⟨sb, 0, none⟩) r.length sc) rfl (by kernel_rfl) (by kernel_rfl) (by kernel_rfl) (fun _ _ _ h => h) (.inl ⟨by kernel_rfl, fun w'' hS => ?_⟩) trivial ?_
   ·have hh := hsI w''
    clear Hblk2 hcb2 hclr' hbv hsv hD hsl2 hmf hsub1 hne0 hc10 hc11 hfz hsF hsI
    simp only [Act.put, List.setIfInBounds_toArray, List.set_cons_zero, List.set_cons_succ, List.getElem_toArray, List.getElem_cons_zero, List.getElem_cons_succ]
    go_simp
   refine wpAnyH_all (rs := [14]) (by kernel_rfl) (by simp) (fun i hi => ?_)
   obtain rfl : i = 14 := by simpa using hi
   refine op_value (v := .pointer (some ⟨X, 10, none⟩)) (w' := W2.drew) rfl (by kernel_rfl) (by kernel_rfl) ⟨trivial, ?_⟩
   refine wpAnyH_all (rs := [15]) (by kernel_rfl) (by simp) (fun i hi => ?_)
   obtain rfl : i = 15 := by simpa using hi
   refine op_value (v := .pointer (some ⟨X, 10, none⟩)) (w' := W2.drew) rfl (by kernel_rfl) (by kernel_rfl) ⟨trivial, ?_⟩
   refine wpAnyH_all (rs := [16]) (by kernel_rfl) (by simp) (fun i hi => ?_)
   obtain rfl : i = 16 := by simpa using hi
   refine op_skip (w' := (W2.drew.setCell ⟨X, 10, none⟩ (.slice bo n bcap))) rfl (by kernel_rfl) ?_ ⟨trivial, ?_⟩
   ·have hc : W2.drew.cell? ⟨X, 10, none⟩ = some (.slice bo s.us.length bcap) := hc10
    have hz : W2.drew.frozen? ⟨X, 10, none⟩ = false := hfz 10
    clear Hblk2 hcb2 hclr' hbv hsv hD hsl2 hmf hsub1 hne0 hc10 hc11 hfz hsF hsI
    simp only [Act.put, List.setIfInBounds_toArray, List.set_cons_zero, List.set_cons_succ, List.getElem_toArray, List.getElem_cons_zero, List.getElem_cons_succ]
    go_simp
   refine wpAnyH_all (rs := [17]) (by kernel_rfl) (by simp) (fun i hi => ?_)
   obtain rfl : i = 17 := by simpa using hi
   refine op_value (v := .pointer (some ⟨X, 10, none⟩)) (w' := (W2.drew.setCell ⟨X, 10, none⟩ (.slice bo n bcap))) rfl (by kernel_rfl) (by kernel_rfl) ⟨trivial, ?_⟩
   refine wpAnyH_all (rs := [18]) (by kernel_rfl) (by simp) (fun i hi => ?_)
   obtain rfl : i = 18 := by simpa using hi
   refine op_value (v := .pointer (some ⟨X, 11, none⟩)) (w' := (W2.drew.setCell ⟨X, 10, none⟩ (.slice bo n bcap))) rfl (by kernel_rfl) (by kernel_rfl) ⟨trivial, ?_⟩
   refine wpAnyH_all (rs := [19]) (by kernel_rfl) (by simp) (fun i hi => ?_)
   obtain rfl : i = 19 := by simpa using hi
   have hB1 : Blk (W2.drew.setCell ⟨X, 10, none⟩ (.slice bo n bcap)) X _ 66 := Hblk2.out.drew.set 10 (.slice bo n bcap)
   have hc19 : (W2.drew.setCell ⟨X, 10, none⟩ (.slice bo n bcap)).cell? ⟨X, 11, none⟩ = some (.slice (some ⟨sb, 0, none⟩) (r.length + 1) sc) := (hB1.cell 11).trans (by rw [workCells_setBacks _ _ _ _ h3]; exact (workCells_starts _ _ _ _ h3).trans (by rw [← Hst.out]))
   have hz19 := hB1.free 11
   have hz11 := hfz 11
   refine op_skip (w' := ((W2.drew.setCell ⟨X, 10, none⟩ (.slice bo n bcap)).setCell ⟨X, 11, none⟩ (.slice (some ⟨sb, 0, none⟩) r.length sc))) rfl (by kernel_rfl) ?_ ⟨trivial, wpAnyH_done (by kernel_rfl) ?_ _⟩
   ·clear Hblk2 hcb2 hclr' hbv hsv hD hsl2 hmf hsub1 hne0 hc10 hfz hsF hsI hB1 hc19 hz19
    simp only [Act.put, List.setIfInBounds_toArray, List.set_cons_zero, List.set_cons_succ, List.getElem_toArray, List.getElem_cons_zero, List.getElem_cons_succ]
    go_simp
   simp only [Act.put, List.setIfInBounds_toArray, List.set_cons_zero, List.set_cons_succ, List.getElem_toArray, List.getElem_cons_zero, List.getElem_cons_succ]
   exact NoPanic.normal ⟨by simp, .inl ⟨_, _, rfl, run_takeDeferred HKZ.out, ⟨_, results_none rfl _ _ _, Hfin.out⟩⟩⟩
  ·obtain rfl : i = 11 := by simpa using hi
   refine op_value (v := .slice (some ⟨sb, 0, none⟩) (r.length + 1) sc) (w' := W2.drew) rfl (by kernel_rfl) ?_ ⟨trivial, ?_⟩
   ·have hc : W2.drew.cell? ⟨X, 11, none⟩ = some (.slice (some ⟨sb, 0, none⟩) (r.length + 1) sc) := hc11
    clear Hblk2 hcb2 hclr' hbv hsv hD hsl2 hmf hsub1 hne0 hc10 hc11 hfz hsF hsI
    simp only [Act.put, List.setIfInBounds_toArray, List.set_cons_zero, List.set_cons_succ, List.getElem_toArray, List.getElem_cons_zero, List.getElem_cons_succ]
    go_simp
   refine wpAnyH_take (i := 13) (v := .slice (some ⟨sb, 0, none⟩) r.length sc) rfl (by kernel_rfl) (by kernel_rfl) (by kernel_rfl) (fun _ _ _ h => h) (.inl ⟨by kernel_rfl, fun w'' hS => ?_⟩) trivial ?_
   ·have hh := hsI w''
    clear Hblk2 hcb2 hclr' hbv hsv hD hsl2 hmf hsub1 hne0 hc10 hc11 hfz hsF hsI
    simp only [Act.put, List.setIfInBounds_toArray, List.set_cons_zero, List.set_cons_succ, List.getElem_toArray, List.getElem_cons_zero, List.getElem_cons_succ]
    go_simp
   refine wpAnyH_all (rs := [5]) (by kernel_rfl) (by simp) (fun i hi => ?_)
   obtain rfl : i = 5 := by simpa using hi
   refine op_value (v := .slice bo s.us.length bcap) (w' := W2.drew) rfl (by kernel_rfl) ?_ ⟨trivial, ?_⟩
   ·have hc : W2.drew.cell? ⟨X, 10, none⟩ = some (.slice bo s.us.length bcap) := hc10
    clear Hblk2 hcb2 hclr' hbv hsv hD hsl2 hmf hsub1 hne0 hc10 hc11 hfz hsF hsI
    simp only [Act.put, List.setIfInBounds_toArray, List.set_cons_zero, List.set_cons_succ, List.getElem_toArray, List.getElem_cons_zero, List.getElem_cons_succ]
    go_simp
   refine wpAnyH_take (i := 7) (v := .slice bo n bcap) rfl (by kernel_rfl) (by kernel_rfl) (by kernel_rfl) (fun _ _ _ h => h) (.inl ⟨by kernel_rfl, fun w'' hS => ?_⟩) trivial ?_
   ·have hh := hsF w''
    clear Hblk2 hcb2 hclr' hbv hsv hD hsl2 hmf hsub1 hne0 hc10 hc11 hfz hsF hsI
    simp only [Act.put, List.setIfInBounds_toArray, List.set_cons_zero, List.set_cons_succ, List.getElem_toArray, List.getElem_cons_zero, List.getElem_cons_succ]
    go_simp
   refine wpAnyH_all (rs := [14]) (by kernel_rfl) (by simp) (fun i hi => ?_)
   obtain rfl : i = 14 := by simpa using hi
   refine op_value (v := .pointer (some ⟨X, 10, none⟩)) (w' := W2.drew) rfl (by kernel_rfl) (by kernel_rfl) ⟨trivial, ?_⟩
   refine wpAnyH_all (rs := [15]) (by kernel_rfl) (by simp) (fun i hi => ?_)
   obtain rfl : i = 15 := by simpa using hi
   refine op_value (v := .pointer (some ⟨X, 10, none⟩)) (w' := W2.drew) rfl (by kernel_rfl) (by kernel_rfl) ⟨trivial, ?_⟩
   refine wpAnyH_all (rs := [16]) (by kernel_rfl) (by simp) (fun i hi => ?_)
   obtain rfl : i = 16 := by simpa using hi
   refine op_skip (w' := (W2.drew.setCell ⟨X, 10, none⟩ (.slice bo n bcap))) rfl (by kernel_rfl) ?_ ⟨trivial, ?_⟩
   ·have hc : W2.drew.cell? ⟨X, 10, none⟩ = some (.slice bo s.us.length bcap) := hc10
    have hz : W2.drew.frozen? ⟨X, 10, none⟩ = false := hfz 10
    clear Hblk2 hcb2 hclr' hbv hsv hD hsl2 hmf hsub1 hne0 hc10 hc11 hfz hsF hsI
    simp only [Act.put, List.setIfInBounds_toArray, List.set_cons_zero, List.set_cons_succ, List.getElem_toArray, List.getElem_cons_zero, List.getElem_cons_succ]
    go_simp
   refine wpAnyH_all (rs := [17]) (by kernel_rfl) (by simp) (fun i hi => ?_)
   obtain rfl : i = 17 := by simpa using hi
   refine op_value (v := .pointer (some ⟨X, 10, none⟩)) (w' := (W2.drew.setCell ⟨X, 10, none⟩ (.slice bo n bcap))) rfl (by kernel_rfl) (by kernel_rfl) ⟨trivial, ?_⟩
   refine wpAnyH_all (rs := [18]) (by kernel_rfl) (by simp) (fun i hi => ?_)
   obtain rfl : i = 18 := by simpa using hi
   refine op_value (v := .pointer (some ⟨X, 11, none⟩)) (w' := (W2.drew.setCell ⟨X, 10, none⟩ (.slice bo n bcap))) rfl (by kernel_rfl) (by kernel_rfl) ⟨trivial, ?_⟩
   refine wpAnyH_all (rs := [19]) (by kernel_rfl) (by simp) (fun i hi => ?_)
   obtain rfl : i = 19 := by simpa using hi
   have hB1 : Blk (W2.drew.setCell ⟨X, 10, none⟩ (.slice bo n bcap)) X _ 66 := Hblk2.out.drew.set 10 (.slice bo n bcap)
   have hc19 : (W2.drew.setCell ⟨X, 10, none⟩ (.slice bo n bcap)).cell? ⟨X, 11, none⟩ = some (.slice (some ⟨sb, 0, none⟩) (r.length + 1) sc) := (hB1.cell 11).trans (by rw [workCells_setBacks _ _ _ _ h3]; exact (workCells_starts _ _ _ _ h3).trans (by rw [← Hst.out]))
   have hz19 := hB1.free 11
   have hz11 := hfz 11
   refine op_skip (w' := ((W2.drew.setCell ⟨X, 10, none⟩ (.slice bo n bcap)).setCell ⟨X, 11, none⟩ (.slice (some ⟨sb, 0, none⟩) r.length sc))) rfl (by kernel_rfl) ?_ ⟨trivial, wpAnyH_done (by kernel_rfl) ?_ _⟩
   ·clear Hblk2 hcb2 hclr' hbv hsv hD hsl2 hmf hsub1 hne0 hc10 hfz hsF hsI hB1 hc19 hz19
    simp only [Act.put, List.setIfInBounds_toArray, List.set_cons_zero, List.set_cons_succ, List.getElem_toArray, List.getElem_cons_zero, List.getElem_cons_succ]
    go_simp
   simp only [Act.put, List.setIfInBounds_toArray, List.set_cons_zero, List.set_cons_succ, List.getElem_toArray, List.getElem_cons_zero, List.getElem_cons_succ]
   exact NoPanic.normal ⟨by simp, .inl ⟨_, _, rfl, run_takeDeferred HKZ.out, ⟨_, results_none rfl _ _ _, Hfin.out⟩⟩⟩
end Go.Proofs.YtkjfpdfkcfgfkaaGreat

namespace Go.Proofs.YtkjfpdfkcfgfkaaGreat
open Go.RowKit

set_option maxHeartbeats 1600000 in
set_option maxRecDepth 1000000 in
theorem wpush_no (X : Nat) (zs : List Int) (s : WS) (w : World) (h : WAt w X zs s) (hbz : s.l.busy = false) (h20 : s.sk.length = 20) :
  Calls Tryz.prog 61 #[.pointer (some ⟨X, 0, none⟩)] w fun e w' => e = .returned (.int .i64 2) ∧ w' = w := by
 have hd8 : s.d.length = 8 := h.good.dm.len
 obtain ⟨so', sc, hst⟩ := startsOf_form h.mem.tr
 rw [h20] at hst
 have hcb : w.cell? ⟨X, 12, none⟩ = some (.bool false) := (h.mem.blk.cell 12).trans ((workCells_busy _ _ _ _ hd8).trans (by rw [hbz]))
 have hcl : w.cell? ⟨X, 11, none⟩ = some (.slice so' 20 sc) := (h.mem.blk.cell 11).trans ((workCells_starts _ _ _ _ hd8).trans (by rw [hst]))
 clear h hst
 go_enter Tryz.func61, Tryz.ntmps61
 go_wp2_with (go_at_call 24; refine (level_any X so' 20 sc _ hcl).mono ?_; rintro e w' ⟨rfl, rfl⟩)
 go_ret
 exact ⟨rfl, rfl⟩
def WS.push (s : WS) (sv : Value) : WS := { s with l := ⟨s.l.backs, sv, s.l.busy⟩, sk := (s.us.length, s.d, s.ts.map Tab.t) :: s.sk }

set_option maxHeartbeats 1600000 in
set_option maxRecDepth 1000000 in
theorem wpush_yes (X : Nat) (zs : List Int) (s : WS) (w : World) (h : WAt w X zs s) (hbz : s.l.busy = false) (h20 : s.sk.length < 20) :
  Calls Tryz.prog 61 #[.pointer (some ⟨X, 0, none⟩)] w fun e w' => e = .returned (.int .i64 0) ∧ ∃ sv, WAt w' X zs (s.push sv) ∧ WStep w w' X s (s.push sv) := by
 have hd8 : s.d.length = 8 := h.good.dm.len
 obtain ⟨so', sc, hst⟩ := startsOf_form h.mem.tr
 obtain ⟨bo, bcap, hbk, _⟩ := h.mem.tr.backs.form
 rw [List.length_map] at hbk
 have hcb : w.cell? ⟨X, 12, none⟩ = some (.bool false) := (h.mem.blk.cell 12).trans ((workCells_busy _ _ _ _ hd8).trans (by rw [hbz]))
 have hcl : w.cell? ⟨X, 11, none⟩ = some (.slice so' s.sk.length sc) := (h.mem.blk.cell 11).trans ((workCells_starts _ _ _ _ hd8).trans (by rw [hst]))
 have hne : ((s.sk.length : Int) == 20) = false := by simp; omega
 have HH := hd h
 have Hbk := hd hbk
 clear h hst hbk
 go_enter Tryz.func61, Tryz.ntmps61
 go_wp2_with (first
  | (go_at_call 24; refine (level_any X so' s.sk.length sc _ hcl).mono ?_; rintro e w' ⟨rfl, rfl⟩)
  | (go_at_call 82; refine (push_any X s.szv s.d _ s.l bo s.us.length bcap (startsOf s.sk) _ HH.out.mem.blk hd8 Hbk.out HH.out.mem.tr.starts (by rw [startsOf_len]; omega)).mono ?_; rintro e w2 ⟨rfl, sv, hr, hf, hB, ho⟩))
 go_ret
 have o : Only w' (fun k => k = X ∨ s.l.starts.ownBlock = some k) [66, 3] := (Only.one HH.out.mem.blk).or (Only.row HH.out.mem.tr.starts)
 refine ⟨rfl, sv, ⟨⟨hB, ?_, HH.out.mem.zok, ?_, HH.out.mem.inj, HH.out.mem.t12, HH.out.mem.fits, HH.out.mem.tbok, ⟨?_, ?_⟩, ?_, ?_⟩, HH.out.good, HH.out.cnt, ?_, ?_⟩, ?_, ?_⟩
 ·refine HH.out.mem.sz.fr hf (fun k hk => ?_)
  rintro (rfl | h)
  ·exact HH.out.mem.sz.ne HH.out.mem.blk (by decide) hk
  ·exact (HH.out.mem.apart k h).1 hk
 ·refine ⟨HH.out.mem.tabs.row.frO hf o (by decide), fun i hi => (HH.out.mem.tabs.at_ i hi).fr hf ?_, HH.out.mem.tabs.four, HH.out.mem.tabs.ok⟩
  rintro k (hk | hk | hk) hs
  ·obtain ⟨cur, e, hb, he⟩ := (HH.out.mem.tabs.at_ i hi).tyG
   rw [← hk] at hb
   have := o k cur e hs hb
   rcases he with rfl | rfl <;> (revert this; decide)
  ·rcases hs with rfl | hs
   ·obtain ⟨cur, hb⟩ := (HH.out.mem.tabs.at_ i hi).tyg
    rw [← hk] at hb
    have := (hb.inj HH.out.mem.blk).2
    revert this
    decide
   ·exact (HH.out.mem.apart k hs).2 i hi hk.symm
  ·obtain ⟨cur, hb⟩ := (HH.out.mem.tabs.at_ i hi).tyn hk
   have := o k cur _ hs hb
   revert this
   decide
 ·show Row w2 sv 3 (startsOf ((s.us.length, s.d, s.ts.map Tab.t) :: s.sk))
  rw [startsOf_cons]
  exact hr
 ·exact HH.out.mem.tr.backs.frO hf o (by decide)
 ·exact fun u hu => (HH.out.mem.un u hu).frO hf o (by decide) (.inr (by decide))
 ·intro k hk
  rcases ho k hk with h | h
  ·exact HH.out.mem.apart k h
  ·refine ⟨fun h' => ?_, fun i hi h' => ?_⟩
   ·have := HH.out.mem.sz.lt h'
    omega
   ·have := (HH.out.mem.tabs.at_ i hi).lt (.inr (.inl rfl))
    have h2 : (s.ts.getD i tab0).g = k := h'
    omega
 ·refine ⟨Nat.le_refl _, ?_, HH.out.good, HH.out.cnt, ?_⟩
  ·show (s.us.drop s.us.length).foldr _ _ = _
   rw [List.drop_length]
   rfl
  ·show StackOk zs s.bs (s.us.take s.us.length) _ _
   rw [List.take_length]
   exact HH.out.sk
 ·show s.sk.length + 1 ≤ 20
  omega
 ·exact hf.mono (fun k hk => .inl (hk.elim .inl (fun h => .inr (.inr (.inr (.inr (.inr (.inl h))))))))
 ·rintro k (rfl | hk' | hk' | hk' | hk' | hk' | hk')
  ·exact .inl (.inl rfl)
  ·exact .inl (.inr (.inl hk'))
  ·exact .inl (.inr (.inr (.inl hk')))
  ·exact .inl (.inr (.inr (.inr (.inl hk'))))
  ·exact .inl (.inr (.inr (.inr (.inr (.inl hk')))))
  ·exact (ho k hk').imp (fun h => .inr (.inr (.inr (.inr (.inr (.inl h)))))) id
  ·exact .inl (.inr (.inr (.inr (.inr (.inr (.inr hk'))))))

set_option maxHeartbeats 1600000 in
set_option maxRecDepth 1000000 in
theorem wpop_no (X : Nat) (zs : List Int) (s : WS) (w : World) (h : WAt w X zs s) (hbz : s.l.busy = false) (h0 : s.sk = []) :
  Calls Tryz.prog 62 #[.pointer (some ⟨X, 0, none⟩)] w fun e w' => e = .returned (.int .i64 4) ∧ w' = w := by
 have hd8 : s.d.length = 8 := h.good.dm.len
 obtain ⟨so', sc, hst⟩ := startsOf_form h.mem.tr
 rw [h0] at hst
 have hst2 : s.l.starts = .slice so' 0 sc := hst
 have hcb : w.cell? ⟨X, 12, none⟩ = some (.bool false) := (h.mem.blk.cell 12).trans ((workCells_busy _ _ _ _ hd8).trans (by rw [hbz]))
 have hcl : w.cell? ⟨X, 11, none⟩ = some (.slice so' 0 sc) := (h.mem.blk.cell 11).trans ((workCells_starts _ _ _ _ hd8).trans (by rw [hst2]))
 clear h hst hst2
 go_enter Tryz.func62, Tryz.ntmps62
 go_wp2_with (go_at_call 24; refine (level_any X so' 0 sc _ hcl).mono ?_; rintro e w' ⟨rfl, rfl⟩)
 go_ret
 exact ⟨rfl, rfl⟩
def WS.pop (s : WS) (n : Nat) (d : List Nat) (r : List (Nat × List Nat × List TS)) (ts : List Tab) (bv sv : Value) : WS := { s with d := d, ts := ts, l := ⟨bv, sv, s.l.busy⟩, us := s.us.take n, sk := r }

set_option maxHeartbeats 1600000 in
set_option maxRecDepth 1000000 in
theorem wpop_yes (X : Nat) (zs : List Int) (s : WS) (n : Nat) (p : List Nat × List TS) (r : List (Nat × List Nat × List TS)) (w : World) (h : WAt w X zs s) (hbz : s.l.busy = false) (hsk : s.sk = (n, p) :: r) :
  Calls Tryz.prog 62 #[.pointer (some ⟨X, 0, none⟩)] w fun e w' => e = .returned (.int .i64 0) ∧ ∃ ts bv sv, SameT s.ts ts ∧ ts.map Tab.t = p.2 ∧ WAt w' X zs (s.pop n p.1 r ts bv sv) ∧ WStep w w' X s (s.pop n p.1 r ts bv sv) := by
 have hd8 : s.d.length = 8 := h.good.dm.len
 obtain ⟨so', sc, hst⟩ := startsOf_form h.mem.tr
 rw [hsk, List.length_cons] at hst
 have hcb : w.cell? ⟨X, 12, none⟩ = some (.bool false) := (h.mem.blk.cell 12).trans ((workCells_busy _ _ _ _ hd8).trans (by rw [hbz]))
 have hcl : w.cell? ⟨X, 11, none⟩ = some (.slice so' (r.length + 1) sc) := (h.mem.blk.cell 11).trans ((workCells_starts _ _ _ _ hd8).trans (by rw [hst]))
 have hne : (((r.length + 1 : Nat) : Int) == 0) = false := by simp; omega
 have hsko := h.sk
 rw [hsk] at hsko
 obtain ⟨hn, he, hg, hc, hr⟩ := hsko
 have hl := h.lev
 rw [hsk, List.length_cons] at hl
 have hcn := h.cnt
 have HH := hd h
 have He := hd he
 have Hg := hd hg
 have Hr := hd hr
 have Hsk := hd hsk
 clear h hst he hg hr hsk
 go_enter Tryz.func62, Tryz.ntmps62
 go_wp2_with (first
  | (go_at_call 24; refine (level_any X so' (r.length + 1) sc _ hcl).mono ?_; rintro e w' ⟨rfl, rfl⟩)
  | (go_at_call 83; refine (tpop_any X zs s n p r _ HH.out.mem hd8 (by omega) (by omega) Hsk.out hn He.out).mono ?_; rintro e w2 ⟨rfl, ts, bv, sv, h1, h2, h3, h4, h5, h6, h7⟩))
 go_ret
 refine ⟨rfl, ts, bv, sv, h1, h2, ⟨h4, ?_, ?_, ?_, ?_⟩, ?_, ?_⟩
 ·show Good zs s.bs p.1 (ts.map Tab.t)
  rw [h2]
  exact Hg.out
 ·show (s.us.take n).length + 900 * bitsOf p.1 ≤ 57600
  rw [List.length_take, Nat.min_eq_left hn]
  exact hc
 ·show StackOk zs s.bs (s.us.take n) (p.1, ts.map Tab.t) r
  rw [h2]
  exact Hr.out
 ·show r.length ≤ 20
  omega
 ·refine h5.mono ?_
  rintro i (rfl | ⟨j, hj, rfl⟩ | hi)
  ·exact .inl (.inl rfl)
  ·exact .inl (.inr (.inr (.inr (.inl ⟨j, hj, .inl rfl⟩))))
  ·exact .inl (.inr (.inr (.inr (.inr (.inl hi)))))
 ·rintro k (rfl | hk' | hk' | ⟨i, hi, hk'⟩ | hk' | hk' | ⟨u, hu, hk'⟩)
  ·exact .inl (.inl rfl)
  ·exact .inl (.inr (.inl hk'))
  ·refine .inl (.inr (.inr (.inl ?_)))
   have hk2 : (Value.slice s.so ts.length s.tcap).ownBlock = some k := hk'
   rw [h1.len] at hk2
   exact hk2
  ·have hi' : i < s.ts.length := by rw [← h1.len]; exact hi
   have hk2 : k = (ts.getD i tab0).G ∨ k = (ts.getD i tab0).g := hk'
   rw [(h1.at_ i hi').1, (h1.at_ i hi').2.1] at hk2
   exact .inl (.inr (.inr (.inr (.inl ⟨i, hi', hk2⟩))))
  ·exact .inl (.inr (.inr (.inr (.inr (.inl (h6 ▸ hk'))))))
  ·exact .inl (.inr (.inr (.inr (.inr (.inr (.inl (h7 ▸ hk')))))))
  ·exact .inl (.inr (.inr (.inr (.inr (.inr (.inr ⟨u, List.mem_of_mem_take hu, hk'⟩))))))
end Go.Proofs.YtkjfpdfkcfgfkaaGreat

namespace Go.Proofs.YtkjfpdfkcfgfkaaGreat
open Go.RowKit

def leftTo (d : List Nat) (k : Nat) : Nat := ((List.range k).map (fun q => pop (d.getD q 0))).foldl (· + ·) 0
def fixTo (d : List Nat) (k : Nat) : Nat := ((List.range k).filter (fun q => pop (d.getD q 0) == 1)).length
theorem leftTo_succ (d : List Nat) (k : Nat) : leftTo d (k + 1) = leftTo d k + pop (d.getD k 0) := by simp [leftTo, List.range_succ]
theorem fixTo_succ (d : List Nat) (k : Nat) : fixTo d (k + 1) = fixTo d k + if pop (d.getD k 0) = 1 then 1 else 0 := by
 simp only [fixTo, List.range_succ, List.filter_append, List.length_append]
 by_cases h : pop (d.getD k 0) = 1
 ·rw [if_pos h, List.filter_cons_of_pos (by simpa using h)]
  simp
 ·rw [if_neg h, List.filter_cons_of_neg (by simpa using h)]
  simp
theorem pop_le8 (s : Nat) : pop s ≤ 8 := by unfold pop; exact Nat.le_trans (List.length_filter_le _ _) (by simp)
theorem leftTo_le (d : List Nat) : ∀ k, leftTo d k ≤ 8 * k
 | 0 => by simp [leftTo]
 | k + 1 => by
  rw [leftTo_succ]
  have := leftTo_le d k
  have := pop_le8 (d.getD k 0)
  omega
theorem fixTo_le (d : List Nat) (k : Nat) : fixTo d k ≤ k := by
 unfold fixTo
 have := List.length_filter_le (fun q => pop (d.getD q 0) == 1) (List.range k)
 simpa using this
theorem leftTo_bits (d : List Nat) : leftTo d 8 = bitsOf d := rfl
theorem index8 (d : List Nat) (h8 : d.length = 8) (k : Nat) (hk : k < 8) (W : World) : (Instr.index 60 (.agg (domV d)) (.int .i64 (k : Int))).run Tryz.prog W = .ok (.int .u8 ((d.getD k 0 : Nat) : Int)) W := by
 obtain ⟨d0, d1, d2, d3, d4, d5, d6, d7, rfl⟩ := list8 h8
 have hc : k = 0 ∨ k = 1 ∨ k = 2 ∨ k = 3 ∨ k = 4 ∨ k = 5 ∨ k = 6 ∨ k = 7 := by omega
 rcases hc with rfl | rfl | rfl | rfl | rfl | rfl | rfl | rfl <;> (show (Instr.index _ _ _).run Tryz.prog W = _; kernel_rfl)
def lookV (zs : List Int) (s : WS) : Array Value := #[.int .i64 (zs.length : Int), .int .i64 (s.ts.length : Int), .int .i64 (s.sk.length : Int), .bool (s.d.getD 0 0 == 0), .int .i64 (leftTo s.d 8 : Int), .int .i64 (fixTo s.d 8 : Int)]
def lookZ : Array Value := #[.int .i64 0, .int .i64 0, .int .i64 0, .bool false, .int .i64 0, .int .i64 0]

set_option maxHeartbeats 1600000 in
set_option maxRecDepth 1000000 in
theorem look_any (X : Nat) (zs : List Int) (s : WS) (w : World) (h : WAt w X zs s) (hbz : s.l.busy = false) :
  Calls Tryz.prog 59 #[.pointer (some ⟨X, 0, none⟩)] w fun e w' => e = .returned (.agg (lookV zs s)) ∧ Nw w w' := by
 obtain ⟨hz0, hzl⟩ := okSizes_len h.mem.zok
 have hd8 : s.d.length = 8 := h.good.dm.len
 obtain ⟨v0, v1, v2, v3, v4, v5, v6, v7, hdv⟩ := domV8 hd8
 obtain ⟨⟨x0, rfl⟩, ⟨x1, rfl⟩, ⟨x2, rfl⟩, ⟨x3, rfl⟩, ⟨x4, rfl⟩, ⟨x5, rfl⟩, ⟨x6, rfl⟩, ⟨x7, rfl⟩⟩ := domV_one s.d hdv
 obtain ⟨so', sc, hst⟩ := startsOf_form h.mem.tr
 obtain ⟨sa, scap, hszv, _⟩ := h.mem.sz.form
 simp only [List.length_map] at hszv
 obtain ⟨W, hW⟩ : ∃ W, W = w.alloc (.cells lookZ 110) := ⟨_, rfl⟩
 have hfW : Nw w W := by rw [hW]; exact (Fr.refl _ w).alloc _
 have hbR : Blk W w.heap.size lookZ 110 := by rw [hW]; exact Blk.new _ _ _
 have hM := h.mem.nw hfW
 have hcb : W.cell? ⟨X, 12, none⟩ = some (.bool false) := (hM.blk.cell 12).trans ((workCells_busy _ _ _ _ hd8).trans (by rw [hbz]))
 have hXlt := h.mem.blk.lt
 have HM := hd hM
 have HH := hd h
 have Hdv := hd hdv
 have Hst := hd hst
 have Hszv := hd hszv
 have HW := hd hW
 have HfW := hd hfW
 have HbR := hd hbR
 clear h hdv hst hszv hW hfW hbR hM
 obtain ⟨dead, hdead⟩ : ∃ b, (s.d.getD 0 0 == 0) = b := ⟨_, rfl⟩
 have Hdead := hd hdead
 clear hdead
 go_enter Tryz.func59, Tryz.ntmps59
 go_upto_region 1 with fail
 rw [show w.alloc (Obj.cells #[Value.int .i64 0, .int .i64 0, .int .i64 0, .bool false, .int .i64 0, .int .i64 0] 110) = W from HW.out.symm]
 go_upto_region 3 with fail
 go_cut [3] (fun p wx => ∃ L, p = .pointer (some ⟨L, 0, none⟩) ∧ Hid (Blk wx L #[.int .i64 (zs.length : Int), .int .i64 (s.ts.length : Int), .int .i64 (s.sk.length : Int), .bool dead, .int .i64 0, .int .i64 0] 110) ∧ Hid (Nw W wx) ∧ w.heap.size < L)
 case first =>
  have HMd : Hid (WMem W.drew X zs s) := HM.out.nw ((Fr.refl _ W).drew)
  have hK0 : WMem W.drew X zs s := HMd.out
  refine wp_region_held (S := fun w' => WMem w' X zs s) (by kernel_rfl) ?_
  refine wpAnyH_take (i := 0) (v := .pointer (some ⟨X, 0, none⟩)) rfl (by kernel_rfl) (by kernel_rfl) (by kernel_rfl) (fun _ _ _ h => h) (.inl ⟨by kernel_rfl, fun w'' hS => by kernel_rfl⟩) hK0 ?_
  refine wpAnyH_take (i := 1) (v := .pointer (some ⟨X, 0, none⟩)) rfl (by kernel_rfl) (by kernel_rfl) (by kernel_rfl) (fun _ _ _ h => h) (.inl ⟨by kernel_rfl, fun w'' hS => by kernel_rfl⟩) hK0 ?_
  refine wpAnyH_take (i := 2) (v := .pointer (some ⟨X, 0, none⟩)) rfl (by kernel_rfl) (by kernel_rfl) (by kernel_rfl) (fun _ _ _ h => h) (.inl ⟨by kernel_rfl, fun w'' hS => by kernel_rfl⟩) hK0 ?_
  refine wpAnyH_take (i := 3) (v := .slice sa zs.length scap) rfl (by kernel_rfl) (by kernel_rfl) (by kernel_rfl) (fun _ _ _ h => h) (.inl ⟨by kernel_rfl, fun w'' hS => ?_⟩) hK0 ?_
  ·have hc : w''.cell? ⟨X, 0, none⟩ = some (.slice sa zs.length scap) := (hS.blk.cell 0).trans ((workCells_sz ..).trans (by rw [Hszv.out]))
   clear hS hK0 hcb
   simp only [Act.put, List.setIfInBounds_toArray, List.set_cons_zero, List.set_cons_succ, List.getElem_toArray, List.getElem_cons_zero, List.getElem_cons_succ]
   go_simp
  refine wpAnyH_take (i := 4) (v := .int .i64 (zs.length : Int)) rfl (by kernel_rfl) (by kernel_rfl) (by kernel_rfl) (fun _ _ _ h => h) (.inl ⟨by kernel_rfl, fun w'' hS => ?_⟩) hK0 ?_
  ·skip
   clear hS hK0 hcb
   simp only [Act.put, List.setIfInBounds_toArray, List.set_cons_zero, List.set_cons_succ, List.getElem_toArray, List.getElem_cons_zero, List.getElem_cons_succ]
   go_simp
  refine wpAnyH_take (i := 5) (v := .pointer (some ⟨X, 0, none⟩)) rfl (by kernel_rfl) (by kernel_rfl) (by kernel_rfl) (fun _ _ _ h => h) (.inl ⟨by kernel_rfl, fun w'' hS => by kernel_rfl⟩) hK0 ?_
  refine wpAnyH_take (i := 6) (v := .pointer (some ⟨X, 0, none⟩)) rfl (by kernel_rfl) (by kernel_rfl) (by kernel_rfl) (fun _ _ _ h => h) (.inl ⟨by kernel_rfl, fun w'' hS => by kernel_rfl⟩) hK0 ?_
  refine wpAnyH_take (i := 7) (v := .pointer (some ⟨X, 9, none⟩)) rfl (by kernel_rfl) (by kernel_rfl) (by kernel_rfl) (fun _ _ _ h => h) (.inl ⟨by kernel_rfl, fun w'' hS => by kernel_rfl⟩) hK0 ?_
  refine wpAnyH_take (i := 8) (v := .slice s.so s.ts.length s.tcap) rfl (by kernel_rfl) (by kernel_rfl) (by kernel_rfl) (fun _ _ _ h => h) (.inl ⟨by kernel_rfl, fun w'' hS => ?_⟩) hK0 ?_
  ·have hc : w''.cell? ⟨X, 9, none⟩ = some (.slice s.so s.ts.length s.tcap) := (hS.blk.cell 9).trans (workCells_tabs _ _ _ _ hd8)
   clear hS hK0 hcb
   simp only [Act.put, List.setIfInBounds_toArray, List.set_cons_zero, List.set_cons_succ, List.getElem_toArray, List.getElem_cons_zero, List.getElem_cons_succ]
   go_simp
  refine wpAnyH_take (i := 9) (v := .int .i64 (s.ts.length : Int)) rfl (by kernel_rfl) (by kernel_rfl) (by kernel_rfl) (fun _ _ _ h => h) (.inl ⟨by kernel_rfl, fun w'' hS => ?_⟩) hK0 ?_
  ·skip
   clear hS hK0 hcb
   simp only [Act.put, List.setIfInBounds_toArray, List.set_cons_zero, List.set_cons_succ, List.getElem_toArray, List.getElem_cons_zero, List.getElem_cons_succ]
   go_simp
  refine wpAnyH_take (i := 10) (v := .pointer (some ⟨X, 0, none⟩)) rfl (by kernel_rfl) (by kernel_rfl) (by kernel_rfl) (fun _ _ _ h => h) (.inl ⟨by kernel_rfl, fun w'' hS => by kernel_rfl⟩) hK0 ?_
  refine wpAnyH_take (i := 11) (v := .pointer (some ⟨X, 0, none⟩)) rfl (by kernel_rfl) (by kernel_rfl) (by kernel_rfl) (fun _ _ _ h => h) (.inl ⟨by kernel_rfl, fun w'' hS => by kernel_rfl⟩) hK0 ?_
  refine wpAnyH_take (i := 12) (v := .pointer (some ⟨X, 10, none⟩)) rfl (by kernel_rfl) (by kernel_rfl) (by kernel_rfl) (fun _ _ _ h => h) (.inl ⟨by kernel_rfl, fun w'' hS => by kernel_rfl⟩) hK0 ?_
  refine wpAnyH_take (i := 14) (v := .pointer (some ⟨X, 0, none⟩)) rfl (by kernel_rfl) (by kernel_rfl) (by kernel_rfl) (fun _ _ _ h => h) (.inl ⟨by kernel_rfl, fun w'' hS => by kernel_rfl⟩) hK0 ?_
  obtain ⟨Y, hY⟩ : ∃ Y, Y = W.drew.alloc (.cells lookZ 110) := ⟨_, rfl⟩
  have hfY : Nw W Y := by rw [hY]; exact ((Fr.refl _ W).drew).alloc _
  have hZ : Blk Y W.heap.size lookZ 110 := by rw [hY]; exact Blk.new _ _ _
  have HY := hd hY
  have HMY := hd (HM.out.nw hfY)
  have hF8 : Nw W ((((((Y.setCell ⟨W.heap.size, 0, none⟩ (.int .i64 (zs.length : Int))).setCell ⟨W.heap.size, 1, none⟩ (.int .i64 (s.ts.length : Int))).setCell ⟨W.heap.size, 2, none⟩ (.int .i64 (s.sk.length : Int))).setCell ⟨W.heap.size, 3, none⟩ (.bool dead)).setCell ⟨W.heap.size, 4, none⟩ (.int .i64 0)).setCell ⟨W.heap.size, 5, none⟩ (.int .i64 0)) := (((((hfY.setCell _ _ (.inr (Nat.le_refl _))).setCell _ _ (.inr (Nat.le_refl _))).setCell _ _ (.inr (Nat.le_refl _))).setCell _ _ (.inr (Nat.le_refl _))).setCell _ _ (.inr (Nat.le_refl _))).setCell _ _ (.inr (Nat.le_refl _))
  have HF8 := hd hF8
  have HM8 := hd (HM.out.nw hF8)
  have HB8 : Hid (Blk ((((((Y.setCell ⟨W.heap.size, 0, none⟩ (.int .i64 (zs.length : Int))).setCell ⟨W.heap.size, 1, none⟩ (.int .i64 (s.ts.length : Int))).setCell ⟨W.heap.size, 2, none⟩ (.int .i64 (s.sk.length : Int))).setCell ⟨W.heap.size, 3, none⟩ (.bool dead)).setCell ⟨W.heap.size, 4, none⟩ (.int .i64 0)).setCell ⟨W.heap.size, 5, none⟩ (.int .i64 0)) W.heap.size #[.int .i64 (zs.length : Int), .int .i64 (s.ts.length : Int), .int .i64 (s.sk.length : Int), .bool dead, .int .i64 0, .int .i64 0] 110) := (((((hZ.set 0 _).set 1 _).set 2 _).set 3 _).set 4 _).set 5 _
  have q0 : Y.cell? ⟨W.heap.size, 0, none⟩ = some (.int .i64 0) := hZ.cell 0
  have q1 : Y.cell? ⟨W.heap.size, 1, none⟩ = some (.int .i64 0) := hZ.cell 1
  have q2 : Y.cell? ⟨W.heap.size, 2, none⟩ = some (.int .i64 0) := hZ.cell 2
  have q3 : Y.cell? ⟨W.heap.size, 3, none⟩ = some (.bool false) := hZ.cell 3
  have q4 : Y.cell? ⟨W.heap.size, 4, none⟩ = some (.int .i64 0) := hZ.cell 4
  have q5 : Y.cell? ⟨W.heap.size, 5, none⟩ = some (.int .i64 0) := hZ.cell 5
  have hfz := hZ.free
  clear hY hfY hZ hF8
  refine wpAnyH_all (rs := [13, 17]) (by kernel_rfl) (by simp) (fun i hi => ?_)
  rcases List.mem_cons.1 hi with rfl | hi
  ·refine op_enter (f := 24) (args := #[.pointer (some ⟨X, 10, none⟩)]) (w' := W.drew) rfl (by kernel_rfl) (by kernel_rfl) ?_
   refine (level_any X so' s.sk.length sc _ ((HMd.out.blk.cell 11).trans ((workCells_starts _ _ _ _ hd8).trans (by rw [Hst.out])))).mono ?_
   rintro e w' ⟨rfl, rfl⟩
   refine ⟨_, rfl, HMd.out, ?_⟩
   refine wpAnyH_all (rs := [15, 17]) (by kernel_rfl) (by simp) (fun i hi => ?_)
   rcases List.mem_cons.1 hi with rfl | hi
   ·refine op_enter (f := 25) (args := #[.pointer (some ⟨X, 0, none⟩)]) (w' := W.drew) rfl (by kernel_rfl) (by kernel_rfl) ?_
    refine (dead_any X _ s.d _ s.l _ HMd.out.blk hd8).mono ?_
    rw [Hdead.out]
    rintro e w' ⟨rfl, rfl⟩
    refine ⟨_, rfl, HMd.out, ?_⟩
    refine wpAnyH_take (i := 16) (v := .agg #[.int .i64 (zs.length : Int), .int .i64 (s.ts.length : Int), .int .i64 (s.sk.length : Int), .bool dead, .int .i64 0, .int .i64 0]) rfl (by kernel_rfl) (by kernel_rfl) (by kernel_rfl) (fun _ _ _ h => h) (.inl ⟨by kernel_rfl, fun w'' hS => by kernel_rfl⟩) HMd.out ?_
    refine wpAnyH_all (rs := [17]) (by kernel_rfl) (by simp) (fun i hi => ?_)
    obtain rfl : i = 17 := by simpa using hi
    refine op_value (v := .pointer (some ⟨W.heap.size, 0, none⟩)) (w' := Y) rfl (by kernel_rfl) ?_ ⟨HMY.out, ?_⟩
    ·rw [HY.out]
     kernel_rfl
    refine wpAnyH_all (rs := [18]) (by kernel_rfl) (by simp) (fun i hi => ?_)
    obtain rfl : i = 18 := by simpa using hi
    refine op_skip (w' := _) rfl (by kernel_rfl) ?_ ⟨HM8.out, wpAnyH_done (by kernel_rfl) ?_ _⟩
    ·clear hK0 hcb
     simp only [Act.put, List.setIfInBounds_toArray, List.set_cons_zero, List.set_cons_succ, List.getElem_toArray, List.getElem_cons_zero, List.getElem_cons_succ]
     go_simp
    simp only [Act.put, List.setIfInBounds_toArray, List.set_cons_zero, List.set_cons_succ, List.getElem_toArray, List.getElem_cons_zero, List.getElem_cons_succ]
    go_wp2_with fail
    go_meet
    case rel => exact ⟨W.heap.size, rfl, HB8.out, HF8.out, by have := HbR.out.lt; omega⟩
   ·obtain rfl : i = 17 := by simpa using hi
    refine op_value (v := .pointer (some ⟨W.heap.size, 0, none⟩)) (w' := Y) rfl (by kernel_rfl) ?_ ⟨HMY.out, ?_⟩
    ·rw [HY.out]
     kernel_rfl
    refine wpAnyH_all (rs := [15]) (by kernel_rfl) (by simp) (fun i hi => ?_)
    obtain rfl : i = 15 := by simpa using hi
    refine op_enter (f := 25) (args := #[.pointer (some ⟨X, 0, none⟩)]) (w' := Y) rfl (by kernel_rfl) (by kernel_rfl) ?_
    refine (dead_any X _ s.d _ s.l _ HMY.out.blk hd8).mono ?_
    rw [Hdead.out]
    rintro e w' ⟨rfl, hw'⟩
    rw [hw']
    refine ⟨_, rfl, HMY.out, ?_⟩
    refine wpAnyH_take (i := 16) (v := .agg #[.int .i64 (zs.length : Int), .int .i64 (s.ts.length : Int), .int .i64 (s.sk.length : Int), .bool dead, .int .i64 0, .int .i64 0]) rfl (by kernel_rfl) (by kernel_rfl) (by kernel_rfl) (fun _ _ _ h => h) (.inl ⟨by kernel_rfl, fun w'' hS => by kernel_rfl⟩) HMY.out ?_
    refine wpAnyH_all (rs := [18]) (by kernel_rfl) (by simp) (fun i hi => ?_)
    obtain rfl : i = 18 := by simpa using hi
    refine op_skip (w' := _) rfl (by kernel_rfl) ?_ ⟨HM8.out, wpAnyH_done (by kernel_rfl) ?_ _⟩
    ·clear hK0 hcb
     simp only [Act.put, List.setIfInBounds_toArray, List.set_cons_zero, List.set_cons_succ, List.getElem_toArray, List.getElem_cons_zero, List.getElem_cons_succ]
     go_simp
    simp only [Act.put, List.setIfInBounds_toArray, List.set_cons_zero, List.set_cons_succ, List.getElem_toArray, List.getElem_cons_zero, List.getElem_cons_succ]
    go_wp2_with fail
    go_meet
    case rel => exact ⟨W.heap.size, rfl, HB8.out, HF8.out, by have := HbR.out.lt; omega⟩
  ·obtain rfl : i = 17 := by simpa using hi
   refine op_value (v := .pointer (some ⟨W.heap.size, 0, none⟩)) (w' := Y) rfl (by kernel_rfl) ?_ ⟨HMY.out, ?_⟩
   ·rw [HY.out]
    kernel_rfl
   refine wpAnyH_all (rs := [13]) (by kernel_rfl) (by simp) (fun i hi => ?_)
   obtain rfl : i = 13 := by simpa using hi
   refine op_enter (f := 24) (args := #[.pointer (some ⟨X, 10, none⟩)]) (w' := Y) rfl (by kernel_rfl) (by kernel_rfl) ?_
   refine (level_any X so' s.sk.length sc _ ((HMY.out.blk.cell 11).trans ((workCells_starts _ _ _ _ hd8).trans (by rw [Hst.out])))).mono ?_
   rintro e w' ⟨rfl, hw'⟩
   rw [hw']
   refine ⟨_, rfl, HMY.out, ?_⟩
   refine wpAnyH_all (rs := [15]) (by kernel_rfl) (by simp) (fun i hi => ?_)
   obtain rfl : i = 15 := by simpa using hi
   refine op_enter (f := 25) (args := #[.pointer (some ⟨X, 0, none⟩)]) (w' := Y) rfl (by kernel_rfl) (by kernel_rfl) ?_
   refine (dead_any X _ s.d _ s.l _ HMY.out.blk hd8).mono ?_
   rw [Hdead.out]
   rintro e w' ⟨rfl, hw'⟩
   rw [hw']
   refine ⟨_, rfl, HMY.out, ?_⟩
   refine wpAnyH_take (i := 16) (v := .agg #[.int .i64 (zs.length : Int), .int .i64 (s.ts.length : Int), .int .i64 (s.sk.length : Int), .bool dead, .int .i64 0, .int .i64 0]) rfl (by kernel_rfl) (by kernel_rfl) (by kernel_rfl) (fun _ _ _ h => h) (.inl ⟨by kernel_rfl, fun w'' hS => by kernel_rfl⟩) HMY.out ?_
   refine wpAnyH_all (rs := [18]) (by kernel_rfl) (by simp) (fun i hi => ?_)
   obtain rfl : i = 18 := by simpa using hi
   refine op_skip (w' := _) rfl (by kernel_rfl) ?_ ⟨HM8.out, wpAnyH_done (by kernel_rfl) ?_ _⟩
   ·clear hK0 hcb
    simp only [Act.put, List.setIfInBounds_toArray, List.set_cons_zero, List.set_cons_succ, List.getElem_toArray, List.getElem_cons_zero, List.getElem_cons_succ]
    go_simp
   simp only [Act.put, List.setIfInBounds_toArray, List.set_cons_zero, List.set_cons_succ, List.getElem_toArray, List.getElem_cons_zero, List.getElem_cons_succ]
   go_wp2_with fail
   go_meet
   case rel => exact ⟨W.heap.size, rfl, HB8.out, HF8.out, by have := HbR.out.lt; omega⟩
 case rest =>
  obtain ⟨L, rfl, HB, HF, hL⟩ := hcut
  have hMc := HM.out.nw HF.out
  obtain ⟨c0, c1, c2, c3, c4, c5, c6, c7⟩ := work8 hMc.blk Hdv.out
  have HMc := hd hMc
  have HRc := hd (HbR.out.nw HF.out)
  clear hMc hcb
  go_wp2_with fail
  rw [← Hdv.out]
  have hL0 : w.heap.size ≠ L := by omega
  clear c0 c1 c2 c3 c4 c5 c6 c7
  go_loopw [32] (fun i wr => ∃ k : Nat, k ≤ 8 ∧ i = .int .i64 k ∧ Hid (Blk wr L #[.int .i64 (zs.length : Int), .int .i64 (s.ts.length : Int), .int .i64 (s.sk.length : Int), .bool dead, .int .i64 (leftTo s.d k : Int), .int .i64 (fixTo s.d k : Int)] 110) ∧ Hid (Fr (fun k => k = L) wc wr)) (fun i _ => 8 - (intOf i).toNat)
  case atStart => exact ⟨0, by omega, rfl, HB.out, Fr.refl _ _⟩
  case round =>
   obtain ⟨k, hk, rfl, HBk, HFk⟩ := hrel
   by_cases hk8 : k < 8
   ·have hx64 := HH.out.good.dm.lt k
    have hget := fun W => index8 s.d hd8 k hk8 W
    have hl1 := leftTo_le s.d k
    have hl2 := fixTo_le s.d k
    have hls := leftTo_succ s.d k
    have hfs := fixTo_succ s.d k
    have hp8 := pop_le8 (s.d.getD k 0)
    obtain ⟨x, hx⟩ : ∃ x, s.d.getD k 0 = x := ⟨_, rfl⟩
    rw [hx] at hx64 hget hls hfs hp8
    obtain ⟨lf, hlf⟩ : ∃ lf, leftTo s.d k = lf := ⟨_, rfl⟩
    obtain ⟨fx, hfx⟩ : ∃ fx, fixTo s.d k = fx := ⟨_, rfl⟩
    rw [hlf] at hl1 hls
    rw [hfx] at hl2 hfs
    have hb1 := HBk.out
    rw [hlf, hfx] at hb1
    have hc4 : wr.cell? ⟨L, 4, none⟩ = some (.int .i64 (lf : Int)) := hb1.cell 4
    have hfz := hb1.free
    have HB1 := hd hb1
    have Hls := hd hls
    have Hfs := hd hfs
    have Hx := hd hx
    clear hb1 hls hfs hx hlf hfx HBk
    obtain ⟨pn, hpn⟩ : ∃ pn, pop x = pn := ⟨_, rfl⟩
    have Hpn := hd hpn
    rw [hpn] at hp8
    clear hpn
    go_upto_region 7 with fail
    go_still_tail 6, (by kernel_rfl)
    refine still_call (f := 48) (args := #[.int .u8 (x : Int)]) (.int .i64 (pn : Int)) (by kernel_rfl) (by kernel_rfl) (by have := len_any x wr.drew (by omega); rw [Hpn.out] at this; exact this) ?_
    simp only [Act.put, List.setIfInBounds_toArray, List.set_cons_zero, List.set_cons_succ]
    repeat still_step
    refine wpStill_nil ?_
    rw [show ({ heap := wr.heap, tape := wr.tape, drawn := wr.drawn + 1, os := wr.os, output := wr.output } : World) = wr.drew from rfl]
    have hc5 : wr.cell? ⟨L, 5, none⟩ = some (.int .i64 (fx : Int)) := HB1.out.cell 5
    have hlast : Hid (leftTo s.d (k + 1) = lf + pn) := by show _ = _; rw [Hls.out, Hpn.out]
    clear hget
    by_cases h1 : pn = 1
    ·have hfl : Hid (fixTo s.d (k + 1) = fx + 1) := by show _ = _; rw [Hfs.out, Hpn.out, if_pos h1]
     subst h1
     go_wp2_with (go_at_call 48; refine (len_any x _ (by omega)).mono ?_; rw [Hpn.out]; rintro e w' ⟨rfl, rfl⟩)
     refine ⟨⟨k + 1, by omega, by go_num, ?_, ?_⟩, by simp [intOf]; omega⟩
     ·show Blk _ L _ _
      rw [hlast.out, hfl.out]
      exact (HB1.out.set 4 (.int .i64 ((lf : Int) + 1))).set 5 (.int .i64 ((fx : Int) + 1))
     ·exact ((HFk.out.setCell ⟨L, 4, none⟩ (.int .i64 ((lf : Int) + 1)) (.inl rfl)).setCell ⟨L, 5, none⟩ (.int .i64 ((fx : Int) + 1)) (.inl rfl)).drew
    ·have hfl : Hid (fixTo s.d (k + 1) = fx) := by show _ = _; rw [Hfs.out, Hpn.out, if_neg h1]; rfl
     have h1' : ((pn : Int) == 1) = false := by simp; omega
     go_wp2_with (go_at_call 48; refine (len_any x _ (by omega)).mono ?_; rw [Hpn.out]; rintro e w' ⟨rfl, rfl⟩)
     refine ⟨⟨k + 1, by omega, by go_num, ?_, ?_⟩, by simp [intOf]; omega⟩
     ·show Blk _ L _ _
      rw [hlast.out, hfl.out]
      exact HB1.out.set 4 (.int .i64 ((lf : Int) + (pn : Int)))
     ·exact (HFk.out.setCell ⟨L, 4, none⟩ (.int .i64 ((lf : Int) + (pn : Int))) (.inl rfl)).drew
   ·obtain rfl : k = 8 := by omega
    obtain ⟨lf, hlf⟩ : ∃ lf, leftTo s.d 8 = lf := ⟨_, rfl⟩
    obtain ⟨fx, hfx⟩ : ∃ fx, fixTo s.d 8 = fx := ⟨_, rfl⟩
    have hb1 := HBk.out
    rw [hlf, hfx] at hb1
    have k0 : wr.cell? ⟨L, 0, none⟩ = some (.int .i64 (zs.length : Int)) := hb1.cell 0
    have k1 : wr.cell? ⟨L, 1, none⟩ = some (.int .i64 (s.ts.length : Int)) := hb1.cell 1
    have k2 : wr.cell? ⟨L, 2, none⟩ = some (.int .i64 (s.sk.length : Int)) := hb1.cell 2
    have k3 : wr.cell? ⟨L, 3, none⟩ = some (.bool dead) := hb1.cell 3
    have k4 : wr.cell? ⟨L, 4, none⟩ = some (.int .i64 (lf : Int)) := hb1.cell 4
    have k5 : wr.cell? ⟨L, 5, none⟩ = some (.int .i64 (fx : Int)) := hb1.cell 5
    have hR := HRc.out.fr HFk.out hL0
    have r0 : wr.cell? ⟨w.heap.size, 0, none⟩ = some (.int .i64 0) := hR.cell 0
    have r1 : wr.cell? ⟨w.heap.size, 1, none⟩ = some (.int .i64 0) := hR.cell 1
    have r2 : wr.cell? ⟨w.heap.size, 2, none⟩ = some (.int .i64 0) := hR.cell 2
    have r3 : wr.cell? ⟨w.heap.size, 3, none⟩ = some (.bool false) := hR.cell 3
    have r4 : wr.cell? ⟨w.heap.size, 4, none⟩ = some (.int .i64 0) := hR.cell 4
    have r5 : wr.cell? ⟨w.heap.size, 5, none⟩ = some (.int .i64 0) := hR.cell 5
    have hfR := hR.free
    have HR := hd hR
    have Hlf := hd hlf
    have Hfx := hd hfx
    clear hb1 hR hlf hfx
    go_wp2
    have hFW : Nw w wr := (HfW.out.trans HF.out (fun i h => h.elim)).trans HFk.out (fun i hi => .inr (by show w.heap.size ≤ i; have e : i = L := hi; omega))
    have hB := ((((((HR.out.set 0 (.int .i64 (zs.length : Int))).set 1 (.int .i64 (s.ts.length : Int))).set 2 (.int .i64 (s.sk.length : Int))).set 3 (.bool dead)).set 4 (.int .i64 (lf : Int))).set 5 (.int .i64 (fx : Int)))
    have z0 := hB.cell 0
    have z1 := hB.cell 1
    have z2 := hB.cell 2
    have z3 := hB.cell 3
    have z4 := hB.cell 4
    have z5 := hB.cell 5
    refine bodyPost_ret (v := .agg (lookV zs s)) ?_ rfl ⟨rfl, (((((hFW.setCell _ _ (.inr (Nat.le_refl _))).setCell _ _ (.inr (Nat.le_refl _))).setCell _ _ (.inr (Nat.le_refl _))).setCell _ _ (.inr (Nat.le_refl _))).setCell _ _ (.inr (Nat.le_refl _))).setCell _ _ (.inr (Nat.le_refl _))⟩
    simp only [lookV, Hdead.out, Hlf.out, Hfx.out]
    simp [results, Tryz.results59, go_sem, z0, z1, z2, z3, z4, z5, lookZ]
end Go.Proofs.YtkjfpdfkcfgfkaaGreat

namespace Go.Proofs.YtkjfpdfkcfgfkaaGreat
open Go.RowKit

def ws0 (zs : List Int) (szv : Value) : WS := ⟨szv, fullTo zs zs.length, none, 0, rest0, [], [], [], []⟩
theorem fullTo_get (zs : List Int) (_ : zs.length ≤ 8) (q : Nat) : (fullTo zs zs.length).getD q 0 = if q < zs.length then 2 ^ (zs.getD q 0).toNat - 1 else 0 := by
 simp only [fullTo, List.take_length]
 by_cases h : q < zs.length
 ·rw [if_pos h]
  simp [List.getD, List.getElem?_append_left, h]
 ·rw [if_neg h]
  simp only [List.getD]
  rw [List.getElem?_append_right (by simp; omega)]
  simp only [List.getElem?_replicate]
  split <;> rfl
theorem full_dm {zs : List Int} (h : okSizes zs = true) : Dm (fullTo zs zs.length) := by
 obtain ⟨h0, h8⟩ := okSizes_len h
 refine ⟨fullTo_length zs _ (Nat.le_refl _) h8, fun q => ?_⟩
 rw [fullTo_get zs h8]
 split
 ·rename_i hq
  have := okSizes_get h q hq
  have hp : 2 ^ (zs.getD q 0).toNat ≤ 2 ^ 6 := Nat.pow_le_pow_right (by omega) (by omega)
  omega
 ·omega
theorem full_full {zs : List Int} (h : okSizes zs = true) : Full zs.length (fullTo zs zs.length) := by
 obtain ⟨h0, h8⟩ := okSizes_len h
 intro q hq
 rw [fullTo_get zs h8, if_pos hq]
 have := okSizes_get h q hq
 have hp : 2 ^ 1 ≤ 2 ^ (zs.getD q 0).toNat := Nat.pow_le_pow_right (by omega) (by omega)
 omega
theorem new_wat {w : World} {X : Nat} {zs : List Int} {szv : Value} (hok : okSizes zs = true) (hB : Blk w X (workCells szv (fullTo zs zs.length) (.slice none 0 0) rest0) 66) (hr : Row w szv 3 (zs.map (Value.int .i64))) : WAt w X zs (ws0 zs szv) := by
 have hi : ∀ {p : Prop} {i : Nat}, i < ([] : List Tab).length → p := fun h => absurd h (Nat.not_lt_zero _)
 refine ⟨⟨hB, hr, hok, ⟨Row.nil _ _, fun i h => hi h, fun i h => hi h, fun i h => hi h⟩, fun i j h => hi h, Nat.zero_le _, ⟨rfl, fun k h => absurd h (Nat.not_lt_zero _)⟩, fun k h => absurd h (Nat.not_lt_zero _), ⟨Row.nil _ _, Row.nil _ _⟩, fun u hu => (by cases hu), fun k hk => (by cases hk)⟩,
  ⟨full_dm hok, SubD.refl _, .inr (full_full hok), fun b hb => (by cases hb), rfl, fun k h => absurd h (Nat.not_lt_zero _)⟩, ?_, rfl, Nat.zero_le _⟩
 show 0 + 900 * bitsOf (fullTo zs zs.length) ≤ 57600
 have := bits_max (fullTo zs zs.length)
 omega
theorem ws0_own {X k : Nat} {zs : List Int} {szv : Value} (h : (ws0 zs szv).own X k) : k = X ∨ szv.ownBlock = some k := by
 rcases h with h | h | h | ⟨i, hi, _⟩ | h | h | ⟨u, hu, _⟩
 ·exact .inl h
 ·exact .inr h
 ·cases h
 ·exact absurd hi (Nat.not_lt_zero _)
 ·cases h
 ·cases h
 ·cases hu
theorem WStep.blk {w w' : World} {X : Nat} {s s' : WS} (h : WStep w w' X s s') {g : Nat} {cur : Array Value} {e : TypeId} (hb : Blk w g cur e) (hn : ¬ s.own X g) : Blk w' g cur e ∧ ¬ s'.own X g :=
 ⟨hb.fr h.fr hn, fun hs => (h.grow g hs).elim hn (fun h' => absurd hb.lt (by omega))⟩
def Since (w0 : World) (X : Nat) (s : WS) : Prop := ∀ k, s.own X k → w0.heap.size ≤ k
theorem WStep.since {w0 w w' : World} {X : Nat} {s s' : WS} (h : WStep w w' X s s') (hs : Since w0 X s) (hf : Nw w0 w) : Since w0 X s' ∧ Nw w0 w' :=
 ⟨fun k hk => (h.grow k hk).elim (hs k) (fun h' => Nat.le_trans hf.size h'), hf.trans h.fr (fun i hi => .inr (hs i hi))⟩
end Go.Proofs.YtkjfpdfkcfgfkaaGreat

namespace Go.Proofs.YtkjfpdfkcfgfkaaGreat
open Go.RowKit

theorem Row.put {w : World} {g n cap : Nat} {e : TypeId} {xs : List Value} (h : Row w (.slice (some ⟨g, 0, none⟩) n cap) e xs) (i : Nat) (x : Value) : Row (w.setCell ⟨g, i, none⟩ x) (.slice (some ⟨g, 0, none⟩) n cap) e (xs.set i x) := by
 have hl := h.1
 rcases h.2 with ⟨hv, _⟩ | ⟨g', cap', cur, hv, h0, hg, h1, h2, h3, h4⟩
 ·cases hv
 ·simp only [Value.slice.injEq, Option.some.injEq, Addr.mk.injEq, and_true] at hv
  obtain ⟨rfl, rfl, rfl⟩ := hv
  refine ⟨by simp, .inr ⟨g, cap, cur.setIfInBounds i x, by rw [List.length_set], h0, Blk.set (h := hg) i x, by rw [List.length_set]; exact h1, h2, by simp [h3], ?_⟩⟩
  rw [List.length_set, Array.toList_setIfInBounds, List.take_set, h4]
structure RIn (w : World) (lo Y : Nat) (zs : List Int) (szv inv : Value) (vs : List Value) (bss : List (List Bool)) (dead : Bool) (tv lv : Value) : Prop where
 blk : Blk w Y #[szv, inv, .bool dead, tv, lv] 83
 sz : Row w szv 3 (zs.map (Value.int .i64))
 inn : Row w inv 84 vs
 rows : InRows w lo vs bss
 len : bss.length = zs.length
 each : ∀ u, u < zs.length → (bss.getD u []).length = (zs.getD u 0).toNat
 zok : okSizes zs = true
 szlo : ∀ k, szv.ownBlock = some k → lo ≤ k
 inlo : ∀ k, inv.ownBlock = some k → lo ≤ k
 ylo : lo ≤ Y
theorem Row.bools {w : World} {ao : Option Addr} {cap : Nat} {bs : List Bool} (h : Row w (.slice ao bs.length cap) 4 (bs.map Value.bool)) : BoolsAt w ao bs := fun v hv => by
 obtain ⟨g, c, he, hb, hc, _⟩ := h.cell v (by rw [List.length_map]; exact hv)
 simp only [Value.slice.injEq] at he
 obtain ⟨rfl, _⟩ := he
 refine ⟨g, 0, rfl, h.lt hb, ?_⟩
 rw [Nat.zero_add, hc]
 simp [List.getD, hv]
theorem RIn.in8 {w : World} {lo Y : Nat} {zs : List Int} {szv inv : Value} {vs : List Value} {bss : List (List Bool)} {dead : Bool} {tv lv : Value} (h : RIn w lo Y zs szv inv vs bss dead tv lv) : bss.length ≤ 8 := by
 rw [h.len]
 exact (okSizes_len h.zok).2
theorem RIn.b6 {w : World} {lo Y : Nat} {zs : List Int} {szv inv : Value} {vs : List Value} {bss : List (List Bool)} {dead : Bool} {tv lv : Value} (h : RIn w lo Y zs szv inv vs bss dead tv lv) (u : Nat) (hu : u < bss.length) : (bss.getD u []).length ≤ 6 := by
 rw [h.each u (by rw [← h.len]; exact hu)]
 have := (okSizes_get h.zok u (by rw [← h.len]; exact hu)).2
 omega
theorem RIn.row {w : World} {lo Y : Nat} {zs : List Int} {szv inv : Value} {vs : List Value} {bss : List (List Bool)} {dead : Bool} {tv lv : Value} (h : RIn w lo Y zs szv inv vs bss dead tv lv) (u : Nat) (hu : u < bss.length) : ∃ g cap, vs.getD u nilS = .slice (some ⟨g, 0, none⟩) (bss.getD u []).length cap ∧ Row w (.slice (some ⟨g, 0, none⟩) (bss.getD u []).length cap) 4 ((bss.getD u []).map Value.bool) ∧ lo ≤ g := by
 have hr := h.rows.row u hu
 have h1 := (okSizes_get h.zok u (by rw [← h.len]; exact hu)).1
 have hl := h.each u (by rw [← h.len]; exact hu)
 rcases hr.2 with ⟨hv, h0⟩ | ⟨g, cap, cur, hv, _⟩
 ·rw [List.length_map] at h0
  omega
 ·rw [List.length_map] at hv
  refine ⟨g, cap, hv, by rw [← hv]; exact hr, h.rows.lo u hu g (by rw [hv]; rfl)⟩
theorem RIn.brows {w : World} {lo Y : Nat} {zs : List Int} {szv inv : Value} {vs : List Value} {bss : List (List Bool)} {dead : Bool} {tv lv : Value} (h : RIn w lo Y zs szv inv vs bss dead tv lv) : ∃ io icap, inv = .slice io bss.length icap ∧ BRowsAt w io bss ∧ w.cell? ⟨Y, 1, none⟩ = some (.slice io bss.length icap) := by
 obtain ⟨io, icap, hf, _⟩ := h.inn.form
 rw [h.rows.len] at hf
 refine ⟨io, icap, hf, fun u hu => ?_, by rw [← hf]; exact h.blk.cell 1⟩
 obtain ⟨g, c, he, hb, hc, _⟩ := h.inn.cell u (by rw [h.rows.len]; exact hu)
 obtain ⟨q, qc, hq, hrow, _⟩ := h.row u hu
 rw [hf] at he
 simp only [Value.slice.injEq] at he
 obtain ⟨rfl, _⟩ := he
 refine ⟨g, 0, some ⟨q, 0, none⟩, qc, rfl, h.inn.lt hb, ?_, hrow.bools⟩
 rw [Nat.zero_add, hc, ← hq]
 simp [List.getD, h.rows.len, hu]
theorem RIn.nw {w w' : World} {lo Y : Nat} {zs : List Int} {szv inv : Value} {vs : List Value} {bss : List (List Bool)} {dead : Bool} {tv lv : Value} (h : RIn w lo Y zs szv inv vs bss dead tv lv) (f : Nw w w') : RIn w' lo Y zs szv inv vs bss dead tv lv :=
 ⟨h.blk.nw f, h.sz.nw f, h.inn.nw f, h.rows.fr f (fun _ _ x => x.elim), h.len, h.each, h.zok, h.szlo, h.inlo, h.ylo⟩
theorem getD_set_eq {α : Type} (l : List α) (u q : Nat) (x d : α) (hu : u < l.length) : (l.set u x).getD q d = if u = q then x else l.getD q d := by
 by_cases e : u = q
 ·subst e
  simp [List.getD, hu]
 ·simp [List.getD, e]
def offB (bss : List (List Bool)) (u v : Nat) : List (List Bool) := bss.set u ((bss.getD u []).set v false)
theorem offB_get (bss : List (List Bool)) (u v q x : Nat) (hu : u < bss.length) : ((offB bss u v).getD q []).getD x false = if u = q ∧ v = x then false else (bss.getD q []).getD x false := by
 unfold offB
 rw [getD_set_eq _ _ _ _ _ hu]
 by_cases e : u = q
 ·subst e
  rw [if_pos rfl]
  by_cases hv : v < (bss.getD u []).length
  ·rw [getD_set_eq _ _ _ _ _ hv]
   by_cases e2 : v = x
   ·simp [e2]
   ·simp [e2]
  ·rw [List.set_eq_of_length_le (by omega)]
   by_cases e2 : v = x
   ·subst e2
    rw [if_pos ⟨rfl, rfl⟩]
    simp only [List.getD]
    rw [List.getElem?_eq_none (by simpa [List.getD] using hv)]
    rfl
   ·simp [e2]
 ·simp [e]
theorem RIn.off {w : World} {lo Y : Nat} {zs : List Int} {szv inv : Value} {vs : List Value} {bss : List (List Bool)} {dead : Bool} {tv lv : Value} (h : RIn w lo Y zs szv inv vs bss dead tv lv) (u v g n cap : Nat) (hu : u < bss.length) (hg : vs.getD u nilS = .slice (some ⟨g, 0, none⟩) n cap) :
  RIn (w.setCell ⟨g, v, none⟩ (.bool false)) lo Y zs szv inv vs (offB bss u v) dead tv lv := by
 have hr := h.rows.row u hu
 have hf : Fr (fun k => k = g) w (w.setCell ⟨g, v, none⟩ (.bool false)) := (Fr.refl _ w).setCell _ _ (.inl rfl)
 obtain ⟨cur, hb, _⟩ := hr.blk (k := g) (by rw [hg]; rfl)
 have hYg : Y ≠ g := fun e => by
  have h1 := h.blk
  rw [e] at h1
  exact absurd (h1.inj hb).2 (by decide)
 refine ⟨h.blk.fr hf hYg, h.sz.fr hf (fun k hk e => ?_), h.inn.fr hf (fun k hk e => ?_), ⟨?_, fun i hi => ?_, ?_, ?_⟩, ?_, fun q hq => ?_, h.zok, h.szlo, h.inlo, h.ylo⟩
 ·rw [e] at hk
  exact h.sz.ne hb (by decide) hk
 ·rw [e] at hk
  exact h.inn.ne hb (by decide) hk
 ·rw [h.rows.len]
  simp [offB]
 ·have hi' : i < bss.length := by simpa [offB] using hi
  by_cases e : u = i
  ·subst e
   have h1 := hr
   rw [hg] at h1 ⊢
   have h2 := h1.put v (.bool false)
   have e2 : (offB bss u v).getD u [] = (bss.getD u []).set v false := by
    unfold offB
    rw [getD_set_eq _ _ _ _ _ hu, if_pos rfl]
   rw [e2, List.map_set]
   exact h2
  ·have e2 : (offB bss u v).getD i [] = bss.getD i [] := by
    unfold offB
    rw [getD_set_eq _ _ _ _ _ hu, if_neg e]
   rw [e2]
   refine (h.rows.row i hi').fr hf (fun k hk e3 => ?_)
   rw [e3] at hk
   have hug : (vs.getD u nilS).ownBlock = some g := by rw [hg]; rfl
   rcases Nat.lt_or_gt_of_ne e with h3 | h3
   ·exact h.rows.ne u i h3 hi' g hug hk
   ·exact h.rows.ne i u h3 hu g hk hug
 ·intro i j hij hj
  exact h.rows.ne i j hij (by simpa [offB] using hj)
 ·intro i hi
  exact h.rows.lo i (by simpa [offB] using hi)
 ·rw [← h.len]
  simp [offB]
 ·unfold offB
  rw [getD_set_eq _ _ _ _ _ hu]
  split
  ·rename_i e
   rw [List.length_set, e]
   exact h.each q hq
  ·exact h.each q hq
def domB (bss : List (List Bool)) : List Nat := (List.range 8).map (fun q => maskOf (fun v => (bss.getD q []).getD v false))
theorem domB_get (bss : List (List Bool)) (q : Nat) (hq : q < 8) : (domB bss).getD q 0 = maskOf (fun v => (bss.getD q []).getD v false) := by simp [domB, List.getD, hq]
theorem domB_dm (bss : List (List Bool)) : Dm (domB bss) := ⟨by simp [domB], fun q => by
 by_cases hq : q < 8
 ·rw [domB_get _ _ hq]
  exact maskOf_lt _
 ·have : (domB bss).getD q 0 = 0 := by
   simp only [List.getD]
   rw [List.getElem?_eq_none (by simp [domB]; omega)]
   rfl
  rw [this]
  decide⟩
theorem domB_bit (bss : List (List Bool)) (h8 : bss.length ≤ 8) (h6 : ∀ u, u < bss.length → (bss.getD u []).length ≤ 6) (q v : Nat) : ((domB bss).getD q 0).testBit v = (bss.getD q []).getD v false := by
 by_cases hq : q < bss.length
 ·rw [domB_get _ _ (by omega)]
  by_cases hv : v < 6
  ·exact maskOf_bit _ v hv
  ·have h1 : (maskOf (fun v => (bss.getD q []).getD v false)).testBit v = false := Nat.testBit_lt_two_pow (Nat.lt_of_lt_of_le (maskOf_lt _) (Nat.le_trans (show 64 ≤ 2 ^ 6 by decide) (Nat.pow_le_pow_right (by omega) (by omega))))
   rw [h1]
   simp only [List.getD]
   have := h6 q hq
   rw [List.getElem?_eq_none (by simpa [List.getD] using (by omega : (bss.getD q []).length ≤ v))]
   rfl
 ·have e : bss.getD q [] = [] := by
   simp only [List.getD]
   rw [List.getElem?_eq_none (by omega)]
   rfl
  rw [e]
  by_cases h8' : q < 8
  ·rw [domB_get _ _ h8', e]
   have : maskOf (fun v => ([] : List Bool).getD v false) = 0 := by decide
   rw [this]
   simp
  ·have : (domB bss).getD q 0 = 0 := by
    simp only [List.getD]
    rw [List.getElem?_eq_none (by simp [domB]; omega)]
    rfl
   rw [this]
   simp
theorem ex_supp {E : FEnv} (h8 : E.bss.length ≤ 8) (h6 : ∀ u, u < E.bss.length → (E.bss.getD u []).length ≤ 6) (hp : E.place < E.vars.length) : E.Ex [] ↔ Supp E.vars E.rows E.nt (domB E.bss) E.place E.value := by
 constructor
 ·rintro ⟨L, h1, _, h3, h4, h5⟩
  refine ⟨L, ⟨h1, fun q hq => ?_⟩, h4 (Nat.zero_le _) hp, (allowB_iff _ _ _).1 h5⟩
  rw [domB_bit _ h8 h6]
  exact h3 q (Nat.zero_le _) hq
 ·rintro ⟨L, ⟨h1, h2⟩, h3, h4⟩
  refine ⟨L, h1, List.nil_prefix, fun q _ hq => ?_, fun _ _ => h3, (allowB_iff _ _ _).2 h4⟩
  have := h2 q hq
  rw [domB_bit _ h8 h6] at this
  exact this
structure CInv (bs : List Tb) (d0 d : List Nat) : Prop where
 sub : SubD d d0
 most : ∀ e, SubD e d0 → (∀ b ∈ bs, SuppAll b e) → SubD e d
theorem CInv.refl (bs : List Tb) (d : List Nat) : CInv bs d d := ⟨SubD.refl d, fun _ h _ => h⟩
theorem CInv.off {bs : List Tb} {d0 d d' : List Nat} {b : Tb} {i v : Nat} (h : CInv bs d0 d) (hb : b ∈ bs) (hi : i < b.vars.length) (hn : ¬ Supp b.vars b.rows b.nt d i v) (hd' : ∀ q x, (d'.getD q 0).testBit x = true ↔ (d.getD q 0).testBit x = true ∧ ¬ (q = (b.vars.getD i 0).toNat ∧ x = v)) : CInv bs d0 d' := by
 refine ⟨fun q x hx => h.sub q x ((hd' q x).1 hx).1, fun e he hs q x hx => (hd' q x).2 ⟨h.most e he hs q x hx, ?_⟩⟩
 rintro ⟨rfl, rfl⟩
 exact hn ((hs b hb i x hi hx).mono (h.most e he hs))
end Go.Proofs.YtkjfpdfkcfgfkaaGreat
