/- Parts of the proof, number 11: contracts of the functions that the statement calls. -/
import Derived.Test.YtkjfpdfkcfgfkaaGreatM10

namespace Go.Proofs.YtkjfpdfkcfgfkaaGreat
open Go.RowKit Go.Shelf

def Sd.going (d : Sd) (sq : Value) : Sd := { d with bz := true, sq := sq, s := d.s.busyAs true }
theorem SideAt.apartD {W w : World} {lo : Nat} {d : Sd} (h : SideAt W w lo d) : ¬ d.s.own d.X d.D ∧ ∀ k, d.R.own d.Y k → k ≠ d.D ∧ k ≠ d.X := by
 refine ⟨fun ho => ?_, fun k hk => ⟨fun e => ?_, fun e => h.pair.at_.apartR h.pair.ref h.pair.szn k hk (.inl e)⟩⟩
 ·obtain ⟨cur, e, hb, he⟩ := h.pair.at_.mem.ty ho
  rw [(hb.inj h.blk).2] at he
  exact absurd he (by decide)
 ·rcases h.pair.ref.ty hk with h1 | ⟨cur, e', hb, he⟩
  ·obtain ⟨cur, hb, _⟩ := h.pair.ref.rin.sz.blk h1
   rw [e] at hb
   exact absurd (hb.inj h.blk).2 (by decide)
  ·rw [e] at hb
   rw [(hb.inj h.blk).2] at he
   exact absurd he (by decide)
theorem go_start {W w0 w w1 : World} {lo B i n ba bk cn ct cr : Nat} {L : LW} {ds : List Sd} {d : Sd} (sq : Value) (h : LI W w0 lo B L ds) (hi : i < ds.length) (hd : ds[i] = d) (f : Nw w0 w) (hba : w0.heap.size ≤ ba) (hbk : w0.heap.size ≤ bk) (hne : ba ≠ bk) (hat : Blk w ba #[.int .i64 0] 3) (hok : Blk w bk #[.bool true] 4) (hw1 : w1 = (w.setCell ⟨d.D, 2, none⟩ (.bool true)).setCell ⟨d.D, 3, none⟩ sq)
  (hn : ds.length = n) (hc : L.nums.length ≤ cn ∧ L.turned.length ≤ ct ∧ L.rows.length ≤ cr ∧ L.nums.length % 4 = 0) :
  Stay W w1 lo (d.going sq) (OO B L ds i) ba bk ∧ GP W w1 lo B i n (d.going sq) (OO B L ds i) ba bk cn ct cr 0 (fun k => OO B L ds i k ∨ k = d.D ∨ k = ba ∨ k = bk) w1 L (ds.set i (d.going sq)) d.lt ∧ WAt w1 d.X d.zs d.s ∧ (∀ k, d.s.own d.X k → ¬ (OO B L ds i k ∨ k = d.D ∨ k = ba ∨ k = bk)) ∧ Fr (fun k => k = d.D) w w1 := by
 have hj := h.toLJ.nw f
 have hgs := hj.out hi hd
 have hS : SideAt W w lo d := hd ▸ hj.sides _ (List.getElem_mem hi)
 have hS0 : SideAt W w0 lo d := hd ▸ h.sides _ (List.getElem_mem hi)
 have hg0 := h.toLJ.out hi hd
 obtain ⟨a1, a2⟩ := hS.apartD
 have hfw : Fr (fun k => k = d.D) w w1 := by
  rw [hw1]
  exact ((Fr.refl (fun k => k = d.D) w).setCell _ _ (.inl rfl)).setCell _ _ (.inl rfl)
 have hb : Blk w1 d.D (d.going sq).cells 52 := by
  have := (hS.blk.set 2 (.bool true)).set 3 sq
  rw [hw1]
  simpa [Sd.cells, Sd.going] using this
 have hDl := hS0.blk.lt
 have hlo := h.env.le
 have hal := hat.lt
 have hkl := hok.lt
 have hg1 := hgs.put (d' := d.going sq) rfl (fun k => Iff.rfl) (by have := h.lts _ (List.getElem_mem hi); rw [hd] at this; exact this) hS.dlo hfw hb
 have hno : ∀ k cur, k = d.D → ¬ Blk w k cur 151 := fun k cur e hb' => by
  subst e
  exact absurd (hb'.inj hS.blk).2 (by decide)
 have hA : WAt w1 d.X d.zs d.s := hS.pair.at_.frN hfw (fun k hk e => a1 (by rw [← e]; exact hk)) hno
 have hsz := hfw.size
 refine ⟨⟨hS.pair.ref.fr hfw (fun k hk => (a2 k hk).1), rfl, hS.pair.now, hS.pair.tabs, hS.pair.levs, hS.pair.szn, hS.pair.xlo, hS.dlo, fun k hk => ⟨fun ho => hgs.off ho hk, ?_, ?_⟩, fun k hk => ?_, a2, a1, by omega, by omega, by omega, by omega, hne⟩,
  ⟨hg1, fun k hk => .inl (OO.set.1 hk), fun k => by rw [OO.set]; exact Iff.rfl, hat.fr hfw (by omega), hok.fr hfw (by omega), Fr.refl _ _, by rw [List.length_set]; exact hn, fun j hj hne => ?_, hc⟩, hA, fun k hk ho => ?_, hfw⟩
 ·have := hS0.lt hk
  omega
 ·have := hS0.lt hk
  omega
 ·have := (hg0.lt hk).1
  omega
 ·rw [List.length_set] at hj
  rw [List.getElem_set_ne (fun e => hne e.symm)]
  exact h.free _ (List.getElem_mem hj)
 ·have := hS0.lt (.inr (.inl hk))
  rcases ho with ho | ho | ho | ho
  ·exact hgs.off ho (.inr (.inl hk))
  ·exact a1 (by rw [← ho]; exact hk)
  ·omega
  ·omega
theorem go_end {W w A : World} {lo B i n ba bk cn ct cr a : Nat} {d : Sd} {sq : Value} {O0 C : Nat → Prop} {L : LW} {ds : List Sd} {lt : Value} (h : GP W w lo B i n (d.going sq) O0 ba bk cn ct cr a C A L ds lt) (hs : Stay W w lo (d.going sq) O0 ba bk) (hA : WAt A d.X d.zs d.s) (hbz : d.bz = false) (hbs : d.s.l.busy = false) :
  LI W (A.setCell ⟨d.D, 2, none⟩ (.bool false)) lo B L (ds.set i { d with sq := sq, lt := lt }) := by
 have hfw : Fr (fun k => k = d.D) A (A.setCell ⟨d.D, 2, none⟩ (.bool false)) := (Fr.refl (fun k => k = d.D) A).setCell _ _ (.inl rfl)
 have hb : Blk (A.setCell ⟨d.D, 2, none⟩ (.bool false)) d.D (Sd.cells { d with sq := sq, lt := lt }) 52 := by
  have := h.gs.blk.set 2 (.bool false)
  simpa [Sd.cells, Sd.going, hbz] using this
 obtain ⟨hi, hd⟩ := h.gs.get
 have hg := h.gs.put (d' := { d with sq := sq, lt := lt }) rfl (fun k => Iff.rfl) (by
  have := h.gs.lts _ (List.getElem_mem hi)
  rw [hd] at this
  exact this) hs.dlo hfw hb
 have hno : ∀ k cur, k = d.D → ¬ Blk A k cur 151 := fun k cur e hb' => by
  subst e
  exact absurd (hb'.inj h.gs.blk).2 (by decide)
 have hA' : WAt (A.setCell ⟨d.D, 2, none⟩ (.bool false)) d.X d.zs d.s := hA.frN hfw (fun k hk e => hs.sD (show d.s.own d.X d.D from by rw [← show k = d.D from e]; exact hk)) hno
 have hr : RAt W A lo d.Y d.zs d.R := hs.ref.fr h.fr (fun k hk ho => by
  have h1 := hs.off k (.inr (.inr hk))
  have h2 := hs.rD k hk
  rcases ho with ho | ho | ho | ho | ho
  ·exact h1.1 ho
  ·exact h2.1 ho
  ·omega
  ·omega
  ·exact h2.2 ho)
 refine ⟨hg.back ⟨hA', hr.fr hfw (fun k hk => (hs.rD k hk).1), by rw [hbs]; exact hbz.symm, hs.now, hs.tabs, hs.levs, hs.szn, hs.xlo⟩ hs.dlo, fun e he => ?_⟩
 rcases mem_set e he with rfl | ⟨j, hj, hne, rfl⟩
 ·exact hbz
 ·exact h.free j hj hne
theorem GP.box {W w A A' : World} {lo B i n ba bk cn ct cr a cn' ct' cr' a' : Nat} {d : Sd} {O0 C : Nat → Prop} {L : LW} {ds : List Sd} {lt : Value} (h : GP W w lo B i n d O0 ba bk cn ct cr a C A L ds lt) (hs : Stay W w lo d O0 ba bk) (f : Fr (fun k => k = ba ∨ k = bk) A A') (hat : Blk A' ba #[.int .i64 (a' : Int)] 3) (hok : Blk A' bk #[.bool true] 4) (hc : L.nums.length ≤ cn' ∧ L.turned.length ≤ ct' ∧ L.rows.length ≤ cr' ∧ L.nums.length % 4 = 0) : GP W w lo B i n d O0 ba bk cn' ct' cr' a' C A' L ds lt := by
 have hb := hs.blo
 have hD := hs.off _ (.inl rfl)
 have hn : ∀ k, OO B L ds i k → k ≠ ba ∧ k ≠ bk := fun k hk => by
  rcases h.grow k hk with h1 | h1
  ·have := hs.old k h1
   omega
  ·omega
 refine ⟨h.gs.fr f (fun k hk => ?_) (fun k cur hk hb' => ?_), h.grow, h.c, hat, hok, h.fr.trans f (fun k hk => ?_), h.len, h.free, hc⟩
 ·rcases hk with rfl | rfl
  ·exact ⟨by omega, fun ho => (hn _ ho).1 rfl, fun e => by have e' : k = d.D := e; omega⟩
  ·exact ⟨by omega, fun ho => (hn _ ho).2 rfl, fun e => by have e' : k = d.D := e; omega⟩
 ·rcases hk with rfl | rfl
  ·exact absurd (hb'.inj h.at_).2 (by decide)
  ·exact absurd (hb'.inj h.ok).2 (by decide)
 ·rcases hk with hk | hk
  ·exact .inl (.inr (.inr (.inl hk)))
  ·exact .inl (.inr (.inr (.inr (.inl hk))))
theorem wp_sols3 {n X m : Nat} {zs : List Int} {s : WS} {g : Operand} {t : Tmp} {id : Nat} {assign body : Code} {Q : Exit → Act → World → Prop} {a : Act} {w : World} (t2 : Tmp)
  (hg : a.eval g = .func (.func 77) #[.pointer (some ⟨X, 0, none⟩)] #[]) (hA : WAt w X zs s) (hbz : s.l.busy = false)
  (hassign : ∀ (l : Nat) (v : Value) (W : World) (K : Act → World → Prop), K { tmps := (a.tmps.setIfInBounds t v).setIfInBounds t2 v, defers := [] } W → assign.wpIn (Fence.wide.inRound l) (n - 1 - 1) Tryz.prog (Exit.then K (fun _ _ _ => False)) { tmps := a.tmps.setIfInBounds t v, defers := [] } W)
  (G : List (List Nat) → (Nat → Prop) → World → Prop) (hG : ∀ R : List (List Nat) → Prop, SolInv X w.heap.size (fun done C A => G done C A ∧ R done)) (C : Nat → Prop) (hC : ∀ k, s.own X k → ¬ C k) (h0 : G [] C w)
  (hround : ∀ (l : Nat) (done : List (List Nat)) (C : Nat → Prop) (x : List Nat) (b cap : Nat) (W : World), (done ++ [x]) <+: solN s.d s.bs zs.length [] → done.length ≤ m → G done C W → WAt W X zs (s.busyAs true) → w.heap.size ≤ b → ¬ C b → Row W (.slice (some ⟨b, 0, none⟩) x.length cap) 3 (ints x) →
   body.wpIn (Fence.wide.inRound l) (n - 1 - 1) Tryz.prog (solPost (fun C A => G (done ++ [x]) C A ∧ (done ++ [x]).length ≤ m) (fun C A => G (done ++ [x]) C A ∧ (done ++ [x]).length = m + 1) id C b W) { tmps := (a.tmps.setIfInBounds t (.slice (some ⟨b, 0, none⟩) x.length cap)).setIfInBounds t2 (.slice (some ⟨b, 0, none⟩) x.length cap), defers := [] } W)
  (hQ : ∀ (a : Act) (W : World), Q .normal a W → (Code.exit id).wpIn Fence.wide n Tryz.prog Q a W)
  (hend : ∀ (D : Nat) (C' : Nat → Prop) (done : List (List Nat)) (W : World), w.heap.size ≤ D → done <+: solN s.d s.bs zs.length [] → (done = solN s.d s.bs zs.length [] ∧ done.length ≤ m ∨ done.length = m + 1) → G done C' W → WAt W X zs s → W.heap[D]? = some (.deferred (some [])) → Q .normal { a with defers := mark D :: a.defers } W) :
  (Code.rangeFunc g #[t] assign body).wp Tryz.prog Q a w := by
 refine (wpIn_wide (n := n)).1 ?_
 exact wp_sols (id := id) (zs := zs) (s := s) (fun v => { tmps := (a.tmps.setIfInBounds t v).setIfInBounds t2 v, defers := [] }) hg hA hbz hA.pos hassign (fun done C A => G done C A ∧ done.length ≤ m) (fun done C A => G done C A ∧ done.length = m + 1) (hG _) (hG _) C hC ⟨h0, Nat.zero_le _⟩ (fun l done C x b cap W h1 h2 => hround l done C x b cap W h1 h2.2 h2.1) (fun D C' W hD _ h3 h4 _ h6 => hend D C' _ W hD (List.prefix_refl _) (.inl ⟨rfl, h3.2⟩) h3.1 h4 h6) (fun D C' p x W hD _ h2 h3 h4 _ h6 => hQ _ _ (hend D C' _ W hD h2 (.inr h3.2) h3.1 h4 h6))
end Go.Proofs.YtkjfpdfkcfgfkaaGreat

namespace Go.Proofs.YtkjfpdfkcfgfkaaGreat
open Go.RowKit

structure Fixd (N : Nat) (O0 : Nat → Prop) (d : Sd) (ba bk k : Nat) : Prop where
 o : ¬ O0 k
 dd : k ≠ d.D
 x : k ≠ d.X
 lt : k < N
 a : k ≠ ba
 b : k ≠ bk
theorem Fixd.out {N : Nat} {O0 : Nat → Prop} {d : Sd} {ba bk k : Nat} (h : Fixd N O0 d ba bk k) : ¬ (O0 k ∨ k = d.D ∨ k = ba ∨ k = bk ∨ k = d.X) := fun ho => by
 rcases ho with ho | ho | ho | ho | ho
 ·exact h.o ho
 ·exact h.dd ho
 ·exact h.a ho
 ·exact h.b ho
 ·exact h.x ho
theorem GP.fix {W w A : World} {lo B i n ba bk cn ct cr a k : Nat} {d : Sd} {O0 C : Nat → Prop} {L : LW} {ds : List Sd} {lt : Value} {cur : Array Value} {e : TypeId} (h : GP W w lo B i n d O0 ba bk cn ct cr a C A L ds lt) (hk : Fixd w.heap.size O0 d ba bk k) (hb : Blk w k cur e) : Blk A k cur e := hb.fr h.fr hk.out
theorem GP.fixRow {W w A : World} {lo B i n ba bk cn ct cr a : Nat} {d : Sd} {O0 C : Nat → Prop} {L : LW} {ds : List Sd} {lt v : Value} {xs : List Value} {e : TypeId} (h : GP W w lo B i n d O0 ba bk cn ct cr a C A L ds lt) (hb : Row w v e xs) (hk : ∀ k, v.ownBlock = some k → Fixd w.heap.size O0 d ba bk k) : Row A v e xs := hb.fr h.fr (fun k hk' => (hk k hk').out)
structure Mid (W A w : World) (lo B i : Nat) (L L' : LW) (ds ds' : List Sd) (d : Sd) (lt : Value) (b ba bk a : Nat) : Prop where
 lj : LJ W w lo B L' ds'
 get : ∃ hi : i < ds'.length, ds'[i] = { d with lt := lt }
 len : ds'.length = ds.length
 free : ∀ j (hj : j < ds'.length), j ≠ i → ds'[j].bz = false
 fr : Fr (fun k => OO B L ds i k ∨ k = d.D ∨ k = b ∨ k = ba ∨ k = bk) A w
 grow : ∀ k, OO B L' ds' i k → OO B L ds i k ∨ k = b ∨ A.heap.size ≤ k
 at_ : Blk w ba #[.int .i64 (a : Int)] 3
 ok : Blk w bk #[.bool true] 4
 off : ∀ k, k = ba ∨ k = bk → ¬ OO B L' ds' i k ∧ k ≠ d.D ∧ k ≠ b ∧ k < A.heap.size ∧ lo ≤ k ∧ ¬ d.own k
theorem Mid.start {W w A A' : World} {lo B i n ba bk cn ct cr a b : Nat} {d : Sd} {O0 C : Nat → Prop} {L : LW} {ds : List Sd} {lt : Value} (h : GP W w lo B i n d O0 ba bk cn ct cr a C A L ds lt) (hs : Stay W w lo d O0 ba bk) (hA : WAt A d.X d.zs d.s) (hb : w.heap.size ≤ b) (f : Nw A A') : Mid W A A' lo B i L L ds ds d lt b ba bk a := by
 have hbl := hs.blo
 have hsz := h.fr.size
 have hD := hs.off _ (.inl rfl)
 refine ⟨(h.lj hs hA).nw f, h.gs.get, rfl, h.free, f.mono (fun _ x => x.elim), fun _ hk => .inl hk, h.at_.nw f, h.ok.nw f, fun k hk => ⟨fun ho => ?_, by omega, by omega, by omega, by omega, fun ho => ?_⟩⟩
 ·rcases h.grow k ho with h1 | h1
  ·have := hs.old k h1
   omega
  ·omega
 ·have := hs.off k ho
  omega
theorem Mid.nw {W A w w' : World} {lo B i b ba bk a : Nat} {L L' : LW} {ds ds' : List Sd} {d : Sd} {lt : Value} (m : Mid W A w lo B i L L' ds ds' d lt b ba bk a) (f : Nw w w') : Mid W A w' lo B i L L' ds ds' d lt b ba bk a :=
 ⟨m.lj.nw f, m.get, m.len, m.free, m.fr.trans f (fun _ x => x.elim), m.grow, m.at_.nw f, m.ok.nw f, m.off⟩
theorem Mid.box {W A w w' : World} {lo B i b ba bk a a' : Nat} {L L' : LW} {ds ds' : List Sd} {d : Sd} {lt : Value} (m : Mid W A w lo B i L L' ds ds' d lt b ba bk a) (f : Fr (fun k => k = ba ∨ k = bk) w w') (hat : Blk w' ba #[.int .i64 (a' : Int)] 3) (hok : Blk w' bk #[.bool true] 4) : Mid W A w' lo B i L L' ds ds' d lt b ba bk a' := by
 refine ⟨m.lj.fr f (fun k hk => ?_) (fun k cur hk hb => ?_), m.get, m.len, m.free, m.fr.trans f (fun k hk => .inl (.inr (.inr (.inr hk)))), m.grow, hat, hok, m.off⟩
 ·obtain ⟨h1, _, _, _, h5, h6⟩ := m.off k hk
  refine ⟨h5, fun ho => h1 (.inl ho), fun e he ho => ?_⟩
  obtain ⟨j, hj, rfl⟩ := List.getElem_of_mem he
  by_cases ej : j = i
  ·subst ej
   obtain ⟨_, hd⟩ := m.get
   rw [hd] at ho
   exact h6 ho
  ·exact h1 (.inr ⟨j, hj, ej, ho⟩)
 ·rcases hk with rfl | rfl
  ·exact absurd (hb.inj m.at_).2 (by decide)
  ·exact absurd (hb.inj m.ok).2 (by decide)
theorem Mid.keep {W w A w' w'' : World} {lo B i n ba bk cn ct cr a b : Nat} {d : Sd} {O0 C : Nat → Prop} {L L' : LW} {ds : List Sd} {lt : Value} {cur : Array Value} (h : GP W w lo B i n d O0 ba bk cn ct cr a C A L ds lt) (hs : Stay W w lo d O0 ba bk) (m : Mid W A w' lo B i L L ds ds d lt b ba bk a) (hb : w.heap.size ≤ b) (hbC : ¬ C b) (hgb : Blk w' b cur 3) (hL : LawAt w'' lo B L') (f : Fr (fun k => k = B ∨ L.nv.ownBlock = some k ∨ k = b) w' w'') (hgr : ∀ k, L'.own B k → L.own B k ∨ k = b ∨ w'.heap.size ≤ k) (hss : L'.ss = L.ss) : Mid W A w'' lo B i L L' ds ds d lt b ba bk a := by
 have hbl := hs.blo
 have hsz := m.fr.size
 have hno : ∀ e ∈ ds, ¬ e.own b := fun e he ho => by
  obtain ⟨j, hj, rfl⟩ := List.getElem_of_mem he
  by_cases ej : j = i
  ·subst ej
   obtain ⟨_, hd⟩ := m.get
   rw [hd] at ho
   have := hs.off b ho
   omega
  ·exact hbC ((h.c b).2 (.inl (.inr ⟨j, hj, ej, ho⟩)))
 have hin : ∀ k, k = B ∨ L.nv.ownBlock = some k ∨ k = b → OO B L ds i k ∨ k = b := fun k hk => by
  rcases hk with hk | hk | hk
  ·exact .inl (.inl (.inl hk))
  ·exact .inl (.inl (.inr (.inr (.inl hk))))
  ·exact .inr hk
 have hst : ∀ k, k = ba ∨ k = bk → ¬ (k = B ∨ L.nv.ownBlock = some k ∨ k = b) := fun k hk hk2 => by
  obtain ⟨h1, _, h3, _⟩ := m.off k hk
  rcases hin k hk2 with h4 | h4
  ·exact h1 h4
  ·exact h3 h4
 refine ⟨m.lj.kept hno (by omega) hgb hL f hgr hss, m.get, m.len, m.free, m.fr.trans f (fun k hk => .inl ?_), fun k hk => ?_, m.at_.fr f (hst _ (.inl rfl)), m.ok.fr f (hst _ (.inr rfl)), fun k hk => ⟨fun ho => ?_, (m.off k hk).2⟩⟩
 ·exact (hin k hk).imp id (fun h1 => .inr (.inl h1))
 ·rcases hk with hk | hk
  ·rcases hgr k hk with h1 | h1 | h1
   ·exact .inl (.inl h1)
   ·exact .inr (.inl h1)
   ·exact .inr (.inr (Nat.le_trans hsz h1))
  ·exact .inl (.inr hk)
 ·obtain ⟨h1, _, h3, h4, _⟩ := m.off k hk
  rcases ho with ho | ho
  ·rcases hgr k ho with h5 | h5 | h5
   ·exact h1 (.inl h5)
   ·exact h3 h5
   ·omega
  ·exact h1 (.inr ho)
theorem Mid.plain {W A w w' : World} {lo B i b n ba bk a : Nat} {L L' L'' : LW} {ds ds' ds'' : List Sd} {d : Sd} {lt lt' : Value} (m : Mid W A w lo B i L L' ds ds' d lt b ba bk a) (p : PlG W w w' lo B i L' L'' ds' ds'' { d with lt := lt } lt' n) : Mid W A w' lo B i L L'' ds ds'' d lt' b ba bk a := by
 have hsz := m.fr.size
 have hst : ∀ k, k = ba ∨ k = bk → ¬ (OO B L' ds' i k ∨ k = d.D) := fun k hk hk2 => by
  obtain ⟨h1, h2, _⟩ := m.off k hk
  rcases hk2 with h3 | h3
  ·exact h1 h3
  ·exact h2 h3
 refine ⟨p.lj, p.get, p.len.trans m.len, p.free, m.fr.trans p.fr (fun k hk => ?_), fun k hk => ?_, m.at_.fr p.fr (hst _ (.inl rfl)), m.ok.fr p.fr (hst _ (.inr rfl)), fun k hk => ⟨fun ho => ?_, (m.off k hk).2⟩⟩
 ·rcases hk with hk | hk
  ·rcases m.grow k hk with h1 | h1 | h1
   ·exact .inl (.inl h1)
   ·exact .inl (.inr (.inr (.inl h1)))
   ·exact .inr h1
  ·exact .inl (.inr (.inl hk))
 ·rcases p.grow k hk with h1 | h1
  ·exact m.grow k h1
  ·exact .inr (.inr (Nat.le_trans hsz h1))
 ·obtain ⟨h1, _, _, h4, _⟩ := m.off k hk
  rcases p.grow k ho with h5 | h5
  ·exact h1 h5
  ·omega
theorem Mid.out {W w A A' : World} {lo B i n ba bk cn ct cr a a' b k : Nat} {d : Sd} {O0 C : Nat → Prop} {L L' : LW} {ds ds' : List Sd} {lt lt' : Value} (_m : Mid W A A' lo B i L L' ds ds' d lt' b ba bk a') (h : GP W w lo B i n d O0 ba bk cn ct cr a C A L ds lt) (hb : w.heap.size ≤ b) (hk : Fixd w.heap.size O0 d ba bk k) : ¬ (OO B L ds i k ∨ k = d.D ∨ k = b ∨ k = ba ∨ k = bk) := fun ho => by
 have hl := hk.lt
 rcases ho with ho | ho | ho | ho | ho
 ·rcases h.grow k ho with h1 | h1
  ·exact hk.o h1
  ·omega
 ·exact hk.dd ho
 ·omega
 ·exact hk.a ho
 ·exact hk.b ho
theorem Mid.end {W w A A' : World} {lo B i n ba bk cn ct cr a cn' ct' cr' a' b : Nat} {d : Sd} {O0 C : Nat → Prop} {L L' : LW} {ds ds' : List Sd} {lt lt' : Value} (m : Mid W A A' lo B i L L' ds ds' d lt' b ba bk a') (h : GP W w lo B i n d O0 ba bk cn ct cr a C A L ds lt) (hb : w.heap.size ≤ b) (hc : L'.nums.length ≤ cn' ∧ L'.turned.length ≤ ct' ∧ L'.rows.length ≤ cr' ∧ L'.nums.length % 4 = 0) :
  ∃ C' : Nat → Prop, (∀ k, C' k → C k ∨ k = b ∨ A.heap.size ≤ k) ∧ Fr (fun k => C k ∨ k = b) A A' ∧ GI W w lo B i n d O0 ba bk cn' ct' cr' a' C' A' := by
 have hfr : Fr (fun k => C k ∨ k = b) A A' := m.fr.mono (fun k hk => .inl (by
  rcases hk with hk | hk | hk | hk
  ·exact .inl ((h.c k).2 (.inl hk))
  ·exact .inl ((h.c k).2 (.inr (.inl hk)))
  ·exact .inr hk
  ·exact .inl ((h.c k).2 (.inr (.inr hk)))))
 obtain ⟨C', h1, h2⟩ := h.next (cn' := cn') (ct' := ct') (cr' := cr') (a' := a') hb m.lj m.get hfr m.grow m.at_ m.ok (m.len.trans h.len) m.free hc
 exact ⟨C', h1, hfr, _, _, _, h2⟩
theorem LStep.keepT {W w w' : World} {lo B k : Nat} {L L' : LW} {d d' : Sd} {cur : Array Value} {e : TypeId} (h : LS W w lo B L d) (hs : LStep w w' B L L' d d') (hb : Blk w k cur e) (he : e ∉ lawTys) : Blk w' k cur e := hb.fr hs.fr (fun ho => he (h.only k cur e ho hb))
structure GoBx (w : World) (B b3 b5 : Nat) (o : OpV) : Prop where
 k3 : Blk w b3 #[.pointer (some ⟨B, 0, none⟩)] 24
 k5 : Blk w b5 o.cells 54
theorem GoBx.fr {S : Nat → Prop} {w w' : World} {B b3 b5 : Nat} {o : OpV} (h : GoBx w B b3 b5 o) (f : Fr S w w') (h3 : ¬ S b3) (h5 : ¬ S b5) : GoBx w' B b3 b5 o := ⟨h.k3.fr f h3, h.k5.fr f h5⟩
theorem GoBx.nw {w w' : World} {B b3 b5 : Nat} {o : OpV} (h : GoBx w B b3 b5 o) (f : Nw w w') : GoBx w' B b3 b5 o := h.fr f (fun x => x) (fun x => x)
theorem GoBx.step {W w w' : World} {lo B b3 b5 : Nat} {L L' : LW} {d d' : Sd} {o : OpV} (h : GoBx w B b3 b5 o) (hL : LS W w lo B L d) (hs : LStep w w' B L L' d d') : GoBx w' B b3 b5 o := ⟨hs.keepT hL h.k3 (by decide), hs.keepT hL h.k5 (by decide)⟩
theorem fix_new {W wc : World} {lo B i N ba bk k : Nat} {L : LW} {ds : List Sd} {d : Sd} (sq : Value) (h : LI W wc lo B L ds) (hi : i < ds.length) (hd : ds[i] = d) (h1 : wc.heap.size ≤ k) (h2 : k < N) (h3 : k ≠ ba) (h4 : k ≠ bk) : Fixd N (OO B L ds i) (d.going sq) ba bk k := by
 have hS : SideAt W wc lo d := hd ▸ h.sides _ (List.getElem_mem hi)
 refine ⟨fun ho => ?_, fun e => ?_, fun e => ?_, h2, h3, h4⟩
 ·have := ((h.toLJ.out hi hd).lt ho).1
  omega
 ·have e' : k = d.D := e
  have := hS.blk.lt
  omega
 ·have e' : k = d.X := e
  have := hS.pair.at_.mem.blk.lt
  omega
theorem fix_old {W wc : World} {lo B i N ba bk k : Nat} {L : LW} {ds : List Sd} {d : Sd} {cur : Array Value} {e : TypeId} (sq : Value) (h : LI W wc lo B L ds) (hi : i < ds.length) (hd : ds[i] = d) (hb : Blk wc k cur e) (he : e ∉ lawTys) (h2 : wc.heap.size ≤ N) (h3 : wc.heap.size ≤ ba) (h4 : wc.heap.size ≤ bk) : Fixd N (OO B L ds i) (d.going sq) ba bk k := by
 have hS : SideAt W wc lo d := hd ▸ h.sides _ (List.getElem_mem hi)
 have hl := hb.lt
 refine ⟨fun ho => ?_, fun e => ?_, fun e => ?_, by omega, by omega, by omega⟩
 ·obtain ⟨_, _, c2, e2, hb2, he2⟩ := (h.toLJ.out hi hd).lt ho
  exact he ((hb.inj hb2).2 ▸ he2)
 ·have e' : k = d.D := e
  subst e'
  rw [(hb.inj hS.blk).2] at he
  exact he (by decide)
 ·have e' : k = d.X := e
  subst e'
  rw [(hb.inj hS.pair.at_.mem.blk).2] at he
  exact he (by decide)
theorem def_keep {W wc A : World} {lo B i ba bk D : Nat} {L : LW} {ds : List Sd} {d : Sd} (h : LI W wc lo B L ds) (hi : i < ds.length) (hd : ds[i] = d) (f : Fr (fun k => OO B L ds i k ∨ k = d.D ∨ k = ba ∨ k = bk ∨ k = d.X) wc A) (h3 : wc.heap.size ≤ ba) (h4 : wc.heap.size ≤ bk) (hD : wc.heap[D]? = some (.deferred (some []))) : A.heap[D]? = some (.deferred (some [])) := by
 have hS : SideAt W wc lo d := hd ▸ h.sides _ (List.getElem_mem hi)
 have hnb : ∀ cur e, ¬ Blk wc D cur e := fun cur e hb => by
  have hb' : wc.heap[D]? = some (.cells cur e (0, 0)) := hb
  rw [hD] at hb'
  cases hb'
 have hlt : D < wc.heap.size := (Array.getElem?_eq_some_iff.1 hD).1
 rw [f.block D hlt (fun ho => ?_)]
 ·exact hD
 ·rcases ho with ho | ho | ho | ho | ho
  ·obtain ⟨_, _, c2, e2, hb2, he2⟩ := (h.toLJ.out hi hd).lt ho
   exact hnb _ _ hb2
  ·subst ho
   exact hnb _ _ hS.blk
  ·omega
  ·omega
  ·subst ho
   exact hnb _ _ hS.pair.at_.mem.blk
structure GoFx (w : World) (B b3 b5 bm bw : Nat) (o : OpV) (mst : Nat) (v : Value) (vs : List Value) (xss : List (List Nat)) : Prop where
 bx : GoBx w B b3 b5 o
 m : Blk w bm #[.int .i64 (mst : Int)] 3
 wb : Blk w bw #[v] 26
 row : Row w v 22 vs
 len : vs.length = xss.length
 each : ∀ j, j < xss.length → Row w (vs.getD j undef) 3 (ints (xss.getD j []))
def GoK (b3 b5 bm bw : Nat) (v : Value) (vs : List Value) (xss : List (List Nat)) (k : Nat) : Prop := k = b3 ∨ k = b5 ∨ k = bm ∨ k = bw ∨ v.ownBlock = some k ∨ ∃ j, j < xss.length ∧ (vs.getD j undef).ownBlock = some k
theorem GoFx.fr {S : Nat → Prop} {w w' : World} {B b3 b5 bm bw mst : Nat} {o : OpV} {v : Value} {vs : List Value} {xss : List (List Nat)} (h : GoFx w B b3 b5 bm bw o mst v vs xss) (f : Fr S w w') (hn : ∀ k, GoK b3 b5 bm bw v vs xss k → ¬ S k) : GoFx w' B b3 b5 bm bw o mst v vs xss :=
 ⟨h.bx.fr f (hn _ (.inl rfl)) (hn _ (.inr (.inl rfl))), h.m.fr f (hn _ (.inr (.inr (.inl rfl)))), h.wb.fr f (hn _ (.inr (.inr (.inr (.inl rfl))))), h.row.fr f (fun k hk => hn k (.inr (.inr (.inr (.inr (.inl hk)))))), h.len, fun j hj => (h.each j hj).fr f (fun k hk => hn k (.inr (.inr (.inr (.inr (.inr ⟨j, hj, hk⟩))))))⟩
theorem GoFx.nw {w w' : World} {B b3 b5 bm bw mst : Nat} {o : OpV} {v : Value} {vs : List Value} {xss : List (List Nat)} (h : GoFx w B b3 b5 bm bw o mst v vs xss) (f : Nw w w') : GoFx w' B b3 b5 bm bw o mst v vs xss := h.fr f (fun _ _ x => x)
theorem solN_size (d : List Nat) (bs : List Tb) : ∀ m l x, x ∈ solN d bs m l → x.length = l.length + m
 | 0, l, x, hx => by
  obtain rfl := List.mem_singleton.1 hx
  rfl
 | m + 1, l, x, hx => by
  unfold solN at hx
  obtain ⟨v, _, hx⟩ := List.mem_flatMap.1 hx
  split at hx
  ·have := solN_size d bs m (l ++ [v]) x hx
   rw [List.length_append, List.length_singleton] at this
   omega
  ·cases hx
end Go.Proofs.YtkjfpdfkcfgfkaaGreat

namespace Go.Proofs.YtkjfpdfkcfgfkaaGreat
open Go.RowKit Go.Shelf
attribute [local go_sem] Oper.semAt_some

def hasB (ops : Array Oper) (i : Nat) (d : Option Tmp) : Bool := decide (i < ops.size) && decide ((opAt ops i).dst = d)
theorem enterO {P : Program} {Q : Exit → Act → World → Prop} {ops : Array Oper} {i : Nat} {d : Option Tmp} {a : Act} {w w' : World} {f : FuncId} {args : Array Value} {K : Act → World → Prop} (hB : hasB ops i d = true) (hw : Region.wanted (opAt ops i) (yielded ops a.tmps) = true)
  (hr : (execOp a.eval (opAt ops i)).run P w = .ok (.enter f args) w') (h : Calls P f args w' (fun e w'' => ∃ v, e = .returned v ∧ K (a.put d v) w'')) : wpOp P ops Q i K a w := by
 simp only [hasB, Bool.and_eq_true, decide_eq_true_eq] at hB
 obtain ⟨h4, h5⟩ := hB
 subst h5
 exact op_enter (opAt_of h4) hw hr h
theorem valueO {P : Program} {Q : Exit → Act → World → Prop} {ops : Array Oper} {i : Nat} {d : Option Tmp} {a : Act} {w w' : World} {v : Value} {K : Act → World → Prop} (hB : hasB ops i d = true) (hw : Region.wanted (opAt ops i) (yielded ops a.tmps) = true)
  (hr : (execOp a.eval (opAt ops i)).run P w = .ok (.value v) w') (h : K (a.put d v) w') : wpOp P ops Q i K a w := by
 simp only [hasB, Bool.and_eq_true, decide_eq_true_eq] at hB
 obtain ⟨h4, h5⟩ := hB
 subst h5
 exact op_value (opAt_of h4) hw hr h
def goTmps (xs : Nat → Value) (D b3 b5 : Nat) (sq : Value) (t : Int) : Array Value := #[xs 0, .pointer (some ⟨D, 0, none⟩), xs 2, .pointer (some ⟨b3, 0, none⟩), xs 4, .pointer (some ⟨b5, 0, none⟩), xs 6, sq, xs 8, xs 9, .int .i64 t, xs 11, xs 12, xs 13, xs 14, xs 15, xs 16, xs 17, xs 18, xs 19, xs 20, xs 21, xs 22, xs 23, xs 24, xs 25, xs 26, xs 27, xs 28, xs 29, xs 30, xs 31, xs 32, xs 33, xs 34, xs 35, xs 36, xs 37, xs 38, xs 39, xs 40, xs 41, xs 42, xs 43, xs 44, xs 45, xs 46, xs 47, xs 48, xs 49, xs 50, xs 51, xs 52, xs 53, xs 54, xs 55, xs 56, xs 57, xs 58, xs 59, xs 60, xs 61, xs 62, xs 63, xs 64, xs 65, xs 66, xs 67, xs 68, xs 69, xs 70, xs 71, xs 72, xs 73, xs 74, xs 75, xs 76, xs 77, xs 78, xs 79, xs 80, xs 81, xs 82, xs 83, xs 84, xs 85, xs 86, xs 87, xs 88, xs 89, xs 90, xs 91, xs 92, xs 93, xs 94, xs 95, xs 96, xs 97, xs 98, xs 99, xs 100, xs 101, xs 102, xs 103, xs 104, xs 105, xs 106, xs 107, xs 108, xs 109, xs 110, xs 111, xs 112, xs 113, xs 114, xs 115, xs 116, xs 117, xs 118, xs 119, xs 120, xs 121, xs 122, xs 123, xs 124, xs 125, xs 126, xs 127, xs 128, xs 129, xs 130, xs 131, xs 132, xs 133, xs 134, xs 135, xs 136, xs 137, xs 138, xs 139, xs 140, xs 141, xs 142, xs 143, xs 144, xs 145, xs 146, xs 147, xs 148, xs 149, xs 150, xs 151, xs 152, xs 153, xs 154, xs 155, xs 156, xs 157, xs 158, xs 159, xs 160, xs 161, xs 162, xs 163, xs 164, xs 165]
theorem goTmps_mk {T : Array Value} {D b3 b5 : Nat} {sq : Value} {t : Int} (h : T = goTmps (fun k => T.getD k undef) D b3 b5 sq t) : ∃ xs, T = goTmps xs D b3 b5 sq t := ⟨_, h⟩
noncomputable def goiR8 : Array Oper := regOps Tryz.f34 8
noncomputable def goiR19 : Array Oper := regOps Tryz.f34 19
noncomputable def goiR33 : Array Oper := regOps Tryz.f34 33

set_option maxHeartbeats 6400000 in
set_option maxRecDepth 1000000 in
theorem going_any (W : World) (lo B : Nat) (L : LW) (ds : List Sd) (i : Nat) (d : Sd) (o : OpV) (F M : List OpV) (w : World) (h : LI W w lo B L ds) (hi : i < ds.length) (hget : ds[i] = d) (hn2 : ds.length ≤ 2) (ho : OpOk W o) (hN : NestAt W o F M) (h4 : L.nums.length % 4 = 0)
  (hrn : L.nums.length + 4800 * goCost o F M ≤ 68719476736) (hrt : L.turned.length + goCost o F M ≤ 8388608) (hrr : L.rows.length + goCost o F M ≤ 8388608) :
  Calls Tryz.prog 34 #[.pointer (some ⟨B, 0, none⟩), .pointer (some ⟨d.D, 0, none⟩), .agg o.cells] w fun e w' => e = .returned (.bool true) ∧ ∃ L' ds', GoEnd W w' lo B ds.length L L' ds' (4800 * goCost o F M) (goCost o F M) := by
 refine (calls_marksR (R := fun v w' => v = .bool true ∧ ∃ L' ds', GoEnd W w' lo B ds.length L L' ds' (4800 * goCost o F M) (goCost o F M)) Tryz.func34 rfl ?_).mono (fun e w' ⟨v, he, hv, hp⟩ => ⟨by rw [he, hv], hp⟩)
 simp only [Tryz.ntmps34, List.size_toArray, List.length_cons, List.length_nil, Nat.reduceAdd, Nat.reduceSub, Array.replicate_succ, Array.replicate_zero, List.push_toArray, List.append_toArray, List.nil_append, List.cons_append]
 obtain ⟨D0, hD0⟩ : ∃ D0, D0 = d.D := ⟨_, rfl⟩
 obtain ⟨X0, hX0⟩ : ∃ X0, X0 = d.X := ⟨_, rfl⟩
 rw [← hD0]
 obtain ⟨b3, hb3⟩ : ∃ b3, b3 = w.heap.size := ⟨_, rfl⟩
 obtain ⟨b5, hb5⟩ : ∃ b5, b5 = w.heap.size + 1 := ⟨_, rfl⟩
 obtain ⟨V, hV⟩ : ∃ V, V = (w.alloc (.cells #[.pointer (some ⟨B, 0, none⟩)] 24)).alloc (.cells o.cells 54) := ⟨_, rfl⟩
 have hfV : Nw w V := by rw [hV]; exact ((Fr.refl _ w).alloc _).alloc _
 have hG : GoBx V B b3 b5 o := by
  have h1 : Blk (w.alloc (.cells #[.pointer (some ⟨B, 0, none⟩)] 24)) w.heap.size #[.pointer (some ⟨B, 0, none⟩)] 24 := Blk.new _ _ _
  have h2 := Blk.new (w.alloc (.cells #[.pointer (some ⟨B, 0, none⟩)] 24)) o.cells 54
  rw [show (w.alloc (.cells #[.pointer (some ⟨B, 0, none⟩)] 24)).heap.size = w.heap.size + 1 from by simp] at h2
  rw [hV, hb3, hb5]
  exact ⟨h1.alloc _, h2⟩
 have hLV : LI W V lo B L ds := h.nw hfV
 have hS : SideAt W V lo d := hget ▸ hLV.sides _ (List.getElem_mem hi)
 have x0 : V.cell? ⟨D0, 0, none⟩ = some (.pointer (some ⟨X0, 0, none⟩)) := by rw [hD0, hX0]; exact hS.blk.cell 0
 have hDl : D0 < V.heap.size := by rw [hD0]; exact hS.blk.lt
 have Hcall := hd (solutions_any X0 V)
 have heqn : ∀ w' : World, (binOp .eql 50 (.func (.func 77) #[.pointer (some ⟨X0, 0, none⟩)] #[]) .nilFunc).run Tryz.prog w' = .ok (.bool false) w' := fun w' => by kernel_rfl
 have HLV := hd hLV
 have HG := hd hG
 have Hget := hd hget
 have HDX := hd (And.intro hD0 hX0)
 obtain ⟨fo, fc, hfv, hF⟩ := hN.f
 obtain ⟨mo, mc, hmv, hM, hMs⟩ := hN.m
 have HMs := hd hMs
 have HF := hd hF
 have HM := hd hM
 have Hfv := hd hfv
 have Hmv := hd hmv
 have Ho := hd ho
 obtain ⟨gc, hgc⟩ : ∃ gc, goCost o F M = gc := ⟨_, rfl⟩
 have Hgc := hd hgc
 rw [hgc] at hrn hrt hrr ⊢
 have HR := hd (And.intro hrn (And.intro hrt hrr))
 have H4 := hd h4
 obtain ⟨RR, hRR⟩ : ∃ RR : Value → World → Prop, RR = fun v w' => v = .bool true ∧ ∃ L' ds', GoEnd W w' lo B ds.length L L' ds' (4800 * gc) gc := ⟨_, rfl⟩
 rw [← hRR]
 have HRR := hd hRR
 clear hMs hD0 hX0 h hget hLV hS hG hfV hF hM hfv hmv hN ho hgc hrn hrt hrr h4 hRR
 go_upto_region 1 with fail
 rw [← hV, ← hb5, ← hb3]
 clear hV hb3 hb5
 go_upto_region 4 with (go_at_call 50; refine Hcall.out.mono ?_; rintro e w1 ⟨rfl, rfl⟩)
 have hFl := opsCost_len F
 have hgcs : opCost o + opsCost F + 2 * opsCost M = gc := Hgc.out
 have HSx : Hid (∃ hi : i < ds.length, ds[i].D = D0 ∧ ds[i].X = X0) := ⟨hi, by rw [Hget.out, HDX.out.1], by rw [Hget.out, HDX.out.2]⟩
 have HE0 : Hid (GoEnd W w1 lo B ds.length L L ds (4 * 0) (opsCost (F.take 0))) := ⟨HLV.out, rfl, by omega, by omega, by omega, H4.out⟩
 have hcF := opsCost_le F
 have HcF := hd hcF
 have hFb : F.length ≤ 8388608 := by have := HR.out.2.1; omega
 clear x0 hDl Hcall heqn hcF
 go_wp2_with fail
 go_loopw [8, 9] (fun v _ wr => ∃ (k : Nat) (L' : LW) (ds' : List Sd), k ≤ F.length ∧ v = .int .i64 (k : Int) ∧ Hid (GoEnd W wr lo B ds.length L L' ds' (4 * k) (opsCost (F.take k))) ∧ Hid (∃ hi : i < ds'.length, ds'[i].D = D0 ∧ ds'[i].X = X0) ∧ Hid (GoBx wr B b3 b5 o)) (fun v _ _ => F.length - (intOf v).toNat)
 case atStart => exact ⟨0, L, ds, Nat.zero_le _, rfl, HE0, HSx, HG⟩
 case round =>
  clear HE0 HSx HG HLV
  obtain ⟨k, L', ds', hk, rfl, HE, HS, HG⟩ := hrel
  have c8 : wr.cell? ⟨b5, 8, none⟩ = some (.slice fo F.length fc) := (HG.out.k5.cell 8).trans (by rw [← Hfv.out]; rfl)
  have c3 : wr.cell? ⟨b3, 0, none⟩ = some (.pointer (some ⟨B, 0, none⟩)) := HG.out.k3.cell 0
  have hb5l := HG.out.k5.lt
  have hb3l := HG.out.k3.lt
  by_cases hlt : k < F.length
  ·have hdk : (k : Int) < (F.length : Int) := by omega
   obtain ⟨ob, oo, hoe, hobW, hoc, hok⟩ := HF.out k hlt
   have HcW := hd (show ∀ w', Nw W w' → ∀ c, c < 10 → w'.cell? ⟨ob, oo + k * 10 + c, none⟩ = (F.getD k op0).cells[c]? from fun w' f c hc => (f.cell hobW (fun x => x)).trans (hoc c hc))
   have hct := opsCost_take F k hlt
   have hcl := HcF.out (k + 1)
   have hcl0 := HcF.out k
   obtain ⟨op, hop⟩ : ∃ op, F.getD k op0 = op := ⟨_, rfl⟩
   rw [hop] at HcW hok hct
   have c0 : wr.cell? ⟨ob, oo + k * 10, none⟩ = some (.int .i64 op.kind) := HcW.out wr HE.out.li.env.nw 0 (by omega)
   have hobl : ob < wr.heap.size := Nat.lt_of_lt_of_le hobW HE.out.li.env.nw.size
   have Hok := hd hok
   have Hct := hd hct
   subst hoe
   clear hoc hop hok hct
   have q1 := HE.out.a
   have q2 := HE.out.b
   have q3 := HE.out.r
   by_cases hk7 : op.kind ≤ 7
   ·have hdm : ¬ ((7 : Int) < op.kind) := by omega
    obtain ⟨ix, hix⟩ : ∃ ix, (if op.which then L'.ss.length - 1 else 0) = ix := ⟨_, rfl⟩
    have hlen := HE.out.len
    have hssl : L'.ss.length = ds.length := by rw [HE.out.li.ss, List.length_map, hlen]
    have hixn : ix < ds'.length := by
     rw [← hix, hlen, hssl]
     split <;> omega
    obtain ⟨dx, hdx⟩ : ∃ dx, dx = ds'[ix]'hixn := ⟨_, rfl⟩
    have hssD : L'.ss.getD ix undef = .pointer (some ⟨dx.D, 0, none⟩) := by
     rw [HE.out.li.ss, hdx]
     simp [List.getD, hixn]
    have Hoth := hd (other_any lo B L' op wr.drew (HE.out.li.law.nw ((Fr.refl _ wr).drew)) (by rw [hssl]; omega) (by rw [hssl]; omega))
    rw [hix, hssD] at Hoth
    have HixN := hd hixn
    have Hdx := hd (show ds'[ix]'HixN.out = dx from hdx.symm)
    have hroom : LRoom L' := ⟨by have := HR.out.1; omega, by have := HR.out.2.1; omega, by have := HR.out.2.2; omega, HE.out.four⟩
    have Hroom := hd hroom
    clear hroom hix hssl hixn hssD hdx hlen
    go_wp2_with fail
    have hK0 : Nw wr wr.drew := (Fr.refl _ wr).drew
    refine region_H goiR8 15 (fun w'' => Nw W w'' ∧ w''.cell? ⟨b3, 0, none⟩ = some (.pointer (some ⟨B, 0, none⟩)) ∧ w''.cell? ⟨b5, 8, none⟩ = some (.slice (some ⟨ob, oo, none⟩) F.length fc)) (by kernel_rfl) (by kernel_rfl) (by kernel_rfl) ?_
    have hK : Nw W wr.drew ∧ wr.drew.cell? ⟨b3, 0, none⟩ = some (.pointer (some ⟨B, 0, none⟩)) ∧ wr.drew.cell? ⟨b5, 8, none⟩ = some (.slice (some ⟨ob, oo, none⟩) F.length fc) := ⟨HE.out.li.env.nw.drew, c3, c8⟩
    refine take_at (i := 0) (d := some 40) (v := .pointer (some ⟨B, 0, none⟩)) (by kernel_rfl) (by kernel_rfl) (fun _ _ _ h => h) (fun w'' hS => exec_load 24 (.tmp 3) (by kernel_rfl) (by kernel_rfl) (by kernel_rfl) hS.2.1) hK ?_
    refine take_at (i := 1) (d := some 41) (v := .pointer (some ⟨B, 0, none⟩)) (by kernel_rfl) (by kernel_rfl) (fun _ _ _ h => h) (fun w'' hS => exec_load 24 (.tmp 3) (by kernel_rfl) (by kernel_rfl) (by kernel_rfl) hS.2.1) hK ?_
    refine take_at (i := 2) (d := some 42) (v := .pointer (some ⟨b5, 8, none⟩)) (by kernel_rfl) (by kernel_rfl) (fun _ _ _ h => h) (fun w'' hS => by kernel_rfl) hK ?_
    refine take_at (i := 3) (d := some 43) (v := .slice (some ⟨ob, oo, none⟩) F.length fc) (by kernel_rfl) (by kernel_rfl) (fun _ _ _ h => h) (fun w'' hS => exec_load 23 (.tmp 42) (by kernel_rfl) (by kernel_rfl) (by kernel_rfl) hS.2.2) hK ?_
    refine take_at (i := 4) (d := some 44) (v := .int .i64 (k : Int)) (by kernel_rfl) (by kernel_rfl) (fun _ _ _ h => h) (fun w'' hS => by kernel_rfl) hK ?_
    refine take_at (i := 5) (d := some 45) (v := .pointer (some ⟨ob, oo + k * 10, none⟩)) (by kernel_rfl) (by kernel_rfl) (fun _ _ _ h => h) (fun w'' hS => exec_index10 (i := k) (n := F.length) (cap := fc) 23 54 (.tmp 43) (.tmp 44) (by kernel_rfl) (by kernel_rfl) (by kernel_rfl) hlt (by kernel_rfl) (by kernel_rfl)) hK ?_
    refine take_at (i := 6) (d := some 46) (v := .agg op.cells) (by kernel_rfl) (by kernel_rfl) (fun _ _ _ h => h) (fun w'' hS => exec_load10 54 (.tmp 45) (by kernel_rfl) (by kernel_rfl) (by kernel_rfl) (by kernel_rfl) (HcW.out w'' hS.1)) hK ?_
    refine take_at (i := 8) (d := some 48) (v := .pointer (some ⟨b5, 8, none⟩)) (by kernel_rfl) (by kernel_rfl) (fun _ _ _ h => h) (fun w'' hS => by kernel_rfl) hK ?_
    refine take_at (i := 9) (d := some 49) (v := .slice (some ⟨ob, oo, none⟩) F.length fc) (by kernel_rfl) (by kernel_rfl) (fun _ _ _ h => h) (fun w'' hS => exec_load 23 (.tmp 48) (by kernel_rfl) (by kernel_rfl) (by kernel_rfl) hS.2.2) hK ?_
    refine take_at (i := 10) (d := some 50) (v := .int .i64 (k : Int)) (by kernel_rfl) (by kernel_rfl) (fun _ _ _ h => h) (fun w'' hS => by kernel_rfl) hK ?_
    refine take_at (i := 11) (d := some 51) (v := .pointer (some ⟨ob, oo + k * 10, none⟩)) (by kernel_rfl) (by kernel_rfl) (fun _ _ _ h => h) (fun w'' hS => exec_index10 (i := k) (n := F.length) (cap := fc) 23 54 (.tmp 49) (.tmp 50) (by kernel_rfl) (by kernel_rfl) (by kernel_rfl) hlt (by kernel_rfl) (by kernel_rfl)) hK ?_
    refine take_at (i := 12) (d := some 52) (v := .agg op.cells) (by kernel_rfl) (by kernel_rfl) (fun _ _ _ h => h) (fun w'' hS => exec_load10 54 (.tmp 51) (by kernel_rfl) (by kernel_rfl) (by kernel_rfl) (by kernel_rfl) (HcW.out w'' hS.1)) hK ?_
    refine enter_at (i := 7) (d := some 47) (w' := wr.drew) (f := 18) (args := #[.pointer (some ⟨B, 0, none⟩), .agg op.cells]) (by kernel_rfl) (by kernel_rfl) (by kernel_rfl) ?_
    refine Hoth.out.mono ?_
    rintro e w2 ⟨rfl, hf2⟩
    have hf02 : Nw wr w2 := hK0.trans hf2 (fun _ x => x.elim)
    have hE2 := HE.out.nw hf02
    have hG2 := HG.out.nw hf02
    refine ⟨_, rfl, ⟨hE2.li.env.nw, hG2.k3.cell 0, (hG2.k5.cell 8).trans (by rw [← Hfv.out]; rfl)⟩, ?_⟩
    refine enter_at (i := 13) (d := some 53) (w' := w2) (f := 35) (args := #[.pointer (some ⟨B, 0, none⟩), .pointer (some ⟨dx.D, 0, none⟩), .agg op.cells]) (by kernel_rfl) (by kernel_rfl) (by kernel_rfl) ?_
    have hLS2 : LS W w2 lo B L' dx := Hdx.out ▸ hE2.li.one ix HixN.out
    have hfree2 : dx.bz = false := Hdx.out ▸ hE2.li.free _ (List.getElem_mem HixN.out)
    refine (plain_any W lo B L' dx op w2 hLS2 hfree2 Hok.out Hroom.out).mono ?_
    rintro e w3 ⟨rfl, L2, d2, hLS3, hst3, hco3⟩
    have hLI3 := hE2.li.step ix HixN.out hLS3 (Hdx.out.symm ▸ hst3)
    have hG3 := hG2.step hLS2 hst3
    have hK3 : Nw W w3 ∧ w3.cell? ⟨b3, 0, none⟩ = some (.pointer (some ⟨B, 0, none⟩)) ∧ w3.cell? ⟨b5, 8, none⟩ = some (.slice (some ⟨ob, oo, none⟩) F.length fc) := ⟨hLI3.env.nw, hG3.k3.cell 0, (hG3.k5.cell 8).trans (by rw [← Hfv.out]; rfl)⟩
    refine ⟨_, rfl, hK3, ?_⟩
    refine value_at (i := 14) (d := some 9) (v := .bool true) (w' := w3) (by kernel_rfl) (by kernel_rfl) (by kernel_rfl) hK3 ?_
    refine wpAnyH_done (by kernel_rfl) ?_ _
    simp only [Act.put, List.setIfInBounds_toArray, List.set_cons_zero, List.set_cons_succ]
    have r1 := hco3.a
    have r2 := hco3.b
    have r3 := hco3.c
    have r4 := Hct.out
    have HE3 : Hid (GoEnd W w3 lo B ds.length L L2 (ds'.set ix d2) (4 * (k + 1)) (opsCost (F.take (k + 1)))) := ⟨hLI3, by rw [List.length_set]; exact HE.out.len, by omega, by omega, by omega, by rw [hst3.four]; exact HE.out.four⟩
    have HS3 : Hid (∃ hi : i < (ds'.set ix d2).length, (ds'.set ix d2)[i].D = D0 ∧ (ds'.set ix d2)[i].X = X0) := by
     obtain ⟨hi', s1, s2⟩ := HS.out
     refine ⟨by rw [List.length_set]; exact hi', ?_⟩
     by_cases e : ix = i
     ·subst e
      rw [List.getElem_set_self, hst3.dd, hst3.lts.2.2, ← Hdx.out]
      exact ⟨s1, s2⟩
     ·rw [List.getElem_set_ne e]
      exact ⟨s1, s2⟩
    have HG3 := hd hG3
    clear hLI3 hLS3 hst3 hco3 r1 r2 r3 r4 hfree2 hLS2 hE2 hG2 hG3 hK hK0 hK3 hf2 hf02 q1 q2 q3 Hroom Hdx HixN Hoth c0 c3 c8 hb3l hb5l hobl HE HG HS
    go_wp2_with fail
    exact ⟨⟨k + 1, L2, ds'.set ix d2, by omega, by simp, HE3, HS3, HG3⟩, by simp [intOf]; omega⟩
   ·have hdm : (7 : Int) < op.kind := by omega
    go_wp2_with fail
    have r4 := Hct.out
    exact ⟨⟨k + 1, L', ds', by omega, by simp, ⟨HE.out.li, HE.out.len, by omega, by omega, by omega, HE.out.four⟩, HS, HG⟩, by simp [intOf]; omega⟩
  ·obtain rfl : F.length = k := by omega
   have hdk : ¬ ((F.length : Int) < (F.length : Int)) := by omega
   have HE1 := HE.out
   rw [List.take_length] at HE1
   have HE2 := hd HE1
   clear HE HE1
   go_wp2_with fail
   clear HcF HF Hfv
   refine wp_loop (fun a wq => ∃ (t : Nat) (Ds : List Nat) (L2 : LW) (ds2 : List Sd), t ≤ 2 ∧ (∃ xs, a.tmps = goTmps xs D0 b3 b5 (.func (.func 77) #[.pointer (some ⟨X0, 0, none⟩)] #[]) (t : Int)) ∧ a.defers = Ds.map mark ∧ Hid (GoEnd W wq lo B ds.length L L2 ds2 (4 * F.length + 2400 * t) (opsCost F + t * opsCost M)) ∧ Hid (∃ hi : i < ds2.length, ds2[i].D = D0 ∧ ds2[i].X = X0) ∧ Hid (GoBx wq B b3 b5 o) ∧ Hid (Ds.Nodup ∧ ∀ D ∈ Ds, wq.heap[D]? = some (.deferred (some [])) ∧ lo ≤ D)) (fun a _ => 2 - (intOf (a.tmps.getD 10 undef)).toNat) ⟨0, [], L', ds', Nat.zero_le _, goTmps_mk (by kernel_rfl), rfl, ?start, HS, HG, hd ⟨List.nodup_nil, fun D hD => absurd hD (List.not_mem_nil)⟩⟩ ?turn
   case start => exact ⟨HE2.out.li, HE2.out.len, by have := HE2.out.a; omega, by have := HE2.out.b; omega, by have := HE2.out.r; omega, HE2.out.four⟩
   case turn =>
    clear HE2 HS HG c3 c8 hb3l hb5l
    rintro ⟨tmps, dfs⟩ wq ⟨t, Ds, L2, ds2, ht, ⟨xs, hxs⟩, hdf, HE, HS, HG, HDs⟩
    dsimp only at hxs hdf
    subst hxs
    subst hdf
    obtain ⟨hi2, hD2, hX2⟩ := HS.out
    obtain ⟨dq, hdq⟩ : ∃ dq, ds2[i]'hi2 = dq := ⟨_, rfl⟩
    rw [hdq] at hD2 hX2
    simp only [goTmps]
    by_cases ht2 : t < 2
    ·have hdt : (t : Int) < 2 := by omega
     have hSq : SideAt W wq lo dq := hdq ▸ HE.out.li.sides _ (List.getElem_mem hi2)
     have hltq : dq.lt = .nilFunc ∨ Clo dq.lt dq.X := hdq ▸ HE.out.li.lts _ (List.getElem_mem hi2)
     have e1 : wq.cell? ⟨D0, 1, none⟩ = some (.pointer (some ⟨dq.Y, 0, none⟩)) := by rw [← hD2]; exact hSq.blk.cell 1
     have e4 : wq.cell? ⟨D0, 4, none⟩ = some dq.lt := by rw [← hD2]; exact hSq.blk.cell 4
     have hDl : D0 < wq.heap.size := by rw [← hD2]; exact hSq.blk.lt
     rw [hX2] at hltq
     have Hltq := hd hltq
     have Hdq := hd hdq
     have HD2 := hd hD2
     have HX2 := hd hX2
     have HSq := hd hSq
     clear hltq hdq hD2 hX2 hSq
     go_upto_region 14 with fail
     go_cut [68] from 56 to 165 (fun cv wx => (∃ b, cv = .bool b ∧ (b = true → dq.lt = .func (.func 77) #[.pointer (some ⟨X0, 0, none⟩)] #[])) ∧ wx = wq)
     case first =>
      obtain rfl | rfl : t = 0 ∨ t = 1 := by omega
      ·go_wp2_with fail
       go_meet
       exact ⟨⟨_, rfl, fun h => by cases h⟩, rfl⟩
      ·rcases Hltq.out with hl | hl
       ·rw [hl] at e4
        have hnq : ∀ w' : World, (binOp .neq 50 .nilFunc .nilFunc).run Tryz.prog w' = .ok (.bool false) w' := fun w' => by kernel_rfl
        go_wp2_with fail
        go_meet
        exact ⟨⟨_, rfl, fun h => by cases h⟩, rfl⟩
       ·have hl' : dq.lt = .func (.func 77) #[.pointer (some ⟨X0, 0, none⟩)] #[] := hl
        rw [hl'] at e4
        have hnq : ∀ w' : World, (binOp .neq 50 (.func (.func 77) #[.pointer (some ⟨X0, 0, none⟩)] #[]) .nilFunc).run Tryz.prog w' = .ok (.bool true) w' := fun w' => by kernel_rfl
        go_wp2_with fail
        go_meet
        exact ⟨⟨_, rfl, fun _ => hl'⟩, rfl⟩
     case rest =>
      obtain ⟨⟨bt, rfl, hbt⟩, rfl⟩ := hcut
      have Hbt := hd hbt
      clear hbt
      go_upto_if 68 with fail
      go_cut [7] from 69 to 165 (fun sv wx => sv = .func (.func 77) #[.pointer (some ⟨X0, 0, none⟩)] #[] ∧ wx = wc)
      case first =>
       cases bt with
       | false =>
        go_wp2_with fail
        go_meet
        exact ⟨rfl, rfl⟩
       | true =>
        rw [Hbt.out rfl] at e4
        go_wp2_with fail
        go_meet
        exact ⟨rfl, rfl⟩
      case rest =>
      obtain ⟨rfl, rfl⟩ := hcut
      obtain ⟨mst, hmst⟩ : ∃ mst : Nat, (if 0 ≤ o.a then min o.a.toNat 300 else 300) = mst := ⟨_, rfl⟩
      have hm3 : mst ≤ 300 := by
       rw [← hmst]
       split <;> omega
      have Hmst := hd hmst
      have c1 : wc.cell? ⟨b5, 1, none⟩ = some (.int .i64 o.a) := HG.out.k5.cell 1
      have hb5l := HG.out.k5.lt
      clear hmst
      go_upto_region 17 with fail
      obtain ⟨bm, hbm⟩ : ∃ bm, bm = wc.heap.size := ⟨_, rfl⟩
      obtain ⟨wm, hwm⟩ : ∃ wm, wm = wc.alloc (.cells #[.int .i64 300] 3) := ⟨_, rfl⟩
      have hfm : Nw wc wm := by rw [hwm]; exact (Fr.refl _ wc).alloc _
      have hbM : Blk wm bm #[.int .i64 300] 3 := by rw [hwm, hbm]; exact Blk.new _ _ _
      have m1 : wm.cell? ⟨b5, 1, none⟩ = some (.int .i64 o.a) := (hfm.cell hb5l (fun x => x)).trans c1
      have hb5m := Nat.lt_of_lt_of_le hb5l hfm.size
      have m0 : wm.cell? ⟨bm, 0, none⟩ = some (.int .i64 300) := hbM.cell 0
      have m0f := hbM.free 0
      have m0l := hbM.lt
      rw [← hwm, ← hbm]
      have HbM := hd hbM
      have Hfm := hd hfm
      have Hbm := hd hbm
      clear hwm hbm hbM hfm
      go_upto_if 75 with fail
      go_cut [] from 73 to 165 (fun wx => Hid (Blk wx bm #[.int .i64 (mst : Int)] 3) ∧ Hid (Nw wc wx))
      case first =>
       by_cases ha : 0 ≤ o.a
       ·go_wp2_with fail
        all_goals go_meet
        all_goals refine ⟨hd ?_, hd (Hfm.out.setCell _ _ (.inr (by have := Hbm.out; show wc.heap.size ≤ bm; omega)))⟩
        all_goals first
         | (rw [show (mst : Int) = 300 from by rw [← Hmst.out, if_pos ha]; omega]; exact HbM.out.set 0 _)
         | (rw [show (mst : Int) = o.a from by rw [← Hmst.out, if_pos ha]; omega]; exact HbM.out.set 0 _)
       ·have ha' : ¬ ((0 : Int) ≤ o.a) := ha
        go_wp2_with fail
        go_meet
        refine ⟨?_, Hfm⟩
        have : mst = 300 := by rw [← Hmst.out, if_neg (by omega)]
        rw [this]
        exact HbM
      case rest =>
       obtain ⟨HbM1, Hfm1⟩ := hcut
       rename World => wn
       obtain ⟨sols, hsols⟩ : ∃ sols, solN dq.s.d dq.s.bs dq.zs.length [] = sols := ⟨_, rfl⟩
       have Hso := hd (show ∀ w1, Nw wn w1 → Calls Tryz.prog 51 #[.pointer (some ⟨dq.Y, 0, none⟩), .slice none 0 0, .int .i64 ((mst + 1 : Nat) : Int)] w1 (fun e w' => ∃ v vs, e = .returned v ∧ SolRow w1 w' v vs (sols.take (mst + 1))) from fun w1 f1 => by
        have hS1 := (HSq.out.nw Hfm1.out).nw f1
        have := refSol_any W lo dq.Y dq.zs dq.R dq.s.d hS1.pair.doms dq.zs.length [] (.slice none 0 0) (mst + 1) w1 (by simp) ((HE.out.li.env.step Hfm1.out).step f1).nw hS1.pair.ref (.inl ⟨rfl, rfl⟩) (by omega)
        rw [hS1.pair.sols, hsols] at this
        exact this)
       have Hsols := hd hsols
       have n1 : wn.cell? ⟨D0, 1, none⟩ = some (.pointer (some ⟨dq.Y, 0, none⟩)) := (Hfm1.out.cell hDl (fun x => x)).trans e1
       have hDn := Nat.lt_of_lt_of_le hDl Hfm1.out.size
       have n2 : wn.cell? ⟨bm, 0, none⟩ = some (.int .i64 (mst : Int)) := HbM1.out.cell 0
       have hbn := HbM1.out.lt
       clear hsols m1 hb5m m0 m0f m0l HbM Hfm e1 e4 c1
       go_upto_region 19 with fail
       go_cut [12] from 76 to 165 (fun wv wx => ∃ bw v vs, wv = .pointer (some ⟨bw, 0, none⟩) ∧ Hid (Blk wx bw #[v] 26) ∧ Hid (SolRow wn wx v vs (sols.take (mst + 1))) ∧ wn.heap.size ≤ bw)
       case first =>
        have hK0 : Nw wn wn.drew := (Fr.refl _ wn).drew
        refine region_H goiR19 9 (fun w'' => Nw wn w'') (by kernel_rfl) (by kernel_rfl) (by kernel_rfl) ?_
        refine take_at (i := 0) (d := some 79) (v := .pointer (some ⟨D0, 0, none⟩)) (by kernel_rfl) (by kernel_rfl) (fun _ _ _ h => h) (fun w'' hS => by kernel_rfl) hK0 ?_
        refine take_at (i := 1) (d := some 80) (v := .pointer (some ⟨D0, 0, none⟩)) (by kernel_rfl) (by kernel_rfl) (fun _ _ _ h => h) (fun w'' hS => by kernel_rfl) hK0 ?_
        refine take_at (i := 2) (d := some 81) (v := .pointer (some ⟨D0, 1, none⟩)) (by kernel_rfl) (by kernel_rfl) (fun _ _ _ h => h) (fun w'' hS => by kernel_rfl) hK0 ?_
        refine take_at (i := 3) (d := some 82) (v := .pointer (some ⟨dq.Y, 0, none⟩)) (by kernel_rfl) (by kernel_rfl) (fun _ _ _ h => h) (fun w'' hS => exec_load 46 (.tmp 81) (by kernel_rfl) (by kernel_rfl) (by kernel_rfl) ((hS.cell hDn (fun x => x)).trans n1)) hK0 ?_
        refine take_at (i := 4) (d := some 83) (v := .int .i64 (mst : Int)) (by kernel_rfl) (by kernel_rfl) (fun _ _ _ h => h) (fun w'' hS => exec_load 3 (.tmp 11) (by kernel_rfl) (by kernel_rfl) (by kernel_rfl) ((hS.cell hbn (fun x => x)).trans n2)) hK0 ?_
        refine take_at (i := 5) (d := some 84) (v := .int .i64 ((mst + 1 : Nat) : Int)) (by kernel_rfl) (by kernel_rfl) (fun _ _ _ h => h) (fun w'' hS => exec_add (mst : Int) 1 ((mst + 1 : Nat) : Int) (.tmp 83) (.const (.int .i64 1)) (by kernel_rfl) (by kernel_rfl) (by kernel_rfl) (by omega) (by omega)) hK0 ?_
        refine wpAnyH_all (rs := [6, 7]) (by kernel_rfl) (by simp) (fun j hj => ?_)
        have hj2 : j = 6 ∨ j = 7 := by simpa using hj
        rcases hj2 with rfl | rfl
        ·refine enterO (d := some 85) (w' := wn.drew) (f := 51) (args := #[.pointer (some ⟨dq.Y, 0, none⟩), .slice none 0 0, .int .i64 ((mst + 1 : Nat) : Int)]) (by kernel_rfl) (by kernel_rfl) (by kernel_rfl) ?_
         refine (Hso.out wn.drew hK0).mono ?_
         rintro e w2 ⟨v, vs, rfl, hS2⟩
         have hf2 := hK0.trans hS2.mine.nw (fun _ x => x.elim)
         refine ⟨_, rfl, hf2, ?_⟩
         have hal : Nw w2 (w2.alloc (.cells #[.slice none 0 0] 26)) := (Fr.refl _ w2).alloc _
         have hba : Blk (w2.alloc (.cells #[.slice none 0 0] 26)) w2.heap.size #[.slice none 0 0] 26 := Blk.new _ _ _
         have hf3 := hf2.trans hal (fun _ x => x.elim)
         have hv1 : v.oneCell' = true := by
          obtain ⟨so, sc, rfl, _⟩ := hS2.mine.row.form
          rfl
         refine value_at (i := 7) (d := some 12) (v := .pointer (some ⟨w2.heap.size, 0, none⟩)) (w' := w2.alloc (.cells #[.slice none 0 0] 26)) (by kernel_rfl) (by kernel_rfl) (by kernel_rfl) hf3 ?_
         have hfs : Fr (fun k => k = w2.heap.size) (w2.alloc (.cells #[.slice none 0 0] 26)) ((w2.alloc (.cells #[.slice none 0 0] 26)).setCell ⟨w2.heap.size, 0, none⟩ v) := (Fr.refl (fun k => k = w2.heap.size) _).setCell _ _ (.inl rfl)
         have hf4 : Nw wn ((w2.alloc (.cells #[.slice none 0 0] 26)).setCell ⟨w2.heap.size, 0, none⟩ v) := hf3.trans hfs (fun k hk => .inr (by have := hf2.size; omega))
         refine skip_at (i := 8) (d := none) (w' := (w2.alloc (.cells #[.slice none 0 0] 26)).setCell ⟨w2.heap.size, 0, none⟩ v) (by kernel_rfl) (by kernel_rfl) (exec_storeU (old := .slice none 0 0) 26 (.tmp 12) (.tmp 85) (by kernel_rfl) (by kernel_rfl) (by kernel_rfl) hv1 (by kernel_rfl) (hba.cell 0) (hba.free 0)) hf4 ?_
         refine wpAnyH_done (by kernel_rfl) ?_ _
         simp only [Act.put, List.setIfInBounds_toArray, List.set_cons_zero, List.set_cons_succ]
         have hS4 : SolRow wn ((w2.alloc (.cells #[.slice none 0 0] 26)).setCell ⟨w2.heap.size, 0, none⟩ v) v vs (sols.take (mst + 1)) := ((hS2.lower hK0).step hal).fr hfs hf4 (fun k cur e hb hk e' => by
          subst e'
          rcases hk with hk | hk
          ·rw [hk] at hb
           exact absurd (hb.inj hba).2 (by decide)
          ·obtain ⟨cur', hb', _⟩ := (hS2.mine.row.nw hal).blk hk
           exact absurd (hb'.inj hba).2 (by decide))
         have HS4 := hd hS4
         have Hb4 := hd (hba.set 0 v)
         have hle := hf2.size
         clear hS4 hS2 hba hfs hf4 hf3 hf2 hal hv1 hK0
         go_wp2_with fail
         go_meet
         exact ⟨w2.heap.size, v, vs, rfl, Hb4, HS4, hle⟩
        ·have hal : Nw wn (wn.drew.alloc (.cells #[.slice none 0 0] 26)) := hK0.alloc _
         have hba : Blk (wn.drew.alloc (.cells #[.slice none 0 0] 26)) wn.heap.size #[.slice none 0 0] 26 := Blk.new wn.drew _ _
         refine valueO (d := some 12) (w' := wn.drew.alloc (.cells #[.slice none 0 0] 26)) (v := .pointer (some ⟨wn.heap.size, 0, none⟩)) (by kernel_rfl) (by kernel_rfl) (by kernel_rfl) ⟨hal, ?_⟩
         refine enter_at (i := 6) (d := some 85) (w' := wn.drew.alloc (.cells #[.slice none 0 0] 26)) (f := 51) (args := #[.pointer (some ⟨dq.Y, 0, none⟩), .slice none 0 0, .int .i64 ((mst + 1 : Nat) : Int)]) (by kernel_rfl) (by kernel_rfl) (by kernel_rfl) ?_
         refine (Hso.out _ hal).mono ?_
         rintro e w2 ⟨v, vs, rfl, hS2⟩
         have hb2 := hba.nw hS2.mine.nw
         have hf2 := hal.trans hS2.mine.nw (fun _ x => x.elim)
         refine ⟨_, rfl, hf2, ?_⟩
         have hv1 : v.oneCell' = true := by
          obtain ⟨so, sc, rfl, _⟩ := hS2.mine.row.form
          rfl
         have hfs : Fr (fun k => k = wn.heap.size) w2 (w2.setCell ⟨wn.heap.size, 0, none⟩ v) := (Fr.refl (fun k => k = wn.heap.size) _).setCell _ _ (.inl rfl)
         have hf4 : Nw wn (w2.setCell ⟨wn.heap.size, 0, none⟩ v) := hf2.trans hfs (fun k hk => .inr (by omega))
         refine skip_at (i := 8) (d := none) (w' := w2.setCell ⟨wn.heap.size, 0, none⟩ v) (by kernel_rfl) (by kernel_rfl) (exec_storeU (old := .slice none 0 0) 26 (.tmp 12) (.tmp 85) (by kernel_rfl) (by kernel_rfl) (by kernel_rfl) hv1 (by kernel_rfl) (hb2.cell 0) (hb2.free 0)) hf4 ?_
         refine wpAnyH_done (by kernel_rfl) ?_ _
         simp only [Act.put, List.setIfInBounds_toArray, List.set_cons_zero, List.set_cons_succ]
         have hS4 : SolRow wn (w2.setCell ⟨wn.heap.size, 0, none⟩ v) v vs (sols.take (mst + 1)) := (hS2.lower hal).fr hfs hf4 (fun k cur e hb hk e' => by
          subst e'
          rcases hk with hk | hk
          ·rw [hk] at hb
           exact absurd (hb.inj hb2).2 (by decide)
          ·obtain ⟨cur', hb', _⟩ := hS2.mine.row.blk hk
           exact absurd (hb'.inj hb2).2 (by decide))
         have HS4 := hd hS4
         have Hb4 := hd (hb2.set 0 v)
         clear hS4 hS2 hba hb2 hfs hf4 hf2 hal hv1 hK0
         go_wp2_with fail
         go_meet
         exact ⟨wn.heap.size, v, vs, rfl, Hb4, HS4, Nat.le_refl _⟩
       case rest =>
        obtain ⟨bw, v, vs, rfl, HbW, HSr, hbwl⟩ := hcut
        rename World => wv
        have hfv := HSr.out.mine.nw
        have hfcv : Nw wc wv := Hfm1.out.trans hfv (fun _ x => x.elim)
        have hSv := HSq.out.nw hfcv
        have hbzq : dq.bz = false := Hdq.out ▸ HE.out.li.free _ (List.getElem_mem hi2)
        go_upto_region 22 with fail
        obtain ⟨ba, hba⟩ : ∃ ba, ba = wv.heap.size := ⟨_, rfl⟩
        obtain ⟨bk, hbk⟩ : ∃ bk, bk = wv.heap.size + 1 := ⟨_, rfl⟩
        obtain ⟨wz, hwz⟩ : ∃ wz, wz = (wv.alloc (.cells #[.int .i64 0] 3)).alloc (.cells #[.bool true] 4) := ⟨_, rfl⟩
        have hfz : Nw wv wz := by rw [hwz]; exact ((Fr.refl _ wv).alloc _).alloc _
        have hbA : Blk wz ba #[.int .i64 0] 3 := by rw [hwz, hba]; exact (Blk.new wv _ _).alloc _
        have hbK : Blk wz bk #[.bool true] 4 := by
         have h2 := Blk.new (wv.alloc (.cells #[.int .i64 0] 3)) #[.bool true] 4
         rw [show (wv.alloc (.cells #[.int .i64 0] 3)).heap.size = wv.heap.size + 1 from by simp] at h2
         rw [hwz, hbk]
         exact h2
        rw [← hwz, ← hbk, ← hba]
        have hSz := hSv.nw hfz
        have z2 : wz.cell? ⟨D0, 2, none⟩ = some (.bool false) := by rw [← HD2.out, ← hbzq]; exact hSz.blk.cell 2
        have z2f : wz.frozen? ⟨D0, 2, none⟩ = false := by rw [← HD2.out]; exact hSz.blk.free 2
        have hDz : D0 < wz.heap.size := by rw [← HD2.out]; exact hSz.blk.lt
        have hst := store_func (w := wz.setCell ⟨D0, 2, none⟩ (.bool true)) (a := ⟨D0, 3, none⟩) (old := dq.sq) (.func 77) #[.pointer (some ⟨X0, 0, none⟩)] #[] (by rw [← HD2.out]; exact (hSz.blk.set 2 (.bool true)).cell 3) (by rw [← HD2.out]; exact (hSz.blk.set 2 (.bool true)).free 3)
        have Hba := hd hba
        have Hbk := hd hbk
        have Hfz := hd hfz
        have HbA := hd hbA
        have HbK := hd hbK
        have HSz := hd hSz
        have Hbzq := hd hbzq
        have Hfv := hd hfv
        have Hfcv := hd hfcv
        clear hwz hba hbk hfz hbA hbK hSz hbzq hfv hfcv hSv
        go_wp2_with fail
        obtain ⟨wy, hwy⟩ : ∃ wy, wy = (wz.setCell ⟨D0, 2, none⟩ (.bool true)).setCell ⟨D0, 3, none⟩ (.func (.func 77) #[.pointer (some ⟨X0, 0, none⟩)] #[]) := ⟨_, rfl⟩
        rw [← hwy]
        obtain ⟨sq, hsq⟩ : ∃ sq : Value, sq = .func (.func 77) #[.pointer (some ⟨X0, 0, none⟩)] #[] := ⟨_, rfl⟩
        obtain ⟨hSt, hGP0, hAt, hC0, hfy⟩ := go_start (w1 := wy) (n := ds.length) (cn := L2.nums.length + 8 * 0) (ct := L2.turned.length + opsCost (M.take 0)) (cr := L2.rows.length + opsCost (M.take 0)) sq (HE.out.li.nw Hfcv.out) hi2 Hdq.out Hfz.out (Nat.le_of_eq Hba.out.symm) (by have := Hbk.out; omega) (by have := Hba.out; have := Hbk.out; omega) HbA.out HbK.out (by rw [hwy, HD2.out, hsq]) HE.out.len ⟨by omega, by omega, by omega, HE.out.four⟩
        have hya : wv.heap.size ≤ wy.heap.size := Nat.le_trans Hfz.out.size hfy.size
        have hcv := Hfcv.out.size
        have hK : ∀ k, GoK b3 b5 bm bw v vs (sols.take (mst + 1)) k → Fixd wy.heap.size (OO B L2 ds2 i) (dq.going sq) ba bk k := fun k hk => by
         have e1 := Hba.out
         have e2 := Hbk.out
         have e3 := Hbm.out
         have hmn := Hfm1.out.size
         have hnew : wc.heap.size ≤ k → k < wv.heap.size → Fixd wy.heap.size (OO B L2 ds2 i) (dq.going sq) ba bk k := fun h1 h2 => fix_new sq HE.out.li hi2 Hdq.out h1 (by omega) (by omega) (by omega)
         rcases hk with hk | hk | hk | hk | hk | ⟨j, hj, hk⟩
         ·rw [hk]; exact fix_old sq HE.out.li hi2 Hdq.out HG.out.k3 (by decide) (by omega) (by omega) (by omega)
         ·rw [hk]; exact fix_old sq HE.out.li hi2 Hdq.out HG.out.k5 (by decide) (by omega) (by omega) (by omega)
         ·exact hnew (by omega) (by rw [hk]; exact Nat.lt_of_lt_of_le HbM1.out.lt Hfv.out.size)
         ·exact hnew (by omega) (by rw [hk]; exact HbW.out.lt)
         ·exact hnew (Nat.le_trans hmn (HSr.out.mine.since k hk)) (HSr.out.mine.row.lt hk)
         ·exact hnew (Nat.le_trans hmn (HSr.out.new j hj k hk)) ((HSr.out.each j hj).lt hk)
        have hFx : GoFx wy B b3 b5 bm bw o mst v vs (sols.take (mst + 1)) := (GoFx.nw ⟨HG.out.nw Hfcv.out, HbM1.out.nw Hfv.out, HbW.out, HSr.out.mine.row, HSr.out.len, HSr.out.each⟩ Hfz.out).fr hfy (fun k hk e => (hK k hk).dd e)
        have hbz2 : dq.s.l.busy = false := by rw [HSz.out.pair.busy]; exact Hbzq.out
        have hz8 := (okSizes_len HSz.out.pair.at_.mem.zok).2
        have hG0 : GI W wy lo B i ds.length (dq.going sq) (OO B L2 ds2 i) ba bk (L2.nums.length + 8 * min ([] : List (List Nat)).length mst) (L2.turned.length + opsCost (M.take (min ([] : List (List Nat)).length mst))) (L2.rows.length + opsCost (M.take (min ([] : List (List Nat)).length mst))) (min ([] : List (List Nat)).length mst) (fun k => OO B L2 ds2 i k ∨ k = dq.D ∨ k = ba ∨ k = bk) wy := by rw [show min ([] : List (List Nat)).length mst = 0 from Nat.zero_min _]; exact ⟨_, _, _, hGP0⟩
        have Hya := hd (And.intro hya hcv)
        have HSt := hd hSt
        have HAt := hd hAt
        have HC0 := hd hC0
        have Hfy := hd hfy
        have HK := hd hK
        have HFx := hd hFx
        have Hz8 := hd hz8
        have Hsq := hd hsq
        clear hya hcv hK hFx hz8 hSt hGP0 hAt hC0 hfy hsq hst z2 z2f hDz hwy n1 hDn n2 hbn
        refine wp_sols3 (n := 9) (X := dq.X) (m := mst) (zs := dq.zs) (s := dq.s) (id := 4) 15 ?hgv HAt.out hbz2 (fun l v W' K hK' => ?asg) (fun done C A => GI W wy lo B i ds.length (dq.going sq) (OO B L2 ds2 i) ba bk (L2.nums.length + 8 * min done.length mst) (L2.turned.length + opsCost (M.take (min done.length mst))) (L2.rows.length + opsCost (M.take (min done.length mst))) (min done.length mst) C A) (fun R => GI.inv HSt.out (fun done => L2.nums.length + 8 * min done.length mst) (fun done => L2.turned.length + opsCost (M.take (min done.length mst))) (fun done => L2.rows.length + opsCost (M.take (min done.length mst))) (fun done => min done.length mst) R) _ HC0.out hG0 ?round ?leave ?fin
        case hgv =>
         rw [HX2.out]
         rfl
        case asg =>
         simp only [List.setIfInBounds_toArray, List.set_cons_zero, List.set_cons_succ] at hK' ⊢
         gi_wp2
         exact hK'
        case round =>
         rintro lp done C x b cap Wr hpre hdm ⟨Lr, dsr, ltr, hGP⟩ hAr hbN hbC hrow
         simp only [List.setIfInBounds_toArray, List.set_cons_zero, List.set_cons_succ]
         rw [Hsols.out] at hpre
         obtain ⟨hdl, hdx, hxm⟩ := prefix_last (d := []) hpre
         have hFr := HFx.out.fr hGP.fr (fun k hk => (HK.out k hk).out)
         rw [Nat.min_eq_left hdm] at hGP
         have cA : Wr.cell? ⟨ba, 0, none⟩ = some (.int .i64 (done.length : Int)) := hGP.at_.cell 0
         have cAf := hGP.at_.free 0
         have cAl := hGP.at_.lt
         have cK : Wr.cell? ⟨bk, 0, none⟩ = some (.bool true) := hGP.ok.cell 0
         have cKf := hGP.ok.free 0
         have cKl := hGP.ok.lt
         have cM : Wr.cell? ⟨bm, 0, none⟩ = some (.int .i64 (mst : Int)) := hFr.m.cell 0
         have cMl := hFr.m.lt
         have hj : done.length < (sols.take (mst + 1)).length := by rw [List.length_take]; omega
         have hjv : done.length < vs.length := by rw [hFr.len]; exact hj
         obtain ⟨g2, c2, hv, hown2, hcj, _⟩ := hFr.row.cell done.length hjv
         have cW : Wr.cell? ⟨bw, 0, none⟩ = some (.slice (some ⟨g2, 0, none⟩) vs.length c2) := by rw [← hv]; exact hFr.wb.cell 0
         have cWl := hFr.wb.lt
         have HGP := hd hGP
         have HFr := hd hFr
         have HAr := hd hAr
         by_cases he : done.length = mst
         ·have hge : (mst : Int) ≤ (done.length : Int) := by omega
          have hltI : (done.length : Int) < (vs.length : Int) := by omega
          clear hGP hFr hAr hrow hcj hown2 hdx hxm
          gi_wp2_with fail
          have hdec : decide (mst < vs.length) = true := by rw [decide_eq_true_eq]; omega
          have hmn : min (done ++ [x]).length mst = done.length := by rw [List.length_append, List.length_singleton]; omega
          have hne := HSt.out.blo
          rw [hdec, hmn]
          have hfb : Fr (fun k => k = ba ∨ k = bk) Wr (Wr.setCell ⟨bk, 0, none⟩ (.bool true)) := (Fr.refl _ Wr).setCell _ _ (.inl (.inr rfl))
          have hfb2 : Fr (fun k => k = bk) Wr (Wr.setCell ⟨bk, 0, none⟩ (.bool true)) := (Fr.refl _ Wr).setCell _ _ (.inl rfl)
          have hmd := (Mid.start (b := b) HGP.out HSt.out HAr.out hbN (Fr.refl _ Wr)).box hfb (HGP.out.at_.fr hfb2 hne.2.2.2.2) (HGP.out.ok.set 0 (.bool true))
          obtain ⟨C', h1, h2, h3⟩ := hmd.end HGP.out hbN HGP.out.cost
          exact ⟨rfl, C', h1, h2, h3, by rw [List.length_append, List.length_singleton]; omega⟩
         ·have hlm : done.length < mst := by omega
          have hge : ¬ ((mst : Int) ≤ (done.length : Int)) := by omega
          have hltI : (done.length : Int) < (vs.length : Int) := by omega
          obtain ⟨u, hu⟩ : ∃ u, vs[done.length] = u := ⟨_, rfl⟩
          rw [hu] at hcj
          have hxs : (sols.take (mst + 1)).getD done.length [] = x := by
           rw [← hdx]
           simp [List.getD, List.getElem?_take_of_lt (show done.length < mst + 1 by omega)]
          have hru : Row Wr u 3 (ints x) := by
           have := hFr.each done.length hj
           rw [hxs, getD_of_lt _ _ _ hjv, hu] at this
           exact this
          obtain ⟨uo, uc, hue, _⟩ := hru.form
          have hil : (ints x).length = x.length := by simp [ints]
          obtain ⟨zl, hzl⟩ : ∃ zl : List Int, zl = x.map (fun (n : Nat) => (n : Int)) := ⟨_, rfl⟩
          have hzn : zl.length = x.length := by rw [hzl, List.length_map]
          rw [hil] at hue
          subst hue
          have hI1 : IntsAt Wr (some ⟨b, 0, none⟩) zl := by
           have h := hrow
           rw [ints_eq, ← hzl, ← hzn] at h
           exact h.ints'
          have hI2 : IntsAt Wr uo zl := by
           have h := hru
           rw [ints_eq, ← hzl, ← hzn] at h
           exact h.ints'
          have hx8 : x.length ≤ 8 := by
           have h1 := solN_size dq.s.d dq.s.bs dq.zs.length [] x (by rw [Hsols.out]; exact hxm)
           have h2 := Hz8.out
           rw [List.length_nil] at h1
           omega
          have Hsame := hd (sameInts_eq (some ⟨b, 0, none⟩) uo cap uc zl Wr (by omega) hI1 hI2)
          rw [hzn] at Hsame
          have hg2l : g2 < Wr.heap.size := hFr.row.lt hown2
          obtain ⟨curb, hgb, _⟩ := hrow.blk (k := b) rfl
          have Hrow := hd hrow
          have Hgb := hd hgb
          have Hil := hd hil
          have Hhv := hd hv
          have cB := hGP.cost
          clear hGP hFr hAr hrow hown2 hdx hxm hI1 hI2 hgb hzl hzn hxs hru hu hv hil hpre
          gi_wp2_with fail
          refine ⟨trivial, ?_⟩
          refine (CallsIn.inRound lp (callsIn_wide.2 Hsame.out)).mono ?_
          rintro e wk ⟨rfl, nn, hnn⟩
          have hNk : Nw Wr wk := by rw [hnn]; exact (Fr.refl _ Wr).drewN nn
          have hFk := HFr.out.nw hNk
          have k3 : wk.cell? ⟨b3, 0, none⟩ = some (.pointer (some ⟨B, 0, none⟩)) := hFk.bx.k3.cell 0
          have k3l := hFk.bx.k3.lt
          clear hnn Hsame cA cAf cAl cK cKf cKl cM cMl cW cWl hcj hg2l hFk
          gi_wp2_with fail
          refine ⟨trivial, ?_⟩
          have hmid := Mid.start (b := b) HGP.out HSt.out HAr.out hbN hNk
          have hlow := HSt.out.blo
          have u1 := HE.out.a
          have u2 := HE.out.b
          have u3 := HE.out.r
          have u4 := HR.out
          have u5 := Hgc.out
          have u6 := opsCost_le M done.length
          have u7 := opsCost_len F
          have u8 : 1 ≤ opCost o := by unfold opCost; omega
          have u9 : t * opsCost M ≤ opsCost M := by
           have : t * opsCost M ≤ 1 * opsCost M := Nat.mul_le_mul_right _ (by omega)
           omega
          unfold goCost at u5
          have hkp := keep_any lo B Lr b x.length cap (ints x) wk hmid.lj.law Hil.out (Hrow.out.nw hNk) (by omega) (by omega) cB.2.2.2 (fun ho => hbC ((HGP.out.c b).2 (.inl (.inl ho)))) (by omega) hmid.lj.env.le
          refine (CallsIn.inRound lp (callsIn_wide.2 hkp)).mono ?_
          rintro e wp ⟨rfl, nv, news, hn4, hL4, hf4, hgr4⟩
          obtain ⟨Lk, hLk⟩ : ∃ Lk, Lk = ({ Lr with nv := nv, nums := Lr.nums ++ news } : LW) := ⟨_, rfl⟩
          rw [← hLk] at hL4 hgr4
          have hm2 : Mid W Wr wp lo B i Lr Lk dsr dsr (dq.going sq) ltr b ba bk done.length := Mid.keep HGP.out HSt.out hmid hbN hbC (Hgb.out.nw hNk) hL4 hf4 hgr4 (by rw [hLk])
          have HLc := hd (show Lk.nums.length = Lr.nums.length + 4 ∧ Lk.turned = Lr.turned ∧ Lk.rows = Lr.rows from by rw [hLk]; exact ⟨by show (Lr.nums ++ news).length = _; rw [List.length_append, hn4], rfl, rfl⟩)
          have p1 : wp.cell? ⟨bk, 0, none⟩ = some (.bool true) := hm2.ok.cell 0
          have p1f := hm2.ok.free 0
          have p1l := hm2.ok.lt
          have Hm2 := hd hm2
          clear hkp hmid hL4 hf4 hgr4 hLk hm2 k3 k3l hn4
          gi_upto_region 31 with fail
          obtain ⟨wp2, hwp2⟩ : ∃ wp2, wp2 = wp.setCell ⟨bk, 0, none⟩ (.bool true) := ⟨_, rfl⟩
          rw [← hwp2]
          have hfb : Fr (fun k => k = ba ∨ k = bk) wp wp2 := by rw [hwp2]; exact (Fr.refl _ wp).setCell _ _ (.inl (.inr rfl))
          have hfb2 : Fr (fun k => k = bk) wp wp2 := by rw [hwp2]; exact (Fr.refl _ wp).setCell _ _ (.inl rfl)
          have hm3 := Hm2.out.box (a' := done.length) hfb (Hm2.out.at_.fr hfb2 hlow.2.2.2.2) (by rw [hwp2]; exact Hm2.out.ok.set 0 (.bool true))
          have hF3 := HFr.out.fr hm3.fr (fun k hk => hm3.out HGP.out hbN (HK.out k hk))
          have p2 : wp2.cell? ⟨ba, 0, none⟩ = some (.int .i64 (done.length : Int)) := hm3.at_.cell 0
          have p2f := hm3.at_.free 0
          have p2l := hm3.at_.lt
          have p3 : wp2.cell? ⟨bk, 0, none⟩ = some (.bool true) := hm3.ok.cell 0
          have p3l := hm3.ok.lt
          have p5 : wp2.cell? ⟨b5, 9, none⟩ = some (.slice mo M.length mc) := (hF3.bx.k5.cell 9).trans (by rw [← Hmv.out]; rfl)
          have p5l := hF3.bx.k5.lt
          have p6 : wp2.cell? ⟨b3, 0, none⟩ = some (.pointer (some ⟨B, 0, none⟩)) := hF3.bx.k3.cell 0
          have p6l := hF3.bx.k3.lt
          have hmn : min (done.length + 1) mst = done.length + 1 := by omega
          have hll : done.length + 1 ≤ mst := hlm
          have hlt3 : (done.length : Int) + 1 < 9223372036854775808 := by omega
          have Hm3 := hd hm3
          have HF3 := hd hF3
          have Hmn := hd hmn
          have Hll := hd hll
          have Hne := hd hlow.2.2.2.2
          clear hwp2 hfb hfb2 Hm2 hm3 hF3 p1 p1f p1l hmn hll
          by_cases hmm : done.length < M.length
          ·have hdM : (done.length : Int) < (M.length : Int) := by omega
           obtain ⟨ob, oo, hoe, hobW, hoc, hok⟩ := HM.out done.length hmm
           have hct := opsCost_take M done.length hmm
           obtain ⟨op, hop⟩ : ∃ op, M.getD done.length op0 = op := ⟨_, rfl⟩
           rw [hop] at hoc hok hct
           have hW2 := Hm3.out.lj.env.nw
           have hcell : ∀ c v, c < 10 → op.cells[c]? = some v → wp2.cell? ⟨ob, oo + done.length * 10 + c, none⟩ = some v := fun c v hc he => ((hW2.cell hobW (fun x => x)).trans (hoc c hc)).trans he
           obtain ⟨⟨za, zn, zc, hzf⟩, ⟨xa, xn, xc, hzm⟩⟩ := HMs.out op (by rw [← hop, getD_of_lt _ _ _ hmm]; exact List.getElem_mem hmm)
           have y0 := hcell 0 (.int .i64 op.kind) (by decide) rfl
           have y1 := hcell 1 (.int .i64 op.a) (by decide) rfl
           have y2 := hcell 2 (.int .i64 op.b) (by decide) rfl
           have y3 := hcell 3 (.slice op.vo op.vars.length op.vcap) (by decide) rfl
           have y4 := hcell 4 (.slice op.ro op.rows.length op.rcap) (by decide) rfl
           have y5 := hcell 5 (.bool op.nt) (by decide) rfl
           have y6 := hcell 6 (.int .i64 op.way) (by decide) rfl
           have y7 := hcell 7 (.bool op.which) (by decide) rfl
           have y8 := hcell 8 (.slice za zn zc) (by decide) (by rw [← hzf]; rfl)
           have y9 := hcell 9 (.slice xa xn xc) (by decide) (by rw [← hzm]; rfl)
           rw [Nat.add_zero] at y0
           have hobl : ob < wp2.heap.size := Nat.lt_of_lt_of_le hobW hW2.size
           have Hok := hd hok
           have Hct := hd hct
           subst hoe
           have Hzf := hd hzf
           have Hzm := hd hzm
           clear hoc hop hok hct hcell hW2 hzf hzm
           gi_upto_region 33 with fail
           obtain ⟨bo, hbo⟩ : ∃ bo, bo = wp2.heap.size := ⟨_, rfl⟩
           have hocs : #[Value.int .i64 op.kind, .int .i64 op.a, .int .i64 op.b, .slice op.vo op.vars.length op.vcap, .slice op.ro op.rows.length op.rcap, .bool op.nt, .int .i64 op.way, .bool op.which, .slice za zn zc, .slice xa xn xc] = op.cells := by rw [← Hzf.out, ← Hzm.out]; rfl
           obtain ⟨wx, hwx⟩ : ∃ wx, wx = wp2.alloc (.cells op.cells 54) := ⟨_, rfl⟩
           rw [hocs, ← hwx, ← hbo]
           have hfx : Nw wp2 wx := by rw [hwx]; exact (Fr.refl _ wp2).alloc _
           have hbO : Blk wx bo op.cells 54 := by rw [hwx, hbo]; exact Blk.new _ _ _
           have hmx := Hm3.out.nw hfx
           have hFx3 := HF3.out.nw hfx
           have hlen : dsr.length = ds.length := HGP.out.len
           have hssl : Lk.ss.length = dsr.length := by rw [hmx.lj.ss, List.length_map]
           have hi0 := hi
           obtain ⟨ix, hix⟩ : ∃ ix, (if op.which then Lk.ss.length - 1 else 0) = ix := ⟨_, rfl⟩
           have hixn : ix < dsr.length := by
            rw [← hix, hssl]
            split <;> omega
           have hssD : Lk.ss.getD ix undef = .pointer (some ⟨(dsr[ix]'hixn).D, 0, none⟩) := by
            rw [hmx.lj.ss]
            simp [List.getD, hixn]
           have Hoth := hd (other_any lo B Lk op wx.drew (hmx.lj.law.nw ((Fr.refl _ wx).drew)) (by omega) (by omega))
           rw [hix, hssD] at Hoth
           have l1 := HLc.out.1
           have hroom : LRoom Lk := ⟨by omega, by rw [HLc.out.2.1]; omega, by rw [HLc.out.2.2]; omega, by omega⟩
           have hK0 : Nw wx wx.drew := (Fr.refl _ wx).drew
           refine region_inH goiR33 7 (fun w'' => w''.cell? ⟨b3, 0, none⟩ = some (.pointer (some ⟨B, 0, none⟩)) ∧ Blk w'' bo op.cells 54) (by kernel_rfl) (by kernel_rfl) (by kernel_rfl) (fun _ _ h => h) ?_
           have hK : wx.drew.cell? ⟨b3, 0, none⟩ = some (.pointer (some ⟨B, 0, none⟩)) ∧ Blk wx.drew bo op.cells 54 := ⟨(hFx3.nw hK0).bx.k3.cell 0, hbO.nw hK0⟩
           refine take_at (i := 0) (d := some 137) (v := .pointer (some ⟨B, 0, none⟩)) (by kernel_rfl) (by kernel_rfl) (fun _ _ _ h => h) (fun w'' hS => exec_load 24 (.tmp 3) (by kernel_rfl) (by kernel_rfl) (by kernel_rfl) hS.1) hK ?_
           refine take_at (i := 1) (d := some 138) (v := .pointer (some ⟨B, 0, none⟩)) (by kernel_rfl) (by kernel_rfl) (fun _ _ _ h => h) (fun w'' hS => exec_load 24 (.tmp 3) (by kernel_rfl) (by kernel_rfl) (by kernel_rfl) hS.1) hK ?_
           refine take_at (i := 2) (d := some 139) (v := .agg op.cells) (by kernel_rfl) (by kernel_rfl) (fun _ _ _ h => h) (fun w'' hS => exec_load10 54 (.tmp 17) (by kernel_rfl) (by kernel_rfl) (by kernel_rfl) (by kernel_rfl) (fun c hc => by rw [Nat.zero_add]; exact hS.2.cell c)) hK ?_
           refine take_at (i := 4) (d := some 141) (v := .agg op.cells) (by kernel_rfl) (by kernel_rfl) (fun _ _ _ h => h) (fun w'' hS => exec_load10 54 (.tmp 17) (by kernel_rfl) (by kernel_rfl) (by kernel_rfl) (by kernel_rfl) (fun c hc => by rw [Nat.zero_add]; exact hS.2.cell c)) hK ?_
           refine enter_at (i := 3) (d := some 140) (w' := wx.drew) (f := 18) (args := #[.pointer (some ⟨B, 0, none⟩), .agg op.cells]) (by kernel_rfl) (by kernel_rfl) (by kernel_rfl) ?_
           refine Hoth.out.mono ?_
           rintro e w2 ⟨rfl, hf2⟩
           have hf02 : Nw wx w2 := hK0.trans hf2 (fun _ x => x.elim)
           have hm2 := hmx.nw hf02
           have hb2 := hbO.nw hf02
           refine ⟨_, rfl, ⟨(hFx3.nw hf02).bx.k3.cell 0, hb2⟩, ?_⟩
           refine enter_at (i := 5) (d := some 142) (w' := w2) (f := 35) (args := #[.pointer (some ⟨B, 0, none⟩), .pointer (some ⟨(dsr[ix]'hixn).D, 0, none⟩), .agg op.cells]) (by kernel_rfl) (by kernel_rfl) (by kernel_rfl) ?_
           obtain ⟨hi3, hget3⟩ := hm2.get
           refine (plain_go W lo B i Lk dsr { dq.going sq with lt := ltr } op w2 hm2.lj hi3 hget3 rfl (show sq = _ from by rw [Hsq.out, ← HX2.out]; rfl) hm2.free ix hixn Hok.out hroom).mono ?_
           rintro e w3 ⟨rfl, Lp, dsp, ltp, hpl⟩
           have hm5 := hm2.plain hpl
           have hgs := Hm3.out.lj.out hi3 hget3
           have hDb : (dq.going sq).D < wp2.heap.size := hgs.blk.lt
           have hb3 := hb2.fr hpl.fr (fun ho => by
            rcases ho with ho | ho
            ·have := (hgs.lt ho).1
             omega
            ·have ho' : bo = (dq.going sq).D := ho
             omega)
           have hF5 := HFr.out.fr hm5.fr (fun k hk => hm5.out HGP.out hbN (HK.out k hk))
           refine ⟨_, rfl, ⟨hF5.bx.k3.cell 0, hb3⟩, ?_⟩
           have hfk : Fr (fun k => k = ba ∨ k = bk) w3 (w3.setCell ⟨bk, 0, none⟩ (.bool true)) := (Fr.refl _ w3).setCell _ _ (.inl (.inr rfl))
           have hfk2 : Fr (fun k => k = bk) w3 (w3.setCell ⟨bk, 0, none⟩ (.bool true)) := (Fr.refl _ w3).setCell _ _ (.inl rfl)
           have hm6 := hm5.box (a' := done.length) hfk (hm5.at_.fr hfk2 Hne.out) (hm5.ok.set 0 (.bool true))
           have hF6 := HFr.out.fr hm6.fr (fun k hk => hm6.out HGP.out hbN (HK.out k hk))
           have hbk6 : bo ≠ bk := fun e => by
            rw [e] at hb3
            exact absurd (hb3.inj hm5.ok).2 (by decide)
           refine skip_at (i := 6) (d := none) (w' := w3.setCell ⟨bk, 0, none⟩ (.bool true)) (by kernel_rfl) (by kernel_rfl) (exec_storeU (old := .bool true) 4 (.tmp 14) (.tmp 142) (by kernel_rfl) (by kernel_rfl) (by kernel_rfl) rfl (by kernel_rfl) (hm5.ok.cell 0) (hm5.ok.free 0)) ⟨hF6.bx.k3.cell 0, hb3.fr hfk2 hbk6⟩ ?_
           refine wpAnyH_done (by kernel_rfl) ?_ _
           simp only [Act.put, List.setIfInBounds_toArray, List.set_cons_zero, List.set_cons_succ]
           obtain ⟨w4, hw4⟩ : ∃ w4, w4 = w3.setCell ⟨bk, 0, none⟩ (.bool true) := ⟨_, rfl⟩
           rw [← hw4] at hm6 ⊢
           have Hm6 := hd hm6
           have r1 : w4.cell? ⟨ba, 0, none⟩ = some (.int .i64 (done.length : Int)) := hm6.at_.cell 0
           have r1f := hm6.at_.free 0
           have r1l := hm6.at_.lt
           have r2 : w4.cell? ⟨bk, 0, none⟩ = some (.bool true) := hm6.ok.cell 0
           have r2l := hm6.ok.lt
           have Hco := hd hpl.cost
           have Hfo := hd hpl.four
           clear hw4 hm6 hF6 hfk hfk2 hb3 hm5 hF5 hgs hDb hpl hget3 hm2 hb2 hf02 hf2 hK hK0 hroom Hoth hssD hix hssl hFx3 hmx hbO hfx hwx hocs hbo y0 y1 y2 y3 y4 y5 y6 y7 y8 y9 p2 p2f p2l p3 p3l p5 p5l p6 p6l hbk6 hobl
           gi_wp2_with fail
           rw [show (done ++ [x]).length = done.length + 1 from by simp, Hmn.out]
           have hfa : Fr (fun k => k = ba ∨ k = bk) w4 (w4.setCell ⟨ba, 0, none⟩ (.int .i64 ((done.length : Int) + 1))) := (Fr.refl _ w4).setCell _ _ (.inl (.inl rfl))
           have hfa2 : Fr (fun k => k = ba) w4 (w4.setCell ⟨ba, 0, none⟩ (.int .i64 ((done.length : Int) + 1))) := (Fr.refl _ w4).setCell _ _ (.inl rfl)
           have hm7 := Hm6.out.box (a' := done.length + 1) hfa (Hm6.out.at_.set 0 (.int .i64 ((done.length : Int) + 1))) (Hm6.out.ok.fr hfa2 (fun e => Hne.out e.symm))
           have v1 := Hco.out.a
           have v2 := Hco.out.b
           have v3 := Hco.out.c
           have v4 := Hfo.out
           have v5 := Hct.out
           rw [HLc.out.2.1] at v2
           rw [HLc.out.2.2] at v3
           obtain ⟨C', h1, h2, h3⟩ := hm7.end (cn' := L2.nums.length + 8 * (done.length + 1)) (ct' := L2.turned.length + opsCost (M.take (done.length + 1))) (cr' := L2.rows.length + opsCost (M.take (done.length + 1))) HGP.out hbN ⟨by omega, by omega, by omega, by omega⟩
           exact ⟨C', h1, h2, h3, Hll.out⟩
          ·have hdM : ¬ ((done.length : Int) < (M.length : Int)) := by omega
           gi_wp2_with fail
           rw [Hmn.out]
           have hfa : Fr (fun k => k = ba ∨ k = bk) wp2 (wp2.setCell ⟨ba, 0, none⟩ (.int .i64 ((done.length : Int) + 1))) := (Fr.refl _ wp2).setCell _ _ (.inl (.inl rfl))
           have hfa2 : Fr (fun k => k = ba) wp2 (wp2.setCell ⟨ba, 0, none⟩ (.int .i64 ((done.length : Int) + 1))) := (Fr.refl _ wp2).setCell _ _ (.inl rfl)
           have hm4 := Hm3.out.box (a' := done.length + 1) hfa (Hm3.out.at_.set 0 (.int .i64 ((done.length : Int) + 1))) (Hm3.out.ok.fr hfa2 (fun e => Hne.out e.symm))
           have htk : M.take (done.length + 1) = M.take done.length := by rw [List.take_of_length_le (by omega), List.take_of_length_le (by omega)]
           have l1 := HLc.out.1
           obtain ⟨C', h1, h2, h3⟩ := hm4.end (cn' := L2.nums.length + 8 * (done.length + 1)) (ct' := L2.turned.length + opsCost (M.take (done.length + 1))) (cr' := L2.rows.length + opsCost (M.take (done.length + 1))) HGP.out hbN ⟨by omega, by rw [HLc.out.2.1, htk]; exact cB.2.1, by rw [HLc.out.2.2, htk]; exact cB.2.2.1, by rw [l1]; have := cB.2.2.2; omega⟩
           exact ⟨C', h1, h2, h3, Hll.out⟩
        case leave =>
         intro a W' h
         refine wpIn_exit ?_
         exact h
        case fin =>
         rintro D C' done Wd hD hpre hor ⟨Ld, dsd, ltd, hGP⟩ hAd hKD
         rw [Hsols.out] at hpre hor
         have hFd := HFx.out.fr hGP.fr (fun k hk => (HK.out k hk).out)
         have hpl := hpre.length_le
         have hvl : vs.length = min (mst + 1) sols.length := by rw [hFd.len, List.length_take]
         have hat : min vs.length mst = min done.length mst := by
          rcases hor with ⟨h1, h2⟩ | h1
          ·rw [← h1] at hvl
           omega
          ·omega
         obtain ⟨at', hat'⟩ : ∃ at', min done.length mst = at' := ⟨_, rfl⟩
         rw [hat'] at hGP hat
         have hLI := go_end hGP HSt.out hAd Hbzq.out hbz2
         rw [show (⟨dq.D, 2, none⟩ : Addr) = ⟨D0, 2, none⟩ from by rw [HD2.out]] at hLI
         have hfe : Fr (fun k => k = dq.D) Wd (Wd.setCell ⟨D0, 2, none⟩ (.bool false)) := (Fr.refl (fun k => k = dq.D) Wd).setCell _ _ (.inl HD2.out.symm)
         have e2 : Wd.cell? ⟨D0, 2, none⟩ = some (.bool true) := by rw [← HD2.out]; exact hGP.gs.blk.cell 2
         have e2f : Wd.frozen? ⟨D0, 2, none⟩ = false := by rw [← HD2.out]; exact hGP.gs.blk.free 2
         have e2l : D0 < Wd.heap.size := by rw [← HD2.out]; exact hGP.gs.blk.lt
         have hDq := HSt.out.off _ (.inl rfl)
         have hDq' : dq.D < ba ∧ dq.D < bk := hDq.2
         have hFe := hFd.fr hfe (fun k hk e => (HK.out k hk).dd e)
         have hA5 := hGP.at_.fr hfe (by omega)
         have hK5 := hGP.ok.fr hfe (by omega)
         obtain ⟨we, hwe⟩ : ∃ we, we = Wd.setCell ⟨D0, 2, none⟩ (.bool false) := ⟨_, rfl⟩
         rw [← hwe] at hLI hfe hFe hA5 hK5
         have q0 : we.cell? ⟨b3, 0, none⟩ = some (.pointer (some ⟨B, 0, none⟩)) := hFe.bx.k3.cell 0
         have q0l := hFe.bx.k3.lt
         have q1 : we.cell? ⟨ba, 0, none⟩ = some (.int .i64 (at' : Int)) := hA5.cell 0
         have q1l := hA5.lt
         have q2 : we.cell? ⟨bk, 0, none⟩ = some (.bool true) := hK5.cell 0
         have q2l := hK5.lt
         have q3 : we.cell? ⟨bm, 0, none⟩ = some (.int .i64 (mst : Int)) := hFe.m.cell 0
         have q3l := hFe.m.lt
         obtain ⟨so', sc', hv', _⟩ := hFe.row.form
         have q4 : we.cell? ⟨bw, 0, none⟩ = some (.slice so' vs.length sc') := by rw [← hv']; exact hFe.wb.cell 0
         have q4l := hFe.wb.lt
         have hfall : Fr (fun k => OO B L2 ds2 i k ∨ k = dq.D ∨ k = ba ∨ k = bk ∨ k = dq.X) wc we := ((((Hfcv.out.mono (fun _ x => x.elim)).trans Hfz.out (fun _ x => x.elim)).trans Hfy.out (fun k hk => .inl (.inr (.inl hk)))).trans hGP.fr (fun k hk => .inl hk)).trans hfe (fun k hk => .inl (.inr (.inl hk)))
         have hDl2 : D < Wd.heap.size := (Array.getElem?_eq_some_iff.1 hKD).1
         have hy := Hya.out
         have hdc := HSq.out.blk.lt
         have hba' := Hba.out
         have hbk' := Hbk.out
         have hDs' : (D :: Ds).Nodup ∧ ∀ D' ∈ D :: Ds, we.heap[D']? = some (.deferred (some [])) ∧ lo ≤ D' := by
          refine ⟨List.nodup_cons.2 ⟨fun hm => ?_, HDs.out.1⟩, fun D' hm => ?_⟩
          ·have := (Array.getElem?_eq_some_iff.1 (HDs.out.2 D hm).1).1
           omega
          ·rcases List.mem_cons.1 hm with rfl | hm
           ·refine ⟨?_, by have := HSt.out.blo; omega⟩
            rw [hfe.block _ hDl2 (by omega)]
            exact hKD
           ·exact ⟨def_keep HE.out.li hi2 Hdq.out hfall (by omega) (by omega) (HDs.out.2 D' hm).1, (HDs.out.2 D' hm).2⟩
         have hS5 : ∃ hi : i < (dsd.set i { dq with sq := sq, lt := ltd }).length, (dsd.set i { dq with sq := sq, lt := ltd })[i].D = D0 ∧ (dsd.set i { dq with sq := sq, lt := ltd })[i].X = X0 := by
          obtain ⟨hi3, _⟩ := hGP.gs.get
          refine ⟨by rw [List.length_set]; exact hi3, ?_⟩
          rw [List.getElem_set_self]
          exact ⟨HD2.out, HX2.out⟩
         have hE5 : GoEnd W we lo B ds.length L Ld (dsd.set i { dq with sq := sq, lt := ltd }) (4 * F.length + 2400 * (t + 1)) (opsCost F + (t + 1) * opsCost M) := by
          have r1 := hGP.cost.1
          have r2 := hGP.cost.2.1
          have r3 := hGP.cost.2.2.1
          have r4 := opsCost_le M at'
          have r5 := HE.out.a
          have r6 := HE.out.b
          have r7 := HE.out.r
          have r8 : (t + 1) * opsCost M = t * opsCost M + opsCost M := Nat.succ_mul _ _
          exact ⟨hLI, by rw [List.length_set]; exact hGP.len, by omega, by omega, by omega, hGP.cost.2.2.2⟩
         have HE5 := hd hE5
         have HS5 := hd hS5
         have HDs5 := hd hDs'
         have HG5 := hd hFe.bx
         have HL5 := hd hLI
         have hav : ((vs.length : Int) ≤ (mst : Int) ∧ vs.length = at') ∨ (¬ ((vs.length : Int) ≤ (mst : Int)) ∧ mst = at') := by omega
         clear hE5 hS5 hDs' hLI hFe hFd hA5 hK5 hfall hfe hGP hAd hor hpre hat' hpl hvl hat hv' hDq hDq' hKD hDl2 hy hdc hba' hbk'
         go_upto_region 37 with fail
         rw [← hwe]
         clear hwe e2 e2f e2l
         go_upto_region 38 with (go_at_call 19; refine (kept_any B _ _ _ _ _ _ _ _ HL5.out.law.blk HL5.out.law.keeps).mono ?_; rintro e w4 ⟨rfl, rfl⟩)
         have ht1 : (t : Int) + 1 < 9223372036854775808 := by omega
         rcases hav with ⟨hle, rfl⟩ | ⟨hle, rfl⟩
         all_goals go_wp2_with fail
         all_goals exact ⟨⟨t + 1, D :: Ds, Ld, _, by omega, goTmps_mk (by kernel_rfl), rfl, HE5, HS5, HG5, HDs5⟩, by show 2 - (intOf (Value.int .i64 ((t : Int) + 1))).toNat < 2 - (intOf (Value.int .i64 (t : Int))).toNat; simp only [intOf]; omega⟩
    ·obtain rfl : t = 2 := by omega
     go_wp2_with fail
     have q1 := HE.out.a
     have q2 := HE.out.b
     have q3 := HE.out.r
     have hoc1 : 1 ≤ opCost o := by unfold opCost; omega
     refine ⟨⟨Ds, rfl, HDs.out.1, fun D hD => (HDs.out.2 D hD).1, fun W' hW' => ⟨.bool true, by kernel_rfl, ?_⟩⟩⟩
     rw [HRR.out]
     have hnb : ∀ D cur e, D ∈ Ds → ¬ Blk wq D cur e := fun D cur e hD hb => by
      have hb' : wq.heap[D]? = some (.cells cur e (0, 0)) := hb
      rw [(HDs.out.2 D hD).1] at hb'
      cases hb'
     refine ⟨rfl, L2, ds2, ⟨HE.out.li.toLJ.fr hW' (fun D hD => ⟨(HDs.out.2 D hD).2, fun ho => ?_, fun e he ho => ?_⟩) (fun D cur hD => hnb D cur _ hD), HE.out.li.free⟩, HE.out.len, by omega, by omega, by omega, HE.out.four⟩
     ·obtain ⟨cur, e, hb, _⟩ := HE.out.li.law.ty ho
      exact hnb D cur e hD hb
     ·obtain ⟨cur, e', hb, _⟩ := (HE.out.li.sides e he).ty ho
      exact hnb D cur e' hD hb
theorem going_ok : GoingOk := going_any
end Go.Proofs.YtkjfpdfkcfgfkaaGreat
