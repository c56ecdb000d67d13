/- Parts of the proof, number 0: contracts of the functions that the statement calls. -/
import Derived.WalkKit
import Derived.WalkSpells
import Derived.WalkLawsBesides
import Derived.Maps.AppendAt
import Derived.Test.YtkjfpdfkcfgfkaaProg
import Derived.Deep.QuietTactic
import Derived.BigQuiet
import Derived.Laws.CopyOwn
import Derived.Deep.RegionHeld3
import Derived.Deep.AppendLies
import Derived.Deep.DeepCutAuto
import Derived.Deep.RegionLaw
import Derived.Test.YtkjfpdfkcfgfkaaRows
import Derived.ProofKit
import Derived.OpenShut
import Derived.ShutString
import Derived.ChangeOld
import Derived.SizedLaws
import Derived.RangeFuncNested
import Derived.RangeFuncBound
import Derived.RangeFuncCalls
import Derived.RangeFuncLeaves
import Derived.Shelf.Abstract
import Derived.Shelf.RegionOpen
import Derived.OwnWalkIn
import Derived.TacticsInMore
import Derived.LoopNIn
import Derived.LoopIn
import Derived.Laws.BitsAllLaws

/- Blocks of cells, frames, slices of numbers: the vocabulary of this seat's contracts. It speaks of no program. -/
namespace Go.Proofs.Ytkjfpdfkcfgfkaa
open Go.RowKit

theorem hd {p : Prop} (h : p) : Hid p := h

/-- Block g is the row of cells cur of element type e, nothing of it frozen. -/
def Blk (w : World) (g : Nat) (cur : Array Value) (e : TypeId) : Prop := w.heap[g]? = some (.cells cur e (0, 0))

/-- w' is w with new blocks, and with writes to blocks of S alone. -/
structure Fr (S : Nat → Prop) (w w' : World) : Prop where
  os : w'.os = w.os
  tape : w'.tape = w.tape
  output : w'.output = w.output
  size : w.heap.size ≤ w'.heap.size
  block : ∀ k, k < w.heap.size → ¬ S k → w'.heap[k]? = w.heap[k]?

/-- Nothing old is written. -/
abbrev Nw (w w' : World) : Prop := Fr (fun _ => False) w w'

theorem Fr.refl (S : Nat → Prop) (w : World) : Fr S w w := ⟨rfl, rfl, rfl, Nat.le_refl _, fun _ _ _ => rfl⟩
theorem Fr.trans {S S' : Nat → Prop} {a b c : World} (h : Fr S a b) (k : Fr S' b c) (hs : ∀ i, S' i → S i ∨ a.heap.size ≤ i) : Fr S a c :=
  ⟨k.os.trans h.os, k.tape.trans h.tape, k.output.trans h.output, Nat.le_trans h.size k.size, fun i hi hn =>
    (k.block i (Nat.lt_of_lt_of_le hi h.size) (fun hk => (hs i hk).elim hn (fun h' => by omega))).trans (h.block i hi hn)⟩
theorem Fr.mono {S S' : Nat → Prop} {a b : World} (h : Fr S a b) (hs : ∀ i, S i → S' i ∨ a.heap.size ≤ i) : Fr S' a b :=
  (Fr.refl S' a).trans h hs
theorem Fr.drew {S : Nat → Prop} {a b : World} (h : Fr S a b) : Fr S a b.drew := ⟨h.os, h.tape, h.output, h.size, h.block⟩
theorem Fr.drewN {S : Nat → Prop} {a b : World} (h : Fr S a b) (n : Nat) : Fr S a (b.drewN n) := ⟨h.os, h.tape, h.output, h.size, h.block⟩
theorem Fr.alloc {S : Nat → Prop} {a b : World} (h : Fr S a b) (o : Obj) : Fr S a (b.alloc o) :=
  ⟨h.os, h.tape, h.output, by have := h.size; simp; omega, fun k hk hn => (Below.heap_alloc b o k (Nat.lt_of_lt_of_le hk h.size)).trans (h.block k hk hn)⟩
theorem Fr.setCell {S : Nat → Prop} {a b : World} (h : Fr S a b) (p : Addr) (u : Value) (hp : S p.block ∨ a.heap.size ≤ p.block) : Fr S a (b.setCell p u) :=
  ⟨h.os, h.tape, h.output, by have := h.size; simp [World.setCell]; omega, fun k hk hn => by
    rw [Below.heap_setCell _ _ _ _ (fun e => by subst e; exact hp.elim hn (fun h' => by omega))]; exact h.block k hk hn⟩
theorem Fr.grown {S : Nat → Prop} {a b c : World} {row : Option Nat} (h : Fr S a b) (hg : b.grownBy c row) (hr : ∀ k, row = some k → S k ∨ a.heap.size ≤ k) : Fr S a c :=
  ⟨hg.os.trans h.os, hg.tape.trans h.tape, hg.output.trans h.output, Nat.le_trans h.size hg.size, fun k hk hn =>
    (hg.block k (Nat.lt_of_lt_of_le hk h.size) (fun e => (hr k e.symm).elim hn (fun h' => by omega))).trans (h.block k hk hn)⟩
theorem Fr.below {w w' : World} (h : Nw w w') : Below w.heap.size w w' := ⟨h.os, h.tape, h.output, h.size, fun k hk => h.block k hk (fun f => f)⟩
theorem Fr.of_below {w w' : World} (h : Below w.heap.size w w') : Nw w w' := ⟨h.os, h.tape, h.output, h.size, fun k hk _ => h.block k hk⟩
theorem Fr.cell {S : Nat → Prop} {w w' : World} (h : Fr S w w') {b o : Nat} (hb : b < w.heap.size) (hn : ¬ S b) : w'.cell? ⟨b, o, none⟩ = w.cell? ⟨b, o, none⟩ :=
  World.cell?_of_block (h.block b hb hn)

theorem Blk.lt {w : World} {g : Nat} {cur : Array Value} {e : TypeId} (h : Blk w g cur e) : g < w.heap.size := lt_of_block h
theorem Blk.cell {w : World} {g : Nat} {cur : Array Value} {e : TypeId} (h : Blk w g cur e) (i : Nat) : w.cell? ⟨g, i, none⟩ = cur[i]? := cell_of_row w g i cur e _ h
theorem Blk.free {w : World} {g : Nat} {cur : Array Value} {e : TypeId} (h : Blk w g cur e) (i : Nat) : w.frozen? ⟨g, i, none⟩ = false := by
  have h' : w.heap[g]? = some (.cells cur e (0, 0)) := h
  simp [World.frozen?, h']
theorem Blk.fr {S : Nat → Prop} {w w' : World} {g : Nat} {cur : Array Value} {e : TypeId} (h : Blk w g cur e) (f : Fr S w w') (hn : ¬ S g) : Blk w' g cur e :=
  (f.block g h.lt hn).trans h
theorem Blk.nw {w w' : World} {g : Nat} {cur : Array Value} {e : TypeId} (h : Blk w g cur e) (f : Nw w w') : Blk w' g cur e := h.fr f (fun x => x)
theorem Blk.new (w : World) (cur : Array Value) (e : TypeId) : Blk (w.alloc (.cells cur e)) w.heap.size cur e := heap_alloc_new w _
theorem Blk.alloc {w : World} {g : Nat} {cur : Array Value} {e : TypeId} (h : Blk w g cur e) (o : Obj) : Blk (w.alloc o) g cur e := (Below.heap_alloc w o g h.lt).trans h
theorem Blk.drew {w : World} {g : Nat} {cur : Array Value} {e : TypeId} (h : Blk w g cur e) : Blk w.drew g cur e := h
theorem Blk.drewN {w : World} {g : Nat} {cur : Array Value} {e : TypeId} (h : Blk w g cur e) (n : Nat) : Blk (w.drewN n) g cur e := h
theorem Blk.other {w : World} {g : Nat} {cur : Array Value} {e : TypeId} (h : Blk w g cur e) (p : Addr) (u : Value) (hp : g ≠ p.block) : Blk (w.setCell p u) g cur e :=
  (Below.heap_setCell w p u g hp).trans h
theorem Blk.set {w : World} {g : Nat} {cur : Array Value} {e : TypeId} (h : Blk w g cur e) (i : Nat) (u : Value) : Blk (w.setCell ⟨g, i, none⟩ u) g (cur.setIfInBounds i u) e := by
  have hlt := h.lt
  have h' : w.heap[g] = .cells cur e (0, 0) := by
    have : w.heap[g]? = some (.cells cur e (0, 0)) := h
    simpa [Array.getElem?_eq_getElem hlt] using this
  show (w.heap.modify g _)[g]? = _
  rw [Array.getElem?_eq_getElem (by simpa using hlt), Array.getElem_modify_self, h']
  rfl
theorem Blk.inj {w : World} {g : Nat} {cur cur' : Array Value} {e e' : TypeId} (h : Blk w g cur e) (h' : Blk w g cur' e') : cur = cur' ∧ e = e' := by
  have h1 : w.heap[g]? = some (.cells cur e (0, 0)) := h
  have h2 : w.heap[g]? = some (.cells cur' e' (0, 0)) := h'
  rw [h1] at h2
  simpa using h2

/-- The numbers of a slice, wherever it lies (an empty one may lie nowhere). -/
def IntsAt (w : World) (ao : Option Addr) (zs : List Int) : Prop := ∀ i, i < zs.length → ∃ b o, ao = some ⟨b, o, none⟩ ∧ b < w.heap.size ∧ w.cell? ⟨b, o + i, none⟩ = some (.int .i64 (zs.getD i 0))
theorem IntsAt.fr {S : Nat → Prop} {w w' : World} {ao : Option Addr} {zs : List Int} (h : IntsAt w ao zs) (f : Fr S w w') (hn : ∀ b o, ao = some ⟨b, o, none⟩ → ¬ S b) : IntsAt w' ao zs := by
  intro i hi
  obtain ⟨b, o, rfl, hb, hc⟩ := h i hi
  exact ⟨b, o, rfl, Nat.lt_of_lt_of_le hb f.size, (f.cell hb (hn b o rfl)).trans hc⟩
theorem IntsAt.nw {w w' : World} {ao : Option Addr} {zs : List Int} (h : IntsAt w ao zs) (f : Nw w w') : IntsAt w' ao zs := h.fr f (fun _ _ _ x => x)
theorem IntsAt.of_blk {w : World} {g : Nat} {cur : Array Value} {e : TypeId} (h : Blk w g cur e) (o : Nat) (zs : List Int)
    (hc : ∀ i, i < zs.length → cur[o + i]? = some (.int .i64 (zs.getD i 0))) : IntsAt w (some ⟨g, o, none⟩) zs :=
  fun i hi => ⟨g, o, rfl, h.lt, (h.cell _).trans (hc i hi)⟩

/-- The slice v has the elements xs (a cell each), at the head of a block of its own, or is nil. -/
def Row (w : World) (v : Value) (e : TypeId) (xs : List Value) : Prop := w.ownsRow 0 e 1 v xs.length xs
theorem Row.nil (w : World) (e : TypeId) : Row w (.slice none 0 0) e [] := World.ownsRow_nil w 0 e 1
theorem Row.fr {S : Nat → Prop} {w w' : World} {v : Value} {e : TypeId} {xs : List Value} (h : Row w v e xs) (f : Fr S w w') (hn : ∀ k, v.ownBlock = some k → ¬ S k) : Row w' v e xs := by
  refine ⟨h.1, ?_⟩
  rcases h.2 with h2 | ⟨g, cap, cur, rfl, hb, hg, r⟩
  · exact .inl h2
  · exact .inr ⟨g, cap, cur, rfl, hb, (f.block g (lt_of_block hg) (hn g rfl)).trans hg, r⟩
theorem Row.nw {w w' : World} {v : Value} {e : TypeId} {xs : List Value} (h : Row w v e xs) (f : Nw w w') : Row w' v e xs := h.fr f (fun _ _ x => x)
theorem Row.alloc {w : World} {v : Value} {e : TypeId} {xs : List Value} (h : Row w v e xs) (o : Obj) : Row (w.alloc o) v e xs := World.ownsRow.alloc h o
theorem Row.drew {w : World} {v : Value} {e : TypeId} {xs : List Value} (h : Row w v e xs) : Row w.drew v e xs := World.ownsRow.drew h
theorem Row.lt {w : World} {v : Value} {e : TypeId} {xs : List Value} (h : Row w v e xs) {k : Nat} (hk : v.ownBlock = some k) : k < w.heap.size := (World.ownsRow.lt h k hk).2
/-- The block of a row has the row's element type. -/
theorem Row.blk {w : World} {v : Value} {e : TypeId} {xs : List Value} (h : Row w v e xs) {k : Nat} (hk : v.ownBlock = some k) : ∃ cur, Blk w k cur e ∧ cur.toList.take xs.length = xs := by
  rcases h.2 with ⟨rfl, _⟩ | ⟨g, cap, cur, rfl, _, hg, _, _, _, ht⟩
  · cases hk
  · cases hk
    exact ⟨cur, hg, by simpa using ht⟩
theorem Row.form {w : World} {v : Value} {e : TypeId} {xs : List Value} (h : Row w v e xs) : ∃ ao cap, v = .slice ao xs.length cap ∧ (∀ a, ao = some a → ∃ g, a = ⟨g, 0, none⟩ ∧ v.ownBlock = some g) := by
  rcases h.2 with ⟨rfl, hn⟩ | ⟨g, cap, cur, rfl, _⟩
  · exact ⟨none, 0, by rw [hn], fun a h => by cases h⟩
  · exact ⟨_, cap, rfl, fun a h => by cases h; exact ⟨g, rfl, rfl⟩⟩
/-- The cell of an element. -/
theorem Row.cell {w : World} {v : Value} {e : TypeId} {xs : List Value} (h : Row w v e xs) (i : Nat) (hi : i < xs.length) :
    ∃ g cap, v = .slice (some ⟨g, 0, none⟩) xs.length cap ∧ v.ownBlock = some g ∧ w.cell? ⟨g, i, none⟩ = some (xs[i]) ∧ w.frozen? ⟨g, i, none⟩ = false := by
  rcases h.2 with ⟨rfl, hn⟩ | ⟨g, cap, cur, rfl, _, hg, _, _, _, ht⟩
  · omega
  · refine ⟨g, cap, rfl, rfl, ?_, Blk.free (cur := cur) hg i⟩
    have h1 := Blk.cell (w := w) (g := g) (cur := cur) (e := e) hg i
    rw [h1]
    have h2 : (cur.toList.take xs.length)[i]? = xs[i]? := by rw [show cur.toList.take xs.length = xs from by simpa using ht]
    rw [List.getElem?_take_of_lt hi, List.getElem?_eq_getElem hi] at h2
    simpa using h2
theorem Row.at_ {w : World} {g n cap : Nat} {e : TypeId} {xs : List Value} (h : Row w (.slice (some ⟨g, 0, none⟩) n cap) e xs) (i : Nat) (hi : i < xs.length) :
    w.cell? ⟨g, i, none⟩ = some (xs[i]) ∧ w.frozen? ⟨g, i, none⟩ = false := by
  obtain ⟨g', c', he, _, h1, h2⟩ := h.cell i hi
  simp at he
  obtain ⟨rfl, _⟩ := he
  exact ⟨h1, h2⟩
theorem Row.ne {w : World} {v : Value} {e e' : TypeId} {xs : List Value} {k : Nat} {cur : Array Value} (h : Row w v e xs) (hb : Blk w k cur e') (hne : e ≠ e') : v.ownBlock ≠ some k := by
  intro hk
  obtain ⟨cur', hb', _⟩ := h.blk hk
  exact hne (hb'.inj hb).2

/-- What an append of one element leaves. -/
theorem app1 {w w1 : World} {e : TypeId} {v v' x : Value} {xs : List Value} (h1 : w1.ownsRow 0 e 1 v' (xs.length + 1) (xs ++ [x]))
    (hg : (w.alloc (.cells #[x] e)).grownBy w1 v.ownBlock) (hat : v'.ownBlock = v.ownBlock ∨ v'.ownBlock = some (w.alloc (.cells #[x] e)).heap.size) :
    ∃ g cap, v' = .slice (some ⟨g, 0, none⟩) (xs.length + 1) cap ∧ Row w1 v' e (xs ++ [x]) ∧ Fr (fun k => v.ownBlock = some k) w w1 ∧ (v.ownBlock = some g ∨ g = w.heap.size + 1) ∧ g < w1.heap.size := by
  have hr : Row w1 v' e (xs ++ [x]) := by unfold Row; simpa using h1
  have hfr : Fr (fun k => v.ownBlock = some k) w w1 := ((Fr.refl (fun k => v.ownBlock = some k) w).alloc (.cells #[x] e)).grown hg (fun k hk => .inl hk)
  rcases h1.2 with ⟨_, hn⟩ | ⟨g, cap, cur, rfl, _, hgg, _⟩
  · omega
  · refine ⟨g, cap, rfl, hr, hfr, ?_, lt_of_block hgg⟩
    rcases hat with hat | hat
    · exact .inl hat.symm
    · right
      simpa [Value.ownBlock] using hat
end Go.Proofs.Ytkjfpdfkcfgfkaa

/- Contracts of the statement's own helpers: sameInts, lent. -/
namespace Go.Proofs.Ytkjfpdfkcfgfkaa
open Go.RowKit

theorem Try.infoInt : (Try.prog.info? 3).map (fun i => (i.zero, i.size, i.bytes)) = some (some (.int .i64 0), 1, 8) := by kernel_rfl
theorem Try.infoIntSize : (Try.prog.info? 3).map (·.size) = some 1 := by kernel_rfl

set_option maxHeartbeats 400000 in
set_option maxRecDepth 1000000 in
theorem sameInts_eq (ao bo : Option Addr) (ca cb : Nat) (xs : List Int) (w : World) (hx : xs.length * 8 ≤ 140737488355328)
    (ha : IntsAt w ao xs) (hb : IntsAt w bo xs) :
    Calls Try.prog 54 #[.slice ao xs.length ca, .slice bo xs.length cb] w fun e w' => e = .returned (.bool true) ∧ ∃ n, w' = w.drewN n := by
  go_enter Try.func54, Try.ntmps54
  go_wp2
  go_loopw [5] (fun i wr => ∃ k : Nat, k ≤ xs.length ∧ i = .int .i64 k ∧ ∃ n, wr = w.drewN n) (fun i _ => xs.length - (intOf i).toNat)
  case atStart => exact ⟨0, Nat.zero_le _, rfl, 0, rfl⟩
  case round =>
    obtain ⟨k, hk, rfl, n, rfl⟩ := hrel
    by_cases hlt : k < xs.length
    · obtain ⟨b1, o1, rfl, _, h1⟩ := ha k hlt
      obtain ⟨b2, o2, rfl, _, h2⟩ := hb k hlt
      clear ha hb
      go_wp2
      go_quiet (fail)
      go_wp2
      go_roundw
      case rel => exact ⟨k + 1, by omega, by go_num, _, rfl⟩
      case measure => simp [intOf]; omega
    · go_wp2
      go_ret
      exact ⟨rfl, n, rfl⟩

/-- What an owned row of n cells, as large as its slice, is as a block. -/
theorem blk_of_owns {w : World} {base n : Nat} {e : TypeId} {g : Nat} {xs : List Value} (h : w.ownsRow base e 1 (.slice (some ⟨g, 0, none⟩) n n) n xs) : Blk w g xs.toArray e := by
  obtain ⟨hl, h2⟩ := h
  rcases h2 with ⟨h2, _⟩ | ⟨g', cap, cur, hv, _, hh, hn, _, hs, ht⟩
  · cases h2
  · cases hv
    have : cur.toList = xs := by rw [← ht, List.take_of_length_le (by simp; omega)]
    have h3 : cur = xs.toArray := by rw [← this]
    rw [h3] at hh
    exact hh

theorem lent_made {w w1 : World} {n : Nat} {z : Value} (hown : w1.ownsRow w.heap.size 3 1 (.slice (some ⟨w.heap.size, 0, none⟩) n n) n (madeCells z.cells (n * 1)).toList) (hgrow : w.grownBy w1 none) :
    ∃ L : List Value, L.length = n ∧ Blk w1 w.heap.size L.toArray 3 ∧ Below w.heap.size w w1 :=
  ⟨_, by have := hown.1; omega, blk_of_owns hown, ((Fr.refl (fun _ => False) w).grown hgrow (fun k e => by cases e)).below⟩

theorem lent_src {w w1 : World} {ao : Option Addr} {zs : List Int} (h : IntsAt w ao zs) (hb : Below w.heap.size w w1) :
    0 < (zs.map (Value.int .i64)).length → ∃ ad, ao = some ad ∧ ∀ (j : Nat) (v : Value), (zs.map (Value.int .i64))[j]? = some v → w1.cell? (ad.add j) = some v := by
  intro hp
  simp at hp
  obtain ⟨b, o, rfl, hlt, _⟩ := h 0 hp
  refine ⟨⟨b, o, none⟩, rfl, fun j v hj => ?_⟩
  have hj' : j < zs.length := by
    have := (List.getElem?_eq_some_iff.1 hj).1
    simpa using this
  obtain ⟨b', o', he, _, hc⟩ := h j hj'
  cases he
  rw [show (⟨b, o, none⟩ : Addr).add j = ⟨b, o + j, none⟩ from by simp [Addr.add], hb.cell (p := ⟨b, o + j, none⟩) hlt, hc]
  rw [List.getElem?_map, List.getElem?_eq_getElem hj'] at hj
  simp at hj
  simp [← hj, hj']

theorem lent_fill (zs : List Int) (L : List Value) (hL : L.length = zs.length + 1) :
    (splice L 0 (zs.map (Value.int .i64))).toArray.setIfInBounds zs.length (.int .i64 78) = ((zs ++ [78]).map (Value.int .i64)).toArray := by
  obtain ⟨x, hx⟩ : ∃ x, L.drop zs.length = [x] := by
    match h : L.drop zs.length with
    | [] => have := congrArg List.length h; simp at this; omega
    | [x] => exact ⟨x, rfl⟩
    | _ :: _ :: _ => have := congrArg List.length h; simp at this; omega
  have : splice L 0 (zs.map (Value.int .i64)) = zs.map (Value.int .i64) ++ [x] := by simp [splice, hx]
  rw [this]
  simp

set_option maxHeartbeats 400000 in
set_option maxRecDepth 1000000 in
theorem lent_any (ao : Option Addr) (cap : Nat) (zs : List Int) (w : World) (hz : zs.length * 8 ≤ 140737488355328) (h : IntsAt w ao zs) :
    Calls Try.prog 32 #[.slice ao zs.length cap] w fun e w' =>
      e = .returned (.slice (some ⟨w.heap.size, 0, none⟩) (zs.length + 1) (zs.length + 1)) ∧ Nw w w' ∧ Blk w' w.heap.size ((zs ++ [78]).map (Value.int .i64)).toArray 3 := by
  obtain ⟨i0, hi, hz0, hz1, hz2⟩ := info_parts Try.infoInt
  have HI := Try.infoIntSize
  go_enter Try.func32, Try.ntmps32
  go_wp2_with (first
    | (at_make; refine wpList_make_full _ rfl _ _ 22 rfl w.heap.size 3 i0 (.int .i64 0) 1 Try.underlying22 hi hz0 hz1 .i64 .i64 _ _ (zs.length + 1) rfl rfl (by go_num) (by go_num) (by rw [hz2]; omega) (by unfold maxLen; omega) (Nat.le_refl _) ?_; intro w1 hown hgrow; obtain ⟨L, hL, hblk, hbel⟩ := lent_made hown hgrow; have hsrc := hd (lent_src h hbel); clear hown hgrow hi hz0 hz1 hz2)
    | (refine wpList_copy_splice (by rfl) (.tmp 8) (.tmp 9) 22 22 (by rfl) 3 Try.underlying22 HI (some ⟨w.heap.size, 0, none⟩) ao (zs.length + 1) (zs.length + 1) zs.length cap (by rfl) (by rfl) w.heap.size 0 L 3 hblk (zs.map (Value.int .i64)) (by simp) (fun hp => ⟨rfl, hsrc.out hp⟩) (by simp; omega) (ints_oneCell _ _) w.heap.size w hbel (Nat.le_refl _) ?_; intro w2 hg2 hb2; have hg3 := hd (show Blk w2 w.heap.size _ _ from hg2.out); have hf3 := hg3.out.free zs.length; have hc3 : w2.cell? ⟨w.heap.size, zs.length, none⟩ = some _ := (hg3.out.cell zs.length).trans (Array.getElem?_eq_getElem (by simp [length_splice, hL]))))
  go_ret
  refine ⟨rfl, (Fr.of_below hb2).setCell _ _ (.inr (Nat.le_refl _)), ?_⟩
  have h4 := hg3.out.set zs.length (.int .i64 78)
  rw [lent_fill zs L hL] at h4
  exact h4
end Go.Proofs.Ytkjfpdfkcfgfkaa

/- Contracts of the program's small functions: slices.Clone at ints, values.Below, values.One. -/
namespace Go.Proofs.Ytkjfpdfkcfgfkaa
open Go.RowKit

theorem clone_src {w : World} {b o : Nat} {zs : List Int} (h : IntsAt w (some ⟨b, o, none⟩) zs) (ob : Obj) :
    ∀ (j : Nat) (v : Value), (zs.map (Value.int .i64))[j]? = some v → (w.alloc ob).cell? ((⟨b, o, none⟩ : Addr).add j) = some v := by
  intro j v hj
  have hj' : j < zs.length := by
    have := (List.getElem?_eq_some_iff.1 hj).1
    simpa using this
  obtain ⟨b', o', he, hlt, hc⟩ := h j hj'
  cases he
  rw [show (⟨b, o, none⟩ : Addr).add j = ⟨b, o + j, none⟩ from by simp [Addr.add], Fr.cell ((Fr.refl (fun _ => False) w).alloc ob) hlt (fun x => x), hc]
  rw [List.getElem?_map, List.getElem?_eq_getElem hj'] at hj
  simp at hj
  simp [← hj, hj']

theorem clone_end {w w1 : World} {e : TypeId} {v' : Value} {n : Nat} {xs : List Value} (hx : 0 < n) (hn : xs.length = n) (h1 : w1.ownsRow 0 e 1 v' (0 + n) ([] ++ xs))
    (hg : (w.alloc (.cells #[] e)).grownBy w1 (Value.slice (some ⟨w.heap.size, 0, none⟩) 0 0).ownBlock)
    (hat : v'.ownBlock = (Value.slice (some ⟨w.heap.size, 0, none⟩) 0 0).ownBlock ∨ v'.ownBlock = some (w.alloc (.cells #[] e)).heap.size) :
    ∃ g cap, v' = .slice (some ⟨g, 0, none⟩) n cap ∧ Nw w w1 ∧ Row w1 v' e xs ∧ w.heap.size ≤ g := by
  subst hn
  have hr : Row w1 v' e xs := by unfold Row; simpa using h1
  have hfr : Nw w w1 := ((Fr.refl _ w).alloc (.cells #[] e)).grown hg (fun k hk => .inr (by cases hk; exact Nat.le_refl _))
  rcases h1.2 with ⟨_, hn⟩ | ⟨g, cap, cur, rfl, _⟩
  · omega
  · refine ⟨g, cap, by simp, hfr, hr, ?_⟩
    rcases hat with hat | hat
    · simp [Value.ownBlock] at hat; omega
    · simp [Value.ownBlock] at hat; omega

set_option maxHeartbeats 400000 in
set_option maxRecDepth 1000000 in
theorem clone_any (b o : Nat) (cap : Nat) (zs : List Int) (w : World) (hz : zs.length * 8 ≤ 140737488355328) (h0 : 0 < zs.length) (h : IntsAt w (some ⟨b, o, none⟩) zs) :
    Calls Try.prog 49 #[.slice (some ⟨b, o, none⟩) zs.length cap] w fun e w' =>
      ∃ g cap', e = .returned (.slice (some ⟨g, 0, none⟩) zs.length cap') ∧ Nw w w' ∧ Row w' (.slice (some ⟨g, 0, none⟩) zs.length cap') 3 (zs.map (Value.int .i64)) ∧ w.heap.size ≤ g := by
  obtain ⟨i0, hi, hz0, hz1, hz2⟩ := info_parts Try.infoInt
  have heq := fun (w : World) a n c => Lib.run_eql_slice_nil (P := Try.prog) w 22 3 a n c 0 0 Try.underlying22
  go_enter Try.func49, Try.ntmps49
  have hsrc := hd (clone_src h (.cells #[] 3))
  clear h
  go_wp2_with (at_builtin; refine wpList_append_own_at _ rfl _ _ 22 rfl 0 3 i0 (.int .i64 0) 1 8 Try.underlying22 hi hz0 hz1 hz2 rfl (by decide) _ 0 [] rfl (World.ownsRow_made w #[] 0 (Nat.zero_le _) (Nat.zero_le _) rfl) ⟨b, o, none⟩ zs.length cap (zs.map (Value.int .i64)) rfl (by simp) hsrc.out (ints_oneCell _ _) (by unfold maxLen; omega) (by omega) (Nat.zero_le _) ?_; intro v' w1 hown' hgrow _ hat; obtain ⟨g', cap', rfl, hf1, hr1, hg1⟩ := clone_end h0 (by simp) hown' hgrow hat; clear hown' hgrow hat)
  go_ret
  exact ⟨g', cap', rfl, hf1, hr1, hg1⟩

set_option maxHeartbeats 400000 in
theorem below_any (n : Nat) (w : World) (h : n ≤ 6) :
    Calls Try.prog 50 #[.int .i64 n] w fun e w' => e = .returned (.int .u8 (2 ^ n - 1 : Nat)) ∧ w' = w := by
  match n, h with
  | 0, _ | 1, _ | 2, _ | 3, _ | 4, _ | 5, _ | 6, _ =>
    go_enter Try.func50, Try.ntmps50
    go_wp2
    go_ret
    exact ⟨rfl, rfl⟩
end Go.Proofs.Ytkjfpdfkcfgfkaa

/- Contract of the program's New. -/
namespace Go.Proofs.Ytkjfpdfkcfgfkaa
open Go.RowKit

def okSize (z : Int) : Bool := decide (1 ≤ z ∧ z ≤ 6)
def okSizes (zs : List Int) : Bool := decide (1 ≤ zs.length ∧ zs.length ≤ 8) && zs.all okSize
/-- What a Work has behind its tables: the trail's functions, the levels' starts, whether it is gone through. -/
structure Rest where
  backs : Value
  starts : Value
  busy : Bool
/-- The rest of a new Work. -/
def rest0 : Rest := ⟨.slice none 0 0, .slice none 0 0, false⟩
/-- The cells of a Work: its sizes, eight domains, its tables, the rest. -/
def workCells (szv : Value) (d : List Nat) (tv : Value) (l : Rest) : Array Value := (szv :: (d.map (fun (x : Nat) => Value.int .u8 (x : Int)) ++ [tv, l.backs, l.starts, .bool l.busy])).toArray
def fullTo (zs : List Int) (k : Nat) : List Nat := (zs.take k).map (fun z => 2 ^ z.toNat - 1) ++ List.replicate (8 - k) 0
theorem fullTo_length (zs : List Int) (k : Nat) (hk : k ≤ zs.length) (h8 : zs.length ≤ 8) : (fullTo zs k).length = 8 := by simp [fullTo]; omega
theorem workCells_size (szv : Value) (d : List Nat) (tv : Value) (l : Rest) : (workCells szv d tv l).size = d.length + 5 := by simp [workCells]
theorem workCells_set (szv : Value) (d : List Nat) (tv : Value) (l : Rest) (i x : Nat) (hi : i < d.length) :
    (workCells szv d tv l).setIfInBounds (1 + i) (.int .u8 (x : Int)) = workCells szv (d.set i x) tv l := by
  rw [Nat.add_comm]
  simp [workCells, hi, List.map_set]
theorem fullTo_succ (zs : List Int) (k : Nat) (hk : k < zs.length) (h8 : zs.length ≤ 8) : (fullTo zs k).set k (2 ^ (zs.getD k 0).toNat - 1) = fullTo zs (k + 1) := by
  have h1 : ∀ m, 8 - k = m + 1 → List.replicate (8 - k) 0 = 0 :: List.replicate m 0 := by
    intro m hm
    rw [hm]; rfl
  obtain ⟨m, hm⟩ : ∃ m, 8 - k = m + 1 := ⟨8 - (k + 1), by omega⟩
  simp only [fullTo]
  rw [h1 m hm, show 8 - (k + 1) = m from by omega, List.set_append_right _ _ (by simp; omega)]
  have h3 : zs.take (k + 1) = zs.take k ++ [zs[k]] := List.take_succ_eq_append_getElem hk
  rw [h3, List.map_append, List.append_assoc]
  congr 1
  simp [Nat.min_eq_left (Nat.le_of_lt hk), hk]

set_option maxHeartbeats 800000 in
set_option maxRecDepth 1000000 in
theorem new_len (ao : Option Addr) (cap n : Nat) (w : World) (hn : n * 8 ≤ 140737488355328) (h : n < 1 ∨ 8 < n) :
    Calls Try.prog 30 #[.slice ao n cap] w fun e w' => e = .returned (.tuple #[.pointer none, .int .i64 1]) ∧ w' = w := by
  rcases h with h | h
  · obtain rfl : n = 0 := by omega
    go_enter Try.func30, Try.ntmps30
    go_wp2
    go_ret2
    exact ⟨rfl, rfl⟩
  · go_enter Try.func30, Try.ntmps30
    go_wp2
    go_ret2
    exact ⟨rfl, rfl⟩

set_option maxHeartbeats 800000 in
set_option maxRecDepth 1000000 in
theorem new_any (b o : Nat) (cap : Nat) (zs : List Int) (w : World) (h1 : 1 ≤ zs.length) (h8 : zs.length ≤ 8) (h : IntsAt w (some ⟨b, o, none⟩) zs) :
    Calls Try.prog 30 #[.slice (some ⟨b, o, none⟩) zs.length cap] w fun e w' =>
      Nw w w' ∧ ((okSizes zs = true ∧ ∃ B szv, e = .returned (.tuple #[.pointer (some ⟨B, 0, none⟩), .int .i64 0]) ∧ Blk w' B (workCells szv (fullTo zs zs.length) (.slice none 0 0) rest0) 82 ∧
          Row w' szv 3 (zs.map (Value.int .i64)) ∧ w.heap.size ≤ B ∧ (∀ k, szv.ownBlock = some k → w.heap.size ≤ k)) ∨
        (okSizes zs = false ∧ e = .returned (.tuple #[.pointer none, .int .i64 1]))) := by
  go_enter Try.func30, Try.ntmps30
  go_wp2_with (go_at_call 49; refine (clone_any _ _ _ zs _ (by omega) (by omega) h).mono ?_; rintro e w1 ⟨g, cap', rfl, hf1, hr1, hg1⟩)
  have hB0 : Blk (w1.alloc (.cells #[.slice (some ⟨g, 0, none⟩) zs.length cap', .int .u8 0, .int .u8 0, .int .u8 0, .int .u8 0, .int .u8 0, .int .u8 0, .int .u8 0, .int .u8 0, .slice none 0 0, .slice none 0 0, .slice none 0 0, .bool false] 82)) w1.heap.size (workCells (.slice (some ⟨g, 0, none⟩) zs.length cap') (fullTo zs 0) (.slice none 0 0) rest0) 82 := Blk.new _ _ _
  have hF0 := hf1.alloc (.cells #[.slice (some ⟨g, 0, none⟩) zs.length cap', .int .u8 0, .int .u8 0, .int .u8 0, .int .u8 0, .int .u8 0, .int .u8 0, .int .u8 0, .int .u8 0, .slice none 0 0, .slice none 0 0, .slice none 0 0, .bool false] 82)
  have hR0 := hr1.alloc (.cells #[.slice (some ⟨g, 0, none⟩) zs.length cap', .int .u8 0, .int .u8 0, .int .u8 0, .int .u8 0, .int .u8 0, .int .u8 0, .int .u8 0, .int .u8 0, .slice none 0 0, .slice none 0 0, .slice none 0 0, .bool false] 82)
  have hle := hf1.size
  have hgl : g < w1.heap.size := hr1.lt rfl
  clear h
  generalize hX : w1.alloc (.cells #[.slice (some ⟨g, 0, none⟩) zs.length cap', .int .u8 0, .int .u8 0, .int .u8 0, .int .u8 0, .int .u8 0, .int .u8 0, .int .u8 0, .int .u8 0, .slice none 0 0, .slice none 0 0, .slice none 0 0, .bool false] 82) = X at *
  clear hX hf1 hr1
  generalize w1.heap.size = B at *
  go_loopw [24] (fun i wr => ∃ k : Nat, k ≤ zs.length ∧ i = .int .i64 k ∧ Hid (Blk wr B (workCells (.slice (some ⟨g, 0, none⟩) zs.length cap') (fullTo zs k) (.slice none 0 0) rest0) 82) ∧ Nw w wr ∧ Row wr (.slice (some ⟨g, 0, none⟩) zs.length cap') 3 (zs.map (Value.int .i64)) ∧ (zs.take k).all okSize = true) (fun i _ => zs.length - (intOf i).toNat)
  case atStart => exact ⟨0, Nat.zero_le _, rfl, hB0, hF0, hR0, by simp⟩
  case round =>
    obtain ⟨k, hk, rfl, hb, hf, hr, hall⟩ := hrel
    have Hall := hd hall
    clear hall hB0 hF0 hR0
    by_cases hlt : k < zs.length
    · obtain ⟨hcell, _⟩ := hr.at_ k (by simpa using hlt)
      simp only [List.getElem_map] at hcell
      by_cases hok : okSize zs[k] = true
      · have hok2 : 1 ≤ zs[k] ∧ zs[k] ≤ 6 := by simpa [okSize] using hok
        obtain ⟨z, hz⟩ : ∃ z : Nat, zs[k] = (z : Int) := ⟨zs[k].toNat, by omega⟩
        rw [hz] at hcell hok2
        obtain ⟨hz1, hz6⟩ := hok2
        have Hz := hd hz
        have Hok := hd hok
        clear hz hok
        have hi0 : (0 : Int) ≤ (k : Int) := by omega
        have hi8 : (k : Int) < 8 := by omega
        have hfz := hb.out.free (1 + k)
        obtain ⟨x, hcd⟩ : ∃ x, wr.cell? ⟨B, 1 + k, none⟩ = some x := ⟨_, (hb.out.cell _).trans (Array.getElem?_eq_getElem (by rw [workCells_size, fullTo_length zs k hk h8]; omega))⟩
        go_wp2
        go_region_held3 (fun w' => True) (trivial) (first | (go_at_call 50; refine (below_any z _ (by omega)).mono ?_; rintro e w' ⟨rfl, rfl⟩))
        go_wp2
        have hne : B ≠ g := by omega
        go_roundw
        case rel =>
          refine ⟨k + 1, by omega, by go_num, ?_, (hf.setCell _ _ (.inr hle)).drew, ?_, ?_⟩
          · have h5 := hb.out.set (1 + k) (.int .u8 ((2 ^ z - 1 : Nat) : Int))
            rw [workCells_set _ _ _ _ _ _ (by rw [fullTo_length zs k hk h8]; omega)] at h5
            have h6 := fullTo_succ zs k hlt h8
            rw [show (zs.getD k 0).toNat = z from by simp [hlt, Hz.out]] at h6
            rw [h6] at h5
            exact h5.drew
          · exact (hr.fr ((Fr.refl (fun j => j = B) wr).setCell ⟨B, 1 + k, none⟩ _ (.inl rfl)) (fun j hj e => by cases hj; exact hne e.symm)).drew
          · rw [List.take_succ_eq_append_getElem hlt, List.all_append, Hall.out]
            simp [Hok.out]
        case measure => simp [intOf]; omega
      · have hok2 : ¬ (1 ≤ zs[k] ∧ zs[k] ≤ 6) := by simpa [okSize] using hok
        have hfin : okSizes zs = false := by
          have : zs.all okSize = false := by
            rw [List.all_eq_false]
            exact ⟨zs[k], List.getElem_mem hlt, hok⟩
          simp [okSizes, this]
        have Hfin := hd hfin
        clear hfin hok
        go_wp2
        all_goals (go_ret2; exact ⟨hf, .inr ⟨Hfin.out, rfl⟩⟩)
    · obtain rfl : k = zs.length := by omega
      go_wp2
      go_ret2
      refine ⟨hf, .inl ⟨?_, B, _, rfl, hb.out, hr, hle, fun j hj => by cases hj; exact hg1⟩⟩
      have := Hall.out
      rw [List.take_length] at this
      simp only [okSizes, this, Bool.and_true, decide_eq_true_eq]
      omega
end Go.Proofs.Ytkjfpdfkcfgfkaa

/- Contract of the document's New (fretworkref.New). -/
namespace Go.Proofs.Ytkjfpdfkcfgfkaa
open Go.RowKit

theorem Try.infoBool : (Try.prog.info? 4).map (fun i => (i.zero, i.size, i.bytes)) = some (some (.bool false), 1, 1) := by kernel_rfl
theorem Try.infoBools : (Try.prog.info? 100).map (fun i => (i.zero, i.size, i.bytes)) = some (some (.slice none 0 0), 1, 24) := by kernel_rfl

abbrev nilS : Value := .slice none 0 0
/-- The document's domains in memory: a row of bools a variable, each in a block of its own (from lo on). -/
structure InRows (w : World) (lo : Nat) (vs : List Value) (bss : List (List Bool)) : Prop where
  len : vs.length = bss.length
  row : ∀ i, i < bss.length → Row w (vs.getD i nilS) 4 ((bss.getD i []).map Value.bool)
  ne : ∀ i j, i < j → j < bss.length → ∀ k, (vs.getD i nilS).ownBlock = some k → (vs.getD j nilS).ownBlock ≠ some k
  lo : ∀ i, i < bss.length → ∀ k, (vs.getD i nilS).ownBlock = some k → lo ≤ k

theorem InRows.nil (w : World) (lo : Nat) : InRows w lo [] [] := ⟨rfl, fun i h => by simp at h, fun i j _ h => by simp at h, fun i h => by simp at h⟩
theorem InRows.fr {S : Nat → Prop} {w w' : World} {lo : Nat} {vs : List Value} {bss : List (List Bool)} (h : InRows w lo vs bss) (f : Fr S w w')
    (hn : ∀ k cur, S k → ¬ Blk w k cur 4) : InRows w' lo vs bss :=
  ⟨h.len, fun i hi => (h.row i hi).fr f (fun k hk hs => by
    obtain ⟨cur, hb, _⟩ := (h.row i hi).blk hk
    exact hn k cur hs hb), h.ne, h.lo⟩
theorem InRows.snoc {w : World} {lo : Nat} {vs : List Value} {bss : List (List Bool)} (h : InRows w lo vs bss) (v : Value) (bs : List Bool)
    (hr : Row w v 4 (bs.map Value.bool)) (hlo : ∀ k, v.ownBlock = some k → lo ≤ k) (hne : ∀ i, i < bss.length → ∀ k, (vs.getD i nilS).ownBlock = some k → v.ownBlock ≠ some k) :
    InRows w lo (vs ++ [v]) (bss ++ [bs]) := by
  have hl := h.len
  have hold : ∀ i, i < bss.length → (vs ++ [v]).getD i nilS = vs.getD i nilS ∧ (bss ++ [bs]).getD i [] = bss.getD i [] := by
    intro i hi
    simp [List.getD, List.getElem?_append_left, hi, hl ▸ hi]
  have hnew : (vs ++ [v]).getD bss.length nilS = v ∧ (bss ++ [bs]).getD bss.length [] = bs := by
    constructor
    · rw [← hl]; simp
    · simp
  refine ⟨by simp [hl], fun i hi => ?_, fun i j hij hj => ?_, fun i hi => ?_⟩
  · simp at hi
    by_cases h1 : i < bss.length
    · rw [(hold i h1).1, (hold i h1).2]; exact h.row i h1
    · obtain rfl : i = bss.length := by omega
      rw [hnew.1, hnew.2]; exact hr
  · simp at hj
    have h1 : i < bss.length := by omega
    rw [(hold i h1).1]
    by_cases h2 : j < bss.length
    · rw [(hold j h2).1]; exact h.ne i j hij h2
    · obtain rfl : j = bss.length := by omega
      rw [hnew.1]; exact hne i h1
  · simp at hi
    by_cases h1 : i < bss.length
    · rw [(hold i h1).1]; exact h.lo i h1
    · obtain rfl : i = bss.length := by omega
      rw [hnew.1]; exact hlo

/-- All values of the first k variables. -/
def allIn (zs : List Int) (k : Nat) : List (List Bool) := (zs.take k).map (fun z => List.replicate z.toNat true)

/-- The document's Work in memory. -/
structure RefAt (w : World) (lo B : Nat) (zs : List Int) (bss : List (List Bool)) (dead : Bool) (tv lv : Value) : Prop where
  mk ::
  ex : ∃ szv inv vs, Blk w B #[szv, inv, .bool dead, tv, lv] 99 ∧ Row w szv 3 (zs.map (Value.int .i64)) ∧ Row w inv 100 vs ∧ InRows w lo vs bss ∧
    (∀ k, szv.ownBlock = some k → lo ≤ k) ∧ (∀ k, inv.ownBlock = some k → lo ≤ k)

set_option maxHeartbeats 800000 in
set_option maxRecDepth 1000000 in
theorem refNew_len (ao : Option Addr) (cap n : Nat) (w : World) (hn : n * 8 ≤ 140737488355328) (h : n < 1 ∨ 8 < n) :
    Calls Try.prog 33 #[.slice ao n cap] w fun e w' => e = .returned (.pointer none) ∧ w' = w := by
  rcases h with h | h
  · obtain rfl : n = 0 := by omega
    go_enter Try.func33, Try.ntmps33
    go_wp2
    go_ret
    exact ⟨rfl, rfl⟩
  · go_enter Try.func33, Try.ntmps33
    go_wp2
    go_ret
    exact ⟨rfl, rfl⟩

theorem refNew_step {w wr w1 : World} {szv inv : Value} {vs : List Value} {zs : List Int} {k z gg cap' : Nat} {bss : List (List Bool)}
    (hf : Nw w wr) (hin : Row wr inv 100 vs) (hvs : InRows wr w.heap.size vs bss)
    (hsz : Row wr szv 3 ((zs.take k).map (Value.int .i64))) (hszlo : ∀ k, szv.ownBlock = some k → w.heap.size ≤ k) (hlt : k < zs.length) (hz : zs[k] = (z : Int))
    (hown1 : w1.ownsRow 0 3 1 (.slice (some ⟨gg, 0, none⟩) (k + 1) cap') (k + 1) ((zs.take k).map (Value.int .i64) ++ [.int .i64 z]))
    (hgrow : (wr.alloc (.cells #[.int .i64 z] 3)).drew.grownBy w1 szv.ownBlock) (hat : szv.ownBlock = some gg ∨ gg = wr.heap.size + 1)
    (hb1 : Blk w1 w.heap.size #[szv, inv, .bool false, nilS, nilS] 99) :
    Blk (w1.setCell ⟨w.heap.size, 0, none⟩ (.slice (some ⟨gg, 0, none⟩) (k + 1) cap')) w.heap.size #[.slice (some ⟨gg, 0, none⟩) (k + 1) cap', inv, .bool false, nilS, nilS] 99 ∧
    Nw w (w1.setCell ⟨w.heap.size, 0, none⟩ (.slice (some ⟨gg, 0, none⟩) (k + 1) cap')) ∧
    Row (w1.setCell ⟨w.heap.size, 0, none⟩ (.slice (some ⟨gg, 0, none⟩) (k + 1) cap')) (.slice (some ⟨gg, 0, none⟩) (k + 1) cap') 3 ((zs.take (k + 1)).map (Value.int .i64)) ∧
    Row (w1.setCell ⟨w.heap.size, 0, none⟩ (.slice (some ⟨gg, 0, none⟩) (k + 1) cap')) inv 100 vs ∧
    InRows (w1.setCell ⟨w.heap.size, 0, none⟩ (.slice (some ⟨gg, 0, none⟩) (k + 1) cap')) w.heap.size vs bss ∧ w.heap.size ≤ gg := by
  have e1 : (zs.take (k + 1)).map (Value.int .i64) = (zs.take k).map (Value.int .i64) ++ [.int .i64 z] := by
    rw [List.take_succ_eq_append_getElem hlt, List.map_append, hz]; rfl
  have hl : ((zs.take k).map (Value.int .i64) ++ [Value.int .i64 z]).length = k + 1 := by simp; omega
  have hr1 : Row w1 (.slice (some ⟨gg, 0, none⟩) (k + 1) cap') 3 ((zs.take k).map (Value.int .i64) ++ [.int .i64 z]) := by
    unfold Row; rw [hl]; exact hown1
  have hfr : Fr (fun j => szv.ownBlock = some j) wr w1 := (((Fr.refl (fun j => szv.ownBlock = some j) wr).alloc _).drew).grown hgrow (fun j hj => .inl hj)
  have hfs : Fr (fun j => j = w.heap.size) w1 (w1.setCell ⟨w.heap.size, 0, none⟩ (.slice (some ⟨gg, 0, none⟩) (k + 1) cap')) := (Fr.refl _ w1).setCell _ _ (.inl rfl)
  have hne : ∀ cur, ¬ Blk w1 w.heap.size cur 4 := fun cur h => by have := (h.inj hb1).2; revert this; decide
  have hin1 : Row w1 inv 100 vs := hin.fr hfr (fun j hj hs => by
    obtain ⟨cur, hb, _⟩ := hin.blk hj
    exact hsz.ne hb (by decide) hs)
  have hvs1 : InRows w1 w.heap.size vs bss := hvs.fr hfr (fun j cur hs hb => hsz.ne hb (by decide) hs)
  refine ⟨?_, ?_, ?_, ?_, ?_, ?_⟩
  · have := hb1.set 0 (.slice (some ⟨gg, 0, none⟩) (k + 1) cap')
    simpa using this
  · exact (hf.trans hfr (fun j hj => .inr (hszlo j hj))).setCell _ _ (.inr (Nat.le_refl _))
  · rw [e1]
    exact hr1.fr hfs (fun j hj e => by subst e; exact hr1.ne hb1 (by decide) hj)
  · exact hin1.fr hfs (fun j hj e => by subst e; exact hin1.ne hb1 (by decide) hj)
  · exact hvs1.fr hfs (fun j cur e hb => by subst e; exact hne cur hb)
  · rcases hat with h | h
    · exact hszlo _ h
    · have := hf.size; omega

theorem refNew_end {w wc wi w1 : World} {szv inv lv : Value} {vs : List Value} {zs : List Int} {k z gg cap' : Nat}
    (hf : Nw w wc) (hfi : Nw wc wi) (hsz : Row wc szv 3 ((zs.take (k + 1)).map (Value.int .i64))) (hin : Row wc inv 100 vs) (hvs : InRows wc w.heap.size vs (allIn zs k))
    (hinlo : ∀ k, inv.ownBlock = some k → w.heap.size ≤ k) (hlt : k < zs.length) (hz : zs[k] = (z : Int))
    (hlv : Row wi lv 4 (List.replicate z (.bool true))) (hlo : ∀ k, lv.ownBlock = some k → wc.heap.size ≤ k)
    (hr1 : Row w1 (.slice (some ⟨gg, 0, none⟩) (vs.length + 1) cap') 100 (vs ++ [lv])) (hf1 : Fr (fun j => inv.ownBlock = some j) wi w1) (hat : inv.ownBlock = some gg ∨ gg = wi.heap.size + 1)
    (hb1 : Blk w1 w.heap.size #[szv, inv, .bool false, nilS, nilS] 99) :
    Blk (w1.setCell ⟨w.heap.size, 1, none⟩ (.slice (some ⟨gg, 0, none⟩) (vs.length + 1) cap')) w.heap.size #[szv, .slice (some ⟨gg, 0, none⟩) (vs.length + 1) cap', .bool false, nilS, nilS] 99 ∧
    Nw w (w1.setCell ⟨w.heap.size, 1, none⟩ (.slice (some ⟨gg, 0, none⟩) (vs.length + 1) cap')) ∧
    Row (w1.setCell ⟨w.heap.size, 1, none⟩ (.slice (some ⟨gg, 0, none⟩) (vs.length + 1) cap')) szv 3 ((zs.take (k + 1)).map (Value.int .i64)) ∧
    Row (w1.setCell ⟨w.heap.size, 1, none⟩ (.slice (some ⟨gg, 0, none⟩) (vs.length + 1) cap')) (.slice (some ⟨gg, 0, none⟩) (vs.length + 1) cap') 100 (vs ++ [lv]) ∧
    InRows (w1.setCell ⟨w.heap.size, 1, none⟩ (.slice (some ⟨gg, 0, none⟩) (vs.length + 1) cap')) w.heap.size (vs ++ [lv]) (allIn zs (k + 1)) ∧
    (∀ j, (Value.slice (some ⟨gg, 0, none⟩) (vs.length + 1) cap').ownBlock = some j → w.heap.size ≤ j) := by
  have hini : Row wi inv 100 vs := hin.nw hfi
  have hfs : Fr (fun j => j = w.heap.size) w1 (w1.setCell ⟨w.heap.size, 1, none⟩ (.slice (some ⟨gg, 0, none⟩) (vs.length + 1) cap')) := (Fr.refl _ w1).setCell _ _ (.inl rfl)
  have hne : ∀ cur, ¬ Blk w1 w.heap.size cur 4 := fun cur h => by have := (h.inj hb1).2; revert this; decide
  have hsz1 : Row w1 szv 3 ((zs.take (k + 1)).map (Value.int .i64)) := (hsz.nw hfi).fr hf1 (fun j hj hs => by
    obtain ⟨cur, hb, _⟩ := (hsz.nw hfi).blk hj
    exact hini.ne hb (by decide) hs)
  have hl : (allIn zs k).length = k := by simp [allIn]; omega
  have hall : allIn zs (k + 1) = allIn zs k ++ [List.replicate z true] := by
    simp only [allIn]
    rw [List.take_succ_eq_append_getElem hlt, List.map_append, hz]; rfl
  have hvi : InRows wi w.heap.size (vs ++ [lv]) (allIn zs (k + 1)) := by
    rw [hall]
    refine (hvs.fr hfi (fun j cur hs _ => hs)).snoc lv (List.replicate z true) (by simpa using hlv) (fun j hj => ?_) (fun i hi j hj hj' => ?_)
    · have := hlo j hj; have := hf.size; omega
    · have h1 := (hvs.row i hi).lt hj
      have h2 := hlo j hj'
      omega
  have hv1 : InRows w1 w.heap.size (vs ++ [lv]) (allIn zs (k + 1)) := hvi.fr hf1 (fun j cur hs hb => hini.ne hb (by decide) hs)
  have hlog : ∀ j, (Value.slice (some ⟨gg, 0, none⟩) (vs.length + 1) cap').ownBlock = some j → w.heap.size ≤ j := by
    intro j hj
    cases hj
    rcases hat with h | h
    · exact hinlo _ h
    · have := hf.size; have := hfi.size; show w.heap.size ≤ gg; omega
  refine ⟨?_, ?_, ?_, ?_, ?_, hlog⟩
  · have := hb1.set 1 (.slice (some ⟨gg, 0, none⟩) (vs.length + 1) cap')
    simpa using this
  · exact ((hf.trans hfi (fun j hj => hj.elim)).trans hf1 (fun j hj => .inr (hinlo j hj))).setCell _ _ (.inr (Nat.le_refl _))
  · exact hsz1.fr hfs (fun j hj e => by subst e; exact hsz1.ne hb1 (by decide) hj)
  · exact hr1.fr hfs (fun j hj e => by subst e; exact hr1.ne hb1 (by decide) hj)
  · exact hv1.fr hfs (fun j cur e hb => by subst e; exact hne cur hb)

set_option maxHeartbeats 1600000 in
set_option maxRecDepth 1000000 in
theorem refNew_any (b o : Nat) (cap : Nat) (zs : List Int) (w : World) (h1 : 1 ≤ zs.length) (h8 : zs.length ≤ 8) (h : IntsAt w (some ⟨b, o, none⟩) zs) :
    Calls Try.prog 33 #[.slice (some ⟨b, o, none⟩) zs.length cap] w fun e w' =>
      Nw w w' ∧ ((okSizes zs = true ∧ ∃ B, e = .returned (.pointer (some ⟨B, 0, none⟩)) ∧ w.heap.size ≤ B ∧ RefAt w' w.heap.size B zs (allIn zs zs.length) false nilS nilS) ∨
        (okSizes zs = false ∧ e = .returned (.pointer none))) := by
  obtain ⟨i0, hi, hz0, hz1, hz2⟩ := info_parts Try.infoInt
  obtain ⟨j0, hj, hy0, hy1, hy2⟩ := info_parts Try.infoBool
  obtain ⟨k0, hk0, hx0, hx1, hx2⟩ := info_parts Try.infoBools
  go_enter Try.func33, Try.ntmps33
  go_wp2
  have hB0 : Blk (w.alloc (.cells #[nilS, nilS, .bool false, nilS, nilS] 99)) w.heap.size #[nilS, nilS, .bool false, nilS, nilS] 99 := Blk.new _ _ _
  have hF0 : Nw w (w.alloc (.cells #[nilS, nilS, .bool false, nilS, nilS] 99)) := (Fr.refl _ w).alloc _
  go_loopw [4] (fun i wr => ∃ (k : Nat) (szv inv : Value) (vs : List Value), k ≤ zs.length ∧ i = .int .i64 k ∧ Hid (Blk wr w.heap.size #[szv, inv, .bool false, nilS, nilS] 99) ∧ Nw w wr ∧ Row wr szv 3 ((zs.take k).map (Value.int .i64)) ∧
    Row wr inv 100 vs ∧ InRows wr w.heap.size vs (allIn zs k) ∧ (∀ k, szv.ownBlock = some k → w.heap.size ≤ k) ∧ (∀ k, inv.ownBlock = some k → w.heap.size ≤ k) ∧ Hid ((zs.take k).all okSize = true)) (fun i _ => zs.length - (intOf i).toNat)
  case atStart => exact ⟨0, nilS, nilS, [], Nat.zero_le _, rfl, hB0, hF0, Row.nil _ _, Row.nil _ _, by simp only [allIn, List.take_zero, List.map_nil]; exact InRows.nil _ _, fun k hk => (by cases hk), fun k hk => (by cases hk), by simp [Hid]⟩
  case round =>
    obtain ⟨k, szv, inv, vs, hk, rfl, hb, hf, hsz, hin, hvs, hszlo, hinlo, Hall⟩ := hrel
    clear hB0 hF0
    by_cases hlt : k < zs.length
    · obtain ⟨b', o', he, hbl, hcell⟩ := h k hlt
      simp at he
      obtain ⟨rfl, rfl⟩ := he
      have hcr : wr.cell? ⟨b, o + k, none⟩ = some (.int .i64 zs[k]) := (hf.cell hbl (fun x => x)).trans (by rw [hcell]; simp [hlt])
      clear hcell
      by_cases hok : okSize zs[k] = true
      · have hok2 : 1 ≤ zs[k] ∧ zs[k] ≤ 6 := by simpa [okSize] using hok
        obtain ⟨z, hz⟩ : ∃ z : Nat, zs[k] = (z : Int) := ⟨zs[k].toNat, by omega⟩
        rw [hz] at hcr hok2
        obtain ⟨hz1', hz6⟩ := hok2
        have Hz := hd hz
        have Hok := hd hok
        clear hz hok
        have hi0 : (0 : Int) ≤ (k : Int) := by omega
        have hi8 : (k : Int) < (zs.length : Int) := by omega
        have hbB : w.heap.size < wr.heap.size := hb.out.lt
        have hbr : b < wr.heap.size := by omega
        have cB : wr.cell? ⟨w.heap.size, 0, none⟩ = some szv := hb.out.cell 0
        have fB : wr.frozen? ⟨w.heap.size, 0, none⟩ = false := hb.out.free 0
        have nB : szv.ownBlock ≠ some w.heap.size := hsz.ne hb.out (by decide)
        have nb : szv.ownBlock ≠ some b := fun e => by have := hszlo b e; omega
        have lk : ((zs.take k).map (Value.int .i64)).length = k := by simp; omega
        have Hsz := hd hsz
        clear hsz
        go_upto_region 9 with fail
        go_cut [5] (fun _ wx => ∃ gg cap', Hid (Blk wx w.heap.size #[.slice (some ⟨gg, 0, none⟩) (k + 1) cap', inv, .bool false, nilS, nilS] 99) ∧ Nw w wx ∧ Row wx (.slice (some ⟨gg, 0, none⟩) (k + 1) cap') 3 ((zs.take (k + 1)).map (Value.int .i64)) ∧
          Row wx inv 100 vs ∧ InRows wx w.heap.size vs (allIn zs k) ∧ w.heap.size ≤ gg)
        case first =>
          have Hbw : ∀ (X : Obj), Blk (wr.alloc X).drew w.heap.size #[szv, inv, .bool false, nilS, nilS] 99 := fun X => (hb.out.alloc X).drew
          have HBW := hd Hbw
          clear Hbw
          go_region_law ((refine step_append_lies _ (by rfl) _ _ _ (by rfl) 0 3 i0 _ 1 8 Try.underlying22 hi hz0 hz1 hz2 rfl (by omega) szv ((zs.take k).map (Value.int .i64)).length ((zs.take k).map (Value.int .i64)) (by rfl) ((Hsz.out.alloc _).drew) ⟨wr.heap.size, 0, none⟩ 1 1 [.int .i64 z] (by rfl) (by rfl) (World.news_of_block (cs := #[.int .i64 z]) (t := 3) (fr := (0, 0)) (heap_alloc_new wr _)) (by simp [Value.oneCell']) (by omega) (by unfold maxLen; omega) (by omega) (by simp) (wr.heap.size + 1) (by simp) ?_; intro gg cap' w1 hown1 hgrow hat hltg; have hb1 : Hid (Blk w1 w.heap.size #[szv, inv, .bool false, nilS, nilS] 99) := (hgrow.block _ (HBW.out _).lt (Ne.symm nB)).trans (HBW.out _); have c1 : w1.cell? ⟨w.heap.size, 0, none⟩ = some szv := hb1.out.cell 0; have f1 := hb1.out.free 0))
          all_goals
            have R := refNew_step hf hin hvs Hsz.out hszlo hlt Hz.out (by rw [lk] at hown1; exact hown1) hgrow hat hb1.out
            clear hown1 hgrow
            go_wp2
            go_meet
            case rel => exact ⟨gg, cap', R.1, R.2.1, R.2.2.1, R.2.2.2.1, R.2.2.2.2.1, R.2.2.2.2.2⟩
        case rest =>
          obtain ⟨gg, cap', hbx, hfx, hszx, hinx, hvsx, hggx⟩ := hcut
          have hbc : wc.cell? ⟨b, o + k, none⟩ = some (.int .i64 z) := (hfx.cell hbl (fun x => x)).trans ((hf.cell hbl (fun x => x)).symm.trans hcr)
          have hblc : b < wc.heap.size := by have := hfx.size; omega
          clear hcr cB fB nB nb lk
          go_wp2
          go_loopw [5, 6] (fun lv i wi => ∃ m : Nat, m ≤ z ∧ i = .int .i64 m ∧ Row wi lv 4 (List.replicate m (.bool true)) ∧ Nw wc wi ∧ (∀ k, lv.ownBlock = some k → wc.heap.size ≤ k)) (fun _ i _ => z - (intOf i).toNat)
          case atStart => exact ⟨0, Nat.zero_le _, rfl, Row.nil _ _, Fr.refl _ _, fun k hk => by cases hk⟩
          case round =>
            obtain ⟨m, hm, rfl, hlv, hfi, hlvlo⟩ := hrel
            have hbi : wr.cell? ⟨b, o + k, none⟩ = some (.int .i64 z) := (hfi.cell hblc (fun x => x)).trans hbc
            by_cases hmz : m < z
            · go_wp2_with (at_builtin; refine wpList_append_own_at _ rfl _ _ 100 rfl 0 4 j0 (.bool false) 1 1 Try.underlying100 hj hy0 hy1 hy2 rfl (by decide) _ _ _ rfl (hlv.alloc _) ⟨wr.heap.size, 0, none⟩ 1 1 [.bool true] rfl rfl (cell_one_new _ _ _) (by simp [Value.oneCell']) (by simp; unfold maxLen; omega) (by simp; omega) (Nat.zero_le _) ?_; intro v' w1 hown' hgrow _ hat; obtain ⟨g', cap2, rfl, hr1, hf1, ha1, hlt1⟩ := app1 hown' hgrow hat; clear hown' hgrow hat)
              have e2 : List.replicate m (Value.bool true) ++ [.bool true] = List.replicate (m + 1) (.bool true) := (List.replicate_succ' ..).symm
              refine ⟨⟨m + 1, by omega, by go_num, ?_, hfi.trans hf1 (fun j hj => .inr (hlvlo j hj)), ?_⟩, ?_⟩
              · rw [e2] at hr1
                simpa using hr1
              · intro j hj
                cases hj
                rcases ha1 with h | h
                · exact hlvlo _ h
                · have := hfi.size; show wc.heap.size ≤ g'; omega
              · simp [intOf]; omega
            · obtain rfl : m = z := by omega
              have hbB' : Hid (Blk wr w.heap.size #[.slice (some ⟨gg, 0, none⟩) (k + 1) cap', inv, .bool false, nilS, nilS] 99) := hbx.out.nw hfi
              have hini : Row wr inv 100 vs := hinx.nw hfi
              have c1 : wr.cell? ⟨w.heap.size, 1, none⟩ = some inv := hbB'.out.cell 1
              have hvl : vs.length ≤ 8 := by have := hvs.len; simp [allIn] at this; omega
              obtain ⟨lao, lcap, hlf, _⟩ := hlv.form
              rw [hlf] at hlv hlvlo ⊢
              simp only [List.length_replicate] at hlv hlvlo ⊢
              clear hlf
              go_wp2_with (at_builtin; refine wpList_append_own_at _ rfl _ _ 96 rfl 0 100 k0 (.slice none 0 0) 1 24 Try.underlying96 hk0 hx0 hx1 hx2 rfl (by decide) _ _ _ rfl (hini.alloc _) ⟨wr.heap.size, 0, none⟩ 1 1 [.slice lao m lcap] rfl rfl (cell_one_new _ _ _) (by simp [Value.oneCell']) (by unfold maxLen; omega) (by omega) (Nat.zero_le _) ?_; intro v' w1 hown' hgrow _ hat; obtain ⟨g', cap2, rfl, hr1, hf1, ha1, hlt1⟩ := app1 hown' hgrow hat; have hb1 : Hid (Blk w1 w.heap.size #[.slice (some ⟨gg, 0, none⟩) (k + 1) cap', inv, .bool false, nilS, nilS] 99) := hbB'.out.fr hf1 (fun e => hini.ne hbB'.out (by decide) e); have c2 : w1.cell? ⟨w.heap.size, 1, none⟩ = some inv := hb1.out.cell 1; have f2 := hb1.out.free 1; clear hown' hgrow hat)
              have R := refNew_end hfx hfi hszx hinx hvsx hinlo hlt Hz.out hlv hlvlo hr1 hf1 ha1 hb1.out
              go_wp2
              refine ⟨⟨k + 1, _, _, vs ++ [.slice lao m lcap], by omega, by go_num, R.1, R.2.1, R.2.2.1, R.2.2.2.1, R.2.2.2.2.1, fun j hj => by cases hj; exact hggx, R.2.2.2.2.2, ?_⟩, ?_⟩
              · show (zs.take (k + 1)).all okSize = true
                rw [List.take_succ_eq_append_getElem hlt, List.all_append, Hall.out]
                simp [Hok.out]
              · simp [intOf]; omega
      · have hok2 : ¬ (1 ≤ zs[k] ∧ zs[k] ≤ 6) := by simpa [okSize] using hok
        have hfin : okSizes zs = false := by
          have : zs.all okSize = false := by
            rw [List.all_eq_false]
            exact ⟨zs[k], List.getElem_mem hlt, hok⟩
          simp [okSizes, this]
        have Hfin := hd hfin
        clear hfin hok
        go_wp2
        all_goals (go_ret; exact ⟨hf, .inr ⟨Hfin.out, rfl⟩⟩)
    · obtain rfl : k = zs.length := by omega
      go_wp2
      go_ret
      refine ⟨hf, .inl ⟨?_, w.heap.size, rfl, Nat.le_refl _, ⟨szv, inv, vs, hb.out, ?_, hin, hvs, hszlo, hinlo⟩⟩⟩
      · have := Hall.out
        rw [List.take_length] at this
        simp only [okSizes, this, Bool.and_true, decide_eq_true_eq]
        omega
      · rw [List.take_length] at hsz
        exact hsz
end Go.Proofs.Ytkjfpdfkcfgfkaa

/- Contract of the statement's helper 'returned'. -/
namespace Go.Proofs.Ytkjfpdfkcfgfkaa
open Go.RowKit

theorem Try.infoInts : (Try.prog.info? 22).map (fun i => (i.zero, i.size, i.bytes)) = some (some (.slice none 0 0), 1, 24) := by kernel_rfl

/-- The cells of 'own' when the first k have been turned. -/
def turnedTo (zs : List Int) (k : Nat) : Array Value := ((List.replicate k (-7) ++ (zs ++ [78]).drop k).map (Value.int .i64)).toArray
theorem turnedTo_zero (zs : List Int) : turnedTo zs 0 = ((zs ++ [78]).map (Value.int .i64)).toArray := by simp [turnedTo]
theorem turnedTo_size (zs : List Int) (k : Nat) (hk : k ≤ zs.length + 1) : (turnedTo zs k).size = zs.length + 1 := by simp [turnedTo]; omega
theorem turnedTo_succ (zs : List Int) (k : Nat) (hk : k < zs.length + 1) : (turnedTo zs k).setIfInBounds k (.int .i64 (-7)) = turnedTo zs (k + 1) := by
  apply Array.ext
  · simp [turnedTo_size zs k (by omega), turnedTo_size zs (k + 1) (by omega)]
  · intro i h1 h2
    simp only [turnedTo, List.setIfInBounds_toArray, List.getElem_toArray, List.getElem_set, List.getElem_map]
    by_cases h : k = i
    · subst h; simp
    · rw [if_neg h]
      congr 1
      simp only [List.getElem_append, List.length_replicate, List.getElem_replicate, List.getElem_drop]
      by_cases h3 : i < k
      · simp [h3, show i < k + 1 by omega]
      · simp only [h3, show ¬ i < k + 1 by omega, dite_false]
        have e1 : k + (i - k) = i := by omega
        have e2 : k + 1 + (i - (k + 1)) = i := by omega
        simp only [e1, e2]
theorem turnedTo_end (zs : List Int) : turnedTo zs (zs.length + 1) = (List.replicate (zs.length + 1) (Value.int .i64 (-7))).toArray := by
  simp [turnedTo]

set_option maxHeartbeats 800000 in
set_option maxRecDepth 1000000 in
theorem returned_any (B g : Nat) (ao : Option Addr) (cap : Nat) (zs : List Int) (s0 s1 tv s3 : Value) (xs : List Value) (w : World) (hz : zs.length * 8 ≤ 140737488355328)
    (hB : Blk w B #[s0, s1, tv, s3] 28) (htv : Row w tv 22 xs) (hxs : (xs.length + 1) * 24 ≤ 140737488355328)
    (hg : Blk w g ((zs ++ [78]).map (Value.int .i64)).toArray 3) (hl : IntsAt w ao zs) :
    Calls Try.prog 34 #[.pointer (some ⟨B, 0, none⟩), .slice (some ⟨g, 0, none⟩) (zs.length + 1) (zs.length + 1), .slice ao zs.length cap] w fun e w' =>
      e = .returned (.bool true) ∧ ∃ tv', Fr (fun k => k = B ∨ k = g ∨ tv.ownBlock = some k) w w' ∧ Blk w' B #[s0, s1, tv', s3] 28 ∧
        Row w' tv' 22 (xs ++ [.slice (some ⟨g, 0, none⟩) (zs.length + 1) (zs.length + 1)]) ∧ Blk w' g (turnedTo zs (zs.length + 1)) 3 ∧
        (∀ k, tv'.ownBlock = some k → tv.ownBlock = some k ∨ w.heap.size ≤ k) := by
  obtain ⟨i0, hi, hz0, hz1, hz2⟩ := info_parts Try.infoInts
  have hg78 : w.cell? ⟨g, zs.length, none⟩ = some (.int .i64 78) := by rw [hg.cell]; simp
  have hown : IntsAt w (some ⟨g, 0, none⟩) zs := IntsAt.of_blk hg 0 zs (fun i hi => by
    simp [List.getElem?_append_left, hi])
  go_enter Try.func34, Try.ntmps34
  go_wp2_with (go_at_call 54; refine (sameInts_eq _ _ _ _ zs _ hz hown hl).mono ?_; rintro e w' ⟨rfl, n, rfl⟩)
  have hgn : Blk (w.drewN n) g (turnedTo zs 0) 3 := by rw [turnedTo_zero]; exact hg
  have hFr0 : Fr (fun k => k = g) w (w.drewN n) := (Fr.refl _ w).drewN n
  clear hg78 hown hl
  go_loopw [10] (fun i wr => ∃ k : Nat, k ≤ zs.length + 1 ∧ i = .int .i64 k ∧ Hid (Blk wr g (turnedTo zs k) 3) ∧ Fr (fun k => k = g) w wr) (fun i _ => zs.length + 1 - (intOf i).toNat)
  case atStart => exact ⟨0, Nat.zero_le _, rfl, hgn, hFr0⟩
  case round =>
    obtain ⟨k, hk, rfl, hb, hf⟩ := hrel
    clear hgn hFr0
    by_cases hlt : k < zs.length + 1
    · have hfz := hb.out.free k
      have hck : wr.cell? ⟨g, k, none⟩ = some _ := (hb.out.cell k).trans (Array.getElem?_eq_getElem (by rw [turnedTo_size zs k hk]; exact hlt))
      go_wp2
      go_roundw
      case rel => exact ⟨k + 1, by omega, by go_num, by rw [← turnedTo_succ zs k hlt]; exact hb.out.set k _, hf.setCell _ _ (.inl rfl)⟩
      case measure => simp [intOf]; omega
    · obtain rfl : k = zs.length + 1 := by omega
      have hgB : g ≠ B := fun e => by subst e; have := (hg.inj hB).2; revert this; decide
      have hBr : Blk wr B #[s0, s1, tv, s3] 28 := hB.fr hf (fun e => hgB e.symm)
      have htr : Row wr tv 22 xs := htv.fr hf (fun k hk e => by subst e; exact htv.ne hg (by decide) hk)
      have hc2 : wr.cell? ⟨B, 2, none⟩ = some tv := hBr.cell 2
      go_wp2_with (at_builtin; refine wpList_append_own_at _ rfl _ _ 25 rfl 0 22 i0 (.slice none 0 0) 1 24 Try.underlying25 hi hz0 hz1 hz2 rfl (by decide) _ _ _ rfl (htr.alloc _) ⟨wr.heap.size, 0, none⟩ 1 1 [.slice (some ⟨g, 0, none⟩) (zs.length + 1) (zs.length + 1)] rfl rfl (cell_one_new _ _ _) (by simp [Value.oneCell']) (by unfold maxLen; omega) (by omega) (Nat.zero_le _) ?_; intro v' w1 hown' hgrow _ hat; obtain ⟨g', cap', rfl, hr1, hf1, ha1, hlt1⟩ := app1 hown' hgrow hat; have hB1 : Blk w1 B #[s0, s1, tv, s3] 28 := hBr.fr hf1 (fun e => htr.ne hBr (by decide) e); have hfzB := hB1.free 2; have hcB1 : w1.cell? ⟨B, 2, none⟩ = some tv := hB1.cell 2; clear hown' hgrow hat)
      have hb1 : Blk w1 g (turnedTo zs (zs.length + 1)) 3 := hb.out.fr hf1 (fun e => htr.ne hb.out (by decide) e)
      have hg'B : g' ≠ B := fun e => by
        subst e
        exact hr1.ne hB1 (by decide) rfl
      go_ret
      refine ⟨rfl, .slice (some ⟨g', 0, none⟩) (xs.length + 1) cap', ?_, ?_, ?_, hb1.other _ _ hgB, ?_⟩
      · exact ((hf.mono (fun i e => .inl (.inr (.inl e)))).trans hf1 (fun i e => .inl (.inr (.inr e)))).setCell _ _ (.inl (.inl rfl))
      · have := hB1.set 2 (.slice (some ⟨g', 0, none⟩) (xs.length + 1) cap')
        simpa using this
      · exact hr1.fr ((Fr.refl (fun k => k = B) w1).setCell ⟨B, 2, none⟩ _ (.inl rfl)) (fun k hk e => hg'B (by cases hk; exact e))
      · intro k hk
        cases hk
        rcases ha1 with h | h
        · exact .inl h
        · exact .inr (by have := hf.size; simp only [h]; omega)
end Go.Proofs.Ytkjfpdfkcfgfkaa

/- Contract of the statement's helper 'kept': all lists that came out, and all that were handed in, hold what the caller wrote. -/
namespace Go.Proofs.Ytkjfpdfkcfgfkaa
open Go.RowKit

/-- A slice all of whose numbers are c. -/
def AllAre (w : World) (v : Value) (c : Int) : Prop := ∃ ao n cap, v = .slice ao n cap ∧ n * 8 ≤ 140737488355328 ∧ IntsAt w ao (List.replicate n c)
/-- A slice of n nil slices. -/
def AllNil (w : World) (v : Value) : Prop := ∃ ao n cap, v = .slice ao n cap ∧ n * 24 ≤ 140737488355328 ∧ ∀ i, i < n → ∃ b o, ao = some ⟨b, o, none⟩ ∧ b < w.heap.size ∧ w.cell? ⟨b, o + i, none⟩ = some (.slice none 0 0)

/-- What 'kept' looks at. -/
structure Keeps (w : World) (nv tv rv : Value) (nums turned rows : List Value) : Prop where
  rn : Row w nv 22 nums
  rt : Row w tv 22 turned
  rr : Row w rv 25 rows
  ln : nums.length * 24 ≤ 140737488355328
  lt : turned.length * 24 ≤ 140737488355328
  lr : rows.length * 24 ≤ 140737488355328
  an : ∀ i (h : i < nums.length), AllAre w nums[i] (-1 - (i / 4 * 4 : Nat))
  at_ : ∀ i (h : i < turned.length), AllAre w turned[i] (-7)
  ar : ∀ i (h : i < rows.length), AllNil w rows[i]

set_option maxHeartbeats 1600000 in
set_option maxRecDepth 1000000 in
theorem kept_any (B : Nat) (s0 nv tv rv : Value) (nums turned rows : List Value) (w : World)
    (hB : Blk w B #[s0, nv, tv, rv] 28) (hK : Keeps w nv tv rv nums turned rows) :
    Calls Try.prog 11 #[.pointer (some ⟨B, 0, none⟩)] w fun e w' => e = .returned (.bool true) ∧ w' = w := by
  have c1 : w.cell? ⟨B, 1, none⟩ = some nv := hB.cell 1
  have c2 : w.cell? ⟨B, 2, none⟩ = some tv := hB.cell 2
  have c3 : w.cell? ⟨B, 3, none⟩ = some rv := hB.cell 3
  have hln := hK.ln
  have hlt := hK.lt
  have hlr := hK.lr
  obtain ⟨an, cn, rfl, hna⟩ := hK.rn.form
  obtain ⟨at0, ct, rfl, hta⟩ := hK.rt.form
  obtain ⟨ar, cr, rfl, hra⟩ := hK.rr.form
  have HK := hd hK
  have HB := hd hB
  clear hK hB hna hta hra
  go_enter Try.func11, Try.ntmps11
  go_wp2
  go_loop [3] (fun i => ∃ k : Nat, k ≤ nums.length ∧ i = .int .i64 k) (fun i => nums.length - (intOf i).toNat)
  case atStart => exact ⟨0, Nat.zero_le _, rfl⟩
  case round =>
    obtain ⟨k, hk, rfl⟩ := hrel
    by_cases hkl : k < nums.length
    · obtain ⟨g, cap, he, _, hcell, _⟩ := HK.out.rn.cell k hkl
      obtain ⟨ao, m, cap2, he2, hm, hz⟩ := HK.out.an k hkl
      cases he
      rw [he2] at hcell
      clear he2
      go_wp2
      go_loop [4] (fun i => ∃ j : Nat, j ≤ m ∧ i = .int .i64 j) (fun i => m - (intOf i).toNat)
      case atStart => exact ⟨0, Nat.zero_le _, rfl⟩
      case round =>
        obtain ⟨j, hj, rfl⟩ := hrel
        by_cases hjl : j < m
        · obtain ⟨b, o, rfl, _, hc⟩ := hz j (by simpa using hjl)
          clear hz
          rw [show (List.replicate m (-1 - ((k / 4 * 4 : Nat) : Int))).getD j 0 = -1 - ((k / 4 * 4 : Nat) : Int) from by simp [hjl]] at hc
          go_wp2
          exact ⟨⟨j + 1, by omega, by go_num⟩, by simp [intOf]; omega⟩
        · go_wp2
          exact ⟨⟨k + 1, by omega, by go_num⟩, by simp [intOf]; omega⟩
    · go_wp2
      clear c1 hkl hk
      go_loop [5] (fun i => ∃ k : Nat, k ≤ turned.length ∧ i = .int .i64 k) (fun i => turned.length - (intOf i).toNat)
      case atStart => exact ⟨0, Nat.zero_le _, rfl⟩
      case round =>
        obtain ⟨k, hk, rfl⟩ := hrel
        by_cases hkl : k < turned.length
        · obtain ⟨g, cap, he, _, hcell, _⟩ := HK.out.rt.cell k hkl
          obtain ⟨ao, m, cap2, he2, hm, hz⟩ := HK.out.at_ k hkl
          cases he
          rw [he2] at hcell
          clear he2
          go_wp2
          go_loop [6] (fun i => ∃ j : Nat, j ≤ m ∧ i = .int .i64 j) (fun i => m - (intOf i).toNat)
          case atStart => exact ⟨0, Nat.zero_le _, rfl⟩
          case round =>
            obtain ⟨j, hj, rfl⟩ := hrel
            by_cases hjl : j < m
            · obtain ⟨b, o, rfl, _, hc⟩ := hz j (by simpa using hjl)
              clear hz
              rw [show (List.replicate m (-7 : Int)).getD j 0 = -7 from by simp [hjl]] at hc
              go_wp2
              exact ⟨⟨j + 1, by omega, by go_num⟩, by simp [intOf]; omega⟩
            · go_wp2
              exact ⟨⟨k + 1, by omega, by go_num⟩, by simp [intOf]; omega⟩
        · go_wp2
          clear c2 hkl hk
          go_loop [7] (fun i => ∃ k : Nat, k ≤ rows.length ∧ i = .int .i64 k) (fun i => rows.length - (intOf i).toNat)
          case atStart => exact ⟨0, Nat.zero_le _, rfl⟩
          case round =>
            obtain ⟨k, hk, rfl⟩ := hrel
            by_cases hkl : k < rows.length
            · obtain ⟨g, cap, he, _, hcell, _⟩ := HK.out.rr.cell k hkl
              obtain ⟨ao, m, cap2, he2, hm, hz⟩ := HK.out.ar k hkl
              cases he
              rw [he2] at hcell
              clear he2
              go_wp2
              go_loop [8] (fun i => ∃ j : Nat, j ≤ m ∧ i = .int .i64 j) (fun i => m - (intOf i).toNat)
              case atStart => exact ⟨0, Nat.zero_le _, rfl⟩
              case round =>
                obtain ⟨j, hj, rfl⟩ := hrel
                by_cases hjl : j < m
                · obtain ⟨b, o, rfl, _, hc⟩ := hz j hjl
                  clear hz
                  go_wp2
                  exact ⟨⟨j + 1, by omega, by go_num⟩, by simp [intOf]; omega⟩
                · go_wp2
                  exact ⟨⟨k + 1, by omega, by go_num⟩, by simp [intOf]; omega⟩
            · go_wp2
              go_ret
              exact ⟨rfl, rfl⟩
end Go.Proofs.Ytkjfpdfkcfgfkaa

/- Contract of the statement's helper 'opens'. -/
namespace Go.Proofs.Ytkjfpdfkcfgfkaa
open Go.RowKit

theorem Try.infoSide : (Try.prog.info? 68).map (fun i => (i.zero, i.size, i.bytes)) = some (some (.pointer none), 1, 8) := by kernel_rfl

theorem new_ok (b o : Nat) (cap : Nat) (zs : List Int) (w : World) (h1 : 1 ≤ zs.length) (h8 : zs.length ≤ 8) (h : IntsAt w (some ⟨b, o, none⟩) zs) (hok : okSizes zs = true) :
    Calls Try.prog 30 #[.slice (some ⟨b, o, none⟩) zs.length cap] w fun e w' =>
      Nw w w' ∧ ∃ B szv, e = .returned (.tuple #[.pointer (some ⟨B, 0, none⟩), .int .i64 0]) ∧ Blk w' B (workCells szv (fullTo zs zs.length) (.slice none 0 0) rest0) 82 ∧
          Row w' szv 3 (zs.map (Value.int .i64)) ∧ w.heap.size ≤ B ∧ (∀ k, szv.ownBlock = some k → w.heap.size ≤ k) :=
  (new_any b o cap zs w h1 h8 h).mono fun e w' ⟨hf, hr⟩ => ⟨hf, hr.elim (fun x => x.2) (fun x => by rw [hok] at x; cases x.1)⟩
theorem new_no (b o : Nat) (cap : Nat) (zs : List Int) (w : World) (h1 : 1 ≤ zs.length) (h8 : zs.length ≤ 8) (h : IntsAt w (some ⟨b, o, none⟩) zs) (hok : okSizes zs = false) :
    Calls Try.prog 30 #[.slice (some ⟨b, o, none⟩) zs.length cap] w fun e w' => Nw w w' ∧ e = .returned (.tuple #[.pointer none, .int .i64 1]) :=
  (new_any b o cap zs w h1 h8 h).mono fun e w' ⟨hf, hr⟩ => ⟨hf, hr.elim (fun x => by rw [hok] at x; cases x.1) (fun x => x.2)⟩
theorem refNew_ok (b o : Nat) (cap : Nat) (zs : List Int) (w : World) (h1 : 1 ≤ zs.length) (h8 : zs.length ≤ 8) (h : IntsAt w (some ⟨b, o, none⟩) zs) (hok : okSizes zs = true) :
    Calls Try.prog 33 #[.slice (some ⟨b, o, none⟩) zs.length cap] w fun e w' =>
      Nw w w' ∧ ∃ B, e = .returned (.pointer (some ⟨B, 0, none⟩)) ∧ w.heap.size ≤ B ∧ RefAt w' w.heap.size B zs (allIn zs zs.length) false nilS nilS :=
  (refNew_any b o cap zs w h1 h8 h).mono fun e w' ⟨hf, hr⟩ => ⟨hf, hr.elim (fun x => x.2) (fun x => by rw [hok] at x; cases x.1)⟩
theorem refNew_no (b o : Nat) (cap : Nat) (zs : List Int) (w : World) (h1 : 1 ≤ zs.length) (h8 : zs.length ≤ 8) (h : IntsAt w (some ⟨b, o, none⟩) zs) (hok : okSizes zs = false) :
    Calls Try.prog 33 #[.slice (some ⟨b, o, none⟩) zs.length cap] w fun e w' => Nw w w' ∧ e = .returned (.pointer none) :=
  (refNew_any b o cap zs w h1 h8 h).mono fun e w' ⟨hf, hr⟩ => ⟨hf, hr.elim (fun x => by rw [hok] at x; cases x.1) (fun x => x.2)⟩

/-- The document's Work stays as it is where what is written are no blocks of its kinds from lo on. -/
theorem RefAt.fr {S : Nat → Prop} {w w' : World} {lo B : Nat} {zs : List Int} {bss : List (List Bool)} {dead : Bool} {tv lv : Value} (h : RefAt w lo B zs bss dead tv lv) (f : Fr S w w')
    (hn : ∀ k, S k → k ≠ B ∧ ¬ lo ≤ k) : RefAt w' lo B zs bss dead tv lv := by
  obtain ⟨szv, inv, vs, hB, hsz, hin, hvs, h1, h2⟩ := h.ex
  refine ⟨szv, inv, vs, hB.fr f (fun e => (hn _ e).1 rfl), hsz.fr f (fun k hk e => (hn k e).2 (h1 k hk)), hin.fr f (fun k hk e => (hn k e).2 (h2 k hk)), ?_, h1, h2⟩
  exact ⟨hvs.len, fun i hi => (hvs.row i hi).fr f (fun k hk e => (hn k e).2 (hvs.lo i hi k hk)), hvs.ne, hvs.lo⟩

theorem RefAt.lower {w : World} {lo lo' B : Nat} {zs : List Int} {bss : List (List Bool)} {dead : Bool} {tv lv : Value} (h : RefAt w lo B zs bss dead tv lv) (hl : lo' ≤ lo) : RefAt w lo' B zs bss dead tv lv := by
  obtain ⟨szv, inv, vs, hB, hsz, hin, hvs, h1, h2⟩ := h.ex
  exact ⟨szv, inv, vs, hB, hsz, hin, ⟨hvs.len, hvs.row, hvs.ne, fun i hi k hk => Nat.le_trans hl (hvs.lo i hi k hk)⟩, fun k hk => Nat.le_trans hl (h1 k hk), fun k hk => Nat.le_trans hl (h2 k hk)⟩

set_option maxHeartbeats 1600000 in
set_option maxRecDepth 1000000 in
/-- Too few or too many sizes: nothing is opened. -/
theorem opens_len (B : Nat) (sv nv tv rv : Value) (ts : List Value) (ao : Option Addr) (cap : Nat) (zs : List Int) (w : World) (hz : zs.length * 8 ≤ 140737488351232)
    (hB : Blk w B #[sv, nv, tv, rv] 28) (htv : Row w tv 22 ts) (hts : (ts.length + 1) * 24 ≤ 140737488355328) (hl : IntsAt w ao zs) (hlen : zs.length < 1 ∨ 8 < zs.length) :
    Calls Try.prog 10 #[.pointer (some ⟨B, 0, none⟩), .slice ao zs.length cap] w fun e w' =>
      e = .returned (.bool true) ∧ ∃ tv', Fr (fun k => k = B ∨ tv.ownBlock = some k) w w' ∧ Blk w' B #[sv, nv, tv', rv] 28 ∧
        Row w' tv' 22 (ts ++ [.slice (some ⟨w.heap.size, 0, none⟩) (zs.length + 1) (zs.length + 1)]) ∧ Blk w' w.heap.size (turnedTo zs (zs.length + 1)) 3 ∧
        (∀ k, tv'.ownBlock = some k → tv.ownBlock = some k ∨ w.heap.size ≤ k) := by
  have hBlt := hB.lt
  go_enter Try.func10, Try.ntmps10
  go_wp2_with (first
    | (go_at_call 32; refine (lent_any _ _ zs _ (by omega) hl).mono ?_; rintro e w1 ⟨rfl, hf1, hg1⟩)
    | (go_at_call 30; refine (new_len _ _ _ _ (by omega) hlen).mono ?_; rintro e w2 ⟨rfl, rfl⟩)
    | (go_at_call 33; refine (refNew_len _ _ _ _ (by omega) hlen).mono ?_; rintro e w2 ⟨rfl, rfl⟩)
    | (go_at_call 34; refine (returned_any B w.heap.size ao cap zs sv nv tv rv ts _ (by omega) (hB.nw hf1) (htv.nw hf1) hts hg1 (hl.nw hf1)).mono ?_; rintro e w2 ⟨rfl, tv', hf2, hB2, htv2, hg2, hlo2⟩))
  go_ret
  refine ⟨rfl, tv', hf1.mono (fun i h => h.elim) |>.trans hf2 ?_, hB2, htv2, hg2, ?_⟩
  · rintro i (h | h | h)
    · exact .inl (.inl h)
    · exact .inr (by omega)
    · exact .inl (.inr h)
  · intro k hk
    rcases hlo2 k hk with h | h
    · exact .inl h
    · exact .inr (Nat.le_trans hf1.size h)

/-- A side in memory: the program's fretwork, and the document's; nothing is gone through. -/
def sideCells (X Y : Nat) : Array Value := #[.pointer (some ⟨X, 0, none⟩), .pointer (some ⟨Y, 0, none⟩), .bool false, .nilFunc, .nilFunc]

theorem opens_apart {w : World} {B g : Nat} {sv tv : Value} {ss ts : List Value} {c1 c2 : Array Value} (hsv : Row w sv 68 ss) (hB : Blk w B c1 28) (hg : Blk w g c2 3) (htv : Row w tv 22 ts)
    (k : Nat) (hk : sv.ownBlock = some k) (e : k = B ∨ k = g ∨ tv.ownBlock = some k) : False := by
  rcases e with e | e | e
  · subst e; exact hsv.ne hB (by decide) hk
  · subst e; exact hsv.ne hg (by decide) hk
  · obtain ⟨cur, hb, _⟩ := htv.blk e
    exact hsv.ne hb (by decide) hk

set_option maxHeartbeats 1600000 in
set_option maxRecDepth 1000000 in
/-- Of a right number of sizes: nothing is opened if one is wrong; else there is one side more. -/
theorem opens_any (B : Nat) (sv nv tv rv : Value) (ss ts : List Value) (ao : Option Addr) (cap : Nat) (zs : List Int) (w : World) (hlen : 1 ≤ zs.length) (hlen8 : zs.length ≤ 8)
    (hB : Blk w B #[sv, nv, tv, rv] 28) (htv : Row w tv 22 ts) (hts : (ts.length + 1) * 24 ≤ 140737488355328) (hsv : Row w sv 68 ss) (hss : (ss.length + 1) * 8 ≤ 140737488355328) (hl : IntsAt w ao zs) :
    Calls Try.prog 10 #[.pointer (some ⟨B, 0, none⟩), .slice ao zs.length cap] w fun e w' =>
      e = .returned (.bool true) ∧ ∃ sv' tv', Fr (fun k => k = B ∨ tv.ownBlock = some k ∨ sv.ownBlock = some k) w w' ∧ Blk w' B #[sv', nv, tv', rv] 28 ∧
        Row w' tv' 22 (ts ++ [.slice (some ⟨w.heap.size, 0, none⟩) (zs.length + 1) (zs.length + 1)]) ∧ Blk w' w.heap.size (turnedTo zs (zs.length + 1)) 3 ∧
        (∀ k, tv'.ownBlock = some k → tv.ownBlock = some k ∨ w.heap.size ≤ k) ∧
        ((okSizes zs = false ∧ sv' = sv ∧ Row w' sv 68 ss) ∨ (okSizes zs = true ∧ ∃ D X Y szv, Row w' sv' 68 (ss ++ [.pointer (some ⟨D, 0, none⟩)]) ∧ (∀ k, sv'.ownBlock = some k → sv.ownBlock = some k ∨ w.heap.size ≤ k) ∧
          Blk w' D (sideCells X Y) 70 ∧ Blk w' X (workCells szv (fullTo zs zs.length) nilS rest0) 82 ∧ Row w' szv 3 (zs.map (Value.int .i64)) ∧ RefAt w' w.heap.size Y zs (allIn zs zs.length) false nilS nilS ∧
          w.heap.size ≤ D ∧ w.heap.size ≤ X ∧ w.heap.size ≤ Y ∧ (∀ k, szv.ownBlock = some k → w.heap.size ≤ k))) := by
  have hBlt := hB.lt
  obtain ⟨b, o, rfl, hbl, _⟩ := hl 0 (by omega)
  obtain ⟨i0, hi, hz0, hz1, hz2⟩ := info_parts Try.infoSide
  cases hok : okSizes zs with
  | false =>
    have Hok := hd hok
    clear hok
    go_enter Try.func10, Try.ntmps10
    go_wp2_with (first
      | (go_at_call 32; refine (lent_any _ _ zs _ (by omega) hl).mono ?_; rintro e w1 ⟨rfl, hf1, hg1⟩; have hown : IntsAt w1 (some ⟨w.heap.size, 0, none⟩) zs := IntsAt.of_blk hg1 0 zs (fun i hi => by simp [List.getElem?_append_left, hi]))
      | (go_at_call 30; refine (new_no _ _ _ zs _ hlen hlen8 hown Hok.out).mono ?_; rintro e w2 ⟨hf2, rfl⟩; have hl2 := (hl.nw hf1).nw hf2)
      | (go_at_call 33; refine (refNew_no _ _ _ zs _ hlen hlen8 hl2 Hok.out).mono ?_; rintro e w3 ⟨hf3, rfl⟩)
      | (go_at_call 34; refine (returned_any B w.heap.size (some ⟨b, o, none⟩) cap zs sv nv tv rv ts _ (by omega) (((hB.nw hf1).nw hf2).nw hf3) (((htv.nw hf1).nw hf2).nw hf3) hts ((hg1.nw hf2).nw hf3) (hl2.nw hf3)).mono ?_; rintro e w4 ⟨rfl, tv', hf4, hB4, htv4, hg4, hlo4⟩))
    go_ret
    have hf13 : Nw w w3 := (hf1.trans hf2 (fun i h => h.elim)).trans hf3 (fun i h => h.elim)
    refine ⟨rfl, sv, tv', (hf13.mono (fun i h => h.elim)).trans hf4 ?_, hB4, htv4, hg4, ?_, .inl ⟨by trivial, rfl, (((hsv.nw hf1).nw hf2).nw hf3).fr hf4 (fun k hk e => opens_apart (((hsv.nw hf1).nw hf2).nw hf3) (((hB.nw hf1).nw hf2).nw hf3) ((hg1.nw hf2).nw hf3) (((htv.nw hf1).nw hf2).nw hf3) k hk e)⟩⟩
    · rintro i (h | h | h)
      · exact .inl (.inl h)
      · exact .inr (by omega)
      · exact .inl (.inr (.inl h))
    · intro k hk
      rcases hlo4 k hk with h | h
      · exact .inl h
      · exact .inr (Nat.le_trans hf13.size h)
  | true =>
    have Hok := hd hok
    clear hok
    go_enter Try.func10, Try.ntmps10
    go_wp2_with (first
      | (go_at_call 32; refine (lent_any _ _ zs _ (by omega) hl).mono ?_; rintro e w1 ⟨rfl, hf1, hg1⟩; have hown : IntsAt w1 (some ⟨w.heap.size, 0, none⟩) zs := IntsAt.of_blk hg1 0 zs (fun i hi => by simp [List.getElem?_append_left, hi]))
      | (go_at_call 30; refine (new_ok _ _ _ zs _ hlen hlen8 hown Hok.out).mono ?_; rintro e w2 ⟨hf2, X, szv, rfl, hX2, hsz2, hXlo, hszlo⟩; have hl2 := (hl.nw hf1).nw hf2)
      | (go_at_call 33; refine (refNew_ok _ _ _ zs _ hlen hlen8 hl2 Hok.out).mono ?_; rintro e w3 ⟨hf3, Y, rfl, hYlo, hY3⟩)
      | (go_at_call 34; refine (returned_any B w.heap.size (some ⟨b, o, none⟩) cap zs sv nv tv rv ts _ (by omega) (((hB.nw hf1).nw hf2).nw hf3) (((htv.nw hf1).nw hf2).nw hf3) hts ((hg1.nw hf2).nw hf3) (hl2.nw hf3)).mono ?_; rintro e w4 ⟨rfl, tv', hf4, hB4, htv4, hg4, hlo4⟩; have hcB4 : w4.cell? ⟨B, 0, none⟩ = some sv := hB4.cell 0; have hsv4 : Row w4 sv 68 ss := (((hsv.nw hf1).nw hf2).nw hf3).fr hf4 (fun k hk e => opens_apart (((hsv.nw hf1).nw hf2).nw hf3) (((hB.nw hf1).nw hf2).nw hf3) ((hg1.nw hf2).nw hf3) (((htv.nw hf1).nw hf2).nw hf3) k hk e))
      | (at_builtin; refine wpList_append_own_at _ rfl _ _ 24 rfl 0 68 i0 (.pointer none) 1 8 Try.underlying24 hi hz0 hz1 hz2 rfl (by decide) _ _ _ rfl ((hsv4.alloc _).alloc _) ⟨w4.heap.size + 1, 0, none⟩ 1 1 [.pointer (some ⟨w4.heap.size, 0, none⟩)] rfl rfl (by have := cell_one_new (w4.alloc (.cells (sideCells X Y) 70)) (.pointer (some ⟨w4.heap.size, 0, none⟩)) 68; simpa [sideCells] using this) (by simp [Value.oneCell']) (by unfold maxLen; omega) (by omega) (Nat.zero_le _) ?_; intro v' w5 hown' hgrow _ hat; obtain ⟨g', cap', rfl, hr5, hf5, ha5, hlt5⟩ := app1 (w := w4.alloc (.cells (sideCells X Y) 70)) hown' hgrow hat; have hB5 : Blk w5 B #[sv, nv, tv', rv] 28 := (hB4.alloc _).fr hf5 (fun e => hsv4.ne hB4 (by decide) e); have hfz5 := hB5.free 0; have hc5 : w5.cell? ⟨B, 0, none⟩ = some sv := hB5.cell 0; clear hown' hgrow hat))
    have hf13 : Nw w w3 := (hf1.trans hf2 (fun i h => h.elim)).trans hf3 (fun i h => h.elim)
    have hsz1 := hf1.size
    have hsz2' := hf2.size
    have hsz3 := hf3.size
    have hsz4 := hf4.size
    have hD5 : Blk w5 w4.heap.size (sideCells X Y) 70 := (Blk.new w4 _ _).fr hf5 (fun e => by
      have := hsv4.lt e
      omega)
    have hg'B : g' ≠ B := fun e => by
      subst e
      exact hr5.ne hB5 (by decide) rfl
    have hs4 : ∀ k, (k = B ∨ k = w.heap.size ∨ tv.ownBlock = some k) → k < w1.heap.size := by
      rintro k (h | h | h)
      · omega
      · have := hg1.lt; omega
      · have := htv.lt h; omega
    have hX4 : Blk w4 X (workCells szv (fullTo zs zs.length) nilS rest0) 82 := (hX2.nw hf3).fr hf4 (fun e => by have := hs4 _ e; omega)
    have hr4 : Row w4 szv 3 (zs.map (Value.int .i64)) := (hsz2.nw hf3).fr hf4 (fun k hk e => by have := hs4 _ e; have := hszlo k hk; omega)
    have hY4 : RefAt w4 w2.heap.size Y zs (allIn zs zs.length) false nilS nilS := hY3.fr hf4 (fun k e => by have := hs4 _ e; omega)
    have hs5 : ∀ k, (k = B ∨ sv.ownBlock = some k) → k < w.heap.size := by
      rintro k (h | h)
      · omega
      · exact hsv.lt h
    have F5 : Fr (fun k => k = B ∨ sv.ownBlock = some k) w4 (w5.setCell ⟨B, 0, none⟩ (.slice (some ⟨g', 0, none⟩) (ss.length + 1) cap')) :=
      ((((Fr.refl (fun k => k = B ∨ sv.ownBlock = some k) w4).alloc _).trans hf5 (fun k h => .inl (.inr h))).setCell _ _ (.inl (.inl rfl)))
    have F5' : Fr (fun k => k = B) w5 (w5.setCell ⟨B, 0, none⟩ (.slice (some ⟨g', 0, none⟩) (ss.length + 1) cap')) := (Fr.refl _ w5).setCell _ _ (.inl rfl)
    have hnB : ∀ cur e, Blk w4 B cur e → e = 28 := fun cur e h => (h.inj hB4).2
    have hapart : ∀ (k : Nat) (v : Value) (xs : List Value), Row w4 v 22 xs → v.ownBlock = some k → ¬ (k = B ∨ sv.ownBlock = some k) := by
      rintro k v xs hv hk (e | e)
      · subst e; exact hv.ne hB4 (by decide) hk
      · obtain ⟨cur, hb, _⟩ := hv.blk hk
        exact hsv4.ne hb (by decide) e
    have hlow : ∀ k, (k = B ∨ sv.ownBlock = some k) → ¬ w.heap.size ≤ k := fun k h => by have := hs5 k h; omega
    go_ret
    refine ⟨rfl, .slice (some ⟨g', 0, none⟩) (ss.length + 1) cap', tv', ?_, ?_, ?_, ?_, ?_, .inr ⟨by trivial, w4.heap.size, X, Y, szv, ?_⟩⟩
    · refine ((hf13.mono (fun i h => h.elim)).trans hf4 ?_).trans F5 ?_
      · rintro i (h | h | h)
        · exact .inl (.inl h)
        · exact .inr (by omega)
        · exact .inl (.inr (.inl h))
      · rintro i (h | h)
        · exact .inl (.inl h)
        · exact .inl (.inr (.inr h))
    · have := hB5.set 0 (.slice (some ⟨g', 0, none⟩) (ss.length + 1) cap')
      simpa using this
    · exact htv4.fr F5 (fun k hk => hapart k _ _ htv4 hk)
    · exact hg4.fr F5 (fun e => hlow _ e (Nat.le_refl _))
    · intro k hk
      rcases hlo4 k hk with h | h
      · exact .inl h
      · exact .inr (by omega)
    · refine ⟨hr5.fr F5' (fun k hk e => hg'B (by cases hk; exact e)), ?_, hD5.fr F5' (fun e => by omega), hX4.fr F5 (fun e => hlow _ e (by omega)), hr4.fr F5 (fun k hk e => hlow _ e (by have := hszlo k hk; omega)), ?_, by omega, by omega, by omega, fun k hk => by have := hszlo k hk; omega⟩
      · intro k hk
        cases hk
        rcases ha5 with h | h
        · exact .inl h
        · exact .inr (by simp at h; show w.heap.size ≤ g'; omega)
      · have hY5 := hY4.fr F5 (fun k e => by have := hs5 k e; omega)
        exact hY5.lower (by omega)
end Go.Proofs.Ytkjfpdfkcfgfkaa

/- The statement News, out of the contracts of what it calls. -/
namespace Go.Proofs.Ytkjfpdfkcfgfkaa
open Go.RowKit

theorem turned_all {w : World} {g : Nat} {zs : List Int} (h : Blk w g (turnedTo zs (zs.length + 1)) 3) (hz : (zs.length + 1) * 8 ≤ 140737488355328) : AllAre w (.slice (some ⟨g, 0, none⟩) (zs.length + 1) (zs.length + 1)) (-7) := by
  refine ⟨some ⟨g, 0, none⟩, zs.length + 1, zs.length + 1, rfl, hz, IntsAt.of_blk h 0 _ (fun i hi => ?_)⟩
  rw [turnedTo_end, Nat.zero_add]
  simp only [List.length_replicate] at hi
  simp [hi]

/-- What 'opens' leaves, whatever the sizes are. -/
theorem opens_all (B : Nat) (sv nv tv rv : Value) (ss ts : List Value) (ao : Option Addr) (cap : Nat) (zs : List Int) (w : World) (hz : zs.length * 8 ≤ 140737488351232)
    (hB : Blk w B #[sv, nv, tv, rv] 28) (htv : Row w tv 22 ts) (hts : (ts.length + 1) * 24 ≤ 140737488355328) (hsv : Row w sv 68 ss) (hss : (ss.length + 1) * 8 ≤ 140737488355328) (hl : IntsAt w ao zs) :
    Calls Try.prog 10 #[.pointer (some ⟨B, 0, none⟩), .slice ao zs.length cap] w fun e w' =>
      e = .returned (.bool true) ∧ ∃ sv' tv' ss', Fr (fun k => k = B ∨ tv.ownBlock = some k ∨ sv.ownBlock = some k) w w' ∧ Blk w' B #[sv', nv, tv', rv] 28 ∧ Row w' sv' 68 ss' ∧ ss'.length ≤ ss.length + 1 ∧
        Row w' tv' 22 (ts ++ [.slice (some ⟨w.heap.size, 0, none⟩) (zs.length + 1) (zs.length + 1)]) ∧ Blk w' w.heap.size (turnedTo zs (zs.length + 1)) 3 ∧
        (∀ k, tv'.ownBlock = some k → tv.ownBlock = some k ∨ w.heap.size ≤ k) ∧ (∀ k, sv'.ownBlock = some k → sv.ownBlock = some k ∨ w.heap.size ≤ k) := by
  by_cases hlen : zs.length < 1 ∨ 8 < zs.length
  · refine (opens_len B sv nv tv rv ts ao cap zs w hz hB htv hts hl hlen).mono ?_
    rintro e w' ⟨he, tv', hf, hB', htv', hg', hlo⟩
    refine ⟨he, sv, tv', ss, hf.mono (fun i h => .inl (h.elim .inl (fun h => .inr (.inl h)))), hB', ?_, by omega, htv', hg', hlo, fun k hk => .inl hk⟩
    exact hsv.fr hf (fun k hk e => by
      rcases e with e | e
      · subst e; exact hsv.ne hB (by decide) hk
      · obtain ⟨cur, hb, _⟩ := htv.blk e
        exact hsv.ne hb (by decide) hk)
  · refine (opens_any B sv nv tv rv ss ts ao cap zs w (by omega) (by omega) hB htv hts hsv hss hl).mono ?_
    rintro e w' ⟨he, sv', tv', hf, hB', htv', hg', hlo, hcase⟩
    rcases hcase with ⟨_, rfl, hsv'⟩ | ⟨_, D, X, Y, szv, hsv', hslo, _⟩
    · exact ⟨he, sv', tv', ss, hf, hB', hsv', by omega, htv', hg', hlo, fun k hk => .inl hk⟩
    · exact ⟨he, sv', tv', _, hf, hB', hsv', by simp, htv', hg', hlo, hslo⟩

/-- What is said of 'first'. -/
def FirstOk : Prop := ∀ w : World, Calls Try.prog 9 #[] w fun e w' => e = .returned (.bool true) ∧ Nw w w'

set_option maxHeartbeats 1600000 in
set_option maxRecDepth 1000000 in
theorem news_walk (hfirst : FirstOk) (ao bo : Option Addr) (ca cb : Nat) (xs ys : List Int) (w : World) (hx : xs.length * 8 ≤ 140737488351232) (hy : ys.length * 8 ≤ 140737488351232) (ha : IntsAt w ao xs) (hb : IntsAt w bo ys) :
    Calls Try.prog 3 #[.slice ao xs.length ca, .slice bo ys.length cb] w fun e w' => e = .returned (.bool true) ∧ Nw w w' := by
  have hB0 : Blk (w.alloc (.cells #[nilS, nilS, nilS, nilS] 28)) w.heap.size #[nilS, nilS, nilS, nilS] 28 := Blk.new _ _ _
  have hF0 : Nw w (w.alloc (.cells #[nilS, nilS, nilS, nilS] 28)) := (Fr.refl _ w).alloc _
  go_enter Try.func3, Try.ntmps3
  go_wp2_with fail
  refine (hfirst _).mono ?_
  rintro e w1 ⟨rfl, hf1⟩
  have hB1 := hB0.nw hf1
  have ha1 := (ha.nw hF0).nw hf1
  have hb1 := (hb.nw hF0).nw hf1
  have hF1 : Nw w w1 := hF0.trans hf1 (fun i h => h.elim)
  have hs1 : w.heap.size < w1.heap.size := hB1.lt
  clear hB0 hF0 hf1
  go_wp2_with fail
  refine (opens_all w.heap.size nilS nilS nilS nilS [] [] ao ca xs _ hx hB1 (Row.nil _ _) (by simp) (Row.nil _ _) (by simp) ha1).mono ?_
  rintro e w2 ⟨rfl, sv2, tv2, ss2, hf2, hB2, hsv2, hss2, htv2, hg2, hlo2, hslo2⟩
  have hF12 : Fr (fun k => k = w.heap.size) w1 w2 := hf2.mono (fun i h => .inl (by
    rcases h with h | h | h
    · exact h
    · cases h
    · cases h))
  have hb2 : IntsAt w2 bo ys := by
    intro i hi
    obtain ⟨b, o, e, hbl, hc⟩ := hb i hi
    obtain ⟨b', o', e', hbl', hc'⟩ := hb1 i hi
    rw [e] at e'
    cases e'
    exact ⟨b, o, e, Nat.lt_of_lt_of_le hbl' hF12.size, (hF12.cell hbl' (by omega)).trans hc'⟩
  simp only [List.nil_append, List.length_nil, Nat.zero_add] at htv2 hss2
  have hs2 := hF12.size
  clear hf2
  go_wp2_with fail
  refine (opens_all w.heap.size sv2 nilS tv2 nilS ss2 _ bo cb ys _ hy hB2 htv2 (by simp) hsv2 (by omega) hb2).mono ?_
  rintro e w3 ⟨rfl, sv3, tv3, ss3, hf3, hB3, hsv3, hss3, htv3, hg3, hlo3, hslo3⟩
  have hg2' : Blk w3 w1.heap.size (turnedTo xs (xs.length + 1)) 3 := hg2.fr hf3 (fun e => by
    rcases e with e | e | e
    · omega
    · exact htv2.ne hg2 (by decide) e
    · exact hsv2.ne hg2 (by decide) e)
  have hK : Keeps w3 nilS tv3 nilS [] [.slice (some ⟨w1.heap.size, 0, none⟩) (xs.length + 1) (xs.length + 1), .slice (some ⟨w2.heap.size, 0, none⟩) (ys.length + 1) (ys.length + 1)] [] := by
    refine ⟨Row.nil _ _, htv3, Row.nil _ _, by simp, by simp, by simp, fun i h => by simp at h, fun i h => ?_, fun i h => by simp at h⟩
    match i, h with
    | 0, _ => exact turned_all hg2' (by omega)
    | 1, _ => exact turned_all hg3 (by omega)
  have hF3 : Nw w w3 := (hF1.trans hF12 (fun i h => .inr (by omega))).trans hf3 (fun i h => .inr (by
    rcases h with h | h | h
    · omega
    · rcases hlo2 i h with h' | h'
      · cases h'
      · omega
    · rcases hslo2 i h with h' | h'
      · cases h'
      · omega))
  clear hf3 hg2 hg2' hB2 hsv2 htv2 hlo2 hslo2 hlo3 hslo3 hF12 hF1 hB1 ha1 hb1 hb2
  go_wp2_with fail
  refine (kept_any w.heap.size sv3 nilS tv3 nilS _ _ _ _ hB3 hK).mono ?_
  rintro e w4 ⟨rfl, rfl⟩
  go_wp2
  go_ret
  exact ⟨rfl, hF3⟩
end Go.Proofs.Ytkjfpdfkcfgfkaa

/- From the walk of News to its given statement. -/
namespace Go.Proofs.Ytkjfpdfkcfgfkaa
open Go.ChangeShapes Go.WideShapes Go.ChangeAt Go.RowKit

theorem Try.ownNews : ownKnob Try.prog.godebug = none := by kernel_rfl
theorem Try.laidOut : laidOutB Try.prog = true := by kernel_rfl
theorem Try.bytesInt : Try.prog.bytesOf 3 = 8 := by kernel_rfl

/-- A slice of numbers that came in. -/
theorem came_ints {H : Type} {enc : TypeId × Value → H} {W : World} {a : Option Addr} {len cap : Nat} {d : DataW H} {p : List MemPlace}
    (h : DataW.Trod enc Try.prog W 0 (fun _ => true) true 22 (.slice a len cap) d p) :
    ∃ zs : List Int, zs.length = len ∧ IntsAt W a zs ∧ (len = 0 ∨ ∃ elems spare, d = .slice elems spare ∧ len ≤ elems.length + spare.length) := by
  obtain ⟨fuel, hf⟩ := h
  rcases open_ints Try.underlying22 Try.underlying3 (by kernel_rfl) hf with ⟨hcs, hx⟩ | ⟨x, l, c, zs, hcs, _, hl, hm, hz, hx, hcell, hwz⟩
  · simp [Value.cells] at hcs
    obtain ⟨rfl, rfl, rfl⟩ := hcs
    exact ⟨[], rfl, fun i hi => by simp at hi, .inl rfl⟩
  · simp [Value.cells] at hcs
    obtain ⟨rfl, rfl, rfl⟩ := hcs
    simp only [if_true] at hz
    refine ⟨zs.take len, by simp; omega, ?_, .inr ⟨_, _, congrArg Prod.fst hx, by simp [lits]; omega⟩⟩
    intro i hi
    simp at hi
    have hc := hcell i (by omega)
    obtain ⟨b, o, rfl, _⟩ := ints_at hcell (by omega)
    rw [show (⟨b, o, none⟩ : Addr).add i = ⟨b, o + i, none⟩ from by simp [Addr.add]] at hc
    refine ⟨b, o, rfl, World.block_lt_of_cell? W _ hc, ?_⟩
    rw [hc]
    simp [List.getElem?_take_of_lt (show i < len by omega)]

set_option maxRecDepth 100000 in
theorem news_lifted (hfirst : FirstOk) (os : Os) (started : os.Started) (H : Type) (enc : TypeId × Value → H) :
    ReturnsInHanded {} Try.checked os 3 .any (Rows.newsSpec.pre6 enc Try.prog Try.f3 Rows.newsRow.domain false) (Rows.newsSpec.post enc Try.prog Try.f3 false true false false) := by
  refine returnsInHanded_of_change_sized (C := Try.checked) Try.ownNews started (by kernel_rfl) Try.func3
    (ChangeSpec.witness6 (enc := enc) (C := Try.checked) false ⟨#[], #[.slice none 0 0, .slice none 0 0], []⟩ 8 (by kernel_rfl) (by kernel_rfl) (by kernel_rfl) (by kernel_rfl)) ?_
  intro W base args ds gs before hval0 hW _ hsz0 _
  have hval : ∀ (j : Nat) t v, Try.f3.params[j]? = some t → args[j]? = some v → Value.okWide Try.prog W .any base t v := hval0
  have hsz : (DataW.weightsEach Try.prog (Try.f3.params.toList ++ Rows.newsSpec.plain.varTypes Try.prog) (ds ++ gs)).all (· ≤ reachBytes) = true := hsz0
  have hW' := hW
  obtain ⟨p, q, hA0, hV, rfl, _, _⟩ := hW
  have hA : DataW.TrodAll enc Try.prog W 0 (fun _ => true) true Try.f3.params.toList args.toList ds p := hA0
  rw [Try.params3] at hA hval hsz
  obtain ⟨v0, vs0, d0, ds0, p0, q0, hargs, rfl, rfl, h0, r0⟩ := trodAll_cons hA
  obtain ⟨v1, vs1, d1, ds1, p1, q1, rfl, rfl, rfl, h1, r1⟩ := trodAll_cons r0
  obtain ⟨rfl, rfl, rfl⟩ := trodAll_nil r1
  obtain rfl : args = #[v0, v1] := by cases args; simp_all
  obtain ⟨rfl, rfl⟩ := trodVars_none hV
  obtain ⟨a0, len0, cap0, rfl⟩ := okWide_slice Try.underlying22 (hval 0 22 v0 rfl rfl)
  obtain ⟨a1, len1, cap1, rfl⟩ := okWide_slice Try.underlying22 (hval 1 22 v1 rfl rfl)
  have lt0 : ∀ x ∈ p0, x.block < W.heap.size := by obtain ⟨m, hm⟩ := h0; exact DataW.trod_lt m _ _ _ hm
  have lt1 : ∀ x ∈ p1, x.block < W.heap.size := by obtain ⟨m, hm⟩ := h1; exact DataW.trod_lt m _ _ _ hm
  obtain ⟨xs, rfl, hx, hxs⟩ := came_ints h0
  obtain ⟨ys, rfl, hy, hys⟩ := came_ints h1
  have bx : xs.length * 8 ≤ 140737488351232 := by
    rcases hxs with h | ⟨elems, spare, hd, hle⟩
    · omega
    · subst hd
      have := sized_slice hsz (j := 0) (t := 22) (e := 3) rfl rfl Try.underlying22
      rw [Try.bytesInt] at this
      simp only [reachBytes] at this
      omega
  have bY : ys.length * 8 ≤ 140737488351232 := by
    rcases hys with h | ⟨elems, spare, hd, hle⟩
    · omega
    · subst hd
      have := sized_slice hsz (j := 1) (t := 22) (e := 3) rfl rfl Try.underlying22
      rw [Try.bytesInt] at this
      simp only [reachBytes] at this
      omega
  refine (news_walk hfirst a0 a1 cap0 cap1 xs ys W bx bY hx hy).mono fun e W' ⟨he, hnw⟩ => ?_
  have bel := hnw.below
  subst he
  exact ⟨_, rfl, _, _, _, [], _, [], hW', trodAll_mk1 (shut_bool Try.underlying4 _), (trodAll_cons_mk (Below.trod Try.laidOut (by kernel_rfl) (of_decide_eq_true (by kernel_rfl)) h0 bel lt0) (trodAll_cons_mk (Below.trod Try.laidOut (by kernel_rfl) (of_decide_eq_true (by kernel_rfl)) h1 bel lt1) trodAll_mk0)), rfl, bel.frame _, fun h => by cases h⟩

theorem news_of_first (hfirst : FirstOk) : Rows.NewsSaid :=
  OpenClaim.holds_of_wide 3 Try.f3 rfl rfl rfl rfl rfl rfl rfl ⟨rfl, rfl, rfl, rfl, rfl⟩ rfl rfl rfl rfl rfl (by kernel_rfl) Try.func3 (by kernel_rfl)
    (of_decide_eq_true (by kernel_rfl)) (by unfold Func.isWrapper; first | (rw [if_pos (by decide +kernel)]; kernel_rfl) | (rw [if_neg (by decide +kernel)]; exact ⟨rfl, rfl⟩))
    (fun os started H enc _ => news_lifted hfirst os started H enc)
end Go.Proofs.Ytkjfpdfkcfgfkaa

/- Contracts of the program's small functions on sets of values. -/
namespace Go.Proofs.Ytkjfpdfkcfgfkaa
open Go.RowKit

/-- The least value of a set (8: there is none), and how many there are. -/
def tz (s : Nat) : Nat := ((List.range 8).find? (fun i => s.testBit i)).getD 8
def pop (s : Nat) : Nat := ((List.range 8).filter (fun i => s.testBit i)).length

theorem tab (T : ByteArray) (f : Nat → Nat) (n : Nat) (hT : ∀ i : Fin n, (T.data[i.val]!).toNat = f i.val ∧ f i.val < 256) (s : Nat) (h : s < n) (p : s < T.size) : wrap64 ((T[s]'p).toNat : Int) = (f s : Int) := by
  have h1 := hT ⟨s, h⟩
  have h2 : T[s]'p = T.data[s]! := by
    have : s < T.data.size := p
    rw [getElem!_pos T.data s this]
    rfl
  rw [h2, h1.1]
  have := h1.2
  simp only [wrap64]
  simp at this
  omega

set_option maxRecDepth 1000000 in
set_option maxHeartbeats 400000 in
theorem tz_any (s : Nat) (w : World) (h : s < 256) :
    Calls Try.prog 71 #[.int .u8 s] w fun e w' => e = .returned (.int .i64 (tz s)) ∧ w' = w := by
  go_enter Try.func71, Try.ntmps71
  go_wp2
  go_ret
  refine ⟨congrArg (fun z => Ending.returned (.int .i64 z)) ?_, rfl⟩
  exact tab _ tz 256 (by decide +kernel) s h _

set_option maxRecDepth 1000000 in
set_option maxHeartbeats 400000 in
theorem pop_any (s : Nat) (w : World) (h : s < 256) :
    Calls Try.prog 55 #[.int .u8 s] w fun e w' => e = .returned (.int .i64 (pop s)) ∧ w' = w := by
  go_enter Try.func55, Try.ntmps55
  go_wp2
  go_ret
  refine ⟨congrArg (fun z => Ending.returned (.int .i64 z)) ?_, rfl⟩
  exact tab _ pop 256 (by decide +kernel) s h _

set_option maxHeartbeats 400000 in
theorem one_any (v : Nat) (w : World) (h : v ≤ 6) :
    Calls Try.prog 41 #[.int .i64 v] w fun e w' => e = .returned (.int .u8 (2 ^ v : Nat)) ∧ w' = w := by
  match v, h with
  | 0, _ | 1, _ | 2, _ | 3, _ | 4, _ | 5, _ | 6, _ =>
    go_enter Try.func41, Try.ntmps41
    go_wp2
    go_ret
    exact ⟨rfl, rfl⟩

set_option maxHeartbeats 400000 in
theorem bears_any (a v : Int) (w : World) :
    Calls Try.prog 85 #[.int .i64 a, .int .i64 v] w fun e w' => e = .returned (.bool (a == -1 || a == v)) ∧ w' = w := by
  by_cases h : a = -1
  · subst h
    go_enter Try.func85, Try.ntmps85
    go_wp2
    go_ret
    exact ⟨rfl, rfl⟩
  · have hb : (a == -1) = false := by simpa using h
    go_enter Try.func85, Try.ntmps85
    go_wp2
    go_ret
    exact ⟨by simp [hb], rfl⟩

set_option maxHeartbeats 400000 in
theorem len_any (s : Nat) (w : World) (h : s < 256) :
    Calls Try.prog 38 #[.int .u8 s] w fun e w' => e = .returned (.int .i64 (pop s)) ∧ w' = w := by
  go_enter Try.func38, Try.ntmps38
  go_wp2_with (go_at_call 55; refine (pop_any s _ h).mono ?_; rintro e w' ⟨rfl, rfl⟩)
  go_ret
  exact ⟨rfl, rfl⟩

/-- Where the first of some cells that hold x is (-1: nowhere). -/
def firstAt {α : Type} [BEq α] (x : α) : List α → Nat → Int
  | [], _ => -1
  | y :: l, k => if x == y then (k : Int) else firstAt x l (k + 1)

set_option maxHeartbeats 400000 in
theorem indexBool_any (b o cap : Nat) (xs : List Bool) (w : World) (hl : xs.length ≤ 1000)
    (hc : ∀ i, i < xs.length → w.cell? ⟨b, o + i, none⟩ = some (.bool (xs.getD i false))) :
    Calls Try.prog 66 #[.slice (some ⟨b, o, none⟩) xs.length cap, .bool true] w fun e w' => e = .returned (.int .i64 (firstAt true xs 0)) ∧ w' = w := by
  go_enter Try.func66, Try.ntmps66
  go_wp2
  go_loop [8] (fun i => ∃ k : Nat, k ≤ xs.length ∧ i = .int .i64 k ∧ Hid (firstAt true xs 0 = firstAt true (xs.drop k) k)) (fun i => xs.length - (intOf i).toNat)
  case atStart => exact ⟨0, Nat.zero_le _, rfl, rfl⟩
  case round =>
    obtain ⟨k, hk, rfl, HF⟩ := hrel
    by_cases hlt : k < xs.length
    · have h1 := hc k hlt
      have h2 : xs.drop k = xs[k] :: xs.drop (k + 1) := (List.getElem_cons_drop hlt).symm
      have H2 := hd h2
      clear h2 hc
      cases hx : xs.getD k false with
      | true =>
        rw [hx] at h1
        have h3 : xs[k] = true := by simpa [hlt] using hx
        have H3 := hd h3
        clear hx h3
        go_wp2
        go_ret
        refine ⟨?_, rfl⟩
        rw [HF.out, H2.out, H3.out]
        rfl
      | false =>
        rw [hx] at h1
        have h3 : xs[k] = false := by simpa [hlt] using hx
        have H3 := hd h3
        clear hx h3
        go_wp2
        exact ⟨⟨k + 1, by omega, by go_num, by show _ = _; rw [HF.out, H2.out, H3.out]; rfl⟩, by simp [intOf]; omega⟩
    · go_wp2
      go_ret
      refine ⟨?_, rfl⟩
      rw [HF.out, List.drop_eq_nil_of_le (by omega)]
      rfl

set_option maxHeartbeats 400000 in
theorem indexSet_any (b o cap : Nat) (xs : List Nat) (w : World) (hl : xs.length ≤ 1000)
    (hc : ∀ i, i < xs.length → w.cell? ⟨b, o + i, none⟩ = some (.int .u8 (xs.getD i 0 : Nat))) :
    Calls Try.prog 86 #[.slice (some ⟨b, o, none⟩) xs.length cap, .int .u8 0] w fun e w' => e = .returned (.int .i64 (firstAt 0 xs 0)) ∧ w' = w := by
  go_enter Try.func86, Try.ntmps86
  go_wp2
  go_loop [8] (fun i => ∃ k : Nat, k ≤ xs.length ∧ i = .int .i64 k ∧ Hid (firstAt 0 xs 0 = firstAt 0 (xs.drop k) k)) (fun i => xs.length - (intOf i).toNat)
  case atStart => exact ⟨0, Nat.zero_le _, rfl, rfl⟩
  case round =>
    obtain ⟨k, hk, rfl, HF⟩ := hrel
    by_cases hlt : k < xs.length
    · have h1 := hc k hlt
      have h2 : xs.drop k = xs[k] :: xs.drop (k + 1) := (List.getElem_cons_drop hlt).symm
      have H2 := hd h2
      clear h2 hc
      obtain ⟨x, hx⟩ : ∃ x, xs.getD k 0 = x := ⟨_, rfl⟩
      rw [hx] at h1
      have h3 : xs[k] = x := by simpa [hlt] using hx
      have H3 := hd h3
      clear hx h3
      by_cases h0 : x = 0
      · subst h0
        go_wp2
        go_ret
        refine ⟨?_, rfl⟩
        rw [HF.out, H2.out, H3.out]
        rfl
      · have h0' : ((0 : Int) == (x : Int)) = false := by simp; omega
        go_wp2
        refine ⟨⟨k + 1, by omega, by go_num, ?_⟩, by simp [intOf]; omega⟩
        show _ = _
        rw [HF.out, H2.out, H3.out]
        simp [firstAt, show ¬ (0 = x) from fun e => h0 e.symm]
    · go_wp2
      go_ret
      refine ⟨?_, rfl⟩
      rw [HF.out, List.drop_eq_nil_of_le (by omega)]
      rfl

theorem firstAt_mem {α : Type} [BEq α] [LawfulBEq α] (x : α) : ∀ (l : List α) (k : Nat), decide (0 ≤ firstAt x l k) = l.contains x
  | [], k => by simp [firstAt]
  | y :: l, k => by
    simp only [firstAt, List.contains_cons]
    by_cases h : x == y
    · simp [h]
    · simp [h, firstAt_mem x l (k + 1)]

set_option maxHeartbeats 400000 in
theorem containsSet_any (b o cap : Nat) (xs : List Nat) (w : World) (hl : xs.length ≤ 1000)
    (hc : ∀ i, i < xs.length → w.cell? ⟨b, o + i, none⟩ = some (.int .u8 (xs.getD i 0 : Nat))) :
    Calls Try.prog 77 #[.slice (some ⟨b, o, none⟩) xs.length cap, .int .u8 0] w fun e w' => e = .returned (.bool (xs.contains 0)) ∧ w' = w := by
  go_enter Try.func77, Try.ntmps77
  go_wp2_with (go_at_call 86; refine (indexSet_any _ _ _ xs _ hl hc).mono ?_; rintro e w' ⟨rfl, rfl⟩)
  go_ret
  exact ⟨by rw [← firstAt_mem 0 xs 0]; rfl, rfl⟩
end Go.Proofs.Ytkjfpdfkcfgfkaa

/- 'for value := range s.Each { .. }': the iterator's contract, and a law for the statement. -/
namespace Go.Proofs.Ytkjfpdfkcfgfkaa
open Go.RowKit Go.Shelf
attribute [local go_sem] Oper.semAt_some

/-- The values of a set, the least first. -/
def vals (s : Nat) : List Nat := (List.range 8).filter (fun i => s.testBit i)
theorem vals_fin : ∀ s : Fin 256, s.val ≠ 0 → vals s.val = tz s.val :: vals (s.val &&& (s.val - 1)) ∧ s.val &&& (s.val - 1) < s.val ∧ tz s.val < 8 := by decide +kernel
theorem vals_cons (s : Nat) (h : s < 256) (h0 : s ≠ 0) : vals s = tz s :: vals (s &&& (s - 1)) ∧ s &&& (s - 1) < s ∧ tz s < 8 := vals_fin ⟨s, h⟩ h0
theorem vals_zero : vals 0 = [] := by decide

set_option maxHeartbeats 800000 in
theorem each_in (n s l : Nat) (hs : s < 256) (J : List Nat → World → Prop) (W : World) (h0 : J [] W)
    (hY : ∀ (pre : List Nat) (v : Nat) (W1 : World), J pre W1 → (pre ++ [v]) <+: vals s → YieldAt Fence.wide (n - 1) Try.prog l #[.int .i64 (v : Int)] W1 fun e W' => e = .returned (.bool true) ∧ J (pre ++ [v]) W') :
    CallsIn Fence.wide n Try.prog 60 #[.int .u8 s, .func (.yield l) #[] #[]] W fun e W' => (∃ v, e = .returned v) ∧ J (vals s) W' := by
  refine callsIn_of_wp Try.func60 rfl trivial ?_ rfl
  simp only [Try.ntmps60, List.size_toArray, List.length_cons, List.length_nil, Nat.reduceAdd, Nat.reduceSub, Array.replicate_succ, Array.replicate_zero, List.push_toArray, List.append_toArray, List.nil_append, List.cons_append]
  gi_wp2
  gi_loopw [4] (fun p wr => ∃ (pre : List Nat) (r : Nat), p = .int .u8 r ∧ r < 256 ∧ Hid (pre ++ vals r = vals s) ∧ J pre wr) (fun p _ => (intOf p).toNat)
  case atStart => exact ⟨[], s, rfl, hs, rfl, h0⟩
  case round =>
    obtain ⟨pre, r, rfl, hr, HP, hJ⟩ := hrel
    by_cases hr0 : r = 0
    · subst hr0
      gi_wp2
      go_end0
      exact ⟨⟨_, rfl⟩, by have := HP.out; rw [vals_zero, List.append_nil] at this; rw [← this]; exact hJ⟩
    · obtain ⟨hv1, hv2, hv3⟩ := vals_cons r hr hr0
      have hpos : (0 : Int) < (r : Int) := by omega
      have hr1 : ((r : Int) != 0) = true := by simp; omega
      obtain ⟨fn, tmps, assign, body, hy, hR⟩ := hY pre (tz r) wr hJ ⟨vals (r &&& (r - 1)), by rw [← HP.out, hv1]; simp⟩
      have HV := hd hv1
      clear hv1
      gi_wp2_with fail
      refine ⟨trivial, (fun h => by cases h), ?_⟩
      refine (callsIn_wide.2 (tz_any r _ hr)).mono ?_
      rintro e w' ⟨rfl, rfl⟩
      gi_wp2_with fail
      refine ⟨(fun h => by cases h), ?_⟩
      refine hR.mono ?_
      rintro e W3 ⟨rfl, hJ3⟩
      gi_wp2
      have e1 : bits .and .u8 (r : Int) ((r : Int) - 1) = ((r &&& (r - 1) : Nat) : Int) := by
        have := u8_and_nat r (r - 1) (by omega) (by omega)
        rw [← this, show (((r - 1 : Nat) : Int)) = (r : Int) - 1 from by omega]
      rw [e1]
      refine ⟨⟨pre ++ [tz r], r &&& (r - 1), rfl, by omega, ?_, hJ3⟩, by simp [intOf]; omega⟩
      show _ = _
      rw [← HP.out, HV.out]
      simp

/-- What the book-keeping of a range over a function does to the world: new blocks; a block from lo on, that holds no cells, is turned. -/
def Bk (lo : Nat) (A B : World) : Prop := ∃ row, A.grownBy B row ∧ ∀ r, row = some r → lo ≤ r ∧ ∃ o : Obj, A.heap[r]? = some o ∧ o.isCells = false
theorem Bk.alloc (lo : Nat) (A : World) (o : Obj) : Bk lo A (A.alloc o) := ⟨none, World.grownBy_alloc A o none, fun r h => by cases h⟩
theorem Bk.put {lo : Nat} {A : World} {l : Nat} {o : Obj} (o' : Obj) (hB : lo ≤ l) (hl : A.heap[l]? = some o) (ho : o.isCells = false) : Bk lo A (A.putObj l o') :=
  ⟨some l, grownBy_putObj' A l o', fun r e => by cases e; exact ⟨hB, o, hl, ho⟩⟩
theorem Blk.bk {lo : Nat} {A B : World} {g : Nat} {cur : Array Value} {e : TypeId} (h : Blk A g cur e) (hb : Bk lo A B) : Blk B g cur e := by
  obtain ⟨row, hg, hr⟩ := hb
  refine (hg.block g h.lt (fun e' => ?_)).trans h
  obtain ⟨_, o, ho, hc⟩ := hr g e'.symm
  have h' : A.heap[g]? = some (.cells cur e (0, 0)) := h
  rw [h'] at ho
  cases ho
  cases hc
theorem Fr.bk {S : Nat → Prop} {lo : Nat} {w A B : World} (h : Fr S w A) (hb : Bk lo A B) (hl : w.heap.size ≤ lo) : Fr S w B := by
  obtain ⟨row, hg, hr⟩ := hb
  exact h.grown hg (fun k hk => .inr (Nat.le_trans hl (hr k hk).1))
theorem Row.bk {lo : Nat} {A B : World} {v : Value} {e : TypeId} {xs : List Value} (h : Row A v e xs) (hb : Bk lo A B) : Row B v e xs := by
  refine ⟨h.1, ?_⟩
  rcases h.2 with h2 | ⟨g, cap, cur, rfl, hbb, hg, r⟩
  · exact .inl h2
  · exact .inr ⟨g, cap, cur, rfl, hbb, Blk.bk (lo := lo) hg hb, r⟩

theorem IntsAt.bk {lo : Nat} {A B : World} {ao : Option Addr} {zs : List Int} (h : IntsAt A ao zs) (hb : Bk lo A B) : IntsAt B ao zs := by
  intro i hi
  obtain ⟨b, o, rfl, hbl, hc⟩ := h i hi
  obtain ⟨row, hg, hr⟩ := hb
  refine ⟨b, o, rfl, Nat.lt_of_lt_of_le hbl hg.size, ?_⟩
  refine hg.cell hc (fun e => ?_)
  obtain ⟨_, o', ho, hcl⟩ := hr b e.symm
  cases o' <;> simp_all [World.cell?, Obj.isCells]

/-- Fr with writes to blocks of cells alone leaves whatever is no cells as it was. -/
def loopy : Obj → Bool
  | .loop _ => true
  | .deferred _ => true
  | _ => false
/-- The records of ranges over functions, and their marks, are as they were. -/
structure KeepsLD (W W' : World) : Prop where
  size : W.heap.size ≤ W'.heap.size
  same : ∀ (k : Nat) (o : Obj), W.heap[k]? = some o → loopy o = true → W'.heap[k]? = some o
theorem KeepsLD.trans {A B C : World} (h : KeepsLD A B) (k : KeepsLD B C) : KeepsLD A C := ⟨Nat.le_trans h.size k.size, fun i o ho hl => k.same i o (h.same i o ho hl) hl⟩
theorem Fr.keepsM {S : Nat → Prop} {A B : World} (h : Fr S A B) (hs : ∀ k, S k → ∃ o, A.heap[k]? = some o ∧ loopy o = false) : KeepsLD A B :=
  ⟨h.size, fun k o ho hc => (h.block k (lt_of_block ho) (fun hk => by
    obtain ⟨o', ho', hl⟩ := hs k hk
    rw [ho'] at ho
    cases ho
    rw [hl] at hc
    cases hc)).trans ho⟩
theorem Fr.keeps {S : Nat → Prop} {A B : World} (h : Fr S A B) (hs : ∀ k, S k → ∃ cur e, Blk A k cur e) : KeepsLD A B :=
  ⟨h.size, fun k o ho hc => (h.block k (lt_of_block ho) (fun hk => by
    obtain ⟨cur, e, hb⟩ := hs k hk
    have h' : A.heap[k]? = some (.cells cur e (0, 0)) := hb
    rw [h'] at ho
    cases ho
    cases hc)).trans ho⟩

/-- The mark that a range over a function leaves among the activation's deferred calls. -/
abbrev mark (D : Nat) : Deferred := { target := .collected D, args := #[] }

/-- How the body of a round is left: at its end. -/
def eachPost (I : World → Prop) (W : World) : Exit → Act → World → Prop
  | .normal, _, W' => KeepsLD W W' ∧ I W'
  | _, _, _ => False

/-- **'for value := range s.Each { body }', where no body leaves early.** I pre: the values pre have come. -/
theorem wp_each {n s : Nat} (hs : s < 256) {g : Operand} {t d : Tmp} {rid : Nat} {ty : TypeId} {pos : String} {body : Code} {Q : Exit → Act → World → Prop} {a : Act} {w : World}
    (hg : a.eval g = .func (.func 60) #[.int .u8 s] #[]) (ht : t < a.tmps.size) (I : List Nat → World → Prop) (hI : ∀ pre A B, I pre A → Bk w.heap.size A B → I pre B) (h0 : I [] w)
    (hround : ∀ (l : Nat) (pre : List Nat) (v : Nat) (W : World), (pre ++ [v]) <+: vals s → I pre W →
      body.wpIn (Fence.wide.inRound l) (n - 1 - 1) Try.prog (eachPost (I (pre ++ [v])) W) { tmps := (a.tmps.setIfInBounds t (.int .i64 (v : Int))).setIfInBounds d (.int .i64 (v : Int)), defers := [] } W)
    (hdone : ∀ (D : Nat) (W : World), w.heap.size ≤ D → I (vals s) W → W.heap[D]? = some (.deferred (some [])) → Q .normal { a with defers := mark D :: a.defers } W) :
    (Code.rangeFunc g #[t] (Code.region rid #[{ dst := some d, op := .assign (.tmp t), type := ty, pos := pos, after := #[], guard := none }] false) body).wpIn Fence.wide n Try.prog Q a w := by
  generalize hA : Code.region rid #[{ dst := some d, op := Op.assign (.tmp t), type := ty, pos := pos, after := #[], guard := none }] false = assign
  have hassign : ∀ (l : Nat) (v : Nat) (W : World) (K : Act → World → Prop), K { tmps := (a.tmps.setIfInBounds t (.int .i64 (v : Int))).setIfInBounds d (.int .i64 (v : Int)), defers := [] } W →
      assign.wpIn (Fence.wide.inRound l) (n - 1 - 1) Try.prog (Exit.then K (fun _ _ _ => False)) { tmps := a.tmps.setIfInBounds t (.int .i64 (v : Int)), defers := [] } W := by
    intro l v W K hK
    subst hA
    have hget : (a.tmps.setIfInBounds t (Value.int .i64 (v : Int))).getD t undef = .int .i64 (v : Int) := by
      simp [ht]
    gi_wp2
    exact hK
  refine wpIn_rangeFunc ?_
  intro fn hfn
  obtain ⟨rec, hrec⟩ : ∃ rec : LoopState → Option Code → Loop, rec = fun st pe => { state := st, pending := pe, fn, tmps := a.tmps, params := #[t], assign, body, defers := w.heap.size } := ⟨_, rfl⟩
  obtain ⟨W1, hW1⟩ : ∃ W1, (w.alloc (.deferred (some []))).alloc (.loop (rec .ready none)) = W1 := ⟨_, rfl⟩
  have hL1 : W1.heap[w.heap.size + 1]? = some (.loop (rec .ready none)) := by
    rw [← hW1]
    have := heap_alloc_new (w.alloc (.deferred (some []))) (.loop (rec .ready none))
    simpa using this
  have hK1 : W1.heap[w.heap.size]? = some (.deferred (some [])) := by
    rw [← hW1]; exact (Below.heap_alloc _ _ _ (by simp)).trans (heap_alloc_new w _)
  have hI1 : I [] W1 := by rw [← hW1]; exact hI _ _ _ (hI _ _ _ h0 (Bk.alloc _ _ _)) (Bk.alloc _ _ _)
  refine ⟨w.heap.size + 1, [mark w.heap.size], W1, { target := .fn (.func 60) #[], args := #[.int .u8 s, .func (.yield (w.heap.size + 1)) #[] #[]] }, W1, 60,
    #[.int .u8 s, .func (.yield (w.heap.size + 1)) #[] #[]], W1, ?_, ?_, ?_, ?_, (fun h => by cases h), ?_⟩
  · rw [← hW1, hrec]; exact run_enterLoop_outer _ _ _ _ _
  · simp only [resolve, hg]
    simp [go_sem]
  · intro f' _; trivial
  · simp [invoke, go_sem]
  · refine (each_in (n - 1) s (w.heap.size + 1) hs
      (fun pre W => I pre W ∧ W.heap[w.heap.size + 1]? = some (.loop (rec .ready none)) ∧ W.heap[w.heap.size]? = some (.deferred (some []))) W1 ⟨hI1, hL1, hK1⟩ ?_).mono ?_
    · rintro pre v W ⟨hi, hl, hk⟩ hpre
      have hlt : w.heap.size + 1 < W.heap.size := (Array.getElem?_eq_some_iff.1 hl).1
      have hy := run_yield (P := Try.prog) (args := #[.int .i64 (v : Int)]) hl (by rw [hrec]; rfl)
      rw [hrec] at hy
      dsimp only at hy
      have hfold : ((#[t] : Array Tmp).zip #[Value.int .i64 (v : Int)]).foldl (fun tmps (x : Tmp × Value) => match x with | (t, a) => tmps.setIfInBounds t a) a.tmps = a.tmps.setIfInBounds t (.int .i64 (v : Int)) := by simp
      rw [hfold] at hy
      have hl2 : (W.putObj (w.heap.size + 1) (.loop { rec .ready none with state := .busy })).heap[w.heap.size + 1]? = some (.loop { rec .ready none with state := .busy }) := World.putObj_heap_same hlt
      have hk2 : (W.putObj (w.heap.size + 1) (.loop { rec .ready none with state := .busy })).heap[w.heap.size]? = some (.deferred (some [])) := (World.putObj_heap_other (by omega)).trans hk
      have hbody := hround (w.heap.size + 1) pre v _ hpre (hI _ _ _ hi (Bk.put (.loop { rec .ready none with state := .busy }) (by omega) hl rfl))
      refine ⟨fn, _, assign, body, hy, roundIn_of_wpIn hfn ?_⟩
      refine hassign _ v W _ ?_
      refine ⟨_, run_beginRound hl (by rw [hrec]), ?_⟩
      refine wpIn_mono hbody ?_
      rintro e a3 W3 hp
      cases e with
      | normal =>
        obtain ⟨hk3, hi3⟩ := hp
        have hl3 := hk3.same _ _ hl2 rfl
        have hend := run_endRound (P := Try.prog) none hl3
        refine ⟨_, _, hend, rfl, hI _ _ _ hi3 (Bk.put _ (by omega) hl3 rfl), ?_, (World.putObj_heap_other (by omega)).trans (hk3.same _ _ hk2 rfl)⟩
        rw [World.putObj_heap_same (Array.getElem?_eq_some_iff.1 hl3).1, hrec]
        rfl
      | ret => exact hp.elim
      | exit id => exact hp.elim
      | goto t => exact hp.elim
      | panic ch => exact hp.elim
      | outgrown => exact hp.elim
    · rintro e W2 ⟨⟨v, rfl⟩, hi, hl, hk⟩
      refine ⟨none, _, ?_, hdone w.heap.size _ (Nat.le_refl _) (hI _ _ _ hi (Bk.put (.loop { rec .ready none with state := .exhausted }) (by omega) hl rfl)) ((World.putObj_heap_other (by omega)).trans hk)⟩
      have := run_endLoop (P := Try.prog) hl (by rw [hrec]; simp)
      rw [hrec] at this ⊢
      exact this
end Go.Proofs.Ytkjfpdfkcfgfkaa

/- Contract of values.Set.List. -/
namespace Go.Proofs.Ytkjfpdfkcfgfkaa
open Go.RowKit Go.Shelf
attribute [local go_sem] Oper.semAt_some

abbrev ints (l : List Nat) : List Value := l.map (fun (x : Nat) => Value.int .i64 (x : Int))

set_option maxHeartbeats 1600000 in
set_option maxRecDepth 1000000 in
theorem list_any (s : Nat) (w : World) (hs : s < 256) :
    Calls Try.prog 48 #[.int .u8 s] w fun e w' =>
      e = .returned (.slice (some ⟨w.heap.size, 0, none⟩) (vals s).length (vals s).length) ∧ Nw w w' ∧ Blk w' w.heap.size (ints (vals s)).toArray 3 := by
  obtain ⟨i0, hi, hz0, hz1, hz2⟩ := info_parts Try.infoInt
  have hmf : ∀ (fn : Fn) (first cap : Array Value) (w : World), (Instr.makeFunc fn first cap).run Try.prog w = .ok (.func fn first cap) w := fun _ _ _ _ => rfl
  have hp8 : pop s ≤ 8 := by unfold pop; exact Nat.le_trans (List.length_filter_le _ _) (by simp)
  refine (callsIn_wide (n := 9)).1 ?_
  refine callsIn_of_wp_marks Try.func48 rfl trivial ?_ rfl
  simp only [Try.ntmps48, List.size_toArray, List.length_cons, List.length_nil, Nat.reduceAdd, Nat.reduceSub, Array.replicate_succ, Array.replicate_zero, List.push_toArray, List.append_toArray, List.nil_append, List.cons_append]
  gi_wp2_with (first
    | (refine ⟨trivial, ?_⟩; gi_at_call 38; refine (callsIn_wide.2 (len_any s _ hs)).mono ?_; rintro e w' ⟨rfl, rfl⟩)
    | (gi_at_make; refine wpListIn_make_own _ rfl _ _ 22 rfl 0 3 i0 (.int .i64 0) 1 Try.underlying22 hi hz0 hz1 .i64 .i64 _ (pop s) rfl rfl rfl (by rw [hz2]; omega) (by unfold maxLen; omega) (Nat.zero_le _) ?_; intro w1 hown hgrow))
  have hr0 : Row w1 (.slice (some ⟨w'.heap.size, 0, none⟩) ([] : List Nat).length (pop s)) 3 (ints []) := hown
  have hf0 : Nw w' w1 := (Fr.refl _ w').grown hgrow (fun k e => by cases e)
  have hlt0 : w'.heap.size < w1.heap.size := hr0.lt rfl
  clear hown hgrow
  refine wp_each hs rfl (by simp) (fun pre W => Blk W w1.heap.size #[.slice (some ⟨w'.heap.size, 0, none⟩) pre.length (pop s)] 22 ∧ Row W (.slice (some ⟨w'.heap.size, 0, none⟩) pre.length (pop s)) 3 (ints pre) ∧ Nw w' W)
    (fun pre A B h hb => ⟨h.1.bk hb, h.2.1.bk hb, h.2.2.bk hb (by simp; omega)⟩) ⟨Blk.new _ _ _, hr0.alloc _, hf0.alloc _⟩ ?round ?done
  case round =>
    rintro l pre v W hpre ⟨hb, hr, hf⟩
    have hc0 : W.cell? ⟨w1.heap.size, 0, none⟩ = some (.slice (some ⟨w'.heap.size, 0, none⟩) pre.length (pop s)) := hb.cell 0
    have hfz := hb.free 0
    have hlen : pre.length + 1 ≤ pop s := by
      have := hpre.length_le
      simp [vals, pop] at this ⊢
      omega
    have Hb := hd hb
    clear hb
    gi_wp2_with (gi_at_builtin; refine wpListIn_append_fits _ rfl _ _ 22 rfl 0 3 i0 1 Try.underlying22 hi hz1 w'.heap.size pre.length (pop s) (ints pre) rfl (by have := hr.alloc (.cells #[.int .i64 (v : Int)] 3); unfold Row at this; simpa using this) ⟨W.heap.size, 0, none⟩ 1 1 [.int .i64 (v : Int)] rfl rfl (cell_one_new _ _ _) (by simp [Value.oneCell']) hlen ?_; intro w2 hown2 hgrow2; have hf2 : Fr (fun k => k = w'.heap.size) W w2 := ((Fr.refl _ W).alloc _).grown hgrow2 (fun k e => by cases e; exact .inl rfl); have hb2 := hd (Hb.out.fr hf2 (by omega)); have hc2 : w2.cell? ⟨w1.heap.size, 0, none⟩ = some _ := hb2.out.cell 0; have hfz2 := hb2.out.free 0)
    have hlen2 : (pre ++ [v]).length = pre.length + 1 := by simp
    have hints : ints (pre ++ [v]) = ints pre ++ [.int .i64 (v : Int)] := by simp [ints]
    refine ⟨((hf2.mono (S' := fun k => k = w'.heap.size ∨ k = w1.heap.size) (fun i h => .inl (.inl h))).setCell ⟨w1.heap.size, 0, none⟩ _ (.inl (.inr rfl))).keeps ?_, ?_, ?_, ?_⟩
    · rintro k (h | h)
      · subst h
        obtain ⟨cur, hb, _⟩ := hr.blk rfl
        exact ⟨_, _, hb⟩
      · subst h; exact ⟨_, _, Hb.out⟩
    · rw [hlen2]
      have := hb2.out.set 0 (.slice (some ⟨w'.heap.size, 0, none⟩) (pre.length + 1) (pop s))
      simpa using this
    · rw [hlen2, hints]
      have h5 : Row w2 (.slice (some ⟨w'.heap.size, 0, none⟩) (pre.length + 1) (pop s)) 3 (ints pre ++ [.int .i64 (v : Int)]) := by
        unfold Row
        simpa using hown2
      exact h5.fr ((Fr.refl (fun k => k = w1.heap.size) w2).setCell ⟨w1.heap.size, 0, none⟩ _ (.inl rfl)) (fun k hk e => by cases hk; exact absurd e (Nat.ne_of_lt hlt0))
    · exact (hf.trans hf2 (fun i h => .inr (by omega))).setCell _ _ (.inr (by show w'.heap.size ≤ w1.heap.size; omega))
  case done =>
    rintro D W hD ⟨hb, hr, hf⟩ hK
    have hc0 : W.cell? ⟨w1.heap.size, 0, none⟩ = some (.slice (some ⟨w'.heap.size, 0, none⟩) (vals s).length (pop s)) := hb.cell 0
    gi_wp2
    have hDle : w'.heap.size ≤ D := by simp at hD; omega
    refine ⟨by simp, .inl ⟨_, _, rfl, run_takeDeferred hK, ?_⟩⟩
    refine ⟨_, results_tmp rfl _ _ _, rfl, hf.bk (Bk.put (.deferred none) hDle hK rfl) (Nat.le_refl _), ?_⟩
    have h6 : Row W (.slice (some ⟨w'.heap.size, 0, none⟩) (vals s).length (pop s)) 3 (ints (vals s)) := hr
    have h7 : Blk W w'.heap.size (ints (vals s)).toArray 3 := by
      unfold Row at h6
      simp only [ints, List.length_map] at h6 ⊢
      exact blk_of_owns (n := (vals s).length) h6
    exact h7.bk (Bk.put (.deferred none) hDle hK rfl)
end Go.Proofs.Ytkjfpdfkcfgfkaa

/- Contracts of the program's Work: dead, has, fault, Domain. -/
namespace Go.Proofs.Ytkjfpdfkcfgfkaa
open Go.RowKit

theorem workCells_sz (szv : Value) (d : List Nat) (tv : Value) (l : Rest) : (workCells szv d tv l)[0]? = some szv := by simp [workCells]
theorem workCells_dom (szv : Value) (d : List Nat) (tv : Value) (l : Rest) (i : Nat) (hi : i < d.length) : (workCells szv d tv l)[1 + i]? = some (.int .u8 (d.getD i 0 : Nat)) := by
  rw [Nat.add_comm]
  simp [workCells, List.getElem?_append_left, hi]
theorem workCells_tabs (szv : Value) (d : List Nat) (tv : Value) (l : Rest) (h8 : d.length = 8) : (workCells szv d tv l)[9]? = some tv := by
  simp [workCells, h8]
theorem workCells_backs (szv : Value) (d : List Nat) (tv : Value) (l : Rest) (h8 : d.length = 8) : (workCells szv d tv l)[10]? = some l.backs := by
  simp [workCells, h8]
theorem workCells_starts (szv : Value) (d : List Nat) (tv : Value) (l : Rest) (h8 : d.length = 8) : (workCells szv d tv l)[11]? = some l.starts := by
  simp [workCells, h8]

theorem workCells_busy (szv : Value) (d : List Nat) (tv : Value) (l : Rest) (h8 : d.length = 8) : (workCells szv d tv l)[12]? = some (.bool l.busy) := by
  simp [workCells, h8]

set_option maxHeartbeats 400000 in
theorem dead_any (X : Nat) (szv : Value) (d : List Nat) (tv : Value) (l : Rest) (w : World) (hX : Blk w X (workCells szv d tv l) 82) (h8 : d.length = 8) :
    Calls Try.prog 37 #[.pointer (some ⟨X, 0, none⟩)] w fun e w' => e = .returned (.bool (d.getD 0 0 == 0)) ∧ w' = w := by
  have h1 : w.cell? ⟨X, 1, none⟩ = some (.int .u8 (d.getD 0 0 : Nat)) := (hX.cell 1).trans (workCells_dom szv d tv l 0 (by omega))
  obtain ⟨x, hx⟩ : ∃ x, d.getD 0 0 = x := ⟨_, rfl⟩
  rw [hx] at h1
  have Hx := hd hx
  clear hx hX
  go_enter Try.func37, Try.ntmps37
  go_wp2
  go_ret
  refine ⟨?_, rfl⟩
  rw [Hx.out]
  show Ending.returned (.bool ((x : Int) == 0)) = _
  congr 2
  rw [Bool.eq_iff_iff]
  simp

set_option maxHeartbeats 400000 in
theorem has_any (X : Nat) (szv : Value) (d : List Nat) (tv : Value) (l : Rest) (zs : List Int) (v : Int) (w : World) (hX : Blk w X (workCells szv d tv l) 82)
    (hsz : Row w szv 3 (zs.map (Value.int .i64))) (_ : zs.length ≤ 8) :
    Calls Try.prog 47 #[.pointer (some ⟨X, 0, none⟩), .int .i64 v] w fun e w' => e = .returned (.bool (decide (0 ≤ v) && decide (v < zs.length))) ∧ w' = w := by
  have h1 : w.cell? ⟨X, 0, none⟩ = some szv := (hX.cell 0).trans (workCells_sz ..)
  obtain ⟨ao, cap, hf, _⟩ := hsz.form
  simp only [List.length_map] at hf
  rw [hf] at h1
  clear hf hX hsz
  by_cases h0 : 0 ≤ v
  · go_enter Try.func47, Try.ntmps47
    go_wp2
    go_ret
    exact ⟨by simp [h0], rfl⟩
  · have hb : decide (0 ≤ v) = false := by simpa using h0
    go_enter Try.func47, Try.ntmps47
    go_wp2
    go_ret
    exact ⟨by simp, rfl⟩

set_option maxHeartbeats 800000 in
/-- The answer of Domain at a variable. -/
theorem domain_ok (X : Nat) (szv : Value) (d : List Nat) (tv : Value) (l : Rest) (zs : List Int) (v : Nat) (w : World) (hX : Blk w X (workCells szv d tv l) 82)
    (hsz : Row w szv 3 (zs.map (Value.int .i64))) (hl : zs.length ≤ 8) (hv : v < zs.length) (h8 : d.length = 8) (hd8 : d.getD v 0 < 256) (hbz : l.busy = false) :
    Calls Try.prog 28 #[.pointer (some ⟨X, 0, none⟩), .int .i64 v] w fun e w' =>
      e = .returned (.tuple #[.slice (some ⟨w.heap.size, 0, none⟩) (vals (d.getD v 0)).length (vals (d.getD v 0)).length, .int .i64 0]) ∧ Nw w w' ∧ Blk w' w.heap.size (ints (vals (d.getD v 0))).toArray 3 := by
  have h1 : w.cell? ⟨X, 1 + v, none⟩ = some (.int .u8 (d.getD v 0 : Nat)) := (hX.cell _).trans (workCells_dom szv d tv l v (by omega))
  obtain ⟨x, hx⟩ : ∃ x, d.getD v 0 = x := ⟨_, rfl⟩
  rw [hx] at h1 hd8 ⊢
  have hcb : w.cell? ⟨X, 12, none⟩ = some (.bool false) := (hX.cell 12).trans ((workCells_busy szv d tv l h8).trans (by rw [hbz]))
  clear hx hbz
  have hb1 : (decide ((0 : Int) ≤ (v : Int)) && decide ((v : Int) < (zs.length : Int))) = true := by simp; omega
  have hi8 : (v : Int) < 8 := by omega
  go_enter Try.func28, Try.ntmps28
  go_wp2_with (first
    | (go_at_call 47; refine (has_any X szv d tv l zs v _ hX hsz hl).mono ?_; rw [hb1]; rintro e w' ⟨rfl, rfl⟩)
    | (go_at_call 48; refine (list_any x _ hd8).mono ?_; rintro e w2 ⟨rfl, hf2, hb2⟩))
  go_ret2
  exact ⟨rfl, hf2, hb2⟩

set_option maxHeartbeats 800000 in
theorem domain_no (X : Nat) (szv : Value) (d : List Nat) (tv : Value) (l : Rest) (zs : List Int) (v : Int) (w : World) (hX : Blk w X (workCells szv d tv l) 82)
    (hsz : Row w szv 3 (zs.map (Value.int .i64))) (hl : zs.length ≤ 8) (hv : ¬ (0 ≤ v ∧ v < zs.length)) (h8 : d.length = 8) (hbz : l.busy = false) :
    Calls Try.prog 28 #[.pointer (some ⟨X, 0, none⟩), .int .i64 v] w fun e w' => e = .returned (.tuple #[.slice none 0 0, .int .i64 1]) ∧ w' = w := by
  have hb1 : (decide ((0 : Int) ≤ v) && decide (v < (zs.length : Int))) = false := by simp; omega
  have hcb : w.cell? ⟨X, 12, none⟩ = some (.bool false) := (hX.cell 12).trans ((workCells_busy szv d tv l h8).trans (by rw [hbz]))
  clear hbz
  go_enter Try.func28, Try.ntmps28
  go_wp2_with (first
    | (go_at_call 47; refine (has_any X szv d tv l zs v _ hX hsz hl).mono ?_; rw [hb1]; rintro e w' ⟨rfl, rfl⟩))
  go_ret2
  exact ⟨rfl, rfl⟩

/-- What Fix and Remove ask first. -/
def faultOf (zs : List Int) (d : List Nat) (v value : Int) : Int :=
  if 0 ≤ v ∧ v < zs.length ∧ 0 ≤ value ∧ value < zs.getD v.toNat 0 then (if d.getD 0 0 = 0 then 3 else 0) else 1

set_option maxHeartbeats 1600000 in
theorem fault_any (X : Nat) (szv : Value) (d : List Nat) (tv : Value) (l : Rest) (zs : List Int) (v value : Int) (w : World) (hX : Blk w X (workCells szv d tv l) 82)
    (hsz : Row w szv 3 (zs.map (Value.int .i64))) (hl : zs.length ≤ 8) (h8 : d.length = 8) (hbz : l.busy = false) :
    Calls Try.prog 39 #[.pointer (some ⟨X, 0, none⟩), .int .i64 v, .int .i64 value] w fun e w' => e = .returned (.int .i64 (faultOf zs d v value)) ∧ w' = w := by
  have hcb : w.cell? ⟨X, 12, none⟩ = some (.bool false) := (hX.cell 12).trans ((workCells_busy szv d tv l h8).trans (by rw [hbz]))
  clear hbz
  by_cases hv : 0 ≤ v ∧ v < zs.length
  · obtain ⟨h0, h1⟩ := hv
    obtain ⟨k, rfl⟩ := Int.eq_ofNat_of_zero_le h0
    have hk : k < zs.length := by omega
    have hb1 : (decide ((0 : Int) ≤ (k : Int)) && decide ((k : Int) < (zs.length : Int))) = true := by simp; omega
    have hc0 : w.cell? ⟨X, 0, none⟩ = some szv := (hX.cell 0).trans (workCells_sz ..)
    obtain ⟨g, cap, he, _, hc1, _⟩ := hsz.cell k (by simpa using hk)
    simp only [List.getElem_map, List.length_map] at hc1 he
    rw [he] at hc0
    obtain ⟨z, hz⟩ : ∃ z, zs[k] = z := ⟨_, rfl⟩
    rw [hz] at hc1
    have hz' : zs.getD k 0 = z := by simp [hk, hz]
    by_cases hval : 0 ≤ value ∧ value < z
    · obtain ⟨hv0, hv1⟩ := hval
      cases hdd : (d.getD 0 0 == 0) with
      | true =>
        have hfin : faultOf zs d k value = 3 := by
          unfold faultOf
          rw [if_pos ⟨h0, h1, hv0, by rw [Int.toNat_natCast, hz']; exact hv1⟩, if_pos (by simpa using hdd)]
        rw [hfin]
        have Hdd := hd hdd
        have Hz := hd hz
        clear hdd hz hz' hfin he
        go_enter Try.func39, Try.ntmps39
        go_wp2_with (first
          | (go_at_call 47; refine (has_any X szv d tv l zs k _ hX hsz hl).mono ?_; rw [hb1]; rintro e w' ⟨rfl, rfl⟩)
          | (go_at_call 37; refine (dead_any X szv d tv l _ hX h8).mono ?_; rw [Hdd.out]; rintro e w' ⟨rfl, rfl⟩))
        go_ret
        exact ⟨rfl, rfl⟩
      | false =>
        have hfin : faultOf zs d k value = 0 := by
          unfold faultOf
          rw [if_pos ⟨h0, h1, hv0, by rw [Int.toNat_natCast, hz']; exact hv1⟩, if_neg (by simpa using hdd)]
        rw [hfin]
        have Hdd := hd hdd
        have Hz := hd hz
        clear hdd hz hz' hfin he
        go_enter Try.func39, Try.ntmps39
        go_wp2_with (first
          | (go_at_call 47; refine (has_any X szv d tv l zs k _ hX hsz hl).mono ?_; rw [hb1]; rintro e w' ⟨rfl, rfl⟩)
          | (go_at_call 37; refine (dead_any X szv d tv l _ hX h8).mono ?_; rw [Hdd.out]; rintro e w' ⟨rfl, rfl⟩))
        go_ret
        exact ⟨rfl, rfl⟩
    · have hfin : faultOf zs d k value = 1 := by
        unfold faultOf
        rw [if_neg (fun h => hval ⟨h.2.2.1, by have h4 := h.2.2.2; rw [Int.toNat_natCast, hz'] at h4; exact h4⟩)]
      rw [hfin]
      have Hz := hd hz
      clear hz hz' hfin he
      by_cases hv0 : 0 ≤ value
      · have hv1 : ¬ value < z := fun h => hval ⟨hv0, h⟩
        go_enter Try.func39, Try.ntmps39
        go_wp2_with (first
          | (go_at_call 47; refine (has_any X szv d tv l zs k _ hX hsz hl).mono ?_; rw [hb1]; rintro e w' ⟨rfl, rfl⟩))
        go_ret
        exact ⟨rfl, rfl⟩
      · go_enter Try.func39, Try.ntmps39
        go_wp2_with (first
          | (go_at_call 47; refine (has_any X szv d tv l zs k _ hX hsz hl).mono ?_; rw [hb1]; rintro e w' ⟨rfl, rfl⟩))
        go_ret
        exact ⟨rfl, rfl⟩
  · have hb1 : (decide ((0 : Int) ≤ v) && decide (v < (zs.length : Int))) = false := by simp; omega
    have hfin : faultOf zs d v value = 1 := by
      unfold faultOf
      rw [if_neg (fun h => hv ⟨h.1, h.2.1⟩)]
    rw [hfin]
    clear hfin
    go_enter Try.func39, Try.ntmps39
    go_wp2_with (first
      | (go_at_call 47; refine (has_any X szv d tv l zs v _ hX hsz hl).mono ?_; rw [hb1]; rintro e w' ⟨rfl, rfl⟩))
    go_ret
    exact ⟨rfl, rfl⟩
end Go.Proofs.Ytkjfpdfkcfgfkaa

/- Contracts of the program's Valid and what it calls. -/
namespace Go.Proofs.Ytkjfpdfkcfgfkaa
open Go.RowKit

set_option maxHeartbeats 400000 in
theorem indexInt_any (ao : Option Addr) (cap : Nat) (xs : List Int) (x : Int) (w : World) (hl : xs.length ≤ 1000) (hc : IntsAt w ao xs) :
    Calls Try.prog 82 #[.slice ao xs.length cap, .int .i64 x] w fun e w' => e = .returned (.int .i64 (firstAt x xs 0)) ∧ w' = w := by
  go_enter Try.func82, Try.ntmps82
  go_wp2
  go_loop [8] (fun i => ∃ k : Nat, k ≤ xs.length ∧ i = .int .i64 k ∧ Hid (firstAt x xs 0 = firstAt x (xs.drop k) k)) (fun i => xs.length - (intOf i).toNat)
  case atStart => exact ⟨0, Nat.zero_le _, rfl, rfl⟩
  case round =>
    obtain ⟨k, hk, rfl, HF⟩ := hrel
    by_cases hlt : k < xs.length
    · obtain ⟨b, o, rfl, _, h1⟩ := hc k hlt
      have h2 : xs.drop k = xs[k] :: xs.drop (k + 1) := (List.getElem_cons_drop hlt).symm
      have H2 := hd h2
      clear h2 hc
      obtain ⟨y, hy⟩ : ∃ y, xs.getD k 0 = y := ⟨_, rfl⟩
      rw [hy] at h1
      have h3 : xs[k] = y := by simpa [hlt] using hy
      have H3 := hd h3
      clear hy h3
      cases hxy : (x == y) with
      | true =>
        have Hxy := hd hxy
        go_wp2
        go_ret
        refine ⟨?_, rfl⟩
        rw [HF.out, H2.out, H3.out]
        simp [firstAt, Hxy.out]
      | false =>
        have Hxy := hd hxy
        go_wp2
        refine ⟨⟨k + 1, by omega, by go_num, ?_⟩, by simp [intOf]; omega⟩
        show _ = _
        rw [HF.out, H2.out, H3.out]
        simp [firstAt, Hxy.out]
    · go_wp2
      go_ret
      refine ⟨?_, rfl⟩
      rw [HF.out, List.drop_eq_nil_of_le (by omega)]
      rfl

set_option maxHeartbeats 400000 in
theorem containsInt_any (ao : Option Addr) (cap : Nat) (xs : List Int) (x : Int) (w : World) (hl : xs.length ≤ 1000) (hc : IntsAt w ao xs) :
    Calls Try.prog 72 #[.slice ao xs.length cap, .int .i64 x] w fun e w' => e = .returned (.bool (xs.contains x)) ∧ w' = w := by
  go_enter Try.func72, Try.ntmps72
  go_wp2_with (go_at_call 82; refine (indexInt_any _ _ xs x _ hl hc).mono ?_; rintro e w' ⟨rfl, rfl⟩)
  go_ret
  exact ⟨by rw [← firstAt_mem x xs 0]; rfl, rfl⟩

theorem containsInt_at (ao : Option Addr) (n cap : Nat) (xs : List Int) (x : Int) (w : World) (hn : xs.length = n) (hl : xs.length ≤ 1000) (hc : IntsAt w ao xs) :
    Calls Try.prog 72 #[.slice ao n cap, .int .i64 x] w fun e w' => e = .returned (.bool (xs.contains x)) ∧ w' = w := by
  subst hn
  exact containsInt_any ao cap xs x w hl hc

/-- Are the first k variables fine, and all different? -/
def okVar (n : Nat) (vars : List Int) (i : Nat) : Bool := decide (0 ≤ vars.getD i 0) && decide (vars.getD i 0 < n) && !(vars.take i).contains (vars.getD i 0)
def okVars (n : Nat) (vars : List Int) : Bool := decide (1 ≤ vars.length) && decide (vars.length ≤ 4) && (List.range vars.length).all (okVar n vars)

theorem IntsAt.take {w : World} {ao : Option Addr} {zs : List Int} (h : IntsAt w ao zs) (k : Nat) : IntsAt w ao (zs.take k) := by
  intro i hi
  simp at hi
  obtain ⟨b, o, he, hb, hc⟩ := h i (by omega)
  refine ⟨b, o, he, hb, hc.trans ?_⟩
  simp [List.getElem?_take_of_lt (show i < k by omega)]

set_option maxHeartbeats 1600000 in
set_option maxRecDepth 1000000 in
theorem validVars_any (ao : Option Addr) (cap : Nat) (vars : List Int) (n : Nat) (w : World) (hl : vars.length * 8 ≤ 140737488355328) (hcap : vars.length ≤ cap) (hc : IntsAt w ao vars) :
    Calls Try.prog 61 #[.slice ao vars.length cap, .int .i64 n] w fun e w' => e = .returned (.bool (okVars n vars)) ∧ w' = w := by
  by_cases h4 : 1 ≤ vars.length ∧ vars.length ≤ 4
  · obtain ⟨h1, h4⟩ := h4
    go_enter Try.func61, Try.ntmps61
    go_wp2
    go_loop [17] (fun i => ∃ k : Nat, k ≤ vars.length ∧ i = .int .i64 k ∧ Hid ((List.range k).all (okVar n vars) = true)) (fun i => vars.length - (intOf i).toNat)
    case atStart => exact ⟨0, Nat.zero_le _, rfl, rfl⟩
    case round =>
      obtain ⟨k, hk, rfl, HA⟩ := hrel
      by_cases hlt : k < vars.length
      · obtain ⟨b, o, rfl, _, hck⟩ := hc k hlt
        have htl : (vars.take k).length = k := by simp; omega
        have hct := hd (hc.take k)
        obtain ⟨y, hy⟩ : ∃ y, vars.getD k 0 = y := ⟨_, rfl⟩
        rw [hy] at hck
        have Hy := hd hy
        clear hy
        have hki : (0 : Int) ≤ (k : Int) := by omega
        have hfalse : okVar n vars k = false → okVars n vars = false := fun h => by
          have : (List.range vars.length).all (okVar n vars) = false := by
            rw [List.all_eq_false]
            exact ⟨k, List.mem_range.2 hlt, by simp [h]⟩
          simp [okVars, this]
        have HF := hd hfalse
        clear hfalse
        by_cases hy0 : 0 ≤ y
        · by_cases hyn : y < n
          · cases hcon : (vars.take k).contains y with
            | true =>
              have Hcon := hd hcon
              clear hcon
              go_wp2_with (go_at_call 72; refine (containsInt_at (some ⟨b, o, none⟩) k cap (vars.take k) y _ htl (by omega) hct.out).mono ?_; rw [Hcon.out]; rintro e w' ⟨rfl, rfl⟩)
              go_ret
              exact ⟨by rw [HF.out (by simp only [okVar]; rw [Hy.out, Hcon.out]; simp)]; rfl, rfl⟩
            | false =>
              have Hcon := hd hcon
              clear hcon
              go_wp2_with (go_at_call 72; refine (containsInt_at (some ⟨b, o, none⟩) k cap (vars.take k) y _ htl (by omega) hct.out).mono ?_; rw [Hcon.out]; rintro e w' ⟨rfl, rfl⟩)
              refine ⟨⟨k + 1, by omega, by go_num, ?_⟩, by simp [intOf]; omega⟩
              show _ = _
              rw [List.range_succ, List.all_append, HA.out]
              simp only [okVar, List.all_cons, List.all_nil]
              rw [Hy.out, Hcon.out]
              simp [hy0, hyn]
          · have HK := hd (HF.out (by simp only [okVar]; rw [Hy.out]; simp [hyn]))
            go_wp2
            go_ret
            exact ⟨by rw [HK.out]; rfl, rfl⟩
        · have HK := hd (HF.out (by simp only [okVar]; rw [Hy.out]; simp [hy0]))
          go_wp2
          go_ret
          exact ⟨by rw [HK.out]; rfl, rfl⟩
      · obtain rfl : k = vars.length := by omega
        go_wp2
        go_ret
        exact ⟨by simp only [okVars]; rw [HA.out]; simp [h1, h4], rfl⟩
  · have hfin : okVars n vars = false := by
      simp only [okVars]
      by_cases h1 : 1 ≤ vars.length
      · have : ¬ vars.length ≤ 4 := fun h => h4 ⟨h1, h⟩
        simp [this]
      · simp [h1]
    rw [hfin]
    clear hfin
    by_cases h1 : vars.length = 0
    · rw [h1]
      go_enter Try.func61, Try.ntmps61
      go_wp2
      go_ret
      exact ⟨rfl, rfl⟩
    · have h5 : 4 < vars.length := by omega
      go_enter Try.func61, Try.ntmps61
      go_wp2
      go_ret
      exact ⟨rfl, rfl⟩

/-- The size of a row's i-th variable. -/
def sizeAt (zs vars : List Int) (i : Nat) : Int := zs.getD (vars.getD i 0).toNat 0
def okEntry (zs vars row : List Int) (i : Nat) : Bool := row.getD i 0 == -1 || (decide (0 ≤ row.getD i 0) && decide (row.getD i 0 < sizeAt zs vars i))
def okRow (zs vars row : List Int) : Bool := decide (row.length = vars.length) && (List.range row.length).all (okEntry zs vars row)

set_option maxHeartbeats 1600000 in
set_option maxRecDepth 1000000 in
theorem validRow_any (ro vo so : Option Addr) (rcap vcap scap : Nat) (row vars zs : List Int) (w : World) (hvl : vars.length ≤ 4)
    (hv : ∀ i, i < vars.length → 0 ≤ vars.getD i 0 ∧ vars.getD i 0 < zs.length) (hr : IntsAt w ro row) (hvs : IntsAt w vo vars) (hs : IntsAt w so zs) :
    Calls Try.prog 62 #[.slice ro row.length rcap, .slice vo vars.length vcap, .slice so zs.length scap] w fun e w' => e = .returned (.bool (okRow zs vars row)) ∧ w' = w := by
  by_cases hlen : row.length = vars.length
  · have hb : ((row.length : Int) != (vars.length : Int)) = false := by simp [hlen]
    rw [hlen] at hb
    rw [hlen]
    go_enter Try.func62, Try.ntmps62
    go_wp2
    go_loop [16] (fun i => ∃ k : Nat, k ≤ vars.length ∧ i = .int .i64 k ∧ Hid ((List.range k).all (okEntry zs vars row) = true)) (fun i => vars.length - (intOf i).toNat)
    case atStart => exact ⟨0, Nat.zero_le _, rfl, rfl⟩
    case round =>
      obtain ⟨k, hk, rfl, HA⟩ := hrel
      by_cases hlt : k < vars.length
      · obtain ⟨b, o, rfl, _, hck⟩ := hr k (by omega)
        obtain ⟨b2, o2, rfl, _, hcv⟩ := hvs k hlt
        obtain ⟨hv0, hv1⟩ := hv k hlt
        obtain ⟨q, hq⟩ : ∃ q : Nat, vars.getD k 0 = (q : Int) := ⟨(vars.getD k 0).toNat, by omega⟩
        rw [hq] at hcv hv0 hv1
        have hqz : q < zs.length := by omega
        obtain ⟨b3, o3, rfl, _, hcs⟩ := hs q hqz
        obtain ⟨y, hy⟩ : ∃ y, row.getD k 0 = y := ⟨_, rfl⟩
        rw [hy] at hck
        obtain ⟨z, hz⟩ : ∃ z, zs.getD q 0 = z := ⟨_, rfl⟩
        rw [hz] at hcs
        have hsz : sizeAt zs vars k = z := by simp only [sizeAt]; rw [hq, Int.toNat_natCast, hz]
        have hoe : okEntry zs vars row k = (y == -1 || (decide (0 ≤ y) && decide (y < z))) := by simp only [okEntry]; rw [hy, hsz]
        have HOE := hd hoe
        have hfalse : okEntry zs vars row k = false → okRow zs vars row = false := fun h => by
          have : (List.range row.length).all (okEntry zs vars row) = false := by
            rw [List.all_eq_false]
            exact ⟨k, List.mem_range.2 (by omega), by simp [h]⟩
          simp [okRow, this]
        have HF := hd hfalse
        clear hfalse hoe hsz hy hz hq hr hvs hs hv
        have hki : (0 : Int) ≤ (k : Int) := by omega
        have hgo : okEntry zs vars row k = true → (List.range (k + 1)).all (okEntry zs vars row) = true := fun h => by
          rw [List.range_succ, List.all_append, HA.out]
          simp [h]
        have HG := hd hgo
        clear hgo
        cases hm : (y == -1) with
        | true =>
          have HT := hd (HG.out (by rw [HOE.out, hm]; rfl))
          have hy1 : y = -1 := by simpa using hm
          subst hy1
          go_wp2
          exact ⟨⟨k + 1, by omega, by go_num, HT⟩, by simp [intOf]; omega⟩
        | false =>
          have hm2 : (y != -1) = true := by simpa using hm
          by_cases hy0 : 0 ≤ y
          · by_cases hyz : y < z
            · have HT := hd (HG.out (by rw [HOE.out, hm]; simp [hy0, hyz]))
              go_wp2
              exact ⟨⟨k + 1, by omega, by go_num, HT⟩, by simp [intOf]; omega⟩
            · have HK := hd (HF.out (by rw [HOE.out, hm]; simp [hyz]))
              go_wp2
              go_ret
              exact ⟨by rw [HK.out]; rfl, rfl⟩
          · have HK := hd (HF.out (by rw [HOE.out, hm]; simp [hy0]))
            go_wp2
            go_ret
            exact ⟨by rw [HK.out]; rfl, rfl⟩
      · obtain rfl : k = vars.length := by omega
        have hfin : okRow zs vars row = true := by simp only [okRow]; rw [hlen, HA.out]; simp
        have HK := hd hfin
        clear hfin
        go_wp2
        go_ret
        exact ⟨by rw [HK.out]; rfl, rfl⟩
  · have hfin : okRow zs vars row = false := by simp [okRow, hlen]
    rw [hfin]
    have hb : ((row.length : Int) != (vars.length : Int)) = true := by simp; omega
    clear hfin
    go_enter Try.func62, Try.ntmps62
    go_wp2
    go_ret
    exact ⟨rfl, rfl⟩

end Go.Proofs.Ytkjfpdfkcfgfkaa

/- Contract of the program's Valid. -/
namespace Go.Proofs.Ytkjfpdfkcfgfkaa
open Go.RowKit

/-- The rows of a table, wherever they lie. -/
def RowsAt (w : World) (ao : Option Addr) (rows : List (List Int)) : Prop := ∀ i, i < rows.length → ∃ b o ro rcap, ao = some ⟨b, o, none⟩ ∧ b < w.heap.size ∧
  w.cell? ⟨b, o + i, none⟩ = some (.slice ro (rows.getD i []).length rcap) ∧ IntsAt w ro (rows.getD i [])
theorem RowsAt.nw {w w' : World} {ao : Option Addr} {rows : List (List Int)} (h : RowsAt w ao rows) (f : Nw w w') : RowsAt w' ao rows := by
  intro i hi
  obtain ⟨b, o, ro, rcap, rfl, hb, hc, hz⟩ := h i hi
  exact ⟨b, o, ro, rcap, rfl, Nat.lt_of_lt_of_le hb f.size, (f.cell hb (fun x => x)).trans hc, hz.nw f⟩
def okWay (way : Int) : Bool := way == 1 || way == 2
def okRowAt (zs vars : List Int) (rows : List (List Int)) (i : Nat) : Bool := okRow zs vars (rows.getD i [])
def okTable (zs vars : List Int) (rows : List (List Int)) (way : Int) : Bool := okWay way && okVars zs.length vars && decide (rows.length ≤ 60) && (List.range rows.length).all (okRowAt zs vars rows)
theorem okVars_bounds {n : Nat} {vars : List Int} (h : okVars n vars = true) : 1 ≤ vars.length ∧ vars.length ≤ 4 ∧ ∀ i, i < vars.length → 0 ≤ vars.getD i 0 ∧ vars.getD i 0 < n := by
  simp only [okVars, Bool.and_eq_true, decide_eq_true_eq, List.all_eq_true, List.mem_range] at h
  refine ⟨h.1.1, h.1.2, fun i hi => ?_⟩
  have := h.2 i hi
  simp only [okVar, Bool.and_eq_true, decide_eq_true_eq] at this
  exact ⟨this.1.1, this.1.2⟩

set_option maxHeartbeats 1600000 in
set_option maxRecDepth 1000000 in
theorem valid_any (vo ro so : Option Addr) (vcap rcap scap : Nat) (vars : List Int) (rows : List (List Int)) (nt : Bool) (way : Int) (zs : List Int) (w : World)
    (hl : vars.length * 8 ≤ 140737488355328) (hrl : rows.length * 24 ≤ 140737488355328) (hvcap : vars.length ≤ vcap) (hvs : IntsAt w vo vars) (hrs : RowsAt w ro rows) (hs : IntsAt w so zs) :
    Calls Try.prog 51 #[.agg #[.slice vo vars.length vcap, .slice ro rows.length rcap, .bool nt, .int .i64 way], .slice so zs.length scap] w fun e w' =>
      e = .returned (.bool (okTable zs vars rows way)) ∧ Nw w w' := by
  obtain ⟨W, hW⟩ : ∃ W, w.alloc (.cells #[.slice vo vars.length vcap, .slice ro rows.length rcap, .bool nt, .int .i64 way] 58) = W := ⟨_, rfl⟩
  have hfW : Nw w W := by rw [← hW]; exact (Fr.refl _ w).alloc _
  have hbW : Blk W w.heap.size #[.slice vo vars.length vcap, .slice ro rows.length rcap, .bool nt, .int .i64 way] 58 := by rw [← hW]; exact Blk.new _ _ _
  have hvs' := hvs.nw hfW
  have hrs' := hrs.nw hfW
  have hs' := hs.nw hfW
  cases hway : okWay way with
  | false =>
    have hfin : okTable zs vars rows way = false := by simp [okTable, hway]
    rw [hfin]
    have h1 : (way != 1) = true := by simp only [okWay, Bool.or_eq_false_iff] at hway; simpa using hway.1
    have h2 : (way != 2) = true := by simp only [okWay, Bool.or_eq_false_iff] at hway; simpa using hway.2
    clear hfin hway hW
    go_enter Try.func51, Try.ntmps51
    go_wp2
    go_ret
    exact ⟨rfl, (Fr.refl _ w).alloc _⟩
  | true =>
    have hw12 : way = 1 ∨ way = 2 := by simpa [okWay] using hway
    cases hov : okVars zs.length vars with
    | false =>
      have hfin : okTable zs vars rows way = false := by simp [okTable, hov]
      rw [hfin]
      have Hov := hd hov
      clear hfin hov hway
      subst hW
      rcases hw12 with rfl | rfl
      all_goals
        go_enter Try.func51, Try.ntmps51
        go_wp2_with (go_at_call 61; refine (validVars_any vo vcap vars zs.length _ hl hvcap hvs').mono ?_; rw [Hov.out]; rintro e w' ⟨rfl, rfl⟩)
        go_ret
        exact ⟨rfl, hfW⟩
    | true =>
      obtain ⟨hv1, hv4, hvb⟩ := okVars_bounds hov
      have Hov := hd hov
      subst hW
      by_cases h60 : rows.length ≤ 60
      · have hrows : (List.range rows.length).all (okRowAt zs vars rows) = okTable zs vars rows way := by simp [okTable, hway, hov, h60]
        rw [← hrows]
        clear hrows hway hov
        rcases hw12 with rfl | rfl
        all_goals
          go_enter Try.func51, Try.ntmps51
          go_wp2_with (go_at_call 61; refine (validVars_any vo vcap vars zs.length _ hl hvcap hvs').mono ?_; rw [Hov.out]; rintro e w' ⟨rfl, rfl⟩)
          go_loop [30] (fun i => ∃ k : Nat, k ≤ rows.length ∧ i = .int .i64 k ∧ Hid ((List.range k).all (okRowAt zs vars rows) = true)) (fun i => rows.length - (intOf i).toNat)
          case atStart => exact ⟨0, Nat.zero_le _, rfl, rfl⟩
          case round =>
            obtain ⟨k, hk, rfl, HA⟩ := hrel
            by_cases hlt : k < rows.length
            · obtain ⟨b, o, rr, rcap2, rfl, _, hck, hrow⟩ := hrs' k hlt
              obtain ⟨R, hR⟩ : ∃ R, rows.getD k [] = R := ⟨_, rfl⟩
              rw [hR] at hck hrow
              have hat : okRowAt zs vars rows k = okRow zs vars R := by rw [← hR]; rfl
              have Hat := hd hat
              clear hat hR hrs hrs' hvs hs hbW
              cases hok : okRow zs vars R with
              | true =>
                have Hok := hd hok
                have HT : Hid ((List.range (k + 1)).all (okRowAt zs vars rows) = true) := by
                  show _ = _
                  rw [List.range_succ, List.all_append, HA.out]
                  simp [Hat.out, hok]
                clear hok
                go_wp2_with (go_at_call 62; refine (validRow_any rr vo so rcap2 vcap scap R vars zs _ hv4 hvb hrow hvs' hs').mono ?_; rw [Hok.out]; rintro e w' ⟨rfl, rfl⟩)
                exact ⟨⟨k + 1, by omega, by go_num, HT⟩, by simp [intOf]; omega⟩
              | false =>
                have Hok := hd hok
                have HK : Hid ((List.range rows.length).all (okRowAt zs vars rows) = false) := by
                  show _ = _
                  rw [List.all_eq_false]
                  exact ⟨k, List.mem_range.2 hlt, by simp [Hat.out, hok]⟩
                clear hok
                go_wp2_with (go_at_call 62; refine (validRow_any rr vo so rcap2 vcap scap R vars zs _ hv4 hvb hrow hvs' hs').mono ?_; rw [Hok.out]; rintro e w' ⟨rfl, rfl⟩)
                go_ret
                exact ⟨by rw [HK.out]; rfl, hfW⟩
            · obtain rfl : k = rows.length := by omega
              go_wp2
              go_ret
              exact ⟨by rw [HA.out]; rfl, hfW⟩
      · have hfin : okTable zs vars rows way = false := by simp [okTable, h60]
        rw [hfin]
        clear hfin hway hov
        rcases hw12 with rfl | rfl
        all_goals
          go_enter Try.func51, Try.ntmps51
          go_wp2_with (go_at_call 61; refine (validVars_any vo vcap vars zs.length _ hl hvcap hvs').mono ?_; rw [Hov.out]; rintro e w' ⟨rfl, rfl⟩)
          go_ret
          exact ⟨rfl, hfW⟩
end Go.Proofs.Ytkjfpdfkcfgfkaa

/- Contracts of the program's tables of Way 1: how one is made. -/
namespace Go.Proofs.Ytkjfpdfkcfgfkaa
open Go.RowKit

set_option maxHeartbeats 400000 in
set_option maxRecDepth 1000000 in
theorem newScope_any (b o cap : Nat) (zs : List Int) (w : World) (hz : zs.length * 8 ≤ 140737488355328) (h0 : 0 < zs.length) (h : IntsAt w (some ⟨b, o, none⟩) zs) :
    Calls Try.prog 75 #[.slice (some ⟨b, o, none⟩) zs.length cap] w fun e w' =>
      ∃ g cap', e = .returned (.agg #[.slice (some ⟨g, 0, none⟩) zs.length cap']) ∧ Nw w w' ∧ Row w' (.slice (some ⟨g, 0, none⟩) zs.length cap') 3 (zs.map (Value.int .i64)) ∧ w.heap.size ≤ g := by
  have hf0 : Nw w (w.alloc (.cells #[.slice none 0 0] 129)) := (Fr.refl _ w).alloc _
  have hb0 : Blk (w.alloc (.cells #[.slice none 0 0] 129)) w.heap.size #[.slice none 0 0] 129 := Blk.new _ _ _
  go_enter Try.func75, Try.ntmps75
  go_wp2_with (go_at_call 49; refine (clone_any b o cap zs _ hz h0 (h.nw hf0)).mono ?_; rintro e w1 ⟨g, cap', rfl, hf1, hr1, hg1⟩; have hb1 := hd (hb0.nw hf1); have hc1 : w1.cell? ⟨w.heap.size, 0, none⟩ = some (.slice none 0 0) := hb1.out.cell 0; have hfz := hb1.out.free 0)
  have hb2 := hb1.out.set 0 (.slice (some ⟨g, 0, none⟩) zs.length cap')
  have hc2 : (w1.setCell ⟨w.heap.size, 0, none⟩ (.slice (some ⟨g, 0, none⟩) zs.length cap')).cell? ⟨w.heap.size, 0, none⟩ = some (.slice (some ⟨g, 0, none⟩) zs.length cap') := by rw [hb2.cell 0]; simp
  refine bodyPost_ret (v := .agg #[.slice (some ⟨g, 0, none⟩) zs.length cap']) (by simp [results, Try.results75, go_sem, hc2]) rfl ⟨g, cap', rfl, (hf0.trans hf1 (fun i h => h.elim)).setCell _ _ (.inr (Nat.le_refl _)), ?_, ?_⟩
  · exact hr1.fr ((Fr.refl (fun k => k = w.heap.size) w1).setCell ⟨w.heap.size, 0, none⟩ _ (.inl rfl)) (fun k hk e => by cases hk; simp at hg1; have e' : g = w.heap.size := e; omega)
  · simp at hg1; omega

/-- The cells of a table of Way 1: its variables, whether it is Not, for each entry and value the rows that bear it, the live rows. -/
def rsCells (vv : Value) (nt : Bool) (br : List Nat) (live : Nat) : Array Value := (vv :: .bool nt :: (br.map (fun (x : Nat) => Value.int .u64 (x : Int)) ++ [.int .u64 (live : Int)])).toArray
theorem rsCells_br (vv : Value) (nt : Bool) (br : List Nat) (live j : Nat) (hj : j < br.length) : (rsCells vv nt br live)[2 + j]? = some (.int .u64 (br.getD j 0 : Nat)) := by
  rw [Nat.add_comm]
  simp [rsCells, List.getElem?_append_left, hj]
theorem rsCells_set (vv : Value) (nt : Bool) (br : List Nat) (live j x : Nat) (hj : j < br.length) : (rsCells vv nt br live).setIfInBounds (2 + j) (.int .u64 (x : Int)) = rsCells vv nt (br.set j x) live := by
  rw [Nat.add_comm]
  simp [rsCells, hj, List.map_set]
theorem rsCells_live (vv : Value) (nt : Bool) (br : List Nat) (live : Nat) (h : br.length = 24) : (rsCells vv nt br live)[26]? = some (.int .u64 (live : Int)) := by
  simp [rsCells, h]
theorem rsCells_setLive (vv : Value) (nt : Bool) (br : List Nat) (live x : Nat) (h : br.length = 24) : (rsCells vv nt br live).setIfInBounds 26 (.int .u64 (x : Int)) = rsCells vv nt br x := by
  simp [rsCells, h]

/-- Does an entry stand for a value? -/
def bearsB (a : Int) (v : Nat) : Bool := a == -1 || a == (v : Int)
/-- The bearers when the first m cells have been gone through with a row's bit. -/
def addTo (br : List Nat) (row : List Int) (bit m : Nat) : List Nat := br.mapIdx (fun j x => if decide (j < m) && bearsB (row.getD (j / 6) 0) (j % 6) then x ||| bit else x)
theorem addTo_length (br : List Nat) (row : List Int) (bit m : Nat) : (addTo br row bit m).length = br.length := by simp [addTo]
theorem addTo_zero (br : List Nat) (row : List Int) (bit : Nat) : addTo br row bit 0 = br := by
  apply List.ext_getElem
  · simp [addTo]
  · intro i h1 h2; simp [addTo]
theorem addTo_get (br : List Nat) (row : List Int) (bit m j : Nat) (hj : j < br.length) : (addTo br row bit m).getD j 0 = if decide (j < m) && bearsB (row.getD (j / 6) 0) (j % 6) then br.getD j 0 ||| bit else br.getD j 0 := by
  simp [addTo, hj]
theorem addTo_yes (br : List Nat) (row : List Int) (bit i v : Nat) (hv : v < 6) (hj : 6 * i + v < br.length) (hb : bearsB (row.getD i 0) v = true) :
    (addTo br row bit (6 * i + v)).set (6 * i + v) (br.getD (6 * i + v) 0 ||| bit) = addTo br row bit (6 * i + v + 1) := by
  apply List.ext_getElem
  · simp [addTo]
  · intro k h1 h2
    simp only [addTo, List.length_mapIdx, List.length_set] at h1 h2
    rw [List.getElem_set]
    simp only [addTo, List.getElem_mapIdx]
    by_cases hk : 6 * i + v = k
    · subst hk
      have e1 : (6 * i + v) / 6 = i := by omega
      have e2 : (6 * i + v) % 6 = v := by omega
      simp only [e1, e2, hb]
      simp [hj]
    · rw [if_neg hk]
      have : (k < 6 * i + v + 1) ↔ (k < 6 * i + v) := by omega
      simp [this]
theorem addTo_no (br : List Nat) (row : List Int) (bit i v : Nat) (hv : v < 6) (hb : bearsB (row.getD i 0) v = false) : addTo br row bit (6 * i + v) = addTo br row bit (6 * i + v + 1) := by
  apply List.ext_getElem
  · simp [addTo]
  · intro k h1 h2
    simp only [addTo, List.getElem_mapIdx]
    by_cases hk : 6 * i + v = k
    · subst hk
      have e1 : (6 * i + v) / 6 = i := by omega
      have e2 : (6 * i + v) % 6 = v := by omega
      simp only [e1, e2, hb]
      simp
    · have : (k < 6 * i + v + 1) ↔ (k < 6 * i + v) := by omega
      simp [this]

theorem bearsB_eq (a : Int) (v : Nat) : (a == -1 || a == (v : Int)) = bearsB a v := rfl

set_option maxHeartbeats 1600000 in
set_option maxRecDepth 1000000 in
theorem add_any (G : Nat) (vv : Value) (nt : Bool) (br : List Nat) (live : Nat) (ro : Option Addr) (rcap : Nat) (row : List Int) (bit : Nat) (w : World) (hG : Blk w G (rsCells vv nt br live) 142) (h24 : br.length = 24)
    (hbr : ∀ j, br.getD j 0 < 18446744073709551616) (hbit : bit < 18446744073709551616) (hrl : row.length ≤ 4) (hr : IntsAt w ro row) (hrn : ∀ b o, ro = some ⟨b, o, none⟩ → 0 < row.length → b ≠ G) :
    Calls Try.prog 76 #[.pointer (some ⟨G, 0, none⟩), .slice ro row.length rcap, .int .u64 bit] w fun e w' =>
      e = .returned (.tuple #[]) ∧ Fr (fun k => k = G) w w' ∧ Blk w' G (rsCells vv nt (addTo br row bit (6 * row.length)) live) 142 := by
  go_enter Try.func76, Try.ntmps76
  go_wp2
  go_loopw [11] (fun i wr => ∃ k : Nat, k ≤ row.length ∧ i = .int .i64 k ∧ Fr (fun k => k = G) w wr ∧ Hid (Blk wr G (rsCells vv nt (addTo br row bit (6 * k)) live) 142)) (fun i _ => row.length - (intOf i).toNat)
  case atStart => exact ⟨0, Nat.zero_le _, rfl, Fr.refl _ _, by rw [Nat.mul_zero, addTo_zero]; exact hG⟩
  case round =>
    obtain ⟨k, hk, rfl, hf, hb⟩ := hrel
    by_cases hlt : k < row.length
    · obtain ⟨b, o, rfl, hbl, hc⟩ := hr k hlt
      have hck : wr.cell? ⟨b, o + k, none⟩ = some (.int .i64 (row.getD k 0)) := (hf.cell hbl (hrn b o rfl (by omega))).trans hc
      clear hc
      obtain ⟨y, hy⟩ : ∃ y, row.getD k 0 = y := ⟨_, rfl⟩
      rw [hy] at hck
      have Hy := hd hy
      clear hy
      go_wp2
      go_loopw [16] (fun i wi => ∃ m : Nat, m ≤ 6 ∧ i = .int .i64 m ∧ Fr (fun k => k = G) w wi ∧ Hid (Blk wi G (rsCells vv nt (addTo br row bit (6 * k + m)) live) 142)) (fun i _ => 6 - (intOf i).toNat)
      case atStart => exact ⟨0, Nat.zero_le _, rfl, hf, hb⟩
      case round =>
        obtain ⟨m, hm, rfl, hfi, hbi⟩ := hrel
        by_cases hm6 : m < 6
        · have hj : 6 * k + m < (addTo br row bit (6 * k + m)).length := by rw [addTo_length]; omega
          have hj2 : 6 * k + m < br.length := by omega
          cases hbb : bearsB y m with
          | true =>
            have Hbb := hd hbb
            have hcb : wr.cell? ⟨G, 2 + (6 * k + m), none⟩ = some (.int .u64 (br.getD (6 * k + m) 0 : Nat)) := by
              rw [hbi.out.cell, rsCells_br _ _ _ _ _ hj, addTo_get _ _ _ _ _ hj2]
              simp
            have hfz := hbi.out.free (2 + (6 * k + m))
            rw [show 2 + (6 * k + m) = 2 + k * 6 + m from by omega] at hcb hfz
            have hx := hbr (6 * k + m)
            obtain ⟨x, hxe⟩ : ∃ x, br.getD (6 * k + m) 0 = x := ⟨_, rfl⟩
            rw [hxe] at hcb hx
            have Hxe := hd hxe
            have hi0 : (0 : Int) ≤ (k : Int) := by omega
            have hi4 : (k : Int) < 4 := by omega
            have hj0 : (0 : Int) ≤ (m : Int) := by omega
            have hj6 : (m : Int) < 6 := by omega
            clear hbb hxe hj hj2
            go_wp2_with (go_at_call 85; refine (bears_any y m _).mono ?_; rw [bearsB_eq, Hbb.out]; rintro e w' ⟨rfl, rfl⟩)
            go_region
            have h5 := hbi.out.set (2 + (6 * k + m)) (.int .u64 ((x ||| bit : Nat) : Int))
            rw [rsCells_set _ _ _ _ _ _ (by rw [addTo_length]; omega), ← Hxe.out, addTo_yes br row bit k m hm6 (by omega) (by rw [Hy.out]; exact Hbb.out), Hxe.out] at h5
            have H5 := hd h5
            clear h5
            go_wp2
            refine ⟨⟨m + 1, by omega, by go_num, (hfi.setCell _ _ (.inl rfl)).drew, ?_⟩, by simp [intOf]; omega⟩
            show Blk _ _ _ _
            rw [u64_or_nat x bit hx hbit, show 2 + k * 6 + m = 2 + (6 * k + m) from by omega]
            exact H5.out.drew
          | false =>
            have Hbb := hd hbb
            clear hbb
            go_wp2_with (go_at_call 85; refine (bears_any y m _).mono ?_; rw [bearsB_eq, Hbb.out]; rintro e w' ⟨rfl, rfl⟩)
            exact ⟨⟨m + 1, by omega, by go_num, hfi, by show Blk _ _ _ _; rw [← Nat.add_assoc, ← addTo_no br row bit k m hm6 (by rw [Hy.out]; exact Hbb.out)]; exact hbi.out⟩, by simp [intOf]; omega⟩
        · obtain rfl : m = 6 := by omega
          go_wp2
          exact ⟨⟨k + 1, by omega, by go_num, hfi, by show Blk _ _ _ _; rw [show 6 * (k + 1) = 6 * k + 6 from by omega]; exact hbi.out⟩, by simp [intOf]; omega⟩
    · obtain rfl : k = row.length := by omega
      go_wp2
      go_end0
      exact ⟨rfl, hf, hb.out⟩
end Go.Proofs.Ytkjfpdfkcfgfkaa

/- Contracts of the program's tables of Way 1: newRowSets, Make. -/
namespace Go.Proofs.Ytkjfpdfkcfgfkaa
open Go.RowKit

theorem Fr.of_drew {S : Nat → Prop} {a b : World} (h : Fr S a.drew b) : Fr S a b := ⟨h.os, h.tape, h.output, h.size, h.block⟩

/-- The bearers when the first k rows have been laid in. -/
def brTo (rows : List (List Int)) : Nat → List Nat
  | 0 => List.replicate 24 0
  | k + 1 => addTo (brTo rows k) (rows.getD k []) (2 ^ k) (6 * (rows.getD k []).length)
theorem brTo_length (rows : List (List Int)) : ∀ k, (brTo rows k).length = 24
  | 0 => by simp [brTo]
  | k + 1 => by simp [brTo, addTo_length, brTo_length rows k]
theorem brTo_lt (rows : List (List Int)) : ∀ k j, (brTo rows k).getD j 0 < 2 ^ k
  | 0, j => by
    simp only [brTo, List.getD, List.getElem?_replicate]
    split <;> simp
  | k + 1, j => by
    have ih := brTo_lt rows k j
    have h2 : 2 ^ (k + 1) = 2 ^ k + 2 ^ k := by omega
    by_cases hj : j < (brTo rows k).length
    · simp only [brTo]
      rw [addTo_get _ _ _ _ _ hj]
      split
      · exact Nat.or_lt_two_pow (by omega) (by have := Nat.two_pow_pos k; omega)
      · omega
    · have hn : (brTo rows (k + 1)).length ≤ j := by rw [brTo_length] at hj ⊢; omega
      simp only [List.getD, List.getElem?_eq_none hn]
      exact Nat.two_pow_pos _
theorem live_or (k : Nat) : (2 ^ k - 1) ||| 2 ^ k = 2 ^ (k + 1) - 1 := by
  have h := Nat.two_pow_add_eq_or_of_lt (i := k) (b := 2 ^ k - 1) (by have := Nat.two_pow_pos k; omega) 1
  rw [Nat.mul_one] at h
  rw [Nat.or_comm, ← h]
  have := Nat.two_pow_pos k
  omega

theorem wrap_pow (k : Nat) (hk : k < 64) : IntKind.u64.wrap ((2 : Int) ^ k) = ((2 ^ k : Nat) : Int) := by
  have e : ((2 : Int) ^ k) = ((2 ^ k : Nat) : Int) := by simp
  have hp : 2 ^ k < 18446744073709551616 := Nat.lt_of_lt_of_le (Nat.pow_lt_pow_right (by omega) hk) (by decide)
  rw [e, IntKind.wrap_u64]
  generalize 2 ^ k = p at *
  omega

set_option maxHeartbeats 1600000 in
set_option maxRecDepth 1000000 in
theorem newRs_any (b o : Nat) (ro : Option Addr) (vcap rcap : Nat) (vars : List Int) (rows : List (List Int)) (nt : Bool) (way : Int) (w : World)
    (hv0 : 0 < vars.length) (hv4 : vars.length ≤ 4) (hrl : rows.length ≤ 60) (hrow : ∀ i, i < rows.length → (rows.getD i []).length ≤ 4) (hvs : IntsAt w (some ⟨b, o, none⟩) vars) (hrs : RowsAt w ro rows) :
    Calls Try.prog 64 #[.agg #[.slice (some ⟨b, o, none⟩) vars.length vcap, .slice ro rows.length rcap, .bool nt, .int .i64 way]] w fun e w' =>
      ∃ G g cap', e = .returned (.pointer (some ⟨G, 0, none⟩)) ∧ Nw w w' ∧ Blk w' G (rsCells (.slice (some ⟨g, 0, none⟩) vars.length cap') nt (brTo rows rows.length) (2 ^ rows.length - 1)) 142 ∧
        Row w' (.slice (some ⟨g, 0, none⟩) vars.length cap') 3 (vars.map (Value.int .i64)) ∧ w.heap.size ≤ G ∧ w.heap.size ≤ g := by
  obtain ⟨T, hT⟩ : ∃ T, T = w.heap.size := ⟨_, rfl⟩
  obtain ⟨W, hW⟩ : ∃ W, W = w.alloc (.cells #[.slice (some ⟨b, o, none⟩) vars.length vcap, .slice ro rows.length rcap, .bool nt, .int .i64 way] 58) := ⟨_, rfl⟩
  have hfW : Nw w W := by rw [hW]; exact (Fr.refl _ w).alloc _
  have hbW : Blk W T #[.slice (some ⟨b, o, none⟩) vars.length vcap, .slice ro rows.length rcap, .bool nt, .int .i64 way] 58 := by rw [hW, hT]; exact Blk.new _ _ _
  have hvW := hvs.nw hfW
  have hrW := hrs.nw hfW
  have hc0 : W.cell? ⟨T, 0, none⟩ = some (.slice (some ⟨b, o, none⟩) vars.length vcap) := hbW.cell 0
  have hc1 : W.cell? ⟨T, 1, none⟩ = some (.slice ro rows.length rcap) := hbW.cell 1
  have hc2 : W.cell? ⟨T, 2, none⟩ = some (.bool nt) := hbW.cell 2
  go_enter Try.func64, Try.ntmps64
  go_upto_region 1 with fail
  rw [← hW, ← hT]
  clear hW hT hvs hrs
  go_cut [3] (fun p wx => ∃ G g cap', p = .pointer (some ⟨G, 0, none⟩) ∧ Nw W wx ∧ Hid (Blk wx G (rsCells (.slice (some ⟨g, 0, none⟩) vars.length cap') nt (brTo rows 0) (2 ^ 0 - 1)) 142) ∧
        Row wx (.slice (some ⟨g, 0, none⟩) vars.length cap') 3 (vars.map (Value.int .i64)) ∧ W.heap.size ≤ G ∧ W.heap.size ≤ g)
  case first =>
    go_region_held3 (fun w' => w'.cell? ⟨T, 0, none⟩ = some (.slice (some ⟨b, o, none⟩) vars.length vcap) ∧ w'.cell? ⟨T, 2, none⟩ = some (.bool nt))
      (first | (go_keep; done) | (exact ⟨hkc0, hkc2⟩))
      (first | (go_at_call 75; refine (newScope_any b o vcap vars _ (by omega) hv0 (by exact hvW)).mono ?_; rintro e w1 ⟨g, cap', rfl, hf1, hr1, hg1⟩; have hkc0 : w1.cell? ⟨T, 0, none⟩ = some (.slice (some ⟨b, o, none⟩) vars.length vcap) := (hbW.drew.nw hf1).cell 0; have hkc2 : w1.cell? ⟨T, 2, none⟩ = some (.bool nt) := (hbW.drew.nw hf1).cell 2))
    have hf2 : Nw W w1 := hf1.of_drew
    have hsz : W.heap.size ≤ w1.heap.size := hf2.size
    go_wp2
    go_meet
    case rel =>
      refine ⟨w1.heap.size, g, cap', rfl, hf2.alloc _, ?_, hr1.alloc _, hsz, hg1⟩
      exact Blk.new _ _ _
  case rest =>
    obtain ⟨G, g, cap', rfl, hfx, hbx, hrx, hGx, hgx⟩ := hcut
    have hbT : Blk wc T #[.slice (some ⟨b, o, none⟩) vars.length vcap, .slice ro rows.length rcap, .bool nt, .int .i64 way] 58 := hbW.nw hfx
    have hc1' : wc.cell? ⟨T, 1, none⟩ = some (.slice ro rows.length rcap) := hbT.cell 1
    have hrc := hrW.nw hfx
    clear hc0 hc1 hc2 hbT
    have hGlt : g < wc.heap.size := hrx.lt rfl
    have hgG : g ≠ G := fun e => by subst e; exact hrx.ne hbx.out (by decide) rfl
    have hfwc : Nw w wc := hfW.trans hfx (fun i h => h.elim)
    have hsW := hfW.size
    go_wp2
    go_loopw [16] (fun i wr => ∃ k : Nat, k ≤ rows.length ∧ i = .int .i64 k ∧ Fr (fun k => k = G) wc wr ∧ Hid (Blk wr G (rsCells (.slice (some ⟨g, 0, none⟩) vars.length cap') nt (brTo rows k) (2 ^ k - 1)) 142)) (fun i _ => rows.length - (intOf i).toNat)
    case atStart => exact ⟨0, Nat.zero_le _, rfl, Fr.refl _ _, hbx⟩
    case round =>
      obtain ⟨k, hk, rfl, hf, hb⟩ := hrel
      by_cases hlt : k < rows.length
      · obtain ⟨b1, o1, rr, rcap1, rfl, hb1, hck, hrr⟩ := hrW k hlt
        have hfWr : Fr (fun j => j = G) W wr := (hfx.mono (fun i h => h.elim)).trans hf (fun i h => .inl h)
        have hck' : wr.cell? ⟨b1, o1 + k, none⟩ = some (.slice rr (rows.getD k []).length rcap1) := (hfWr.cell hb1 (by omega)).trans hck
        have hR4 := hrow k hlt
        have hbs : brTo rows (k + 1) = addTo (brTo rows k) (rows.getD k []) (2 ^ k) (6 * (rows.getD k []).length) := rfl
        have hrlt : ∀ b o, rr = some ⟨b, o, none⟩ → 0 < (rows.getD k []).length → b < W.heap.size := fun b o e h0 => by
          obtain ⟨b', o', e', hb', _⟩ := hrr 0 h0
          rw [e] at e'
          cases e'
          exact hb'
        obtain ⟨R, hR⟩ : ∃ R, rows.getD k [] = R := ⟨_, rfl⟩
        rw [hR] at hrr hck' hR4 hbs hrlt
        have hrr' : IntsAt wr rr R := fun i hi => by
          obtain ⟨b', o', e', hb', hcc⟩ := hrr i hi
          exact ⟨b', o', e', Nat.lt_of_lt_of_le hb' hfWr.size, (hfWr.cell hb' (by omega)).trans hcc⟩
        have Hbs := hd hbs
        have Hrr := hd hrr'
        have h24 := brTo_length rows k
        have hblt := brTo_lt rows k
        have hp60 : 2 ^ k < 18446744073709551616 := Nat.lt_of_lt_of_le (Nat.pow_lt_pow_right (by omega) (show k < 60 by omega)) (by decide)
        have hcl : wr.cell? ⟨G, 26, none⟩ = some (.int .u64 ((2 ^ k - 1 : Nat) : Int)) := (hb.out.cell 26).trans (rsCells_live _ _ _ _ h24)
        have hfz := hb.out.free 26
        have hwk := wrap_pow k (by omega)
        have hor := live_or k
        obtain ⟨pk, hpk⟩ : ∃ pk, 2 ^ k = pk := ⟨_, rfl⟩
        rw [hpk] at hcl hwk hp60 hor hblt Hbs hb
        obtain ⟨lv, hlv⟩ : ∃ lv, pk - 1 = lv := ⟨_, rfl⟩
        have hlv64 : lv < 18446744073709551616 := by omega
        rw [hlv] at hcl hor hb
        have Hor := hd hor
        have hblt' : ∀ j, (brTo rows k).getD j 0 < 18446744073709551616 := fun j => Nat.lt_trans (hblt j) hp60
        have Hblt := hd hblt'
        have H24 := hd h24
        clear hck hrr hrr' hR hbs hrW hrc hpk hlv hor hblt hblt' h24
        go_wp2_with fail
        go_region
        have hb2 := hb.out.set 26 (.int .u64 ((lv ||| pk : Nat) : Int))
        rw [rsCells_setLive _ _ _ _ _ H24.out, ← u64_or_nat lv pk hlv64 hp60] at hb2
        have Hb2 := hd hb2.drew
        clear hb2
        have hf2 : Fr (fun j => j = G) wr (wr.setCell ⟨G, 26, none⟩ (.int .u64 (bits .or .u64 (lv : Int) (pk : Int)))).drew := ((Fr.refl (fun j => j = G) wr).setCell _ _ (.inl rfl)).drew
        have hrr2 : IntsAt (wr.setCell ⟨G, 26, none⟩ (.int .u64 (bits .or .u64 (lv : Int) (pk : Int)))).drew rr R := fun i hi => by
          obtain ⟨b', o', e', hb', hcc⟩ := Hrr.out i hi
          exact ⟨b', o', e', Nat.lt_of_lt_of_le hb' hf2.size, (hf2.cell hb' (by have := hrlt b' o' e' (by omega); omega)).trans hcc⟩
        have Hrr2 := hd hrr2
        clear hrr2
        go_wp2_with (go_at_call 76; refine (add_any G (.slice (some ⟨g, 0, none⟩) vars.length cap') nt (brTo rows k) (lv ||| pk) rr rcap1 R pk _ Hb2.out H24.out Hblt.out hp60 hR4 Hrr2.out (fun b o e h0 => by have := hrlt b o e h0; omega)).mono ?_; rintro e w' ⟨rfl, hf3, hb3⟩)
        refine ⟨⟨k + 1, by omega, by go_num, (hf.trans hf2 (fun i h => .inl h)).trans hf3 (fun i h => .inl h), ?_⟩, by simp [intOf]; omega⟩
        rw [Hbs.out, ← Hor.out]
        exact hb3
      · obtain rfl : k = rows.length := by omega
        go_wp2
        go_ret
        refine ⟨G, g, cap', rfl, hfwc.trans hf (fun i h => .inr (by omega)), hb.out, hrx.fr hf (fun j hj e => hgG (by cases hj; exact e)), by omega, by omega⟩
set_option maxHeartbeats 800000 in
set_option maxRecDepth 1000000 in
/-- Make of a table of Way 1. -/
theorem make1_any (b o : Nat) (ro : Option Addr) (vcap rcap : Nat) (vars : List Int) (rows : List (List Int)) (nt : Bool) (dv : Array Value) (w : World)
    (hv0 : 0 < vars.length) (hv4 : vars.length ≤ 4) (hrl : rows.length ≤ 60) (hrow : ∀ i, i < rows.length → (rows.getD i []).length ≤ 4) (hvs : IntsAt w (some ⟨b, o, none⟩) vars) (hrs : RowsAt w ro rows) :
    Calls Try.prog 52 #[.agg #[.slice (some ⟨b, o, none⟩) vars.length vcap, .slice ro rows.length rcap, .bool nt, .int .i64 1], .agg dv] w fun e w' =>
      ∃ G g cap', e = .returned (.iface 115 (.pointer (some ⟨G, 0, none⟩))) ∧ Nw w w' ∧ Blk w' G (rsCells (.slice (some ⟨g, 0, none⟩) vars.length cap') nt (brTo rows rows.length) (2 ^ rows.length - 1)) 142 ∧
        Row w' (.slice (some ⟨g, 0, none⟩) vars.length cap') 3 (vars.map (Value.int .i64)) ∧ w.heap.size ≤ G ∧ w.heap.size ≤ g := by
  have hf0 : Nw w ((w.alloc (.cells #[.slice (some ⟨b, o, none⟩) vars.length vcap, .slice ro rows.length rcap, .bool nt, .int .i64 1] 58)).alloc (.cells dv 76)) := ((Fr.refl _ w).alloc _).alloc _
  go_enter Try.func52, Try.ntmps52
  go_wp2_with (go_at_call 64; refine (newRs_any b o ro vcap rcap vars rows nt 1 _ hv0 hv4 hrl hrow (hvs.nw hf0) (hrs.nw hf0)).mono ?_; rintro e w1 ⟨G, g, cap', rfl, hf1, hb1, hr1, hG1, hg1⟩)
  go_ret
  simp at hG1 hg1
  exact ⟨G, g, cap', rfl, hf0.trans hf1 (fun i h => h.elim), hb1, hr1, by omega, by omega⟩
end Go.Proofs.Ytkjfpdfkcfgfkaa
