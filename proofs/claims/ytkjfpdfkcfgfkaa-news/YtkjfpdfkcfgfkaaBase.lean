/- Blocks of cells, frames, slices of numbers: the vocabulary of this seat's contracts. It speaks of no program. -/
import Derived.WalkKit
import Derived.WalkSpells
import Derived.WalkLawsBesides
import Derived.Maps.AppendAt
namespace Go.Proofs.Ytkjfpdfkcfgfkaa
open Go.RowKit

theorem hd {p : Prop} (h : p) : Hid p := h

/-- Block g is the row of cells cur of element type e, nothing of it frozen. -/
def Blk (w : World) (g : Nat) (cur : Array Value) (e : TypeId) : Prop := w.heap[g]? = some (.cells cur e (0, 0))

/-- w' is w with new blocks, and with writes to blocks of S alone. -/
structure Fr (S : Nat → Prop) (w w' : World) : Prop where
  os : w'.os = w.os
  tape : w'.tape = w.tape
  output : w'.output = w.output
  size : w.heap.size ≤ w'.heap.size
  block : ∀ k, k < w.heap.size → ¬ S k → w'.heap[k]? = w.heap[k]?

/-- Nothing old is written. -/
abbrev Nw (w w' : World) : Prop := Fr (fun _ => False) w w'

theorem Fr.refl (S : Nat → Prop) (w : World) : Fr S w w := ⟨rfl, rfl, rfl, Nat.le_refl _, fun _ _ _ => rfl⟩
theorem Fr.trans {S S' : Nat → Prop} {a b c : World} (h : Fr S a b) (k : Fr S' b c) (hs : ∀ i, S' i → S i ∨ a.heap.size ≤ i) : Fr S a c :=
  ⟨k.os.trans h.os, k.tape.trans h.tape, k.output.trans h.output, Nat.le_trans h.size k.size, fun i hi hn =>
    (k.block i (Nat.lt_of_lt_of_le hi h.size) (fun hk => (hs i hk).elim hn (fun h' => by omega))).trans (h.block i hi hn)⟩
theorem Fr.mono {S S' : Nat → Prop} {a b : World} (h : Fr S a b) (hs : ∀ i, S i → S' i ∨ a.heap.size ≤ i) : Fr S' a b :=
  (Fr.refl S' a).trans h hs
theorem Fr.drew {S : Nat → Prop} {a b : World} (h : Fr S a b) : Fr S a b.drew := ⟨h.os, h.tape, h.output, h.size, h.block⟩
theorem Fr.drewN {S : Nat → Prop} {a b : World} (h : Fr S a b) (n : Nat) : Fr S a (b.drewN n) := ⟨h.os, h.tape, h.output, h.size, h.block⟩
theorem Fr.alloc {S : Nat → Prop} {a b : World} (h : Fr S a b) (o : Obj) : Fr S a (b.alloc o) :=
  ⟨h.os, h.tape, h.output, by have := h.size; simp; omega, fun k hk hn => (Below.heap_alloc b o k (Nat.lt_of_lt_of_le hk h.size)).trans (h.block k hk hn)⟩
theorem Fr.setCell {S : Nat → Prop} {a b : World} (h : Fr S a b) (p : Addr) (u : Value) (hp : S p.block ∨ a.heap.size ≤ p.block) : Fr S a (b.setCell p u) :=
  ⟨h.os, h.tape, h.output, by have := h.size; simp [World.setCell]; omega, fun k hk hn => by
    rw [Below.heap_setCell _ _ _ _ (fun e => by subst e; exact hp.elim hn (fun h' => by omega))]; exact h.block k hk hn⟩
theorem Fr.grown {S : Nat → Prop} {a b c : World} {row : Option Nat} (h : Fr S a b) (hg : b.grownBy c row) (hr : ∀ k, row = some k → S k ∨ a.heap.size ≤ k) : Fr S a c :=
  ⟨hg.os.trans h.os, hg.tape.trans h.tape, hg.output.trans h.output, Nat.le_trans h.size hg.size, fun k hk hn =>
    (hg.block k (Nat.lt_of_lt_of_le hk h.size) (fun e => (hr k e.symm).elim hn (fun h' => by omega))).trans (h.block k hk hn)⟩
theorem Fr.below {w w' : World} (h : Nw w w') : Below w.heap.size w w' := ⟨h.os, h.tape, h.output, h.size, fun k hk => h.block k hk (fun f => f)⟩
theorem Fr.of_below {w w' : World} (h : Below w.heap.size w w') : Nw w w' := ⟨h.os, h.tape, h.output, h.size, fun k hk _ => h.block k hk⟩
theorem Fr.cell {S : Nat → Prop} {w w' : World} (h : Fr S w w') {b o : Nat} (hb : b < w.heap.size) (hn : ¬ S b) : w'.cell? ⟨b, o, none⟩ = w.cell? ⟨b, o, none⟩ :=
  World.cell?_of_block (h.block b hb hn)

theorem Blk.lt {w : World} {g : Nat} {cur : Array Value} {e : TypeId} (h : Blk w g cur e) : g < w.heap.size := lt_of_block h
theorem Blk.cell {w : World} {g : Nat} {cur : Array Value} {e : TypeId} (h : Blk w g cur e) (i : Nat) : w.cell? ⟨g, i, none⟩ = cur[i]? := cell_of_row w g i cur e _ h
theorem Blk.free {w : World} {g : Nat} {cur : Array Value} {e : TypeId} (h : Blk w g cur e) (i : Nat) : w.frozen? ⟨g, i, none⟩ = false := by
  have h' : w.heap[g]? = some (.cells cur e (0, 0)) := h
  simp [World.frozen?, h']
theorem Blk.fr {S : Nat → Prop} {w w' : World} {g : Nat} {cur : Array Value} {e : TypeId} (h : Blk w g cur e) (f : Fr S w w') (hn : ¬ S g) : Blk w' g cur e :=
  (f.block g h.lt hn).trans h
theorem Blk.nw {w w' : World} {g : Nat} {cur : Array Value} {e : TypeId} (h : Blk w g cur e) (f : Nw w w') : Blk w' g cur e := h.fr f (fun x => x)
theorem Blk.new (w : World) (cur : Array Value) (e : TypeId) : Blk (w.alloc (.cells cur e)) w.heap.size cur e := heap_alloc_new w _
theorem Blk.alloc {w : World} {g : Nat} {cur : Array Value} {e : TypeId} (h : Blk w g cur e) (o : Obj) : Blk (w.alloc o) g cur e := (Below.heap_alloc w o g h.lt).trans h
theorem Blk.drew {w : World} {g : Nat} {cur : Array Value} {e : TypeId} (h : Blk w g cur e) : Blk w.drew g cur e := h
theorem Blk.drewN {w : World} {g : Nat} {cur : Array Value} {e : TypeId} (h : Blk w g cur e) (n : Nat) : Blk (w.drewN n) g cur e := h
theorem Blk.other {w : World} {g : Nat} {cur : Array Value} {e : TypeId} (h : Blk w g cur e) (p : Addr) (u : Value) (hp : g ≠ p.block) : Blk (w.setCell p u) g cur e :=
  (Below.heap_setCell w p u g hp).trans h
theorem Blk.set {w : World} {g : Nat} {cur : Array Value} {e : TypeId} (h : Blk w g cur e) (i : Nat) (u : Value) : Blk (w.setCell ⟨g, i, none⟩ u) g (cur.setIfInBounds i u) e := by
  have hlt := h.lt
  have h' : w.heap[g] = .cells cur e (0, 0) := by
    have : w.heap[g]? = some (.cells cur e (0, 0)) := h
    simpa [Array.getElem?_eq_getElem hlt] using this
  show (w.heap.modify g _)[g]? = _
  rw [Array.getElem?_eq_getElem (by simpa using hlt), Array.getElem_modify_self, h']
  rfl
theorem Blk.inj {w : World} {g : Nat} {cur cur' : Array Value} {e e' : TypeId} (h : Blk w g cur e) (h' : Blk w g cur' e') : cur = cur' ∧ e = e' := by
  have h1 : w.heap[g]? = some (.cells cur e (0, 0)) := h
  have h2 : w.heap[g]? = some (.cells cur' e' (0, 0)) := h'
  rw [h1] at h2
  simpa using h2

/-- The numbers of a slice, wherever it lies (an empty one may lie nowhere). -/
def IntsAt (w : World) (ao : Option Addr) (zs : List Int) : Prop := ∀ i, i < zs.length → ∃ b o, ao = some ⟨b, o, none⟩ ∧ b < w.heap.size ∧ w.cell? ⟨b, o + i, none⟩ = some (.int .i64 (zs.getD i 0))
theorem IntsAt.fr {S : Nat → Prop} {w w' : World} {ao : Option Addr} {zs : List Int} (h : IntsAt w ao zs) (f : Fr S w w') (hn : ∀ b o, ao = some ⟨b, o, none⟩ → ¬ S b) : IntsAt w' ao zs := by
  intro i hi
  obtain ⟨b, o, rfl, hb, hc⟩ := h i hi
  exact ⟨b, o, rfl, Nat.lt_of_lt_of_le hb f.size, (f.cell hb (hn b o rfl)).trans hc⟩
theorem IntsAt.nw {w w' : World} {ao : Option Addr} {zs : List Int} (h : IntsAt w ao zs) (f : Nw w w') : IntsAt w' ao zs := h.fr f (fun _ _ _ x => x)
theorem IntsAt.of_blk {w : World} {g : Nat} {cur : Array Value} {e : TypeId} (h : Blk w g cur e) (o : Nat) (zs : List Int)
    (hc : ∀ i, i < zs.length → cur[o + i]? = some (.int .i64 (zs.getD i 0))) : IntsAt w (some ⟨g, o, none⟩) zs :=
  fun i hi => ⟨g, o, rfl, h.lt, (h.cell _).trans (hc i hi)⟩

/-- The slice v has the elements xs (a cell each), at the head of a block of its own, or is nil. -/
def Row (w : World) (v : Value) (e : TypeId) (xs : List Value) : Prop := w.ownsRow 0 e 1 v xs.length xs
theorem Row.nil (w : World) (e : TypeId) : Row w (.slice none 0 0) e [] := World.ownsRow_nil w 0 e 1
theorem Row.fr {S : Nat → Prop} {w w' : World} {v : Value} {e : TypeId} {xs : List Value} (h : Row w v e xs) (f : Fr S w w') (hn : ∀ k, v.ownBlock = some k → ¬ S k) : Row w' v e xs := by
  refine ⟨h.1, ?_⟩
  rcases h.2 with h2 | ⟨g, cap, cur, rfl, hb, hg, r⟩
  · exact .inl h2
  · exact .inr ⟨g, cap, cur, rfl, hb, (f.block g (lt_of_block hg) (hn g rfl)).trans hg, r⟩
theorem Row.nw {w w' : World} {v : Value} {e : TypeId} {xs : List Value} (h : Row w v e xs) (f : Nw w w') : Row w' v e xs := h.fr f (fun _ _ x => x)
theorem Row.alloc {w : World} {v : Value} {e : TypeId} {xs : List Value} (h : Row w v e xs) (o : Obj) : Row (w.alloc o) v e xs := World.ownsRow.alloc h o
theorem Row.drew {w : World} {v : Value} {e : TypeId} {xs : List Value} (h : Row w v e xs) : Row w.drew v e xs := World.ownsRow.drew h
theorem Row.lt {w : World} {v : Value} {e : TypeId} {xs : List Value} (h : Row w v e xs) {k : Nat} (hk : v.ownBlock = some k) : k < w.heap.size := (World.ownsRow.lt h k hk).2
/-- The block of a row has the row's element type. -/
theorem Row.blk {w : World} {v : Value} {e : TypeId} {xs : List Value} (h : Row w v e xs) {k : Nat} (hk : v.ownBlock = some k) : ∃ cur, Blk w k cur e ∧ cur.toList.take xs.length = xs := by
  rcases h.2 with ⟨rfl, _⟩ | ⟨g, cap, cur, rfl, _, hg, _, _, _, ht⟩
  · cases hk
  · cases hk
    exact ⟨cur, hg, by simpa using ht⟩
theorem Row.form {w : World} {v : Value} {e : TypeId} {xs : List Value} (h : Row w v e xs) : ∃ ao cap, v = .slice ao xs.length cap ∧ (∀ a, ao = some a → ∃ g, a = ⟨g, 0, none⟩ ∧ v.ownBlock = some g) := by
  rcases h.2 with ⟨rfl, hn⟩ | ⟨g, cap, cur, rfl, _⟩
  · exact ⟨none, 0, by rw [hn], fun a h => by cases h⟩
  · exact ⟨_, cap, rfl, fun a h => by cases h; exact ⟨g, rfl, rfl⟩⟩
/-- The cell of an element. -/
theorem Row.cell {w : World} {v : Value} {e : TypeId} {xs : List Value} (h : Row w v e xs) (i : Nat) (hi : i < xs.length) :
    ∃ g cap, v = .slice (some ⟨g, 0, none⟩) xs.length cap ∧ v.ownBlock = some g ∧ w.cell? ⟨g, i, none⟩ = some (xs[i]) ∧ w.frozen? ⟨g, i, none⟩ = false := by
  rcases h.2 with ⟨rfl, hn⟩ | ⟨g, cap, cur, rfl, _, hg, _, _, _, ht⟩
  · omega
  · refine ⟨g, cap, rfl, rfl, ?_, Blk.free (cur := cur) hg i⟩
    have h1 := Blk.cell (w := w) (g := g) (cur := cur) (e := e) hg i
    rw [h1]
    have h2 : (cur.toList.take xs.length)[i]? = xs[i]? := by rw [show cur.toList.take xs.length = xs from by simpa using ht]
    rw [List.getElem?_take_of_lt hi, List.getElem?_eq_getElem hi] at h2
    simpa using h2
theorem Row.at_ {w : World} {g n cap : Nat} {e : TypeId} {xs : List Value} (h : Row w (.slice (some ⟨g, 0, none⟩) n cap) e xs) (i : Nat) (hi : i < xs.length) :
    w.cell? ⟨g, i, none⟩ = some (xs[i]) ∧ w.frozen? ⟨g, i, none⟩ = false := by
  obtain ⟨g', c', he, _, h1, h2⟩ := h.cell i hi
  simp at he
  obtain ⟨rfl, _⟩ := he
  exact ⟨h1, h2⟩
theorem Row.ne {w : World} {v : Value} {e e' : TypeId} {xs : List Value} {k : Nat} {cur : Array Value} (h : Row w v e xs) (hb : Blk w k cur e') (hne : e ≠ e') : v.ownBlock ≠ some k := by
  intro hk
  obtain ⟨cur', hb', _⟩ := h.blk hk
  exact hne (hb'.inj hb).2

/-- What an append of one element leaves. -/
theorem app1 {w w1 : World} {e : TypeId} {v v' x : Value} {xs : List Value} (h1 : w1.ownsRow 0 e 1 v' (xs.length + 1) (xs ++ [x]))
    (hg : (w.alloc (.cells #[x] e)).grownBy w1 v.ownBlock) (hat : v'.ownBlock = v.ownBlock ∨ v'.ownBlock = some (w.alloc (.cells #[x] e)).heap.size) :
    ∃ g cap, v' = .slice (some ⟨g, 0, none⟩) (xs.length + 1) cap ∧ Row w1 v' e (xs ++ [x]) ∧ Fr (fun k => v.ownBlock = some k) w w1 ∧ (v.ownBlock = some g ∨ g = w.heap.size + 1) ∧ g < w1.heap.size := by
  have hr : Row w1 v' e (xs ++ [x]) := by unfold Row; simpa using h1
  have hfr : Fr (fun k => v.ownBlock = some k) w w1 := ((Fr.refl (fun k => v.ownBlock = some k) w).alloc (.cells #[x] e)).grown hg (fun k hk => .inl hk)
  rcases h1.2 with ⟨_, hn⟩ | ⟨g, cap, cur, rfl, _, hgg, _⟩
  · omega
  · refine ⟨g, cap, rfl, hr, hfr, ?_, lt_of_block hgg⟩
    rcases hat with hat | hat
    · exact .inl hat.symm
    · right
      simpa [Value.ownBlock] using hat
end Go.Proofs.Ytkjfpdfkcfgfkaa
