/- The marks that ranges over a function leave among an activation's deferred calls. -/
import Derived.Test.YtkjfpdfkcfgfkaaEach
namespace Go.Proofs.Ytkjfpdfkcfgfkaa
open Go.RowKit Go.Shelf

/-- The blocks of the marks Ds lie from base on, and nothing was deferred in a round. -/
def Marks (A : World) (base : Nat) (Ds : List Nat) : Prop := Ds.Nodup ∧ ∀ D ∈ Ds, base ≤ D ∧ A.heap[D]? = some (.deferred (some []))
theorem Marks.nil (A : World) (base : Nat) : Marks A base [] := ⟨List.nodup_nil, fun D h => by cases h⟩
theorem Marks.keeps {A B : World} {base : Nat} {Ds : List Nat} (h : Marks A base Ds) (k : KeepsLD A B) : Marks B base Ds :=
  ⟨h.1, fun D hD => ⟨(h.2 D hD).1, k.same D _ (h.2 D hD).2 rfl⟩⟩
theorem Marks.lt {A : World} {base : Nat} {Ds : List Nat} (h : Marks A base Ds) : ∀ D ∈ Ds, D < A.heap.size := fun D hD => lt_of_block (h.2 D hD).2
theorem Marks.bk {A B : World} {base lo : Nat} {Ds : List Nat} (h : Marks A base Ds) (hl : ∀ D ∈ Ds, D < lo) (hb : Bk lo A B) : Marks B base Ds := by
  obtain ⟨row, hg, hr⟩ := hb
  refine ⟨h.1, fun D hD => ⟨(h.2 D hD).1, ?_⟩⟩
  rw [hg.block D (h.lt D hD) (fun e => by have := (hr D e.symm).1; have := hl D hD; omega)]
  exact (h.2 D hD).2
theorem Marks.cons {A : World} {base D : Nat} {Ds : List Nat} (h : Marks A base Ds) (hb : base ≤ D) (hn : ∀ E ∈ Ds, E < D) (hD : A.heap[D]? = some (.deferred (some []))) : Marks A base (D :: Ds) := by
  refine ⟨List.nodup_cons.2 ⟨fun hm => ?_, h.1⟩, fun E hE => ?_⟩
  · have := hn D hm; omega
  · rcases List.mem_cons.1 hE with rfl | hE
    · exact ⟨hb, hD⟩
    · exact h.2 E hE

theorem leaves_marks {n : Nat} {fn : Func} {tmps : Array Value} {R : Ending → World → Prop} (J : World → Prop) (base : Nat) (hJ : ∀ A B, J A → Bk base A B → J B)
    (hend : ∀ A, J A → LeavesInM Fence.wide n Try.prog fn tmps R [] .returning A) : ∀ (Ds : List Nat) (A : World), J A → Marks A base Ds → LeavesInM Fence.wide n Try.prog fn tmps R (Ds.map mark) .returning A
  | [], A, hA, _ => hend A hA
  | D :: Ds, A, hA, hM => by
    have hD := hM.2 D (List.mem_cons_self ..)
    have hnd := List.nodup_cons.1 hM.1
    refine ⟨by simp, .inl ⟨D, A.putObj D (.deferred none), rfl, run_takeDeferred hD.2, ?_⟩⟩
    refine leaves_marks J base hJ hend Ds _ (hJ _ _ hA (Bk.put (.deferred none) hD.1 hD.2 rfl)) ⟨hnd.2, fun E hE => ⟨(hM.2 E (List.mem_cons_of_mem _ hE)).1, ?_⟩⟩
    rw [World.putObj_heap_other (fun e => hnd.1 (by rw [e] at hE; exact hE))]
    exact (hM.2 E (List.mem_cons_of_mem _ hE)).2
end Go.Proofs.Ytkjfpdfkcfgfkaa
