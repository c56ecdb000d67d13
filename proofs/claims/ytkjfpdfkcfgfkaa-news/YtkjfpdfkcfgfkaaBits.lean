/- Contracts of the program's small functions on sets of values. -/
import Derived.Test.YtkjfpdfkcfgfkaaNew
namespace Go.Proofs.Ytkjfpdfkcfgfkaa
open Go.RowKit

/-- The least value of a set (8: there is none), and how many there are. -/
def tz (s : Nat) : Nat := ((List.range 8).find? (fun i => s.testBit i)).getD 8
def pop (s : Nat) : Nat := ((List.range 8).filter (fun i => s.testBit i)).length

theorem tab (T : ByteArray) (f : Nat → Nat) (n : Nat) (hT : ∀ i : Fin n, (T.data[i.val]!).toNat = f i.val ∧ f i.val < 256) (s : Nat) (h : s < n) (p : s < T.size) : wrap64 ((T[s]'p).toNat : Int) = (f s : Int) := by
  have h1 := hT ⟨s, h⟩
  have h2 : T[s]'p = T.data[s]! := by
    have : s < T.data.size := p
    rw [getElem!_pos T.data s this]
    rfl
  rw [h2, h1.1]
  have := h1.2
  simp only [wrap64]
  simp at this
  omega

set_option maxRecDepth 1000000 in
set_option maxHeartbeats 400000 in
theorem tz_any (s : Nat) (w : World) (h : s < 256) :
    Calls Try.prog 71 #[.int .u8 s] w fun e w' => e = .returned (.int .i64 (tz s)) ∧ w' = w := by
  go_enter Try.func71, Try.ntmps71
  go_wp2
  go_ret
  refine ⟨congrArg (fun z => Ending.returned (.int .i64 z)) ?_, rfl⟩
  exact tab _ tz 256 (by decide +kernel) s h _

set_option maxRecDepth 1000000 in
set_option maxHeartbeats 400000 in
theorem pop_any (s : Nat) (w : World) (h : s < 256) :
    Calls Try.prog 55 #[.int .u8 s] w fun e w' => e = .returned (.int .i64 (pop s)) ∧ w' = w := by
  go_enter Try.func55, Try.ntmps55
  go_wp2
  go_ret
  refine ⟨congrArg (fun z => Ending.returned (.int .i64 z)) ?_, rfl⟩
  exact tab _ pop 256 (by decide +kernel) s h _

set_option maxHeartbeats 400000 in
theorem one_any (v : Nat) (w : World) (h : v ≤ 6) :
    Calls Try.prog 41 #[.int .i64 v] w fun e w' => e = .returned (.int .u8 (2 ^ v : Nat)) ∧ w' = w := by
  match v, h with
  | 0, _ | 1, _ | 2, _ | 3, _ | 4, _ | 5, _ | 6, _ =>
    go_enter Try.func41, Try.ntmps41
    go_wp2
    go_ret
    exact ⟨rfl, rfl⟩

set_option maxHeartbeats 400000 in
theorem bears_any (a v : Int) (w : World) :
    Calls Try.prog 85 #[.int .i64 a, .int .i64 v] w fun e w' => e = .returned (.bool (a == -1 || a == v)) ∧ w' = w := by
  by_cases h : a = -1
  · subst h
    go_enter Try.func85, Try.ntmps85
    go_wp2
    go_ret
    exact ⟨rfl, rfl⟩
  · have hb : (a == -1) = false := by simpa using h
    go_enter Try.func85, Try.ntmps85
    go_wp2
    go_ret
    exact ⟨by simp [hb], rfl⟩

set_option maxHeartbeats 400000 in
theorem len_any (s : Nat) (w : World) (h : s < 256) :
    Calls Try.prog 38 #[.int .u8 s] w fun e w' => e = .returned (.int .i64 (pop s)) ∧ w' = w := by
  go_enter Try.func38, Try.ntmps38
  go_wp2_with (go_at_call 55; refine (pop_any s _ h).mono ?_; rintro e w' ⟨rfl, rfl⟩)
  go_ret
  exact ⟨rfl, rfl⟩

/-- Where the first of some cells that hold x is (-1: nowhere). -/
def firstAt {α : Type} [BEq α] (x : α) : List α → Nat → Int
  | [], _ => -1
  | y :: l, k => if x == y then (k : Int) else firstAt x l (k + 1)

set_option maxHeartbeats 400000 in
theorem indexBool_any (b o cap : Nat) (xs : List Bool) (w : World) (hl : xs.length ≤ 1000)
    (hc : ∀ i, i < xs.length → w.cell? ⟨b, o + i, none⟩ = some (.bool (xs.getD i false))) :
    Calls Try.prog 66 #[.slice (some ⟨b, o, none⟩) xs.length cap, .bool true] w fun e w' => e = .returned (.int .i64 (firstAt true xs 0)) ∧ w' = w := by
  go_enter Try.func66, Try.ntmps66
  go_wp2
  go_loop [8] (fun i => ∃ k : Nat, k ≤ xs.length ∧ i = .int .i64 k ∧ Hid (firstAt true xs 0 = firstAt true (xs.drop k) k)) (fun i => xs.length - (intOf i).toNat)
  case atStart => exact ⟨0, Nat.zero_le _, rfl, rfl⟩
  case round =>
    obtain ⟨k, hk, rfl, HF⟩ := hrel
    by_cases hlt : k < xs.length
    · have h1 := hc k hlt
      have h2 : xs.drop k = xs[k] :: xs.drop (k + 1) := (List.getElem_cons_drop hlt).symm
      have H2 := hd h2
      clear h2 hc
      cases hx : xs.getD k false with
      | true =>
        rw [hx] at h1
        have h3 : xs[k] = true := by simpa [hlt] using hx
        have H3 := hd h3
        clear hx h3
        go_wp2
        go_ret
        refine ⟨?_, rfl⟩
        rw [HF.out, H2.out, H3.out]
        rfl
      | false =>
        rw [hx] at h1
        have h3 : xs[k] = false := by simpa [hlt] using hx
        have H3 := hd h3
        clear hx h3
        go_wp2
        exact ⟨⟨k + 1, by omega, by go_num, by show _ = _; rw [HF.out, H2.out, H3.out]; rfl⟩, by simp [intOf]; omega⟩
    · go_wp2
      go_ret
      refine ⟨?_, rfl⟩
      rw [HF.out, List.drop_eq_nil_of_le (by omega)]
      rfl

set_option maxHeartbeats 400000 in
theorem indexSet_any (b o cap : Nat) (xs : List Nat) (w : World) (hl : xs.length ≤ 1000)
    (hc : ∀ i, i < xs.length → w.cell? ⟨b, o + i, none⟩ = some (.int .u8 (xs.getD i 0 : Nat))) :
    Calls Try.prog 86 #[.slice (some ⟨b, o, none⟩) xs.length cap, .int .u8 0] w fun e w' => e = .returned (.int .i64 (firstAt 0 xs 0)) ∧ w' = w := by
  go_enter Try.func86, Try.ntmps86
  go_wp2
  go_loop [8] (fun i => ∃ k : Nat, k ≤ xs.length ∧ i = .int .i64 k ∧ Hid (firstAt 0 xs 0 = firstAt 0 (xs.drop k) k)) (fun i => xs.length - (intOf i).toNat)
  case atStart => exact ⟨0, Nat.zero_le _, rfl, rfl⟩
  case round =>
    obtain ⟨k, hk, rfl, HF⟩ := hrel
    by_cases hlt : k < xs.length
    · have h1 := hc k hlt
      have h2 : xs.drop k = xs[k] :: xs.drop (k + 1) := (List.getElem_cons_drop hlt).symm
      have H2 := hd h2
      clear h2 hc
      obtain ⟨x, hx⟩ : ∃ x, xs.getD k 0 = x := ⟨_, rfl⟩
      rw [hx] at h1
      have h3 : xs[k] = x := by simpa [hlt] using hx
      have H3 := hd h3
      clear hx h3
      by_cases h0 : x = 0
      · subst h0
        go_wp2
        go_ret
        refine ⟨?_, rfl⟩
        rw [HF.out, H2.out, H3.out]
        rfl
      · have h0' : ((0 : Int) == (x : Int)) = false := by simp; omega
        go_wp2
        refine ⟨⟨k + 1, by omega, by go_num, ?_⟩, by simp [intOf]; omega⟩
        show _ = _
        rw [HF.out, H2.out, H3.out]
        simp [firstAt, show ¬ (0 = x) from fun e => h0 e.symm]
    · go_wp2
      go_ret
      refine ⟨?_, rfl⟩
      rw [HF.out, List.drop_eq_nil_of_le (by omega)]
      rfl

theorem firstAt_mem {α : Type} [BEq α] [LawfulBEq α] (x : α) : ∀ (l : List α) (k : Nat), decide (0 ≤ firstAt x l k) = l.contains x
  | [], k => by simp [firstAt]
  | y :: l, k => by
    simp only [firstAt, List.contains_cons]
    by_cases h : x == y
    · simp [h]
    · simp [h, firstAt_mem x l (k + 1)]

set_option maxHeartbeats 400000 in
theorem containsSet_any (b o cap : Nat) (xs : List Nat) (w : World) (hl : xs.length ≤ 1000)
    (hc : ∀ i, i < xs.length → w.cell? ⟨b, o + i, none⟩ = some (.int .u8 (xs.getD i 0 : Nat))) :
    Calls Try.prog 77 #[.slice (some ⟨b, o, none⟩) xs.length cap, .int .u8 0] w fun e w' => e = .returned (.bool (xs.contains 0)) ∧ w' = w := by
  go_enter Try.func77, Try.ntmps77
  go_wp2_with (go_at_call 86; refine (indexSet_any _ _ _ xs _ hl hc).mono ?_; rintro e w' ⟨rfl, rfl⟩)
  go_ret
  exact ⟨by rw [← firstAt_mem 0 xs 0]; rfl, rfl⟩
end Go.Proofs.Ytkjfpdfkcfgfkaa
