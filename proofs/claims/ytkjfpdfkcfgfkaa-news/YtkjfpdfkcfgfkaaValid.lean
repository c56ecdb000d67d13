/- Contracts of the program's Valid and what it calls. -/
import Derived.Test.YtkjfpdfkcfgfkaaBits
namespace Go.Proofs.Ytkjfpdfkcfgfkaa
open Go.RowKit

set_option maxHeartbeats 400000 in
theorem indexInt_any (ao : Option Addr) (cap : Nat) (xs : List Int) (x : Int) (w : World) (hl : xs.length ≤ 1000) (hc : IntsAt w ao xs) :
    Calls Try.prog 82 #[.slice ao xs.length cap, .int .i64 x] w fun e w' => e = .returned (.int .i64 (firstAt x xs 0)) ∧ w' = w := by
  go_enter Try.func82, Try.ntmps82
  go_wp2
  go_loop [8] (fun i => ∃ k : Nat, k ≤ xs.length ∧ i = .int .i64 k ∧ Hid (firstAt x xs 0 = firstAt x (xs.drop k) k)) (fun i => xs.length - (intOf i).toNat)
  case atStart => exact ⟨0, Nat.zero_le _, rfl, rfl⟩
  case round =>
    obtain ⟨k, hk, rfl, HF⟩ := hrel
    by_cases hlt : k < xs.length
    · obtain ⟨b, o, rfl, _, h1⟩ := hc k hlt
      have h2 : xs.drop k = xs[k] :: xs.drop (k + 1) := (List.getElem_cons_drop hlt).symm
      have H2 := hd h2
      clear h2 hc
      obtain ⟨y, hy⟩ : ∃ y, xs.getD k 0 = y := ⟨_, rfl⟩
      rw [hy] at h1
      have h3 : xs[k] = y := by simpa [hlt] using hy
      have H3 := hd h3
      clear hy h3
      cases hxy : (x == y) with
      | true =>
        have Hxy := hd hxy
        go_wp2
        go_ret
        refine ⟨?_, rfl⟩
        rw [HF.out, H2.out, H3.out]
        simp [firstAt, Hxy.out]
      | false =>
        have Hxy := hd hxy
        go_wp2
        refine ⟨⟨k + 1, by omega, by go_num, ?_⟩, by simp [intOf]; omega⟩
        show _ = _
        rw [HF.out, H2.out, H3.out]
        simp [firstAt, Hxy.out]
    · go_wp2
      go_ret
      refine ⟨?_, rfl⟩
      rw [HF.out, List.drop_eq_nil_of_le (by omega)]
      rfl

set_option maxHeartbeats 400000 in
theorem containsInt_any (ao : Option Addr) (cap : Nat) (xs : List Int) (x : Int) (w : World) (hl : xs.length ≤ 1000) (hc : IntsAt w ao xs) :
    Calls Try.prog 72 #[.slice ao xs.length cap, .int .i64 x] w fun e w' => e = .returned (.bool (xs.contains x)) ∧ w' = w := by
  go_enter Try.func72, Try.ntmps72
  go_wp2_with (go_at_call 82; refine (indexInt_any _ _ xs x _ hl hc).mono ?_; rintro e w' ⟨rfl, rfl⟩)
  go_ret
  exact ⟨by rw [← firstAt_mem x xs 0]; rfl, rfl⟩

theorem containsInt_at (ao : Option Addr) (n cap : Nat) (xs : List Int) (x : Int) (w : World) (hn : xs.length = n) (hl : xs.length ≤ 1000) (hc : IntsAt w ao xs) :
    Calls Try.prog 72 #[.slice ao n cap, .int .i64 x] w fun e w' => e = .returned (.bool (xs.contains x)) ∧ w' = w := by
  subst hn
  exact containsInt_any ao cap xs x w hl hc

/-- Are the first k variables fine, and all different? -/
def okVar (n : Nat) (vars : List Int) (i : Nat) : Bool := decide (0 ≤ vars.getD i 0) && decide (vars.getD i 0 < n) && !(vars.take i).contains (vars.getD i 0)
def okVars (n : Nat) (vars : List Int) : Bool := decide (1 ≤ vars.length) && decide (vars.length ≤ 4) && (List.range vars.length).all (okVar n vars)

theorem IntsAt.take {w : World} {ao : Option Addr} {zs : List Int} (h : IntsAt w ao zs) (k : Nat) : IntsAt w ao (zs.take k) := by
  intro i hi
  simp at hi
  obtain ⟨b, o, he, hb, hc⟩ := h i (by omega)
  refine ⟨b, o, he, hb, hc.trans ?_⟩
  simp [List.getElem?_take_of_lt (show i < k by omega)]

set_option maxHeartbeats 1600000 in
set_option maxRecDepth 1000000 in
theorem validVars_any (ao : Option Addr) (cap : Nat) (vars : List Int) (n : Nat) (w : World) (hl : vars.length * 8 ≤ 140737488355328) (hcap : vars.length ≤ cap) (hc : IntsAt w ao vars) :
    Calls Try.prog 61 #[.slice ao vars.length cap, .int .i64 n] w fun e w' => e = .returned (.bool (okVars n vars)) ∧ w' = w := by
  by_cases h4 : 1 ≤ vars.length ∧ vars.length ≤ 4
  · obtain ⟨h1, h4⟩ := h4
    go_enter Try.func61, Try.ntmps61
    go_wp2
    go_loop [17] (fun i => ∃ k : Nat, k ≤ vars.length ∧ i = .int .i64 k ∧ Hid ((List.range k).all (okVar n vars) = true)) (fun i => vars.length - (intOf i).toNat)
    case atStart => exact ⟨0, Nat.zero_le _, rfl, rfl⟩
    case round =>
      obtain ⟨k, hk, rfl, HA⟩ := hrel
      by_cases hlt : k < vars.length
      · obtain ⟨b, o, rfl, _, hck⟩ := hc k hlt
        have htl : (vars.take k).length = k := by simp; omega
        have hct := hd (hc.take k)
        obtain ⟨y, hy⟩ : ∃ y, vars.getD k 0 = y := ⟨_, rfl⟩
        rw [hy] at hck
        have Hy := hd hy
        clear hy
        have hki : (0 : Int) ≤ (k : Int) := by omega
        have hfalse : okVar n vars k = false → okVars n vars = false := fun h => by
          have : (List.range vars.length).all (okVar n vars) = false := by
            rw [List.all_eq_false]
            exact ⟨k, List.mem_range.2 hlt, by simp [h]⟩
          simp [okVars, this]
        have HF := hd hfalse
        clear hfalse
        by_cases hy0 : 0 ≤ y
        · by_cases hyn : y < n
          · cases hcon : (vars.take k).contains y with
            | true =>
              have Hcon := hd hcon
              clear hcon
              go_wp2_with (go_at_call 72; refine (containsInt_at (some ⟨b, o, none⟩) k cap (vars.take k) y _ htl (by omega) hct.out).mono ?_; rw [Hcon.out]; rintro e w' ⟨rfl, rfl⟩)
              go_ret
              exact ⟨by rw [HF.out (by simp only [okVar]; rw [Hy.out, Hcon.out]; simp)]; rfl, rfl⟩
            | false =>
              have Hcon := hd hcon
              clear hcon
              go_wp2_with (go_at_call 72; refine (containsInt_at (some ⟨b, o, none⟩) k cap (vars.take k) y _ htl (by omega) hct.out).mono ?_; rw [Hcon.out]; rintro e w' ⟨rfl, rfl⟩)
              refine ⟨⟨k + 1, by omega, by go_num, ?_⟩, by simp [intOf]; omega⟩
              show _ = _
              rw [List.range_succ, List.all_append, HA.out]
              simp only [okVar, List.all_cons, List.all_nil]
              rw [Hy.out, Hcon.out]
              simp [hy0, hyn]
          · have HK := hd (HF.out (by simp only [okVar]; rw [Hy.out]; simp [hyn]))
            go_wp2
            go_ret
            exact ⟨by rw [HK.out]; rfl, rfl⟩
        · have HK := hd (HF.out (by simp only [okVar]; rw [Hy.out]; simp [hy0]))
          go_wp2
          go_ret
          exact ⟨by rw [HK.out]; rfl, rfl⟩
      · obtain rfl : k = vars.length := by omega
        go_wp2
        go_ret
        exact ⟨by simp only [okVars]; rw [HA.out]; simp [h1, h4], rfl⟩
  · have hfin : okVars n vars = false := by
      simp only [okVars]
      by_cases h1 : 1 ≤ vars.length
      · have : ¬ vars.length ≤ 4 := fun h => h4 ⟨h1, h⟩
        simp [this]
      · simp [h1]
    rw [hfin]
    clear hfin
    by_cases h1 : vars.length = 0
    · rw [h1]
      go_enter Try.func61, Try.ntmps61
      go_wp2
      go_ret
      exact ⟨rfl, rfl⟩
    · have h5 : 4 < vars.length := by omega
      go_enter Try.func61, Try.ntmps61
      go_wp2
      go_ret
      exact ⟨rfl, rfl⟩

/-- The size of a row's i-th variable. -/
def sizeAt (zs vars : List Int) (i : Nat) : Int := zs.getD (vars.getD i 0).toNat 0
def okEntry (zs vars row : List Int) (i : Nat) : Bool := row.getD i 0 == -1 || (decide (0 ≤ row.getD i 0) && decide (row.getD i 0 < sizeAt zs vars i))
def okRow (zs vars row : List Int) : Bool := decide (row.length = vars.length) && (List.range row.length).all (okEntry zs vars row)

set_option maxHeartbeats 1600000 in
set_option maxRecDepth 1000000 in
theorem validRow_any (ro vo so : Option Addr) (rcap vcap scap : Nat) (row vars zs : List Int) (w : World) (hvl : vars.length ≤ 4)
    (hv : ∀ i, i < vars.length → 0 ≤ vars.getD i 0 ∧ vars.getD i 0 < zs.length) (hr : IntsAt w ro row) (hvs : IntsAt w vo vars) (hs : IntsAt w so zs) :
    Calls Try.prog 62 #[.slice ro row.length rcap, .slice vo vars.length vcap, .slice so zs.length scap] w fun e w' => e = .returned (.bool (okRow zs vars row)) ∧ w' = w := by
  by_cases hlen : row.length = vars.length
  · have hb : ((row.length : Int) != (vars.length : Int)) = false := by simp [hlen]
    rw [hlen] at hb
    rw [hlen]
    go_enter Try.func62, Try.ntmps62
    go_wp2
    go_loop [16] (fun i => ∃ k : Nat, k ≤ vars.length ∧ i = .int .i64 k ∧ Hid ((List.range k).all (okEntry zs vars row) = true)) (fun i => vars.length - (intOf i).toNat)
    case atStart => exact ⟨0, Nat.zero_le _, rfl, rfl⟩
    case round =>
      obtain ⟨k, hk, rfl, HA⟩ := hrel
      by_cases hlt : k < vars.length
      · obtain ⟨b, o, rfl, _, hck⟩ := hr k (by omega)
        obtain ⟨b2, o2, rfl, _, hcv⟩ := hvs k hlt
        obtain ⟨hv0, hv1⟩ := hv k hlt
        obtain ⟨q, hq⟩ : ∃ q : Nat, vars.getD k 0 = (q : Int) := ⟨(vars.getD k 0).toNat, by omega⟩
        rw [hq] at hcv hv0 hv1
        have hqz : q < zs.length := by omega
        obtain ⟨b3, o3, rfl, _, hcs⟩ := hs q hqz
        obtain ⟨y, hy⟩ : ∃ y, row.getD k 0 = y := ⟨_, rfl⟩
        rw [hy] at hck
        obtain ⟨z, hz⟩ : ∃ z, zs.getD q 0 = z := ⟨_, rfl⟩
        rw [hz] at hcs
        have hsz : sizeAt zs vars k = z := by simp only [sizeAt]; rw [hq, Int.toNat_natCast, hz]
        have hoe : okEntry zs vars row k = (y == -1 || (decide (0 ≤ y) && decide (y < z))) := by simp only [okEntry]; rw [hy, hsz]
        have HOE := hd hoe
        have hfalse : okEntry zs vars row k = false → okRow zs vars row = false := fun h => by
          have : (List.range row.length).all (okEntry zs vars row) = false := by
            rw [List.all_eq_false]
            exact ⟨k, List.mem_range.2 (by omega), by simp [h]⟩
          simp [okRow, this]
        have HF := hd hfalse
        clear hfalse hoe hsz hy hz hq hr hvs hs hv
        have hki : (0 : Int) ≤ (k : Int) := by omega
        have hgo : okEntry zs vars row k = true → (List.range (k + 1)).all (okEntry zs vars row) = true := fun h => by
          rw [List.range_succ, List.all_append, HA.out]
          simp [h]
        have HG := hd hgo
        clear hgo
        cases hm : (y == -1) with
        | true =>
          have HT := hd (HG.out (by rw [HOE.out, hm]; rfl))
          have hy1 : y = -1 := by simpa using hm
          subst hy1
          go_wp2
          exact ⟨⟨k + 1, by omega, by go_num, HT⟩, by simp [intOf]; omega⟩
        | false =>
          have hm2 : (y != -1) = true := by simpa using hm
          by_cases hy0 : 0 ≤ y
          · by_cases hyz : y < z
            · have HT := hd (HG.out (by rw [HOE.out, hm]; simp [hy0, hyz]))
              go_wp2
              exact ⟨⟨k + 1, by omega, by go_num, HT⟩, by simp [intOf]; omega⟩
            · have HK := hd (HF.out (by rw [HOE.out, hm]; simp [hyz]))
              go_wp2
              go_ret
              exact ⟨by rw [HK.out]; rfl, rfl⟩
          · have HK := hd (HF.out (by rw [HOE.out, hm]; simp [hy0]))
            go_wp2
            go_ret
            exact ⟨by rw [HK.out]; rfl, rfl⟩
      · obtain rfl : k = vars.length := by omega
        have hfin : okRow zs vars row = true := by simp only [okRow]; rw [hlen, HA.out]; simp
        have HK := hd hfin
        clear hfin
        go_wp2
        go_ret
        exact ⟨by rw [HK.out]; rfl, rfl⟩
  · have hfin : okRow zs vars row = false := by simp [okRow, hlen]
    rw [hfin]
    have hb : ((row.length : Int) != (vars.length : Int)) = true := by simp; omega
    clear hfin
    go_enter Try.func62, Try.ntmps62
    go_wp2
    go_ret
    exact ⟨rfl, rfl⟩

end Go.Proofs.Ytkjfpdfkcfgfkaa
