/- Contract of rowSets.markCovered. -/
import Derived.Test.YtkjfpdfkcfgfkaaDrop
namespace Go.Proofs.Ytkjfpdfkcfgfkaa
open Go.RowKit Go.Shelf
attribute [local go_sem] Oper.semAt_some

/-- The values that a live row bears at an entry, laid over what there was. -/
def mkFold (br : List Nat) (live k : Nat) (vs : List Nat) (init : Nat) : Nat := vs.foldl (fun acc v => if live &&& br.getD (6 * k + v) 0 = 0 then acc else acc ||| 2 ^ v) init
theorem mkFold_snoc (br : List Nat) (live k : Nat) (vs : List Nat) (v init : Nat) :
    mkFold br live k (vs ++ [v]) init = if live &&& br.getD (6 * k + v) 0 = 0 then mkFold br live k vs init else mkFold br live k vs init ||| 2 ^ v := by simp [mkFold]
theorem mkFold_lt (br : List Nat) (live k : Nat) (vs : List Nat) (hv : ∀ v ∈ vs, v < 6) : ∀ init, init < 64 → mkFold br live k vs init < 64 := by
  induction vs with
  | nil => intro init h; exact h
  | cons v vs ih =>
    intro init h
    have hv6 : v < 6 := hv v (List.mem_cons_self ..)
    have hp : 2 ^ v < 2 ^ 6 := Nat.pow_lt_pow_right (by omega) hv6
    show mkFold br live k vs (if live &&& br.getD (6 * k + v) 0 = 0 then init else init ||| 2 ^ v) < 64
    refine ih (fun x hx => hv x (List.mem_cons_of_mem _ hx)) _ ?_
    split
    · exact h
    · exact Nat.or_lt_two_pow (n := 6) h hp
def markTo (br : List Nat) (live : Nat) (vars : List Int) (dn sp : List Nat) : Nat → List Nat
  | 0 => sp
  | k + 1 => (markTo br live vars dn sp k).set (vars.getD k 0).toNat (mkFold br live k (vals (dn.getD (vars.getD k 0).toNat 0)) ((markTo br live vars dn sp k).getD (vars.getD k 0).toNat 0))
theorem markTo_length (br : List Nat) (live : Nat) (vars : List Int) (dn sp : List Nat) : ∀ k, (markTo br live vars dn sp k).length = sp.length
  | 0 => rfl
  | k + 1 => by simp [markTo, markTo_length br live vars dn sp k]
theorem markTo_lt (br : List Nat) (live : Nat) (vars : List Int) (dn sp : List Nat) (hd : ∀ q, dn.getD q 0 < 64) (hs : ∀ q, sp.getD q 0 < 64) : ∀ k q, (markTo br live vars dn sp k).getD q 0 < 64
  | 0, q => hs q
  | k + 1, q => by
    have ih := markTo_lt br live vars dn sp hd hs k
    generalize hx : (vars.getD k 0).toNat = x
    have hstep : markTo br live vars dn sp (k + 1) = (markTo br live vars dn sp k).set x (mkFold br live k (vals (dn.getD x 0)) ((markTo br live vars dn sp k).getD x 0)) := by
      simp only [markTo]
      rw [hx]
    rw [hstep]
    have hf := mkFold_lt br live k (vals (dn.getD x 0)) (fun v hv => vals_lt6 (hd x) hv) _ (ih x)
    generalize mkFold br live k (vals (dn.getD x 0)) ((markTo br live vars dn sp k).getD x 0) = y at hf
    have hq := ih q
    generalize markTo br live vars dn sp k = m at hq
    simp only [List.getD, List.getElem?_set] at hq ⊢
    split
    · split
      · exact hf
      · simp
    · exact hq

/-- What holds between two rounds of markCovered. -/
structure MarkI (w wr : World) (G g cap T Dm Sp : Nat) (nt : Bool) (br : List Nat) (live : Nat) (vars : List Int) (dn sp Ds : List Nat) : Prop where
  fr : Fr (fun k => k = Sp) w wr
  bG : Blk wr G (rsCells (.slice (some ⟨g, 0, none⟩) vars.length cap) nt br live) 142
  bT : Blk wr T #[.pointer (some ⟨G, 0, none⟩)] 115
  bP : Blk wr (T + 1) #[.pointer (some ⟨Sp, 0, none⟩)] 127
  bD : Blk wr Dm (domV dn) 76
  bS : Blk wr Sp (domV sp) 76
  rv : Row wr (.slice (some ⟨g, 0, none⟩) vars.length cap) 3 (vars.map (Value.int .i64))
  ms : Marks wr w.heap.size Ds
theorem MarkI.nw {w wr wx : World} {G g cap T Dm Sp : Nat} {nt : Bool} {br : List Nat} {live : Nat} {vars : List Int} {dn sp Ds : List Nat} (h : MarkI w wr G g cap T Dm Sp nt br live vars dn sp Ds) (f : Nw wr wx) :
    MarkI w wx G g cap T Dm Sp nt br live vars dn sp Ds :=
  ⟨h.fr.trans f (fun _ x => x.elim), h.bG.nw f, h.bT.nw f, h.bP.nw f, h.bD.nw f, h.bS.nw f, h.rv.nw f, h.ms.keeps (f.keeps (fun _ x => x.elim))⟩
theorem MarkI.bk {w wr wx : World} {G g cap T Dm Sp lo : Nat} {nt : Bool} {br : List Nat} {live : Nat} {vars : List Int} {dn sp Ds : List Nat} (h : MarkI w wr G g cap T Dm Sp nt br live vars dn sp Ds) (hb : Bk lo wr wx) (hl : w.heap.size ≤ lo) (hD : ∀ D ∈ Ds, D < lo) :
    MarkI w wx G g cap T Dm Sp nt br live vars dn sp Ds := ⟨h.fr.bk hb hl, h.bG.bk hb, h.bT.bk hb, h.bP.bk hb, h.bD.bk hb, h.bS.bk hb, h.rv.bk hb, h.ms.bk hD hb⟩
/-- A value is laid into the supported ones. -/
theorem MarkI.put {w wr : World} {G g cap T Dm Sp : Nat} {nt : Bool} {br : List Nat} {live : Nat} {vars : List Int} {dn sp Ds : List Nat} (h : MarkI w wr G g cap T Dm Sp nt br live vars dn sp Ds) (q x : Nat)
    (h1 : Sp ≠ G) (h2 : Sp ≠ T) (h3 : Sp ≠ T + 1) (h4 : Sp ≠ Dm) (h5 : Sp ≠ g) : MarkI w (wr.setCell ⟨Sp, q, none⟩ (.int .u8 (x : Int))) G g cap T Dm Sp nt br live vars dn (sp.set q x) Ds := by
  have f : Fr (fun k => k = Sp) wr (wr.setCell ⟨Sp, q, none⟩ (.int .u8 (x : Int))) := (Fr.refl _ wr).setCell _ _ (.inl rfl)
  refine ⟨h.fr.trans f (fun i e => .inl e), h.bG.fr f (fun e => h1 e.symm), h.bT.fr f (fun e => h2 e.symm), h.bP.fr f (fun e => h3 e.symm), h.bD.fr f (fun e => h4 e.symm), ?_, h.rv.fr f (fun k hk e => h5 (by cases hk; exact e.symm)), h.ms.keeps (f.keeps (fun k hk => by subst hk; exact ⟨_, _, h.bS⟩))⟩
  rw [← domV_set]
  exact h.bS.set q _
theorem MarkI.drew {w wr : World} {G g cap T Dm Sp : Nat} {nt : Bool} {br : List Nat} {live : Nat} {vars : List Int} {dn sp Ds : List Nat} (h : MarkI w wr G g cap T Dm Sp nt br live vars dn sp Ds) : MarkI w wr.drew G g cap T Dm Sp nt br live vars dn sp Ds :=
  ⟨h.fr.drew, h.bG, h.bT, h.bP, h.bD, h.bS, h.rv.drew, h.ms⟩

set_option maxHeartbeats 3200000 in
set_option maxRecDepth 1000000 in
theorem markCovered_any (G g cap Dm Sp : Nat) (nt : Bool) (br : List Nat) (live : Nat) (vars : List Int) (dn sp : List Nat) (w : World) (hG : Blk w G (rsCells (.slice (some ⟨g, 0, none⟩) vars.length cap) nt br live) 142)
    (hvs : Row w (.slice (some ⟨g, 0, none⟩) vars.length cap) 3 (vars.map (Value.int .i64))) (hDm : Blk w Dm (domV dn) 76) (hSp : Blk w Sp (domV sp) 76) (hne : Sp ≠ Dm)
    (h8 : dn.length = 8) (hs8 : sp.length = 8) (h24 : br.length = 24) (hbr : ∀ j, br.getD j 0 < 18446744073709551616) (hlive : live < 18446744073709551616)
    (h4 : vars.length ≤ 4) (hv : ∀ i, i < vars.length → 0 ≤ vars.getD i 0 ∧ vars.getD i 0 < 8) (hd64 : ∀ q, dn.getD q 0 < 64) (hs64 : ∀ q, sp.getD q 0 < 64) :
    Calls Try.prog 117 #[.pointer (some ⟨G, 0, none⟩), .pointer (some ⟨Dm, 0, none⟩), .pointer (some ⟨Sp, 0, none⟩)] w fun e w' => e = .returned (.tuple #[]) ∧ Fr (fun k => k = Sp) w w' ∧
      Blk w' Sp (domV (markTo br live vars dn sp vars.length)) 76 := by
  have hmf : ∀ (fn : Fn) (first cap : Array Value) (w : World), (Instr.makeFunc fn first cap).run Try.prog w = .ok (.func fn first cap) w := fun _ _ _ _ => rfl
  refine (callsIn_wide (n := 9)).1 ?_
  refine callsIn_of_wp_marks Try.func117 rfl trivial ?_ rfl
  simp only [Try.ntmps117, List.size_toArray, List.length_cons, List.length_nil, Nat.reduceAdd, Nat.reduceSub, Array.replicate_succ, Array.replicate_zero, List.push_toArray, List.append_toArray, List.nil_append, List.cons_append]
  have hc0 : w.cell? ⟨G, 0, none⟩ = some (.slice (some ⟨g, 0, none⟩) vars.length cap) := hG.cell 0
  have hGlt := hG.lt
  have hSlt := hSp.lt
  have hDlt0 := hDm.lt
  have hglt : g < w.heap.size := hvs.lt rfl
  have hgG : g ≠ G := fun e => by subst e; exact hvs.ne hG (by decide) rfl
  have hSG : Sp ≠ G := fun e => by subst e; have := (hSp.inj hG).2; revert this; decide
  have hSg : Sp ≠ g := fun e => by subst e; exact hvs.ne hSp (by decide) rfl
  have hF0 : Nw w ((w.alloc (.cells #[.pointer (some ⟨G, 0, none⟩)] 115)).alloc (.cells #[.pointer (some ⟨Sp, 0, none⟩)] 127)) := ((Fr.refl _ w).alloc _).alloc _
  have hI0 : MarkI w ((w.alloc (.cells #[.pointer (some ⟨G, 0, none⟩)] 115)).alloc (.cells #[.pointer (some ⟨Sp, 0, none⟩)] 127)) G g cap w.heap.size Dm Sp nt br live vars dn sp [] :=
    ⟨hF0.mono (fun i h => h.elim), hG.nw hF0, (Blk.new w _ _).alloc _, by have := Blk.new (w.alloc (.cells #[.pointer (some ⟨G, 0, none⟩)] 115)) #[.pointer (some ⟨Sp, 0, none⟩)] 127; simpa using this, hDm.nw hF0, hSp.nw hF0, hvs.nw hF0, Marks.nil _ _⟩
  gi_wp2_with fail
  have HI0 := hd hI0
  clear hI0 hG hvs hc0 hF0 hDm hSp
  refine wpIn_loop (fun a wr => ∃ (k : Nat) (Ds : List Nat) (u6 u7 u8 u16 u17 u18 u19 u20 u21 u22 u23 u24 u25 u26 u27 u28 u29 u30 u31 u32 u33 u34 u35 u36 u37 u38 u39 u40 u41 u42 u43 u44 u45 u46 u47 u48 u49 u50 u51 : Value), k ≤ vars.length ∧ MarkI w wr G g cap w.heap.size Dm Sp nt br live vars dn (markTo br live vars dn sp k) Ds ∧
    a = { tmps := #[.pointer (some ⟨G, 0, none⟩), .pointer (some ⟨Dm, 0, none⟩), .pointer (some ⟨Sp, 0, none⟩), .pointer (some ⟨w.heap.size, 0, none⟩), undef, .pointer (some ⟨w.heap.size + 1, 0, none⟩), u6, u7, u8, .pointer (some ⟨G, 0, none⟩), .pointer (some ⟨G, 0, none⟩), .pointer (some ⟨G, 0, none⟩), .pointer (some ⟨G, 0, none⟩), .slice (some ⟨g, 0, none⟩) vars.length cap, .int .i64 vars.length, .int .i64 k, u16, u17, u18, u19, u20, u21, u22, u23, u24, u25, u26, u27, u28, u29, u30, u31, u32, u33, u34, u35, u36, u37, u38, u39, u40, u41, u42, u43, u44, u45, u46, u47, u48, u49, u50, u51], defers := Ds.map mark }) (fun a _ => vars.length - (intOf (a.tmps.getD 15 undef)).toNat) ?start ?round
  case start => exact ⟨0, [], undef, undef, undef, undef, undef, undef, undef, undef, undef, undef, undef, undef, undef, undef, undef, undef, undef, undef, undef, undef, undef, undef, undef, undef, undef, undef, undef, undef, undef, undef, undef, undef, undef, undef, undef, undef, undef, undef, undef, Nat.zero_le _, HI0.out, rfl⟩
  case round =>
    rintro a wr ⟨k, Ds, u6, u7, u8, u16, u17, u18, u19, u20, u21, u22, u23, u24, u25, u26, u27, u28, u29, u30, u31, u32, u33, u34, u35, u36, u37, u38, u39, u40, u41, u42, u43, u44, u45, u46, u47, u48, u49, u50, u51, hk, hI, rfl⟩
    clear HI0
    by_cases hlt : k < vars.length
    · have hvk := (hI.rv.at_ k (by simpa using hlt)).1
      simp only [List.getElem_map] at hvk
      obtain ⟨hv0, hv8⟩ := hv k hlt
      have hgd : vars.getD k 0 = vars[k] := by simp [hlt]
      rw [hgd] at hv0 hv8
      obtain ⟨q, hq⟩ : ∃ q : Nat, vars[k] = (q : Int) := ⟨vars[k].toNat, by omega⟩
      rw [hq] at hvk hv0 hv8
      have hq8 : q < 8 := by omega
      have hsx := hd64 q
      have hml := markTo_length br live vars dn sp k
      have hm64 := markTo_lt br live vars dn sp hd64 hs64 k q
      have hnext : markTo br live vars dn sp (k + 1) = (markTo br live vars dn sp k).set q (mkFold br live k (vals (dn.getD q 0)) ((markTo br live vars dn sp k).getD q 0)) := by
        simp only [markTo]
        rw [hgd, hq, Int.toNat_natCast]
      obtain ⟨sx, hsxe⟩ : ∃ sx, dn.getD q 0 = sx := ⟨_, rfl⟩
      obtain ⟨m0, hm0⟩ : ∃ m0, markTo br live vars dn sp k = m0 := ⟨_, rfl⟩
      rw [hsxe] at hsx hnext
      rw [hm0] at hnext hml hm64 hI
      have hcD : ∀ A B, ((wr.alloc A).alloc B).cell? ⟨Dm, q, none⟩ = some (.int .u8 (sx : Int)) := fun A B => by
        rw [← hsxe]
        exact (((hI.bD.alloc A).alloc B).cell q).trans (domV_get dn q (by omega))
      have Hnext := hd hnext
      have HI := hd hI
      have hszr : w.heap.size + 1 < wr.heap.size := hI.bP.lt
      clear hnext hsxe hgd hq hI hm0
      gi_wp2_with fail
      obtain ⟨W0, hW0⟩ : ∃ W0, W0 = (wr.alloc (.cells #[.int .i64 (k : Int)] 3)).alloc (.cells #[.int .i64 (q : Int)] 3) := ⟨_, rfl⟩
      have hI1 : MarkI w W0 G g cap w.heap.size Dm Sp nt br live vars dn m0 Ds := by
        rw [hW0]
        exact HI.out.nw (((Fr.refl (fun _ => False) wr).alloc _).alloc _)
      have hb6 : Blk W0 wr.heap.size #[.int .i64 (k : Int)] 3 := by rw [hW0]; exact (Blk.new wr _ _).alloc _
      have hb7 : Blk W0 (wr.heap.size + 1) #[.int .i64 (q : Int)] 3 := by
        rw [hW0]
        have := Blk.new (wr.alloc (.cells #[.int .i64 (k : Int)] 3)) #[.int .i64 (q : Int)] 3
        simpa using this
      have hsz0 : W0.heap.size = wr.heap.size + 2 := by rw [hW0]; simp
      have hDlt : ∀ D ∈ Ds, D < W0.heap.size := hI1.ms.lt
      have hcD0 : W0.cell? ⟨Dm, q, none⟩ = some (.int .u8 (sx : Int)) := by rw [hW0]; exact hcD _ _
      have hc7 : W0.cell? ⟨wr.heap.size + 1, 0, none⟩ = some (.int .i64 (q : Int)) := hb7.cell 0
      rw [← hW0]
      have Hsz0 := hd hsz0
      have HDlt := hd hDlt
      have HI1 := hd hI1
      have Hb6 := hd hb6
      have Hb7 := hd hb7
      clear hW0 hsz0 hDlt hI1 hb6 hb7 hcD
      refine wpIn_wide.2 ?_
      go_still (by kernel_rfl)
      go_wp2
      gi_wp2_with fail
      have hset0 : m0.set q (mkFold br live k [] (m0.getD q 0)) = m0 := by
        show m0.set q (m0.getD q 0) = m0
        apply List.ext_getElem
        · simp
        · intro i h1 h2
          rw [List.getElem_set]
          split
          · rename_i e; subst e; simp [h2]
          · rfl
      have Hset0 := hd hset0
      clear hset0
      show Code.wpIn _ _ _ _ _ _ W0.drew
      refine wp_each (show sx < 256 by omega) rfl (by simp) (fun pre W => MarkI w W G g cap w.heap.size Dm Sp nt br live vars dn (m0.set q (mkFold br live k pre (m0.getD q 0))) Ds ∧ Blk W wr.heap.size #[.int .i64 (k : Int)] 3 ∧ Blk W (wr.heap.size + 1) #[.int .i64 (q : Int)] 3)
        (fun pre A B h hb => ⟨h.1.bk hb (by have := Hsz0.out; show w.heap.size ≤ W0.heap.size; omega) HDlt.out, h.2.1.bk hb, h.2.2.bk hb⟩) ⟨by rw [Hset0.out]; exact HI1.out.drew, Hb6.out.drew, Hb7.out.drew⟩ ?body ?done
      case body =>
        rintro l pre v W hpre ⟨hI2, hb6', hb7'⟩
        have hmem : ∀ x ∈ pre ++ [v], x ∈ vals sx := fun x hx => hpre.subset hx
        have hv6 : v < 6 := vals_lt6 hsx (hmem v (List.mem_append_right pre (List.mem_singleton.2 rfl)))
        have hcG : W.cell? ⟨G, 2 + (6 * k + v), none⟩ = some (.int .u64 (br.getD (6 * k + v) 0 : Nat)) := (hI2.bG.cell _).trans (rsCells_br _ _ _ _ _ (by omega))
        rw [show 2 + (6 * k + v) = 2 + k * 6 + v from by omega] at hcG
        have hcL : W.cell? ⟨G, 26, none⟩ = some (.int .u64 (live : Int)) := (hI2.bG.cell 26).trans (rsCells_live _ _ _ _ h24)
        have hcT : W.cell? ⟨w.heap.size, 0, none⟩ = some (.pointer (some ⟨G, 0, none⟩)) := hI2.bT.cell 0
        have hcP : W.cell? ⟨w.heap.size + 1, 0, none⟩ = some (.pointer (some ⟨Sp, 0, none⟩)) := hI2.bP.cell 0
        have hc6 : W.cell? ⟨wr.heap.size, 0, none⟩ = some (.int .i64 (k : Int)) := hb6'.cell 0
        have hc7 : W.cell? ⟨wr.heap.size + 1, 0, none⟩ = some (.int .i64 (q : Int)) := hb7'.cell 0
        have hmf64 : mkFold br live k pre (m0.getD q 0) < 64 := mkFold_lt br live k pre (fun x hx => vals_lt6 hsx (hmem x (List.mem_append_left _ hx))) _ hm64
        have hcS : W.cell? ⟨Sp, q, none⟩ = some (.int .u8 (mkFold br live k pre (m0.getD q 0) : Nat)) := by
          rw [hI2.bS.cell, domV_get _ _ (by simp; omega)]
          simp [show q < m0.length by omega]
        have hfS := hI2.bS.free q
        have hbl := hbr (6 * k + v)
        have hsn := mkFold_snoc br live k pre v (m0.getD q 0)
        obtain ⟨acc, hacc⟩ : ∃ acc, mkFold br live k pre (m0.getD q 0) = acc := ⟨_, rfl⟩
        obtain ⟨x, hx⟩ : ∃ x, br.getD (6 * k + v) 0 = x := ⟨_, rfl⟩
        rw [hacc] at hcS hmf64 hsn hI2
        rw [hx] at hcG hbl hsn
        have hand := u64_and_nat live x hlive hbl
        have hk0 : (0 : Int) ≤ (k : Int) := by omega
        have hk4 : (k : Int) < 4 := by omega
        have hv0' : (0 : Int) ≤ (v : Int) := by omega
        have hv6' : (v : Int) < 6 := by omega
        have hq0' : (0 : Int) ≤ (q : Int) := by omega
        have hq8' : (q : Int) < 8 := by omega
        have Hsn := hd hsn
        have HI2 := hd hI2
        have Hb6 := hd hb6'
        have Hb7 := hd hb7'
        have Hmem := hd hmem
        clear hsn hacc hx hI2 hb6' hb7' HI1 HI hvk hmem
        by_cases hz : live &&& x = 0
        · rw [hz] at hand
          have hcond : mkFold br live k (pre ++ [v]) (m0.getD q 0) = acc := by rw [Hsn.out, if_pos hz]
          have Hcond := hd hcond
          clear hcond
          gi_wp2_with fail
          refine wpIn_tail 13 (by kernel_rfl) (by kernel_rfl) (fun a w h => h) ?_
          simp only [List.take_succ_cons, List.take_zero, List.drop_succ_cons, List.drop_zero]
          repeat still_step
          refine wpStill_nil ?_
          go_wp2
          gi_wp2
          refine ⟨((Fr.refl (fun _ => False) W).drew).keeps (fun _ x => x.elim), ?_, Hb6.out.drew, Hb7.out.drew⟩
          rw [Hcond.out]
          exact HI2.out.drew
        · have hnz : (((live &&& x : Nat) : Int) != 0) = true := by simp; omega
          have hcond : mkFold br live k (pre ++ [v]) (m0.getD q 0) = acc ||| 2 ^ v := by rw [Hsn.out, if_neg hz]
          have Hcond := hd hcond
          have hpv : 2 ^ v < 64 := Nat.pow_lt_pow_right (m := v) (n := 6) (by omega) hv6
          have hor := u8_or_nat acc (2 ^ v) (by omega) (by omega)
          have hone := one_any v W.drew.drew (by omega)
          obtain ⟨pv, hpve⟩ : ∃ pv, 2 ^ v = pv := ⟨_, rfl⟩
          rw [hpve] at Hcond hpv hor hone
          have Hone := hd hone
          clear hcond hpve hz hone
          gi_wp2_with fail
          refine wpIn_tail 13 (by kernel_rfl) (by kernel_rfl) (fun a w h => h) ?_
          simp only [List.take_succ_cons, List.take_zero, List.drop_succ_cons, List.drop_zero]
          repeat still_step
          refine wpStill_nil ?_
          go_wp2
          gi_wp2_with fail
          refine wpIn_tail 10 (by kernel_rfl) (by kernel_rfl) (fun a w h => h) ?_
          simp only [List.take_succ_cons, List.take_zero, List.drop_succ_cons, List.drop_zero]
          still_step
          still_step
          still_step
          still_step
          still_step
          still_step
          still_call Hone.out
          repeat still_step
          refine wpStill_nil ?_
          go_wp2
          have hF : Fr (fun j => j = Sp) W (W.setCell ⟨Sp, q, none⟩ (.int .u8 ((acc ||| pv : Nat) : Int))).drew.drew := (((Fr.refl (fun j => j = Sp) W).setCell _ _ (.inl rfl)).drew).drew
          refine ⟨hF.keeps (fun j hj => by subst hj; exact ⟨_, _, HI2.out.bS⟩), ?_, Hb6.out.fr hF (by omega), Hb7.out.fr hF (by omega)⟩
          rw [Hcond.out]
          have h5 := ((HI2.out.put q (acc ||| pv) hSG (by omega) (by omega) hne hSg).drew).drew
          rw [List.set_set] at h5
          exact h5
      case done =>
        rintro D W hD ⟨hI2, hb6', hb7'⟩ hK
        have hDs : Marks W w.heap.size (D :: Ds) := hI2.ms.cons (by have := Hsz0.out; have hD' : W0.heap.size ≤ D := hD; omega) (fun E hE => by have := HDlt.out E hE; have hD' : W0.heap.size ≤ D := hD; omega) hK
        have hI3 : MarkI w W G g cap w.heap.size Dm Sp nt br live vars dn (markTo br live vars dn sp (k + 1)) (D :: Ds) := by
          rw [Hnext.out]
          exact ⟨hI2.fr, hI2.bG, hI2.bT, hI2.bP, hI2.bD, hI2.bS, hI2.rv, hDs⟩
        have HI3 := hd hI3
        clear hI3 hDs hI2 hb6' hb7' hK hvk HI HI1
        gi_wp2
        refine ⟨⟨k + 1, D :: Ds, _, _, _, _, _, _, _, _, _, _, _, _, _, _, _, _, _, _, _, _, _, _, _, _, _, _, _, _, _, _, _, _, _, _, _, _, _, _, _, by omega, HI3.out, rfl⟩, by simp [intOf]; omega⟩
    · obtain rfl : k = vars.length := by omega
      gi_wp2
      refine leaves_marks (fun A => Fr (fun j => j = Sp) w A ∧ Blk A Sp (domV (markTo br live vars dn sp vars.length)) 76) w.heap.size
        (fun A B h hb => ⟨h.1.bk hb (Nat.le_refl _), h.2.bk hb⟩) (fun A h => ⟨_, results_none rfl _ _ _, rfl, h.1, h.2⟩) Ds wr ⟨hI.fr, hI.bS⟩ hI.ms
end Go.Proofs.Ytkjfpdfkcfgfkaa
