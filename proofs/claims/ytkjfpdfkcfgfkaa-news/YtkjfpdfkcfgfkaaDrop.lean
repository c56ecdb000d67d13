/- Contract of rowSets.drop. -/
import Derived.Test.YtkjfpdfkcfgfkaaEmpt
import Derived.Test.YtkjfpdfkcfgfkaaTail
namespace Go.Proofs.Ytkjfpdfkcfgfkaa
open Go.RowKit Go.Shelf
attribute [local go_sem] Oper.semAt_some

/-- The rows that bear one of some values at an entry. -/
def orBr (br : List Nat) (i : Nat) (vs : List Nat) : Nat := vs.foldl (fun acc v => acc ||| br.getD (6 * i + v) 0) 0
theorem orBr_snoc (br : List Nat) (i : Nat) (vs : List Nat) (v : Nat) : orBr br i (vs ++ [v]) = orBr br i vs ||| br.getD (6 * i + v) 0 := by simp [orBr]
theorem orBr_lt (br : List Nat) (i : Nat) (hbr : ∀ j, br.getD j 0 < 18446744073709551616) (vs : List Nat) : orBr br i vs < 18446744073709551616 := by
  suffices h : ∀ (vs : List Nat) (acc : Nat), acc < 2 ^ 64 → vs.foldl (fun acc v => acc ||| br.getD (6 * i + v) 0) acc < 2 ^ 64 from h vs 0 (by decide)
  intro vs
  induction vs with
  | nil => intro acc h; exact h
  | cons v vs ih => intro acc h; exact ih _ (Nat.or_lt_two_pow h (hbr _))
/-- The live rows when the first k entries have been looked at. -/
def dropTo (br : List Nat) (vars : List Int) (dn : List Nat) (live : Nat) : Nat → Nat
  | 0 => live
  | k + 1 => dropTo br vars dn live k &&& orBr br k (vals (dn.getD (vars.getD k 0).toNat 0))
theorem dropTo_lt (br : List Nat) (vars : List Int) (dn : List Nat) (live : Nat) (hl : live < 18446744073709551616) : ∀ k, dropTo br vars dn live k < 18446744073709551616
  | 0 => hl
  | k + 1 => Nat.lt_of_le_of_lt Nat.and_le_left (dropTo_lt br vars dn live hl k)

theorem vals_lt6_fin : ∀ s : Fin 64, ∀ v ∈ vals s.val, v < 6 := by decide +kernel
theorem vals_lt6 {s v : Nat} (hs : s < 64) (hv : v ∈ vals s) : v < 6 := vals_lt6_fin ⟨s, hs⟩ v hv

/-- What holds between two rounds of drop. -/
structure DropI (w wr : World) (G g cap T : Nat) (nt : Bool) (br : List Nat) (live : Nat) (vars : List Int) (dn Ds : List Nat) : Prop where
  fr : Fr (fun k => k = G) w wr
  bG : Blk wr G (rsCells (.slice (some ⟨g, 0, none⟩) vars.length cap) nt br live) 142
  bT : Blk wr T #[.pointer (some ⟨G, 0, none⟩)] 115
  bD : Blk wr (T + 1) (domV dn) 76
  rv : Row wr (.slice (some ⟨g, 0, none⟩) vars.length cap) 3 (vars.map (Value.int .i64))
  ms : Marks wr w.heap.size Ds
theorem DropI.ext {w wr wx : World} {G g cap T : Nat} {nt : Bool} {br : List Nat} {live : Nat} {vars : List Int} {dn Ds : List Nat} {S : Nat → Prop} (h : DropI w wr G g cap T nt br live vars dn Ds) (f : Fr S wr wx)
    (hs : ∀ k, S k → wr.heap.size ≤ k) : DropI w wx G g cap T nt br live vars dn Ds := by
  have hn : ∀ k, k < wr.heap.size → ¬ S k := fun k hk hS => by have := hs k hS; omega
  have f' : Nw wr wx := f.mono (fun k hk => .inr (hs k hk))
  exact ⟨h.fr.trans f' (fun i x => x.elim), h.bG.nw f', h.bT.nw f', h.bD.nw f', h.rv.nw f', h.ms.keeps (f'.keeps (fun k x => x.elim))⟩
theorem DropI.bk {w wr wx : World} {G g cap T lo : Nat} {nt : Bool} {br : List Nat} {live : Nat} {vars : List Int} {dn Ds : List Nat} (h : DropI w wr G g cap T nt br live vars dn Ds) (hb : Bk lo wr wx) (hl : w.heap.size ≤ lo) (hD : ∀ D ∈ Ds, D < lo) :
    DropI w wx G g cap T nt br live vars dn Ds := ⟨h.fr.bk hb hl, h.bG.bk hb, h.bT.bk hb, h.bD.bk hb, h.rv.bk hb, h.ms.bk hD hb⟩
theorem DropI.put {w wr : World} {G g cap T : Nat} {nt : Bool} {br : List Nat} {live : Nat} {vars : List Int} {dn Ds : List Nat} (h : DropI w wr G g cap T nt br live vars dn Ds) (p : Addr) (u : Value) {cur : Array Value} {e : TypeId} (hp : Blk wr p.block cur e)
    (h1 : p.block ≠ G) (h2 : p.block ≠ T) (h3 : p.block ≠ T + 1) (h4 : p.block ≠ g) (h5 : w.heap.size ≤ p.block) : DropI w (wr.setCell p u) G g cap T nt br live vars dn Ds := by
  have f : Fr (fun k => k = p.block) wr (wr.setCell p u) := (Fr.refl _ wr).setCell p u (.inl rfl)
  exact ⟨h.fr.setCell p u (.inr h5), h.bG.other p u h1.symm, h.bT.other p u h2.symm, h.bD.other p u h3.symm, h.rv.fr f (fun k hk e => h4 (by cases hk; exact e.symm)),
    h.ms.keeps (f.keeps (fun k hk => by subst hk; exact ⟨_, _, hp⟩))⟩
theorem DropI.drew {w wr : World} {G g cap T : Nat} {nt : Bool} {br : List Nat} {live : Nat} {vars : List Int} {dn Ds : List Nat} (h : DropI w wr G g cap T nt br live vars dn Ds) : DropI w wr.drew G g cap T nt br live vars dn Ds :=
  ⟨h.fr.drew, h.bG, h.bT, h.bD, h.rv.drew, h.ms⟩

set_option maxHeartbeats 3200000 in
set_option maxRecDepth 1000000 in
theorem drop_any (G g cap : Nat) (nt : Bool) (br : List Nat) (live : Nat) (vars : List Int) (dn : List Nat) (w : World) (hG : Blk w G (rsCells (.slice (some ⟨g, 0, none⟩) vars.length cap) nt br live) 142)
    (hvs : Row w (.slice (some ⟨g, 0, none⟩) vars.length cap) 3 (vars.map (Value.int .i64))) (h8 : dn.length = 8) (h24 : br.length = 24) (hbr : ∀ j, br.getD j 0 < 18446744073709551616) (hlive : live < 18446744073709551616)
    (h4 : vars.length ≤ 4) (hv : ∀ i, i < vars.length → 0 ≤ vars.getD i 0 ∧ vars.getD i 0 < 8) (hd64 : ∀ q, dn.getD q 0 < 64) :
    Calls Try.prog 115 #[.pointer (some ⟨G, 0, none⟩), .agg (domV dn)] w fun e w' => e = .returned (.tuple #[]) ∧ Fr (fun k => k = G) w w' ∧
      Blk w' G (rsCells (.slice (some ⟨g, 0, none⟩) vars.length cap) nt br (dropTo br vars dn live vars.length)) 142 := by
  have hmf : ∀ (fn : Fn) (first cap : Array Value) (w : World), (Instr.makeFunc fn first cap).run Try.prog w = .ok (.func fn first cap) w := fun _ _ _ _ => rfl
  refine (callsIn_wide (n := 9)).1 ?_
  refine callsIn_of_wp_marks Try.func115 rfl trivial ?_ rfl
  simp only [Try.ntmps115, List.size_toArray, List.length_cons, List.length_nil, Nat.reduceAdd, Nat.reduceSub, Array.replicate_succ, Array.replicate_zero, List.push_toArray, List.append_toArray, List.nil_append, List.cons_append]
  have hc0 : w.cell? ⟨G, 0, none⟩ = some (.slice (some ⟨g, 0, none⟩) vars.length cap) := hG.cell 0
  have hGlt := hG.lt
  have hglt : g < w.heap.size := hvs.lt rfl
  have hgG : g ≠ G := fun e => by subst e; exact hvs.ne hG (by decide) rfl
  have hF0 : Nw w ((w.alloc (.cells #[.pointer (some ⟨G, 0, none⟩)] 115)).alloc (.cells (domV dn) 76)) := ((Fr.refl _ w).alloc _).alloc _
  have hI0 : DropI w ((w.alloc (.cells #[.pointer (some ⟨G, 0, none⟩)] 115)).alloc (.cells (domV dn) 76)) G g cap w.heap.size nt br live vars dn [] :=
    ⟨hF0.mono (fun i h => h.elim), hG.nw hF0, (Blk.new w _ _).alloc _, by have := Blk.new (w.alloc (.cells #[.pointer (some ⟨G, 0, none⟩)] 115)) (domV dn) 76; simpa using this, hvs.nw hF0, Marks.nil _ _⟩
  gi_wp2_with fail
  have HI0 := hd hI0
  clear hI0 hG hvs hc0 hF0
  refine wpIn_loop (fun a wr => ∃ (k : Nat) (Ds : List Nat) (u4 u5 u6 u7 u15 u16 u17 u18 u19 u20 u21 u22 u23 u24 u25 u26 u27 u28 u29 u30 u31 u32 u33 u34 u35 u36 u37 u38 u39 u40 u41 u42 : Value), k ≤ vars.length ∧ DropI w wr G g cap w.heap.size nt br (dropTo br vars dn live k) vars dn Ds ∧
    a = { tmps := #[.pointer (some ⟨G, 0, none⟩), .agg (domV dn), .pointer (some ⟨w.heap.size, 0, none⟩), .pointer (some ⟨w.heap.size + 1, 0, none⟩), u4, u5, u6, u7, .pointer (some ⟨G, 0, none⟩), .pointer (some ⟨G, 0, none⟩), .pointer (some ⟨G, 0, none⟩), .pointer (some ⟨G, 0, none⟩), .slice (some ⟨g, 0, none⟩) vars.length cap, .int .i64 vars.length, .int .i64 k, u15, u16, u17, u18, u19, u20, u21, u22, u23, u24, u25, u26, u27, u28, u29, u30, u31, u32, u33, u34, u35, u36, u37, u38, u39, u40, u41, u42], defers := Ds.map mark }) (fun a _ => vars.length - (intOf (a.tmps.getD 14 undef)).toNat) ?start ?round
  case start => exact ⟨0, [], undef, undef, undef, undef, undef, undef, undef, undef, undef, undef, undef, undef, undef, undef, undef, undef, undef, undef, undef, undef, undef, undef, undef, undef, undef, undef, undef, undef, undef, undef, undef, undef, Nat.zero_le _, HI0.out, rfl⟩
  case round =>
    rintro a wr ⟨k, Ds, u4, u5, u6, u7, u15, u16, u17, u18, u19, u20, u21, u22, u23, u24, u25, u26, u27, u28, u29, u30, u31, u32, u33, u34, u35, u36, u37, u38, u39, u40, u41, u42, hk, hI, rfl⟩
    clear HI0
    by_cases hlt : k < vars.length
    · have hvk := (hI.rv.at_ k (by simpa using hlt)).1
      simp only [List.getElem_map] at hvk
      obtain ⟨hv0, hv8⟩ := hv k hlt
      have hgd : vars.getD k 0 = vars[k] := by simp [hlt]
      rw [hgd] at hv0 hv8
      obtain ⟨q, hq⟩ : ∃ q : Nat, vars[k] = (q : Int) := ⟨vars[k].toNat, by omega⟩
      rw [hq] at hvk hv0 hv8
      have hq8 : q < 8 := by omega
      have hsx := hd64 q
      have hcD : ∀ A B, ((wr.alloc A).alloc B).cell? ⟨w.heap.size + 1, q, none⟩ = some (.int .u8 (dn.getD q 0 : Nat)) := fun A B => (((hI.bD.alloc A).alloc B).cell q).trans (domV_get dn q (by omega))
      have hnext : dropTo br vars dn live (k + 1) = dropTo br vars dn live k &&& orBr br k (vals (dn.getD q 0)) := by
        simp only [dropTo]
        rw [hgd, hq, Int.toNat_natCast]
      obtain ⟨sx, hsxe⟩ : ∃ sx, dn.getD q 0 = sx := ⟨_, rfl⟩
      rw [hsxe] at hcD hsx hnext
      have Hnext := hd hnext
      have HI := hd hI
      have hszr : w.heap.size + 1 < wr.heap.size := hI.bD.lt
      clear hnext hsxe hgd hq hI
      gi_wp2_with fail
      obtain ⟨W0, hW0⟩ : ∃ W0, W0 = (wr.alloc (.cells #[.int .i64 (k : Int)] 3)).alloc (.cells #[.int .u64 0] 138) := ⟨_, rfl⟩
      have hI1 : DropI w W0 G g cap w.heap.size nt br (dropTo br vars dn live k) vars dn Ds := by
        rw [hW0]
        exact HI.out.ext (((Fr.refl (fun _ => False) wr).alloc _).alloc _) (fun k x => x.elim)
      have hb4 : Blk W0 wr.heap.size #[.int .i64 (k : Int)] 3 := by rw [hW0]; exact (Blk.new wr _ _).alloc _
      have hb6 : Blk W0 (wr.heap.size + 1) #[.int .u64 0] 138 := by
        rw [hW0]
        have := Blk.new (wr.alloc (.cells #[.int .i64 (k : Int)] 3)) #[.int .u64 0] 138
        simpa using this
      have hsz0 : W0.heap.size = wr.heap.size + 2 := by rw [hW0]; simp
      have hDlt : ∀ D ∈ Ds, D < W0.heap.size := hI1.ms.lt
      rw [← hW0]
      have Hsz0 := hd hsz0
      have HDlt := hd hDlt
      clear hW0 hsz0 hDlt
      refine wp_each (show sx < 256 by omega) rfl (by simp) (fun pre W => DropI w W G g cap w.heap.size nt br (dropTo br vars dn live k) vars dn Ds ∧ Blk W wr.heap.size #[.int .i64 (k : Int)] 3 ∧ Blk W (wr.heap.size + 1) #[.int .u64 (orBr br k pre : Nat)] 138)
        (fun pre A B h hb => ⟨h.1.bk hb (by have := Hsz0.out; omega) HDlt.out, h.2.1.bk hb, h.2.2.bk hb⟩) ⟨hI1, hb4, hb6⟩ ?body ?done
      case body =>
        rintro l pre v W hpre ⟨hI2, hb4', hb6'⟩
        have hv6 : v < 6 := vals_lt6 hsx (by have := hpre.subset (List.mem_append_right pre (List.mem_singleton.2 rfl)); exact this)
        have hcG : W.cell? ⟨G, 2 + (6 * k + v), none⟩ = some (.int .u64 (br.getD (6 * k + v) 0 : Nat)) := (hI2.bG.cell _).trans (rsCells_br _ _ _ _ _ (by omega))
        rw [show 2 + (6 * k + v) = 2 + k * 6 + v from by omega] at hcG
        have hcT : W.cell? ⟨w.heap.size, 0, none⟩ = some (.pointer (some ⟨G, 0, none⟩)) := hI2.bT.cell 0
        have hc4 : W.cell? ⟨wr.heap.size, 0, none⟩ = some (.int .i64 (k : Int)) := hb4'.cell 0
        have hc6 : W.cell? ⟨wr.heap.size + 1, 0, none⟩ = some (.int .u64 (orBr br k pre : Nat)) := hb6'.cell 0
        have hf6 := hb6'.free 0
        have hol := orBr_lt br k hbr pre
        have hbl := hbr (6 * k + v)
        have hsn := orBr_snoc br k pre v
        obtain ⟨acc, hacc⟩ : ∃ acc, orBr br k pre = acc := ⟨_, rfl⟩
        obtain ⟨x, hx⟩ : ∃ x, br.getD (6 * k + v) 0 = x := ⟨_, rfl⟩
        rw [hacc] at hc6 hol hsn
        rw [hx] at hcG hbl hsn
        have Hsn := hd hsn
        have HI2 := hd hI2
        have Hb4 := hd hb4'
        have Hb6 := hd hb6'
        have hk0 : (0 : Int) ≤ (k : Int) := by omega
        have hk4 : (k : Int) < 4 := by omega
        have hv0' : (0 : Int) ≤ (v : Int) := by omega
        have hv6' : (v : Int) < 6 := by omega
        clear hsn hacc hx hI2 hb4' hb6' hI1 hb4 hb6 HI hvk hcD
        gi_wp2_with fail
        refine wpIn_tail 10 (by kernel_rfl) (by kernel_rfl) (fun a w h => h) ?_
        simp only [List.take_succ_cons, List.take_zero, List.drop_succ_cons, List.drop_zero]
        repeat still_step
        refine wpStill_nil ?_
        go_wp2
        have hI3 := (HI2.out.put ⟨wr.heap.size + 1, 0, none⟩ (.int .u64 (bits .or .u64 (acc : Int) (x : Int))) Hb6.out (by show wr.heap.size + 1 ≠ G; omega) (by show wr.heap.size + 1 ≠ w.heap.size; omega) (by show wr.heap.size + 1 ≠ w.heap.size + 1; omega) (by show wr.heap.size + 1 ≠ g; omega) (by show w.heap.size ≤ wr.heap.size + 1; omega)).drew
        have hF : Fr (fun j => j = wr.heap.size + 1) W (W.setCell ⟨wr.heap.size + 1, 0, none⟩ (.int .u64 (bits .or .u64 (acc : Int) (x : Int)))).drew := ((Fr.refl (fun j => j = wr.heap.size + 1) W).setCell _ _ (.inl rfl)).drew
        refine ⟨hF.keeps (fun j hj => by subst hj; exact ⟨_, _, Hb6.out⟩), hI3, Hb4.out.fr hF (by omega), ?_⟩
        have h6 := Hb6.out.set 0 (.int .u64 (bits .or .u64 (acc : Int) (x : Int)))
        rw [Hsn.out, ← u64_or_nat acc x hol hbl]
        exact h6.drew
      case done =>
        rintro D W hD ⟨hI2, hb4', hb6'⟩ hK
        have hol := orBr_lt br k hbr (vals sx)
        have hdl := dropTo_lt br vars dn live hlive k
        have hDs : Marks W w.heap.size (D :: Ds) := hI2.ms.cons (by have := Hsz0.out; omega) (fun E hE => by have := HDlt.out E hE; omega) hK
        have hcT : W.cell? ⟨w.heap.size, 0, none⟩ = some (.pointer (some ⟨G, 0, none⟩)) := hI2.bT.cell 0
        have hcL : W.cell? ⟨G, 26, none⟩ = some (.int .u64 (dropTo br vars dn live k : Nat)) := (hI2.bG.cell 26).trans (rsCells_live _ _ _ _ h24)
        have hfL := hI2.bG.free 26
        have hc6 : W.cell? ⟨wr.heap.size + 1, 0, none⟩ = some (.int .u64 (orBr br k (vals sx) : Nat)) := hb6'.cell 0
        obtain ⟨acc, hacc⟩ : ∃ acc, orBr br k (vals sx) = acc := ⟨_, rfl⟩
        obtain ⟨lv, hlv⟩ : ∃ lv, dropTo br vars dn live k = lv := ⟨_, rfl⟩
        rw [hacc] at hc6 hol Hnext
        rw [hlv] at hcL hdl Hnext hI2
        have HI2 := hd hI2
        have HDs := hd hDs
        clear hacc hlv hI2 hb4' hb6' hI1 hb4 hb6 HI hvk hcD hDs hK
        gi_wp2_with fail
        refine wpIn_wide.2 ?_
        go_still_tail 8, (by kernel_rfl)
        go_wp2
        have hF : Fr (fun j => j = G) W (W.setCell ⟨G, 26, none⟩ (.int .u64 (bits .and .u64 (lv : Int) (acc : Int)))).drew := ((Fr.refl (fun j => j = G) W).setCell _ _ (.inl rfl)).drew
        have hI3 : DropI w (W.setCell ⟨G, 26, none⟩ (.int .u64 (bits .and .u64 (lv : Int) (acc : Int)))).drew G g cap w.heap.size nt br (dropTo br vars dn live (k + 1)) vars dn (D :: Ds) := by
          refine ⟨HI2.out.fr.trans hF (fun i h => .inl h), ?_, HI2.out.bT.fr hF (by omega), HI2.out.bD.fr hF (by omega), HI2.out.rv.fr hF (fun j hj e => hgG (by cases hj; exact e)), HDs.out.keeps (hF.keeps (fun j hj => by subst hj; exact ⟨_, _, HI2.out.bG⟩))⟩
          have h6 := HI2.out.bG.set 26 (.int .u64 ((lv &&& acc : Nat) : Int))
          rw [rsCells_setLive _ _ _ _ _ h24, ← u64_and_nat lv acc hdl hol, ← Hnext.out] at h6
          exact h6.drew
        have HI3 := hd hI3
        clear hI3
        gi_wp2
        refine ⟨⟨k + 1, D :: Ds, _, _, _, _, _, _, _, _, _, _, _, _, _, _, _, _, _, _, _, _, _, _, _, _, _, _, _, _, _, _, _, _, by omega, HI3.out, rfl⟩, by simp [intOf]; omega⟩
    · obtain rfl : k = vars.length := by omega
      gi_wp2
      refine leaves_marks (fun A => Fr (fun j => j = G) w A ∧ Blk A G (rsCells (.slice (some ⟨g, 0, none⟩) vars.length cap) nt br (dropTo br vars dn live vars.length)) 142) w.heap.size
        (fun A B h hb => ⟨h.1.bk hb (Nat.le_refl _), h.2.bk hb⟩) (fun A h => ⟨_, results_none rfl _ _ _, rfl, h.1, h.2⟩) Ds wr ⟨hI.fr, hI.bG⟩ hI.ms
end Go.Proofs.Ytkjfpdfkcfgfkaa
