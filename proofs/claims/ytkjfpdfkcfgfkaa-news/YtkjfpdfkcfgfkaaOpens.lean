/- Contract of the statement's helper 'opens'. -/
import Derived.Test.YtkjfpdfkcfgfkaaRefNew
import Derived.Test.YtkjfpdfkcfgfkaaLaw3
namespace Go.Proofs.Ytkjfpdfkcfgfkaa
open Go.RowKit

theorem Try.infoSide : (Try.prog.info? 68).map (fun i => (i.zero, i.size, i.bytes)) = some (some (.pointer none), 1, 8) := by kernel_rfl

theorem new_ok (b o : Nat) (cap : Nat) (zs : List Int) (w : World) (h1 : 1 ≤ zs.length) (h8 : zs.length ≤ 8) (h : IntsAt w (some ⟨b, o, none⟩) zs) (hok : okSizes zs = true) :
    Calls Try.prog 30 #[.slice (some ⟨b, o, none⟩) zs.length cap] w fun e w' =>
      Nw w w' ∧ ∃ B szv, e = .returned (.tuple #[.pointer (some ⟨B, 0, none⟩), .int .i64 0]) ∧ Blk w' B (workCells szv (fullTo zs zs.length) (.slice none 0 0) rest0) 82 ∧
          Row w' szv 3 (zs.map (Value.int .i64)) ∧ w.heap.size ≤ B ∧ (∀ k, szv.ownBlock = some k → w.heap.size ≤ k) :=
  (new_any b o cap zs w h1 h8 h).mono fun e w' ⟨hf, hr⟩ => ⟨hf, hr.elim (fun x => x.2) (fun x => by rw [hok] at x; cases x.1)⟩
theorem new_no (b o : Nat) (cap : Nat) (zs : List Int) (w : World) (h1 : 1 ≤ zs.length) (h8 : zs.length ≤ 8) (h : IntsAt w (some ⟨b, o, none⟩) zs) (hok : okSizes zs = false) :
    Calls Try.prog 30 #[.slice (some ⟨b, o, none⟩) zs.length cap] w fun e w' => Nw w w' ∧ e = .returned (.tuple #[.pointer none, .int .i64 1]) :=
  (new_any b o cap zs w h1 h8 h).mono fun e w' ⟨hf, hr⟩ => ⟨hf, hr.elim (fun x => by rw [hok] at x; cases x.1) (fun x => x.2)⟩
theorem refNew_ok (b o : Nat) (cap : Nat) (zs : List Int) (w : World) (h1 : 1 ≤ zs.length) (h8 : zs.length ≤ 8) (h : IntsAt w (some ⟨b, o, none⟩) zs) (hok : okSizes zs = true) :
    Calls Try.prog 33 #[.slice (some ⟨b, o, none⟩) zs.length cap] w fun e w' =>
      Nw w w' ∧ ∃ B, e = .returned (.pointer (some ⟨B, 0, none⟩)) ∧ w.heap.size ≤ B ∧ RefAt w' w.heap.size B zs (allIn zs zs.length) false nilS nilS :=
  (refNew_any b o cap zs w h1 h8 h).mono fun e w' ⟨hf, hr⟩ => ⟨hf, hr.elim (fun x => x.2) (fun x => by rw [hok] at x; cases x.1)⟩
theorem refNew_no (b o : Nat) (cap : Nat) (zs : List Int) (w : World) (h1 : 1 ≤ zs.length) (h8 : zs.length ≤ 8) (h : IntsAt w (some ⟨b, o, none⟩) zs) (hok : okSizes zs = false) :
    Calls Try.prog 33 #[.slice (some ⟨b, o, none⟩) zs.length cap] w fun e w' => Nw w w' ∧ e = .returned (.pointer none) :=
  (refNew_any b o cap zs w h1 h8 h).mono fun e w' ⟨hf, hr⟩ => ⟨hf, hr.elim (fun x => by rw [hok] at x; cases x.1) (fun x => x.2)⟩

/-- The document's Work stays as it is where what is written are no blocks of its kinds from lo on. -/
theorem RefAt.fr {S : Nat → Prop} {w w' : World} {lo B : Nat} {zs : List Int} {bss : List (List Bool)} {dead : Bool} {tv lv : Value} (h : RefAt w lo B zs bss dead tv lv) (f : Fr S w w')
    (hn : ∀ k, S k → k ≠ B ∧ ¬ lo ≤ k) : RefAt w' lo B zs bss dead tv lv := by
  obtain ⟨szv, inv, vs, hB, hsz, hin, hvs, h1, h2⟩ := h.ex
  refine ⟨szv, inv, vs, hB.fr f (fun e => (hn _ e).1 rfl), hsz.fr f (fun k hk e => (hn k e).2 (h1 k hk)), hin.fr f (fun k hk e => (hn k e).2 (h2 k hk)), ?_, h1, h2⟩
  exact ⟨hvs.len, fun i hi => (hvs.row i hi).fr f (fun k hk e => (hn k e).2 (hvs.lo i hi k hk)), hvs.ne, hvs.lo⟩

theorem RefAt.lower {w : World} {lo lo' B : Nat} {zs : List Int} {bss : List (List Bool)} {dead : Bool} {tv lv : Value} (h : RefAt w lo B zs bss dead tv lv) (hl : lo' ≤ lo) : RefAt w lo' B zs bss dead tv lv := by
  obtain ⟨szv, inv, vs, hB, hsz, hin, hvs, h1, h2⟩ := h.ex
  exact ⟨szv, inv, vs, hB, hsz, hin, ⟨hvs.len, hvs.row, hvs.ne, fun i hi k hk => Nat.le_trans hl (hvs.lo i hi k hk)⟩, fun k hk => Nat.le_trans hl (h1 k hk), fun k hk => Nat.le_trans hl (h2 k hk)⟩

set_option maxHeartbeats 1600000 in
set_option maxRecDepth 1000000 in
/-- Too few or too many sizes: nothing is opened. -/
theorem opens_len (B : Nat) (sv nv tv rv : Value) (ts : List Value) (ao : Option Addr) (cap : Nat) (zs : List Int) (w : World) (hz : zs.length * 8 ≤ 140737488351232)
    (hB : Blk w B #[sv, nv, tv, rv] 28) (htv : Row w tv 22 ts) (hts : (ts.length + 1) * 24 ≤ 140737488355328) (hl : IntsAt w ao zs) (hlen : zs.length < 1 ∨ 8 < zs.length) :
    Calls Try.prog 10 #[.pointer (some ⟨B, 0, none⟩), .slice ao zs.length cap] w fun e w' =>
      e = .returned (.bool true) ∧ ∃ tv', Fr (fun k => k = B ∨ tv.ownBlock = some k) w w' ∧ Blk w' B #[sv, nv, tv', rv] 28 ∧
        Row w' tv' 22 (ts ++ [.slice (some ⟨w.heap.size, 0, none⟩) (zs.length + 1) (zs.length + 1)]) ∧ Blk w' w.heap.size (turnedTo zs (zs.length + 1)) 3 ∧
        (∀ k, tv'.ownBlock = some k → tv.ownBlock = some k ∨ w.heap.size ≤ k) := by
  have hBlt := hB.lt
  go_enter Try.func10, Try.ntmps10
  go_wp2_with (first
    | (go_at_call 32; refine (lent_any _ _ zs _ (by omega) hl).mono ?_; rintro e w1 ⟨rfl, hf1, hg1⟩)
    | (go_at_call 30; refine (new_len _ _ _ _ (by omega) hlen).mono ?_; rintro e w2 ⟨rfl, rfl⟩)
    | (go_at_call 33; refine (refNew_len _ _ _ _ (by omega) hlen).mono ?_; rintro e w2 ⟨rfl, rfl⟩)
    | (go_at_call 34; refine (returned_any B w.heap.size ao cap zs sv nv tv rv ts _ (by omega) (hB.nw hf1) (htv.nw hf1) hts hg1 (hl.nw hf1)).mono ?_; rintro e w2 ⟨rfl, tv', hf2, hB2, htv2, hg2, hlo2⟩))
  go_ret
  refine ⟨rfl, tv', hf1.mono (fun i h => h.elim) |>.trans hf2 ?_, hB2, htv2, hg2, ?_⟩
  · rintro i (h | h | h)
    · exact .inl (.inl h)
    · exact .inr (by omega)
    · exact .inl (.inr h)
  · intro k hk
    rcases hlo2 k hk with h | h
    · exact .inl h
    · exact .inr (Nat.le_trans hf1.size h)

/-- A side in memory: the program's fretwork, and the document's; nothing is gone through. -/
def sideCells (X Y : Nat) : Array Value := #[.pointer (some ⟨X, 0, none⟩), .pointer (some ⟨Y, 0, none⟩), .bool false, .nilFunc, .nilFunc]

theorem opens_apart {w : World} {B g : Nat} {sv tv : Value} {ss ts : List Value} {c1 c2 : Array Value} (hsv : Row w sv 68 ss) (hB : Blk w B c1 28) (hg : Blk w g c2 3) (htv : Row w tv 22 ts)
    (k : Nat) (hk : sv.ownBlock = some k) (e : k = B ∨ k = g ∨ tv.ownBlock = some k) : False := by
  rcases e with e | e | e
  · subst e; exact hsv.ne hB (by decide) hk
  · subst e; exact hsv.ne hg (by decide) hk
  · obtain ⟨cur, hb, _⟩ := htv.blk e
    exact hsv.ne hb (by decide) hk

set_option maxHeartbeats 1600000 in
set_option maxRecDepth 1000000 in
/-- Of a right number of sizes: nothing is opened if one is wrong; else there is one side more. -/
theorem opens_any (B : Nat) (sv nv tv rv : Value) (ss ts : List Value) (ao : Option Addr) (cap : Nat) (zs : List Int) (w : World) (hlen : 1 ≤ zs.length) (hlen8 : zs.length ≤ 8)
    (hB : Blk w B #[sv, nv, tv, rv] 28) (htv : Row w tv 22 ts) (hts : (ts.length + 1) * 24 ≤ 140737488355328) (hsv : Row w sv 68 ss) (hss : (ss.length + 1) * 8 ≤ 140737488355328) (hl : IntsAt w ao zs) :
    Calls Try.prog 10 #[.pointer (some ⟨B, 0, none⟩), .slice ao zs.length cap] w fun e w' =>
      e = .returned (.bool true) ∧ ∃ sv' tv', Fr (fun k => k = B ∨ tv.ownBlock = some k ∨ sv.ownBlock = some k) w w' ∧ Blk w' B #[sv', nv, tv', rv] 28 ∧
        Row w' tv' 22 (ts ++ [.slice (some ⟨w.heap.size, 0, none⟩) (zs.length + 1) (zs.length + 1)]) ∧ Blk w' w.heap.size (turnedTo zs (zs.length + 1)) 3 ∧
        (∀ k, tv'.ownBlock = some k → tv.ownBlock = some k ∨ w.heap.size ≤ k) ∧
        ((okSizes zs = false ∧ sv' = sv ∧ Row w' sv 68 ss) ∨ (okSizes zs = true ∧ ∃ D X Y szv, Row w' sv' 68 (ss ++ [.pointer (some ⟨D, 0, none⟩)]) ∧ (∀ k, sv'.ownBlock = some k → sv.ownBlock = some k ∨ w.heap.size ≤ k) ∧
          Blk w' D (sideCells X Y) 70 ∧ Blk w' X (workCells szv (fullTo zs zs.length) nilS rest0) 82 ∧ Row w' szv 3 (zs.map (Value.int .i64)) ∧ RefAt w' w.heap.size Y zs (allIn zs zs.length) false nilS nilS ∧
          w.heap.size ≤ D ∧ w.heap.size ≤ X ∧ w.heap.size ≤ Y ∧ (∀ k, szv.ownBlock = some k → w.heap.size ≤ k))) := by
  have hBlt := hB.lt
  obtain ⟨b, o, rfl, hbl, _⟩ := hl 0 (by omega)
  obtain ⟨i0, hi, hz0, hz1, hz2⟩ := info_parts Try.infoSide
  cases hok : okSizes zs with
  | false =>
    have Hok := hd hok
    clear hok
    go_enter Try.func10, Try.ntmps10
    go_wp2_with (first
      | (go_at_call 32; refine (lent_any _ _ zs _ (by omega) hl).mono ?_; rintro e w1 ⟨rfl, hf1, hg1⟩; have hown : IntsAt w1 (some ⟨w.heap.size, 0, none⟩) zs := IntsAt.of_blk hg1 0 zs (fun i hi => by simp [List.getElem?_append_left, hi]))
      | (go_at_call 30; refine (new_no _ _ _ zs _ hlen hlen8 hown Hok.out).mono ?_; rintro e w2 ⟨hf2, rfl⟩; have hl2 := (hl.nw hf1).nw hf2)
      | (go_at_call 33; refine (refNew_no _ _ _ zs _ hlen hlen8 hl2 Hok.out).mono ?_; rintro e w3 ⟨hf3, rfl⟩)
      | (go_at_call 34; refine (returned_any B w.heap.size (some ⟨b, o, none⟩) cap zs sv nv tv rv ts _ (by omega) (((hB.nw hf1).nw hf2).nw hf3) (((htv.nw hf1).nw hf2).nw hf3) hts ((hg1.nw hf2).nw hf3) (hl2.nw hf3)).mono ?_; rintro e w4 ⟨rfl, tv', hf4, hB4, htv4, hg4, hlo4⟩))
    go_ret
    have hf13 : Nw w w3 := (hf1.trans hf2 (fun i h => h.elim)).trans hf3 (fun i h => h.elim)
    refine ⟨rfl, sv, tv', (hf13.mono (fun i h => h.elim)).trans hf4 ?_, hB4, htv4, hg4, ?_, .inl ⟨by trivial, rfl, (((hsv.nw hf1).nw hf2).nw hf3).fr hf4 (fun k hk e => opens_apart (((hsv.nw hf1).nw hf2).nw hf3) (((hB.nw hf1).nw hf2).nw hf3) ((hg1.nw hf2).nw hf3) (((htv.nw hf1).nw hf2).nw hf3) k hk e)⟩⟩
    · rintro i (h | h | h)
      · exact .inl (.inl h)
      · exact .inr (by omega)
      · exact .inl (.inr (.inl h))
    · intro k hk
      rcases hlo4 k hk with h | h
      · exact .inl h
      · exact .inr (Nat.le_trans hf13.size h)
  | true =>
    have Hok := hd hok
    clear hok
    go_enter Try.func10, Try.ntmps10
    go_wp2_with (first
      | (go_at_call 32; refine (lent_any _ _ zs _ (by omega) hl).mono ?_; rintro e w1 ⟨rfl, hf1, hg1⟩; have hown : IntsAt w1 (some ⟨w.heap.size, 0, none⟩) zs := IntsAt.of_blk hg1 0 zs (fun i hi => by simp [List.getElem?_append_left, hi]))
      | (go_at_call 30; refine (new_ok _ _ _ zs _ hlen hlen8 hown Hok.out).mono ?_; rintro e w2 ⟨hf2, X, szv, rfl, hX2, hsz2, hXlo, hszlo⟩; have hl2 := (hl.nw hf1).nw hf2)
      | (go_at_call 33; refine (refNew_ok _ _ _ zs _ hlen hlen8 hl2 Hok.out).mono ?_; rintro e w3 ⟨hf3, Y, rfl, hYlo, hY3⟩)
      | (go_at_call 34; refine (returned_any B w.heap.size (some ⟨b, o, none⟩) cap zs sv nv tv rv ts _ (by omega) (((hB.nw hf1).nw hf2).nw hf3) (((htv.nw hf1).nw hf2).nw hf3) hts ((hg1.nw hf2).nw hf3) (hl2.nw hf3)).mono ?_; rintro e w4 ⟨rfl, tv', hf4, hB4, htv4, hg4, hlo4⟩; have hcB4 : w4.cell? ⟨B, 0, none⟩ = some sv := hB4.cell 0; have hsv4 : Row w4 sv 68 ss := (((hsv.nw hf1).nw hf2).nw hf3).fr hf4 (fun k hk e => opens_apart (((hsv.nw hf1).nw hf2).nw hf3) (((hB.nw hf1).nw hf2).nw hf3) ((hg1.nw hf2).nw hf3) (((htv.nw hf1).nw hf2).nw hf3) k hk e))
      | (at_builtin; refine wpList_append_own_at _ rfl _ _ 24 rfl 0 68 i0 (.pointer none) 1 8 Try.underlying24 hi hz0 hz1 hz2 rfl (by decide) _ _ _ rfl ((hsv4.alloc _).alloc _) ⟨w4.heap.size + 1, 0, none⟩ 1 1 [.pointer (some ⟨w4.heap.size, 0, none⟩)] rfl rfl (by have := cell_one_new (w4.alloc (.cells (sideCells X Y) 70)) (.pointer (some ⟨w4.heap.size, 0, none⟩)) 68; simpa [sideCells] using this) (by simp [Value.oneCell']) (by unfold maxLen; omega) (by omega) (Nat.zero_le _) ?_; intro v' w5 hown' hgrow _ hat; obtain ⟨g', cap', rfl, hr5, hf5, ha5, hlt5⟩ := app1 (w := w4.alloc (.cells (sideCells X Y) 70)) hown' hgrow hat; have hB5 : Blk w5 B #[sv, nv, tv', rv] 28 := (hB4.alloc _).fr hf5 (fun e => hsv4.ne hB4 (by decide) e); have hfz5 := hB5.free 0; have hc5 : w5.cell? ⟨B, 0, none⟩ = some sv := hB5.cell 0; clear hown' hgrow hat))
    have hf13 : Nw w w3 := (hf1.trans hf2 (fun i h => h.elim)).trans hf3 (fun i h => h.elim)
    have hsz1 := hf1.size
    have hsz2' := hf2.size
    have hsz3 := hf3.size
    have hsz4 := hf4.size
    have hD5 : Blk w5 w4.heap.size (sideCells X Y) 70 := (Blk.new w4 _ _).fr hf5 (fun e => by
      have := hsv4.lt e
      omega)
    have hg'B : g' ≠ B := fun e => by
      subst e
      exact hr5.ne hB5 (by decide) rfl
    have hs4 : ∀ k, (k = B ∨ k = w.heap.size ∨ tv.ownBlock = some k) → k < w1.heap.size := by
      rintro k (h | h | h)
      · omega
      · have := hg1.lt; omega
      · have := htv.lt h; omega
    have hX4 : Blk w4 X (workCells szv (fullTo zs zs.length) nilS rest0) 82 := (hX2.nw hf3).fr hf4 (fun e => by have := hs4 _ e; omega)
    have hr4 : Row w4 szv 3 (zs.map (Value.int .i64)) := (hsz2.nw hf3).fr hf4 (fun k hk e => by have := hs4 _ e; have := hszlo k hk; omega)
    have hY4 : RefAt w4 w2.heap.size Y zs (allIn zs zs.length) false nilS nilS := hY3.fr hf4 (fun k e => by have := hs4 _ e; omega)
    have hs5 : ∀ k, (k = B ∨ sv.ownBlock = some k) → k < w.heap.size := by
      rintro k (h | h)
      · omega
      · exact hsv.lt h
    have F5 : Fr (fun k => k = B ∨ sv.ownBlock = some k) w4 (w5.setCell ⟨B, 0, none⟩ (.slice (some ⟨g', 0, none⟩) (ss.length + 1) cap')) :=
      ((((Fr.refl (fun k => k = B ∨ sv.ownBlock = some k) w4).alloc _).trans hf5 (fun k h => .inl (.inr h))).setCell _ _ (.inl (.inl rfl)))
    have F5' : Fr (fun k => k = B) w5 (w5.setCell ⟨B, 0, none⟩ (.slice (some ⟨g', 0, none⟩) (ss.length + 1) cap')) := (Fr.refl _ w5).setCell _ _ (.inl rfl)
    have hnB : ∀ cur e, Blk w4 B cur e → e = 28 := fun cur e h => (h.inj hB4).2
    have hapart : ∀ (k : Nat) (v : Value) (xs : List Value), Row w4 v 22 xs → v.ownBlock = some k → ¬ (k = B ∨ sv.ownBlock = some k) := by
      rintro k v xs hv hk (e | e)
      · subst e; exact hv.ne hB4 (by decide) hk
      · obtain ⟨cur, hb, _⟩ := hv.blk hk
        exact hsv4.ne hb (by decide) e
    have hlow : ∀ k, (k = B ∨ sv.ownBlock = some k) → ¬ w.heap.size ≤ k := fun k h => by have := hs5 k h; omega
    go_ret
    refine ⟨rfl, .slice (some ⟨g', 0, none⟩) (ss.length + 1) cap', tv', ?_, ?_, ?_, ?_, ?_, .inr ⟨by trivial, w4.heap.size, X, Y, szv, ?_⟩⟩
    · refine ((hf13.mono (fun i h => h.elim)).trans hf4 ?_).trans F5 ?_
      · rintro i (h | h | h)
        · exact .inl (.inl h)
        · exact .inr (by omega)
        · exact .inl (.inr (.inl h))
      · rintro i (h | h)
        · exact .inl (.inl h)
        · exact .inl (.inr (.inr h))
    · have := hB5.set 0 (.slice (some ⟨g', 0, none⟩) (ss.length + 1) cap')
      simpa using this
    · exact htv4.fr F5 (fun k hk => hapart k _ _ htv4 hk)
    · exact hg4.fr F5 (fun e => hlow _ e (Nat.le_refl _))
    · intro k hk
      rcases hlo4 k hk with h | h
      · exact .inl h
      · exact .inr (by omega)
    · refine ⟨hr5.fr F5' (fun k hk e => hg'B (by cases hk; exact e)), ?_, hD5.fr F5' (fun e => by omega), hX4.fr F5 (fun e => hlow _ e (by omega)), hr4.fr F5 (fun k hk e => hlow _ e (by have := hszlo k hk; omega)), ?_, by omega, by omega, by omega, fun k hk => by have := hszlo k hk; omega⟩
      · intro k hk
        cases hk
        rcases ha5 with h | h
        · exact .inl h
        · exact .inr (by simp at h; show w.heap.size ≤ g'; omega)
      · have hY5 := hY4.fr F5 (fun k e => by have := hs5 k e; omega)
        exact hY5.lower (by omega)
end Go.Proofs.Ytkjfpdfkcfgfkaa
