/- Parts of the proof, number 5: contracts of the functions that the statement calls. -/
import Derived.Test.YtkjfpdfkcfgfkaaGreatM4
import Derived.Test.YtkjfpdfkcfgfkaaGreatM0

/- The functions of the trail. -/
namespace Go.Proofs.YtkjfpdfkcfgfkaaGreat
open Go.RowKit

set_option maxHeartbeats 1600000 in
set_option maxRecDepth 1000000 in
/-- What replace wrote down puts the domains back. -/
theorem backR_any (X T D : Nat) (szv : Value) (d n : List Nat) (tv : Value) (l : Rest) (w : World) (hX : Blk w X (workCells szv n tv l) 66) (hd8 : d.length = 8) (h8 : n.length = 8)
    (hT : Blk w T #[.pointer (some ⟨X, 0, none⟩)] 35) (hD : Blk w D (domV d) 60) :
    Calls Tryz.prog 72 #[.pointer (some ⟨D, 0, none⟩), .pointer (some ⟨T, 0, none⟩)] w fun e w' => e = .returned (.tuple #[]) ∧ Fr (fun k => k = X) w w' ∧ Blk w' X (workCells szv d tv l) 66 := by
  obtain ⟨v0, v1, v2, v3, v4, v5, v6, v7, hdv⟩ := domV8 hd8
  obtain ⟨u0, u1, u2, u3, u4, u5, u6, u7, hnv⟩ := domV8 h8
  obtain ⟨⟨x0, rfl⟩, ⟨x1, rfl⟩, ⟨x2, rfl⟩, ⟨x3, rfl⟩, ⟨x4, rfl⟩, ⟨x5, rfl⟩, ⟨x6, rfl⟩, ⟨x7, rfl⟩⟩ := domV_one d hdv
  obtain ⟨c0, c1, c2, c3, c4, c5, c6, c7⟩ := work8 hX hnv
  obtain ⟨e0, e1, e2, e3, e4, e5, e6, e7⟩ := cells8 (hdv ▸ hD)
  have hcT : w.cell? ⟨T, 0, none⟩ = some (.pointer (some ⟨X, 0, none⟩)) := hT.cell 0
  have hfz : ∀ i, w.frozen? ⟨X, i, none⟩ = false := hX.free
  have HX := hd hX
  have Hdv := hd hdv
  clear hX hdv hnv hT hD
  go_enter Tryz.func72, Tryz.ntmps72
  go_wp2
  go_end0
  refine ⟨rfl, (Fr.refl _ w).set8 X 1 2 3 4 5 6 7 8 _ _ _ _ _ _ _ _ (.inl rfl), ?_⟩
  have h5 := HX.out.set8 1 2 3 4 5 6 7 8 (.int .u8 x0) (.int .u8 x1) (.int .u8 x2) (.int .u8 x3) (.int .u8 x4) (.int .u8 x5) (.int .u8 x6) (.int .u8 x7)
  rw [workCells_put szv n tv l h8 d Hdv.out] at h5
  exact h5

set_option maxHeartbeats 1600000 in
set_option maxRecDepth 1000000 in
/-- What narrow wrote down puts the table back. -/
theorem backN_any (T S G g cap : Nat) (vars : List Int) (t t0 : TS) (w : World) (h : TAt w G g cap vars t) (h0 : TS.Was w G vars t t0) (hst : ∃ (s0 : Int) (so : Option Addr) (sl sc : Nat) (s2 : Int), t0.state = #[.int .u64 s0, .slice so sl sc, .int .i64 s2])
    (hT : Blk w T #[.iface t.ty (.pointer (some ⟨G, 0, none⟩))] 73) (hS : Blk w S t0.state 137) :
    Calls Tryz.prog 73 #[.pointer (some ⟨T, 0, none⟩), .pointer (some ⟨S, 0, none⟩)] w fun e w' => e = .returned (.tuple #[]) ∧ Fr (fun k => k = G) w w' ∧ TAt w' G g cap vars t0 := by
  obtain ⟨s0, so, sl, sc, s2, hst⟩ := hst
  have hcT : w.cell? ⟨T, 0, none⟩ = some (.iface t.ty (.pointer (some ⟨G, 0, none⟩))) := hT.cell 0
  have c0 : w.cell? ⟨S, 0, none⟩ = some (.int .u64 s0) := (hS.cell 0).trans (by rw [hst]; rfl)
  have c1 : w.cell? ⟨S, 1, none⟩ = some (.slice so sl sc) := (hS.cell 1).trans (by rw [hst]; rfl)
  have c2 : w.cell? ⟨S, 2, none⟩ = some (.int .i64 s2) := (hS.cell 2).trans (by rw [hst]; rfl)
  obtain ⟨ty, hty⟩ : ∃ ty, t.ty = ty := ⟨_, rfl⟩
  rw [hty] at hcT
  have Hst := hd hst
  clear hst hT hS
  go_enter Tryz.func73, Tryz.ntmps73
  go_wp2_with fail
  rw [← Hst.out, ← hty]
  refine (putBackT_any G g cap vars t t0 _ h h0).mono ?_
  rintro e w1 ⟨rfl, hf, hT⟩
  go_wp2
  go_end0
  exact ⟨rfl, hf, hT⟩
end Go.Proofs.YtkjfpdfkcfgfkaaGreat

/- Small parts of settle over any tables: the first mark, an empty domain. -/
namespace Go.Proofs.YtkjfpdfkcfgfkaaGreat
open Go.RowKit

theorem firstAt_spec : ∀ (l : List Bool) (k : Nat), (firstAt true l k = -1 ∧ ∀ i, l.getD i false = false) ∨ ∃ i, i < l.length ∧ firstAt true l k = ((k + i : Nat) : Int) ∧ l.getD i false = true
  | [], k => .inl ⟨rfl, fun i => by simp [List.getD]⟩
  | b :: l, k => by
    cases b with
    | true => exact .inr ⟨0, by simp, by simp [firstAt], rfl⟩
    | false =>
      rcases firstAt_spec l (k + 1) with ⟨h1, h2⟩ | ⟨i, h1, h2, h3⟩
      · refine .inl ⟨by simpa [firstAt] using h1, fun i => ?_⟩
        cases i with
        | zero => rfl
        | succ i => simpa [List.getD] using h2 i
      · refine .inr ⟨i + 1, by simp; omega, ?_, by simpa [List.getD] using h3⟩
        have e : firstAt true (false :: l) k = firstAt true l (k + 1) := by simp [firstAt]
        rw [e, h2]
        congr 1
        omega
theorem mksV_get (m : List Bool) (i : Nat) (hi : i < m.length) : (mksV m)[i]? = some (.bool (m.getD i false)) := by
  simp [mksV, List.getD, hi]
/-- Index over the marks. -/
theorem index_mks (b : Nat) (m : List Bool) (w : World) (hm : m.length = 12) (h : Blk w b (mksV m) 71) :
    Calls Tryz.prog 44 #[.slice (some ⟨b, 0, none⟩) 12 12, .bool true] w fun e w' => e = .returned (.int .i64 (firstAt true m 0)) ∧ w' = w := by
  have hc := indexBool_any b 0 12 m w (by omega) (fun i hi => by
    rw [Nat.zero_add, h.cell i]
    exact mksV_get m i hi)
  rw [hm] at hc
  exact hc
theorem empty_full {n : Nat} {d : List Nat} (hd : d.length = 8) (hn : n ≤ 8) : emptyB n d = false ↔ Full n d := by
  unfold emptyB Full
  constructor
  · intro h q hq e
    have : (d.take n).contains 0 = true := by
      rw [List.contains_iff_mem, List.mem_iff_getElem]
      refine ⟨q, by simp; omega, ?_⟩
      have hq' : q < d.length := by omega
      simp only [List.getElem_take]
      simpa [List.getD, hq'] using e
    rw [this] at h
    cases h
  · intro h
    cases hx : (d.take n).contains 0 with
    | false => rfl
    | true =>
      rw [List.contains_iff_mem, List.mem_iff_getElem] at hx
      obtain ⟨q, hq, e⟩ := hx
      simp at hq
      have hq' : q < d.length := by omega
      refine absurd ?_ (h q (by omega))
      simp only [List.getElem_take] at e
      simpa [List.getD, hq'] using e
end Go.Proofs.YtkjfpdfkcfgfkaaGreat

/- What stands on the trail: how each change is put back; frames by the types of what is written. -/
namespace Go.Proofs.YtkjfpdfkcfgfkaaGreat
open Go.RowKit

/-- The blocks of S that there are hold elements of these types alone. -/
def Only (w : World) (S : Nat → Prop) (es : List TypeId) : Prop := ∀ k cur e, S k → Blk w k cur e → e ∈ es
theorem Only.one {w : World} {X : Nat} {cur : Array Value} {e : TypeId} (h : Blk w X cur e) : Only w (fun k => k = X) [e] := by
  rintro k cur' e' rfl h'
  rw [(h'.inj h).2]
  exact List.mem_singleton.2 rfl
theorem Only.or {w : World} {S S' : Nat → Prop} {es es' : List TypeId} (h : Only w S es) (h' : Only w S' es') : Only w (fun k => S k ∨ S' k) (es ++ es') := by
  rintro k cur e (hs | hs) hb
  · exact List.mem_append_left _ (h k cur e hs hb)
  · exact List.mem_append_right _ (h' k cur e hs hb)
theorem Only.row {w : World} {v : Value} {e : TypeId} {xs : List Value} (h : Row w v e xs) : Only w (fun k => v.ownBlock = some k) [e] := by
  intro k cur e' hk hb
  refine Classical.byContradiction fun hc => ?_
  exact h.ne hb (fun x => hc (by rw [x]; exact List.mem_singleton.2 rfl)) hk
theorem Only.mono {w : World} {S S' : Nat → Prop} {es es' : List TypeId} (h : Only w S es) (hs : ∀ k, S' k → S k) (he : ∀ e ∈ es, e ∈ es') : Only w S' es' := fun k cur e hk hb => he e (h k cur e (hs k hk) hb)
theorem Only.none (w : World) : Only w (fun _ => False) [] := fun _ _ _ h => h.elim
theorem Blk.frO {S : Nat → Prop} {w w' : World} {g : Nat} {cur : Array Value} {e : TypeId} (h : Blk w g cur e) (f : Fr S w w') {es : List TypeId} (o : Only w S es) (he : e ∉ es) : Blk w' g cur e := h.fr f (fun hs => he (o g cur e hs h))
theorem Row.frO {S : Nat → Prop} {w w' : World} {v : Value} {e : TypeId} {xs : List Value} (h : Row w v e xs) (f : Fr S w w') {es : List TypeId} (o : Only w S es) (he : e ∉ es) : Row w' v e xs := h.fr f (fun k hk hs => by
  obtain ⟨cur, hb, _⟩ := h.blk hk
  exact he (o k cur e hs hb))
theorem ownsRow.blk {w : World} {v : Value} {e : TypeId} {size n : Nat} {xs : List Value} (h : w.ownsRow 0 e size v n xs) {k : Nat} (hk : v.ownBlock = some k) : ∃ cur, Blk w k cur e := by
  rcases h.2 with ⟨rfl, _⟩ | ⟨g, cap, cur, rfl, _, hb, _⟩
  · cases hk
  · cases hk
    exact ⟨cur, hb⟩
theorem ownsRow.frO {S : Nat → Prop} {w w' : World} {v : Value} {e : TypeId} {size n : Nat} {xs : List Value} (h : w.ownsRow 0 e size v n xs) (f : Fr S w w') {es : List TypeId} (o : Only w S es) (he : e ∉ es) : w'.ownsRow 0 e size v n xs := ownsRow.fr h f (fun k hk hs => by
  obtain ⟨cur, hb⟩ := ownsRow.blk h hk
  exact he (o k cur e hs hb))
theorem TrAt.frO {S : Nat → Prop} {w w' : World} {l : Rest} {ss xs : List Value} (h : TrAt w l ss xs) (f : Fr S w w') {es : List TypeId} (o : Only w S es) (he : 3 ∉ es ∧ 1 ∉ es) : TrAt w' l ss xs := ⟨h.starts.frO f o he.1, h.backs.frO f o he.2⟩
/-- Types that lie in the blocks of a table. -/
def tabTys : List TypeId := [131, 125, 3, 151]
theorem TAt.frO {S : Nat → Prop} {w w' : World} {G g cap : Nat} {vars : List Int} {t : TS} (h : TAt w G g cap vars t) (f : Fr S w w') {es : List TypeId} (o : Only w S es) (he : ∀ e ∈ tabTys, e ∉ es) : TAt w' G g cap vars t := h.fr f (fun k hk hs => by
  obtain ⟨cur, e, hb, hc⟩ := h.tyAt hk
  refine he e ?_ (o k cur e hs hb)
  simp only [tabTys, List.mem_cons, List.not_mem_nil, or_false]
  exact hc)
theorem TabsAt.frO {S : Nat → Prop} {w w' : World} {so : Option Addr} {tcap : Nat} {ts : List Tab} (h : TabsAt w so tcap ts) (f : Fr S w w') {es : List TypeId} (o : Only w S es) (he : ∀ e ∈ 73 :: tabTys, e ∉ es) : TabsAt w' so tcap ts :=
  ⟨h.row.frO f o (he _ (List.mem_cons_self ..)), fun i hi => (h.at_ i hi).frO f o (fun e h' => he e (List.mem_cons_of_mem _ h')), h.four, h.ok⟩
theorem TabsAt.nw {w w' : World} {so : Option Addr} {tcap : Nat} {ts : List Tab} (h : TabsAt w so tcap ts) (f : Nw w w') : TabsAt w' so tcap ts := h.frO f (Only.none w) (fun _ _ => List.not_mem_nil)

/-- Of one kind: what Narrow and PutBack never change is the same. -/
def TS.Kin : TS → TS → Prop
  | .rs nt br _, .rs nt' br' _ => nt' = nt ∧ br' = br
  | .dg .., .dg .. => True
  | _, _ => False
theorem TS.Kin.refl (t : TS) : TS.Kin t t := by cases t <;> simp [TS.Kin]
theorem TS.Kin.trans {a b c : TS} (h : TS.Kin a b) (k : TS.Kin b c) : TS.Kin a c := by
  cases a <;> cases b <;> cases c <;> simp_all [TS.Kin]
theorem TS.Kin.ty {a b : TS} (h : TS.Kin a b) : b.ty = a.ty := by
  cases a <;> cases b <;> simp_all [TS.Kin, TS.ty]
theorem TS.Next.kin {vars : List Int} {dn : List Nat} {t t' : TS} (h : TS.Next vars dn t t') : TS.Kin t t' := by
  cases t with
  | rs nt br live =>
    have : t' = .rs nt br (nLive br live vars dn) := h
    subst this
    exact ⟨rfl, rfl⟩
  | dg nv os root =>
    obtain ⟨nv', rfl⟩ := h
    trivial
theorem TS.Was.kin {w : World} {G : Nat} {vars : List Int} {t t' t0 : TS} (h : TS.Was w G vars t t0) (k : TS.Kin t t') : TS.Was w G vars t' t0 := by
  cases t <;> cases t' <;> cases t0 <;> simp_all [TS.Kin, TS.Was]
theorem TS.Was.kin0 {w : World} {G : Nat} {vars : List Int} {t t0 : TS} (h : TS.Was w G vars t t0) : TS.Kin t t0 := by
  cases t <;> cases t0 <;> simp_all [TS.Kin, TS.Was]
theorem TS.Was.frO {S : Nat → Prop} {w w' : World} {G : Nat} {vars : List Int} {t t0 : TS} (h : TS.Was w G vars t t0) (f : Fr S w w') {es : List TypeId} (o : Only w S es) (he : 151 ∉ es) : TS.Was w' G vars t t0 := by
  cases t <;> cases t0
  · exact h
  · exact h
  · exact h
  · exact ⟨ownsRow.frO h.1 f o he, h.2⟩
theorem TAt.was {w : World} {G g cap : Nat} {vars : List Int} {t : TS} (h : TAt w G g cap vars t) : TS.Was w G vars t t := by
  cases t with
  | rs nt br live => exact ⟨rfl, rfl, h.2.2.2.2.1⟩
  | dg nv os root => exact ⟨h.1.row, h.1.ok, h.1.two, fun e => by
      obtain ⟨cur, hb⟩ := ownsRow.blk h.1.row e
      have := (hb.inj h.1.blk).2
      revert this
      decide, h.2⟩
theorem TS.Was.form {w : World} {G : Nat} {vars : List Int} {t t0 : TS} (h : TS.Was w G vars t t0) : ∃ (s0 : Int) (so : Option Addr) (sl sc : Nat) (s2 : Int), t0.state = #[.int .u64 s0, .slice so sl sc, .int .i64 s2] := by
  cases t0 with
  | rs nt br live => exact ⟨_, _, _, _, _, rfl⟩
  | dg nv os root =>
    cases t with
    | rs nt br live => exact h.elim
    | dg nv' os' root' =>
      rcases h.1.2 with ⟨rfl, _⟩ | ⟨g, cap, cur, rfl, _⟩
      · exact ⟨_, _, _, _, _, rfl⟩
      · exact ⟨_, _, _, _, _, rfl⟩

/-- The same tables, of which another part may be left. -/
structure SameT (ts ts' : List Tab) : Prop where
  len : ts'.length = ts.length
  at_ : ∀ i, i < ts.length → (ts'.getD i tab0).G = (ts.getD i tab0).G ∧ (ts'.getD i tab0).g = (ts.getD i tab0).g ∧ (ts'.getD i tab0).cap = (ts.getD i tab0).cap ∧ (ts'.getD i tab0).vars = (ts.getD i tab0).vars ∧ TS.Kin (ts.getD i tab0).t (ts'.getD i tab0).t
theorem SameT.refl (ts : List Tab) : SameT ts ts := ⟨rfl, fun _ _ => ⟨rfl, rfl, rfl, rfl, TS.Kin.refl _⟩⟩
theorem SameT.trans {a b c : List Tab} (h : SameT a b) (k : SameT b c) : SameT a c := ⟨k.len.trans h.len, fun i hi => by
  obtain ⟨h1, h2, h3, h4, h5⟩ := h.at_ i hi
  obtain ⟨k1, k2, k3, k4, k5⟩ := k.at_ i (by rw [h.len]; exact hi)
  exact ⟨k1.trans h1, k2.trans h2, k3.trans h3, k4.trans h4, h5.trans k5⟩⟩
theorem SameT.val {ts ts' : List Tab} (h : SameT ts ts') (i : Nat) (hi : i < ts.length) : (ts'.getD i tab0).val = (ts.getD i tab0).val := by
  obtain ⟨h1, _, _, _, h5⟩ := h.at_ i hi
  simp only [Tab.val, h1, h5.ty]
theorem SameT.vals {ts ts' : List Tab} (h : SameT ts ts') : ts'.map Tab.val = ts.map Tab.val := by
  refine List.ext_getElem (by simp [h.len]) fun i h1 h2 => ?_
  have hi : i < ts.length := by simpa using h2
  have hi' : i < ts'.length := by simpa using h1
  have := h.val i hi
  simpa [List.getD, hi, hi'] using this
theorem getD_setT (ts : List Tab) (k i : Nat) (x : Tab) (hk : k < ts.length) : (ts.set k x).getD i tab0 = if k = i then x else ts.getD i tab0 := by
  simp only [List.getD, List.getElem?_set]
  by_cases h : k = i
  · subst h
    simp [hk]
  · simp [h]
theorem SameT.set {ts : List Tab} {k : Nat} (hk : k < ts.length) {t' : TS} (h : TS.Kin (ts.getD k tab0).t t') : SameT ts (ts.set k { ts.getD k tab0 with t := t' }) := ⟨by simp, fun i hi => by
  rw [getD_setT _ _ _ _ hk]
  by_cases e : k = i
  · subst e
    simpa using h
  · rw [if_neg e]
    exact ⟨rfl, rfl, rfl, rfl, TS.Kin.refl _⟩⟩
theorem SameT.fits {bs : List Tb} {ts ts' : List Tab} (h : SameT ts ts') (hf : Fits bs ts) : Fits bs ts' := ⟨h.len.trans hf.1, fun k hk => by
  rw [← hf.2 k hk]
  exact (h.at_ k (by rw [hf.1]; exact hk)).2.2.2.1⟩

/-- A change that is put back: a table, number k, that was t0; the domains, that were d0. -/
inductive Un where
  | n (T S k : Nat) (t0 : TS)
  | r (T D : Nat) (d0 : List Nat)
def Un.val : Un → Value
  | .n T S _ _ => backN T S
  | .r T D _ => backR T D
def Un.isN : Un → Prop
  | .n .. => True
  | .r .. => False
/-- The blocks that a change has of its own. -/
def Un.boxes : Un → Nat → Prop
  | .n T S _ _ => fun k => k = T ∨ k = S
  | .r T D _ => fun k => k = T ∨ k = D
/-- It lies in memory. -/
def Un.At (w : World) (X : Nat) (ts : List Tab) : Un → Prop
  | .n T S k t0 => k < ts.length ∧ Blk w T #[(ts.getD k tab0).val] 73 ∧ Blk w S t0.state 137 ∧ TS.Was w (ts.getD k tab0).G (ts.getD k tab0).vars (ts.getD k tab0).t t0
  | .r T D d0 => Blk w T #[.pointer (some ⟨X, 0, none⟩)] 35 ∧ Blk w D (domV d0) 60 ∧ d0.length = 8 ∧ ∀ x ∈ d0, x < 64
/-- What it does. -/
def Un.undo : Un → List Nat × List TS → List Nat × List TS
  | .n _ _ k t0, s => (s.1, s.2.set k t0)
  | .r _ _ d0, s => (d0, s.2)
theorem Un.At.frO {S : Nat → Prop} {w w' : World} {X : Nat} {ts : List Tab} {u : Un} (h : u.At w X ts) (f : Fr S w w') {es : List TypeId} (o : Only w S es) (he : 73 ∉ es ∧ 137 ∉ es ∧ 151 ∉ es ∧ 35 ∉ es) (hD : u.isN ∨ 60 ∉ es) : u.At w' X ts := by
  cases u with
  | n T S' k t0 => exact ⟨h.1, h.2.1.frO f o he.1, h.2.2.1.frO f o he.2.1, h.2.2.2.frO f o he.2.2.1⟩
  | r T D d0 =>
    rcases hD with hD | hD
    · exact hD.elim
    · exact ⟨h.1.frO f o he.2.2.2, h.2.1.frO f o hD, h.2.2⟩
theorem Un.At.same {w : World} {X : Nat} {ts ts' : List Tab} {u : Un} (h : u.At w X ts) (s : SameT ts ts') : u.At w X ts' := by
  cases u with
  | n T S' k t0 =>
    obtain ⟨h1, h2, h3, h4⟩ := h
    obtain ⟨e1, e2, e3, e4, e5⟩ := s.at_ k h1
    refine ⟨by rw [s.len]; exact h1, by rw [s.val k h1]; exact h2, h3, ?_⟩
    rw [e1, e4]
    exact h4.kin e5
  | r T D d0 => exact h
/-- Tables that lie apart. -/
def Inj (ts : List Tab) : Prop := ∀ i j, i < ts.length → j < ts.length → (ts.getD i tab0).G = (ts.getD j tab0).G → i = j
theorem SameT.inj {ts ts' : List Tab} (h : SameT ts ts') (k : Inj ts) : Inj ts' := fun i j hi hj e => by
  rw [h.len] at hi hj
  rw [(h.at_ i hi).1, (h.at_ j hj).1] at e
  exact k i j hi hj e
/-- One table is narrowed. -/
theorem TabsAt.step {S : Nat → Prop} {w w' : World} {so : Option Addr} {tcap : Nat} {ts : List Tab} (h : TabsAt w so tcap ts) (hi : Inj ts) {k : Nat} (hk : k < ts.length) {es : List TypeId} (o : Only w S es) (f : Fr (fun q => q = (ts.getD k tab0).G ∨ S q) w w')
    (he : ∀ e ∈ 73 :: tabTys, e ∉ es) {t' : TS} (kin : TS.Kin (ts.getD k tab0).t t') (ht : TAt w' (ts.getD k tab0).G (ts.getD k tab0).g (ts.getD k tab0).cap (ts.getD k tab0).vars t') : TabsAt w' so tcap (ts.set k { ts.getD k tab0 with t := t' }) := by
  have hs := SameT.set hk kin
  obtain ⟨cG, eG, hbG, hcG⟩ := (h.at_ k hk).tyG
  have oG : Only w (fun q => q = (ts.getD k tab0).G ∨ S q) (eG :: es) := (Only.one hbG).or o
  refine ⟨?_, fun i hi' => ?_, fun i hi' => ?_, fun i hi' => ?_⟩
  · rw [hs.len, hs.vals]
    refine h.row.frO f oG ?_
    rw [List.mem_cons]
    rintro (rfl | hx)
    · revert hcG; decide
    · exact he _ (List.mem_cons_self ..) hx
  · rw [List.length_set] at hi'
    rw [getD_setT _ _ _ _ hk]
    by_cases e : k = i
    · subst e
      rw [if_pos rfl]
      exact ht
    · rw [if_neg e]
      refine (h.at_ i hi').fr f ?_
      rintro q hq (hx | hx)
      · obtain ⟨cur, e', hb, hc⟩ := (h.at_ i hi').tyAt hq
        subst hx
        have e2 := (hb.inj hbG).2
        rcases hq with hq | hq | hq
        · exact e (hi k i hk hi' hq)
        · obtain ⟨cur2, hb2, _⟩ := (show Row w (.slice (some ⟨(ts.getD i tab0).g, 0, none⟩) (ts.getD i tab0).vars.length (ts.getD i tab0).cap) 3 ((ts.getD i tab0).vars.map (Value.int .i64)) from by
            have := h.at_ i hi'
            revert this
            cases (ts.getD i tab0).t with
            | rs nt br live => exact fun h => h.2.1
            | dg nv os root => exact fun h => h.1.rv).blk (k := (ts.getD i tab0).g) rfl
          rw [hq] at hbG
          have e3 := (hb2.inj hbG).2
          subst e3
          revert hcG
          decide
        · have h3 := h.at_ i hi'
          revert h3 hq
          cases (ts.getD i tab0).t with
          | rs nt br live => exact fun hq => hq.elim
          | dg nv os root =>
            intro h3 hq
            obtain ⟨cur2, hb2⟩ := ownsRow.blk hq.1.row h3
            have e3 := (hb2.inj hbG).2
            subst e3
            revert hcG
            decide
      · obtain ⟨cur, e', hb, hc⟩ := (h.at_ i hi').tyAt hq
        refine he e' (List.mem_cons_of_mem _ ?_) (o q cur e' hx hb)
        simp only [tabTys, List.mem_cons, List.not_mem_nil, or_false]
        exact hc
  · rw [List.length_set] at hi'
    rw [(hs.at_ i hi').2.2.2.1]
    exact h.four i hi'
  · rw [List.length_set] at hi'
    rw [(hs.at_ i hi').2.2.2.1]
    exact h.ok i hi'
theorem undo_app (us : List Un) (u : Un) (s s' : List Nat × List TS) (h : u.undo s' = s) : (us ++ [u]).foldr Un.undo s' = us.foldr Un.undo s := by
  simp [List.foldr_append, h]
/-- Narrowing table k is put back. -/
theorem undo_set (ts : List Tab) (k : Nat) (hk : k < ts.length) (t' : TS) (d : List Nat) (T S : Nat) : (Un.n T S k (ts.getD k tab0).t).undo (d, (ts.set k { ts.getD k tab0 with t := t' }).map Tab.t) = (d, ts.map Tab.t) := by
  simp only [Un.undo, List.map_set, List.set_set, Prod.mk.injEq, true_and]
  refine List.ext_getElem (by simp) fun i h1 h2 => ?_
  simp only [List.getElem_set, List.getElem_map]
  split
  · rename_i e
    subst e
    simp [List.getD, hk]
  · rfl
end Go.Proofs.YtkjfpdfkcfgfkaaGreat

/- settle, over any tables, at any level: what lies in memory between its rounds. -/
namespace Go.Proofs.YtkjfpdfkcfgfkaaGreat
open Go.RowKit

/-- Numbers of a block, for the measure. -/
def cellsOf (w : World) (g : Nat) : List Value := match w.heap[g]? with
  | some (.cells c _ _) => c.toList
  | _ => []
def natOf : Value → Nat
  | .int _ z => z.toNat
  | _ => 0
def boolOf : Value → Bool
  | .bool b => b
  | _ => false
theorem cellsOf_blk {w : World} {g : Nat} {cur : Array Value} {e : TypeId} (h : Blk w g cur e) : cellsOf w g = cur.toList := by
  have h' : w.heap[g]? = some (.cells cur e (0, 0)) := h
  simp [cellsOf, h']
def muOf (w : World) (N : Nat) : Nat := bitsOf ((cellsOf w N).map natOf) * 13 + marksOf ((cellsOf w (N + 1)).map boolOf)
theorem mu_at {w : World} {N : Nat} {next : List Nat} {m : List Bool} (h : Blk w N (domV next) 60) (h' : Blk w (N + 1) (mksV m) 71) : muOf w N = bitsOf next * 13 + marksOf m := by
  have e1 : (domV next).toList.map natOf = next := by
    exact List.ext_getElem (by simp) (fun i h1 h2 => by simp [natOf])
  have e2 : (mksV m).toList.map boolOf = m := by
    exact List.ext_getElem (by simp [mksV]) (fun i h1 h2 => by simp [mksV, boolOf])
  simp only [muOf, cellsOf_blk h, cellsOf_blk h', e1, e2]

/-- What settle is called with: the Work, its domains, its tables in memory and in the document's words, its trail, where the closure begins. -/
structure SCtx where
  X : Nat
  szv : Value
  zs : List Int
  d : List Nat
  so : Option Addr
  tcap : Nat
  l : Rest
  ss : List Value
  xs : List Value
  ts : List Tab
  bs : List Tb
  start : List Nat
/-- What settle may write: the Work, its tables, the trail's row. -/
def SFr (X : Nat) (ts : List Tab) (bv : Value) (k : Nat) : Prop := k = X ∨ (∃ i, i < ts.length ∧ k = (ts.getD i tab0).G) ∨ bv.ownBlock = some k
/-- What the trail holds: at level 0 nothing more. -/
def keepIf (ss xs : List Value) (us : List Un) : List Value := if ss.isEmpty then xs else xs ++ us.map Un.val
theorem keepIf_nil (ss xs : List Value) : keepIf ss xs [] = xs := by simp [keepIf]
theorem keepIf_wr (ss xs : List Value) (us : List Un) (u : Un) : wrTo ss (keepIf ss xs us) u.val = keepIf ss xs (us ++ [u]) := by
  unfold wrTo keepIf
  split <;> simp
theorem keepIf_len (ss xs : List Value) (us : List Un) : (keepIf ss xs us).length ≤ xs.length + us.length := by
  unfold keepIf
  split <;> simp
/-- Memory between two rounds. -/
structure SMem (c : SCtx) (w wr : World) (next : List Nat) (m : List Bool) (ts : List Tab) (bv : Value) (us : List Un) : Prop where
  fr : Fr (SFr c.X c.ts c.l.backs) w wr
  own : ∀ k, bv.ownBlock = some k → c.l.backs.ownBlock = some k ∨ w.heap.size ≤ k
  blk : Blk wr c.X (workCells c.szv c.d (.slice c.so ts.length c.tcap) ⟨bv, c.l.starts, c.l.busy⟩) 66
  nx : Blk wr w.heap.size (domV next) 60
  mks : Blk wr (w.heap.size + 1) (mksV m) 71
  sz : Row wr c.szv 3 (c.zs.map (Value.int .i64))
  tabs : TabsAt wr c.so c.tcap ts
  tr : TrAt wr ⟨bv, c.l.starts, c.l.busy⟩ c.ss (keepIf c.ss c.xs us)
  same : SameT c.ts ts
  un : ∀ u ∈ us, u.At wr c.X ts ∧ u.isN
  new : ∀ u ∈ us, ∀ k, u.boxes k → w.heap.size ≤ k
  back : us.foldr Un.undo (c.d, ts.map Tab.t) = (c.d, c.ts.map Tab.t)
/-- Marks and domains are written. -/
theorem SMem.wr {c : SCtx} {w wr wr' : World} {next next' : List Nat} {m m' : List Bool} {ts : List Tab} {bv : Value} {us : List Un} {S : Nat → Prop} (h : SMem c w wr next m ts bv us) (f : Fr S wr wr') (o : Only wr S [71, 60]) (hs : ∀ k, S k → w.heap.size ≤ k)
    (nx' : Blk wr' w.heap.size (domV next') 60) (mk' : Blk wr' (w.heap.size + 1) (mksV m') 71) : SMem c w wr' next' m' ts bv us :=
  ⟨h.fr.trans f (fun i hi => .inr (hs i hi)), h.own, h.blk.frO f o (by decide), nx', mk', h.sz.frO f o (by decide), h.tabs.frO f o (by decide), h.tr.frO f o (by decide), h.same, fun u hu => ⟨(h.un u hu).1.frO f o (by decide) (.inl (h.un u hu).2), (h.un u hu).2⟩, h.new, h.back⟩
theorem SMem.nw {c : SCtx} {w wr wr' : World} {next : List Nat} {m : List Bool} {ts : List Tab} {bv : Value} {us : List Un} (h : SMem c w wr next m ts bv us) (f : Nw wr wr') : SMem c w wr' next m ts bv us :=
  h.wr f ((Only.none wr).mono (fun _ x => x) (fun _ x => by cases x)) (fun _ x => x.elim) (h.nx.nw f) (h.mks.nw f)
theorem SMem.only {c : SCtx} {w wr : World} {next : List Nat} {m : List Bool} {ts : List Tab} {bv : Value} {us : List Un} (h : SMem c w wr next m ts bv us) {k : Nat} (hk : k < ts.length) :
    Only wr (fun q => q = (ts.getD k tab0).G ∨ q = c.X ∨ bv.ownBlock = some q) [131, 125, 66, 1] := by
  obtain ⟨cG, eG, hbG, hcG⟩ := (h.tabs.at_ k hk).tyG
  have oR : Only wr (fun q => q = c.X ∨ bv.ownBlock = some q) [66, 1] := (Only.one h.blk).or (Only.row h.tr.backs)
  refine ((Only.one hbG).or oR).mono (fun _ x => x) ?_
  intro e he
  rcases hcG with rfl | rfl
  · revert e; decide
  · revert e; decide
/-- What the round reads. -/
theorem SMem.reads {c : SCtx} {w wr : World} {next : List Nat} {m : List Bool} {ts : List Tab} {bv : Value} {us : List Un} (h : SMem c w wr next m ts bv us) (hd8 : c.d.length = 8) {k : Nat} (hk : k < ts.length) {tb : Nat} (hso : c.so = some ⟨tb, 0, none⟩) :
    wr.cell? ⟨c.X, 9, none⟩ = some (.slice (some ⟨tb, 0, none⟩) ts.length c.tcap) ∧ wr.cell? ⟨tb, k, none⟩ = some (ts.getD k tab0).val ∧ Blk wr w.heap.size (domV next) 60 := by
  refine ⟨(h.blk.cell 9).trans ((workCells_tabs _ _ _ _ hd8).trans (by rw [hso])), ?_, h.nx⟩
  have hr := h.tabs.row
  rw [hso] at hr
  rw [(hr.at_ k (by simpa using hk)).1]
  simp [List.getD, hk]
/-- A table is narrowed. -/
theorem SMem.narrowed {c : SCtx} {w wr w3 : World} {next : List Nat} {m : List Bool} {ts : List Tab} {bv bv' : Value} {us : List Un} (h : SMem c w wr next m ts bv us) (hinj : Inj c.ts) {k : Nat} (hk : k < ts.length) {t' : TS} {T S : Nat} (kin : TS.Kin (ts.getD k tab0).t t')
    (f : Fr (fun q => q = (ts.getD k tab0).G ∨ q = c.X ∨ bv.ownBlock = some q) wr w3) (hT : TAt w3 (ts.getD k tab0).G (ts.getD k tab0).g (ts.getD k tab0).cap (ts.getD k tab0).vars t')
    (hX : Blk w3 c.X (workCells c.szv c.d (.slice c.so ts.length c.tcap) ⟨bv', c.l.starts, c.l.busy⟩) 66) (htr : TrAt w3 ⟨bv', c.l.starts, c.l.busy⟩ c.ss (wrTo c.ss (keepIf c.ss c.xs us) (backN T S)))
    (hbT : Blk w3 T #[(ts.getD k tab0).val] 73) (hbS : Blk w3 S (ts.getD k tab0).t.state 137) (hown : ∀ q, bv'.ownBlock = some q → bv.ownBlock = some q ∨ wr.heap.size ≤ q) (hTl : wr.heap.size ≤ T) (hSl : wr.heap.size ≤ S) :
    SMem c w w3 next m (ts.set k { ts.getD k tab0 with t := t' }) bv' (us ++ [Un.n T S k (ts.getD k tab0).t]) := by
  have hs := SameT.set hk kin
  have oR : Only wr (fun q => q = c.X ∨ bv.ownBlock = some q) [66, 1] := (Only.one h.blk).or (Only.row h.tr.backs)
  have o := h.only hk
  have hk0 : k < c.ts.length := by rw [← h.same.len]; exact hk
  refine ⟨h.fr.trans f ?_, fun q hq => ?_, ?_, h.nx.frO f o (by decide), h.mks.frO f o (by decide), h.sz.frO f o (by decide), h.tabs.step (h.same.inj hinj) hk oR f (by decide) kin hT, ?_, h.same.trans hs, ?_, ?_, ?_⟩
  · rintro i (rfl | rfl | hi)
    · exact .inl (.inr (.inl ⟨k, hk0, (h.same.at_ k hk0).1⟩))
    · exact .inl (.inl rfl)
    · exact (h.own i hi).imp (fun x => .inr (.inr x)) id
  · rcases hown q hq with h1 | h1
    · exact h.own q h1
    · exact .inr (Nat.le_trans h.fr.size h1)
  · rw [hs.len]
    exact hX
  · rw [← keepIf_wr]
    exact htr
  · intro u hu
    rcases List.mem_append.1 hu with hu | hu
    · exact ⟨((h.un u hu).1.frO f o (by decide) (.inl (h.un u hu).2)).same hs, (h.un u hu).2⟩
    · rw [List.mem_singleton] at hu
      subst hu
      refine ⟨Un.At.same (ts := ts) ⟨hk, hbT, hbS, ?_⟩ hs, trivial⟩
      exact (h.tabs.at_ k hk).was.frO f o (by decide)
  · intro u hu q hq
    rcases List.mem_append.1 hu with hu | hu
    · exact h.new u hu q hq
    · rw [List.mem_singleton] at hu
      subst hu
      have := h.fr.size
      rcases hq with rfl | rfl
      · omega
      · omega
  · rw [undo_app _ _ (c.d, ts.map Tab.t) _ (undo_set ts k hk t' c.d T S)]
    exact h.back
/-- Behind settle. -/
structure Settled (c : SCtx) (B : Nat) (w w' : World) (d' : List Nat) (bv : Value) (ts : List Tab) (us : List Un) : Prop where
  fr : Fr (SFr c.X c.ts c.l.backs) w w'
  own : ∀ k, bv.ownBlock = some k → c.l.backs.ownBlock = some k ∨ w.heap.size ≤ k
  blk : Blk w' c.X (workCells c.szv d' (.slice c.so ts.length c.tcap) ⟨bv, c.l.starts, c.l.busy⟩) 66
  sz : Row w' c.szv 3 (c.zs.map (Value.int .i64))
  tabs : TabsAt w' c.so c.tcap ts
  tr : TrAt w' ⟨bv, c.l.starts, c.l.busy⟩ c.ss (keepIf c.ss c.xs us)
  same : SameT c.ts ts
  un : ∀ u ∈ us, u.At w' c.X ts
  new : ∀ u ∈ us, ∀ k, u.boxes k → w.heap.size ≤ k
  back : us.foldr Un.undo (d', ts.map Tab.t) = (c.d, c.ts.map Tab.t)
  clo : Closure c.zs.length c.bs c.start d'
  dm : Dm d'
  rep : ∀ k, k < c.bs.length → TRep (c.bs.getD k tb0) d' (ts.getD k tab0).t
  cnt : us.length + bitsOf d' * 13 ≤ B + (if d' = c.d then 0 else 1)
/-- The domains are replaced. -/
theorem SMem.replaced {c : SCtx} {w wr w' : World} {next n : List Nat} {m : List Bool} {ts : List Tab} {bv : Value} {us : List Un} (h : SMem c w wr next m ts bv us) {B : Nat} (hd8 : c.d.length = 8) (hd6 : ∀ x ∈ c.d, x < 64)
    (hclo : Closure c.zs.length c.bs c.start n) (hdm : Dm n) (hrep : ∀ k, k < c.bs.length → TRep (c.bs.getD k tb0) n (ts.getD k tab0).t) (hcnt : us.length + bitsOf n * 13 ≤ B)
    (f : Fr (fun k => k = c.X ∨ bv.ownBlock = some k) wr w') {tv : Value} (htv : tv = .slice c.so ts.length c.tcap)
    (hp : (n = c.d ∧ Blk w' c.X (workCells c.szv c.d tv ⟨bv, c.l.starts, c.l.busy⟩) 66 ∧ TrAt w' ⟨bv, c.l.starts, c.l.busy⟩ c.ss (keepIf c.ss c.xs us)) ∨ (n ≠ c.d ∧ ∃ bv' D, Blk w' c.X (workCells c.szv n tv ⟨bv', c.l.starts, c.l.busy⟩) 66 ∧ TrAt w' ⟨bv', c.l.starts, c.l.busy⟩ c.ss (wrTo c.ss (keepIf c.ss c.xs us) (backR wr.heap.size D)) ∧
        Blk w' wr.heap.size #[.pointer (some ⟨c.X, 0, none⟩)] 35 ∧ Blk w' D (domV c.d) 60 ∧ wr.heap.size ≤ D ∧ (∀ k, bv'.ownBlock = some k → bv.ownBlock = some k ∨ wr.heap.size ≤ k))) :
    ∃ bv us, Settled c B w w' n bv ts us := by
  subst htv
  have o : Only wr (fun q => q = c.X ∨ bv.ownBlock = some q) [66, 1] := (Only.one h.blk).or (Only.row h.tr.backs)
  have hfr := h.fr.trans f (fun i hi => hi.elim (fun e => .inl (.inl e)) (fun e => (h.own i e).imp (fun x => .inr (.inr x)) id))
  have hun : ∀ u ∈ us, u.At w' c.X ts := fun u hu => (h.un u hu).1.frO f o (by decide) (.inl (h.un u hu).2)
  rcases hp with ⟨rfl, hX, htr⟩ | ⟨hne, bv', D, hX, htr, hbP, hbD, hDl, hown⟩
  · exact ⟨bv, us, hfr, h.own, hX, h.sz.frO f o (by decide), h.tabs.frO f o (by decide), htr, h.same, hun, h.new, h.back, hclo, hdm, hrep, by rw [if_pos rfl]; exact hcnt⟩
  · refine ⟨bv', us ++ [Un.r wr.heap.size D c.d], hfr, fun q hq => ?_, hX, h.sz.frO f o (by decide), h.tabs.frO f o (by decide), ?_, h.same, fun u hu => ?_, fun u hu q hq => ?_, ?_, hclo, hdm, hrep, ?_⟩
    · rcases hown q hq with h1 | h1
      · exact h.own q h1
      · exact .inr (Nat.le_trans h.fr.size h1)
    · rw [← keepIf_wr]
      exact htr
    · rcases List.mem_append.1 hu with hu | hu
      · exact hun u hu
      · rw [List.mem_singleton] at hu
        subst hu
        exact ⟨hbP, hbD, hd8, hd6⟩
    · rcases List.mem_append.1 hu with hu | hu
      · exact h.new u hu q hq
      · rw [List.mem_singleton] at hu
        subst hu
        have := h.fr.size
        rcases hq with rfl | rfl
        · omega
        · omega
    · rw [undo_app _ _ (c.d, ts.map Tab.t) _ rfl]
      exact h.back
    · rw [if_neg hne, List.length_append]
      simp only [List.length_singleton]
      omega
end Go.Proofs.YtkjfpdfkcfgfkaaGreat

/- settle, over any tables, at any level. -/
namespace Go.Proofs.YtkjfpdfkcfgfkaaGreat
open Go.RowKit

theorem Dm.mem {d : List Nat} (h : Dm d) : ∀ x ∈ d, x < 64 := by
  intro x hx
  obtain ⟨i, hi, e⟩ := List.getElem_of_mem hx
  have := h.lt i
  simpa [List.getD, hi, e] using this
theorem zero8_dm : Dm zero8 := ⟨rfl, fun q => by rw [zero8_get]; decide⟩
theorem zero8_sub (d : List Nat) : SubD zero8 d := fun q v h => by rw [zero8_get] at h; simp at h
theorem bits_zero8 : bitsOf zero8 = 0 := by decide

set_option maxHeartbeats 6400000 in
set_option maxRecDepth 1000000 in
theorem settle_any (c : SCtx) (next : List Nat) (m : List Bool) (w : World)
    (hX : Blk w c.X (workCells c.szv c.d (.slice c.so c.ts.length c.tcap) c.l) 66) (hsz : Row w c.szv 3 (c.zs.map (Value.int .i64))) (hz0 : 0 < c.zs.length) (hzl : c.zs.length ≤ 8) (hd8 : c.d.length = 8) (hd6 : ∀ x ∈ c.d, x < 64)
    (ht : TabsAt w c.so c.tcap c.ts) (hinj : Inj c.ts) (h12 : c.ts.length ≤ 12) (hm : m.length = 12) (hmo : ∀ k, c.ts.length ≤ k → m.getD k false = false)
    (htr : TrAt w c.l c.ss c.xs) (hxs : c.xs.length + (bitsOf next * 13 + marksOf m) ≤ 900000) (hS : SInv c.bs c.ts m c.start next) (hb : TbsOk c.zs.length c.bs) (hf : Fits c.bs c.ts) :
    Calls Tryz.prog 27 #[.pointer (some ⟨c.X, 0, none⟩), .agg (domV next), .agg (mksV m)] w fun e w' => e = .returned (.tuple #[]) ∧ ∃ d' bv ts us, Settled c (bitsOf next * 13 + marksOf m) w w' d' bv ts us := by
  obtain ⟨B, hB⟩ : ∃ B, bitsOf next * 13 + marksOf m = B := ⟨_, rfl⟩
  rw [hB] at hxs ⊢
  obtain ⟨W, hW⟩ : ∃ W, W = (w.alloc (.cells (domV next) 60)).alloc (.cells (mksV m) 71) := ⟨_, rfl⟩
  have hfW : Nw w W := by rw [hW]; exact ((Fr.refl _ w).alloc _).alloc _
  have hbN : Blk W w.heap.size (domV next) 60 := by rw [hW]; exact (Blk.new _ _ _).alloc _
  have hbM : Blk W (w.heap.size + 1) (mksV m) 71 := by
    rw [hW]
    have := Blk.new (w.alloc (.cells (domV next) 60)) (mksV m) 71
    simpa using this
  have hM0 : SMem c w W next m c.ts c.l.backs [] := ⟨hfW.mono (fun i h => h.elim), fun k hk => .inl hk, hX.nw hfW, hbN, hbM, hsz.nw hfW, ht.nw hfW, by rw [keepIf_nil]; exact htr.nw hfW, SameT.refl _, fun u hu => (by cases hu), fun u hu => (by cases hu), rfl⟩
  have hXlt := hX.lt
  have HW := hd hW
  have H0 : Hid (∃ next m ts bv us, Hid (SMem c w W next m ts bv us) ∧ Hid (SInv c.bs ts m c.start next) ∧ Hid (us.length + (bitsOf next * 13 + marksOf m) ≤ B) ∧ Hid (m.length = 12) ∧ Hid (∀ k, c.ts.length ≤ k → m.getD k false = false)) :=
    ⟨next, m, c.ts, c.l.backs, [], hM0, hS, by show 0 + _ ≤ B; omega, hm, hmo⟩
  have hsm := slice_marks (w.heap.size + 1)
  have Hb := hd hb
  have Hf := hd hf
  have Hinj := hd hinj
  have Hd6 := hd hd6
  clear hX hsz ht htr hbN hbM hW hM0 hfW hS hm hmo hB hb hf hinj hd6
  go_enter Tryz.func27, Tryz.ntmps27
  go_wp2_with fail
  rw [← HW.out]
  go_loopw [] (fun wr => ∃ next m ts bv us, Hid (SMem c w wr next m ts bv us) ∧ Hid (SInv c.bs ts m c.start next) ∧ Hid (us.length + (bitsOf next * 13 + marksOf m) ≤ B) ∧ Hid (m.length = 12) ∧ Hid (∀ k, c.ts.length ≤ k → m.getD k false = false)) (fun wr => muOf wr w.heap.size)
  case atStart => exact H0
  case round =>
    obtain ⟨next, m, ts, bv, us, HM, HS, HC, Hml, Hmo⟩ := hrel
    clear H0 HW
    have h8 : next.length = 8 := HS.out.dm.len
    obtain ⟨v0, v1, v2, v3, v4, v5, v6, v7, hdv⟩ := domV8 h8
    obtain ⟨⟨x0, rfl⟩, ⟨x1, rfl⟩, ⟨x2, rfl⟩, ⟨x3, rfl⟩, ⟨x4, rfl⟩, ⟨x5, rfl⟩, ⟨x6, rfl⟩, ⟨x7, rfl⟩⟩ := domV_one next hdv
    obtain ⟨c0, c1, c2, c3, c4, c5, c6, c7⟩ := cells8 (hdv ▸ HM.out.nx)
    have Hdv := hd hdv
    have hxl : (keepIf c.ss c.xs us).length ≤ 1000000 := by
      have h1 := keepIf_len c.ss c.xs us
      have h2 := HC.out
      omega
    clear hdv
    go_wp2_with fail
    rw [← Hdv.out]
    refine (emptied_any c.X c.szv c.d _ _ c.zs next _ HM.out.blk HM.out.sz hzl h8).mono ?_
    have hef := empty_full (n := c.zs.length) h8 hzl
    cases hE : emptyB c.zs.length next with
    | true =>
      have Hnf : Hid (¬ Full c.zs.length next) := fun h => by rw [hef.2 h] at hE; cases hE
      clear hef hE
      rintro e w1 ⟨rfl, hf1⟩
      have HM1 := hd (HM.out.nw hf1)
      clear hf1 c0 c1 c2 c3 c4 c5 c6 c7
      go_wp2_with (go_at_call 45; refine (replaceW_any c.X c.szv c.d _ ⟨bv, c.l.starts, c.l.busy⟩ c.ss (keepIf c.ss c.xs us) zero8 _ HM1.out.blk hd8 HM1.out.tr hxl rfl Hd6.out zero8_dm.mem).mono ?_; rintro e w2 ⟨rfl, hf2, hp2⟩)
      go_end0
      obtain ⟨bv', us', hset⟩ := HM1.out.replaced (B := B) hd8 Hd6.out (HS.out.dead hz0 Hnf.out) zero8_dm (fun k hk => (HS.out.rep k hk).mono (zero8_sub _)) (by rw [bits_zero8]; have := HC.out; omega) hf2 rfl hp2
      exact ⟨rfl, zero8, bv', ts, us', hset⟩
    | false =>
      have Hfull : Hid (Full c.zs.length next) := hef.1 hE
      clear hef hE
      rintro e w1 ⟨rfl, hf1⟩
      have HM1 := hd (HM.out.nw hf1)
      clear hf1 c0 c1 c2 c3 c4 c5 c6 c7
      rcases firstAt_spec m 0 with ⟨hfi, hq⟩ | ⟨k, hk12, hfi, hkm⟩
      · obtain ⟨c0, c1, c2, c3, c4, c5, c6, c7⟩ := cells8 (Hdv.out ▸ HM1.out.nx)
        have Hfi := hd hfi
        have Hq := hd hq
        clear hfi hq
        go_wp2_with (first
          | (go_at_call 44; refine (index_mks (w.heap.size + 1) m _ Hml.out HM1.out.mks).mono ?_; rw [Hfi.out]; rintro e w2 ⟨rfl, rfl⟩)
          | (go_at_call 45; rw [← Hdv.out]; refine (replaceW_any c.X c.szv c.d _ ⟨bv, c.l.starts, c.l.busy⟩ c.ss (keepIf c.ss c.xs us) next _ HM1.out.blk hd8 HM1.out.tr hxl h8 Hd6.out HS.out.dm.mem).mono ?_; rintro e w3 ⟨rfl, hf3, hp3⟩))
        obtain ⟨bv', us', hset⟩ := HM1.out.replaced (B := B) hd8 Hd6.out (HS.out.done Hfull.out (fun k _ => Hq.out k)) HS.out.dm HS.out.rep (by have := HC.out; omega) hf3 rfl hp3
        exact bodyPost_ret (v := .tuple #[]) (results_none rfl _ _ _) rfl ⟨rfl, next, bv', ts, us', hset⟩
      · have hkt : k < ts.length := by
          refine Classical.byContradiction fun hc => ?_
          have h1 := Hmo.out k (by rw [← HM.out.same.len]; omega)
          rw [h1] at hkm
          cases hkm
        have hfi' : firstAt true m 0 = (k : Int) := by rw [hfi, Nat.zero_add]
        have Hfi := hd hfi'
        have Hkm := hd hkm
        clear hfi hfi' hkm
        go_wp2_with (go_at_call 44; refine (index_mks (w.heap.size + 1) m _ Hml.out HM1.out.mks).mono ?_; rw [Hfi.out]; rintro e w2 ⟨rfl, rfl⟩)
        have hro := HM1.out.tabs.row
        obtain ⟨tb, tc, hso, _, hck, _⟩ := hro.cell k (by simpa using hkt)
        have hso' : c.so = some ⟨tb, 0, none⟩ := by simp at hso; exact hso.1
        obtain ⟨x, hx⟩ : ∃ x, ts.getD k tab0 = x := ⟨_, rfl⟩
        have hxk : ts[k] = x := by rw [← hx]; simp [List.getD, hkt]
        have hcI : w2.cell? ⟨tb, k, none⟩ = some (.iface x.t.ty (.pointer (some ⟨x.G, 0, none⟩))) := by
          rw [hck]
          simp only [List.getElem_map, hxk]
          rfl
        have hcT : w2.cell? ⟨c.X, 9, none⟩ = some (.slice (some ⟨tb, 0, none⟩) ts.length c.tcap) := (HM1.out.blk.cell 9).trans ((workCells_tabs _ _ _ _ hd8).trans (by rw [hso']))
        have htbl : tb < w2.heap.size := by
          have := hro.lt (k := tb) (by rw [hso']; rfl)
          exact this
        have hXl2 := HM1.out.blk.lt
        have hNl2 := HM1.out.nx.lt
        have hMl2 := HM1.out.mks.lt
        obtain ⟨ty, hty⟩ : ∃ ty, x.t.ty = ty := ⟨_, rfl⟩
        rw [hty] at hcI
        obtain ⟨nd, hnd⟩ : ∃ nd, tDom x.vars next x.t = nd := ⟨_, rfl⟩
        have hn8 : nd.length = 8 := by rw [← hnd]; exact tDom_len8 _ _ h8 _
        obtain ⟨n0, n1, n2, n3, n4, n5, n6, n7, hnv⟩ := domV8 hn8
        obtain ⟨⟨y0, rfl⟩, ⟨y1, rfl⟩, ⟨y2, rfl⟩, ⟨y3, rfl⟩, ⟨y4, rfl⟩, ⟨y5, rfl⟩, ⟨y6, rfl⟩, ⟨y7, rfl⟩⟩ := domV_one nd hnv
        have hat := HM1.out.tabs.at_ k hkt
        have h4 := HM1.out.tabs.four k hkt
        have hok := HM1.out.tabs.ok k hkt
        rw [hx] at hat h4 hok
        have hk31 : (k : Int) < ts.length := by omega
        have hts12 : ts.length ≤ 12 := by rw [HM1.out.same.len]; exact h12
        have Hat := hd hat
        have Hok := hd hok
        have Hnd := hd hnd
        have Hnv := hd hnv
        have Hty := hd hty
        have Hx := hd hx
        clear hro hso hck hxk hat hok hnd hnv hty hx
        go_cut [7] (fun p wx => ∃ N, p = .pointer (some ⟨N, 0, none⟩) ∧ Hid (Blk wx N (domV nd) 60) ∧ ∃ t' bv' T S, Hid (TS.Next x.vars next x.t t') ∧ Hid (SMem c w wx next m (ts.set k { x with t := t' }) bv' (us ++ [Un.n T S k x.t])) ∧ w.heap.size + 2 ≤ N)
        case first =>
          have hKx : ∀ (wa : World) (ts' : List Tab) (bv' : Value) (us' : List Un), SMem c w wa next m ts' bv' us' → ts'.length = ts.length → (ts'.getD k tab0).val = .iface ty (.pointer (some ⟨x.G, 0, none⟩)) → wa.cell? ⟨c.X, 9, none⟩ = some (.slice (some ⟨tb, 0, none⟩) ts.length c.tcap) ∧ wa.cell? ⟨tb, k, none⟩ = some (.iface ty (.pointer (some ⟨x.G, 0, none⟩))) ∧ Blk wa w.heap.size (domV next) 60 := by
            intro wa ts' bv' us' hm hl hv
            have h := hm.reads hd8 (k := k) (by omega) hso'
            rw [hl, hv] at h
            exact h
          have hval : (ts.getD k tab0).val = .iface ty (.pointer (some ⟨x.G, 0, none⟩)) := by rw [Hx.out, ← Hty.out]; rfl
          have hval' : ∀ t', TS.Kin x.t t' → ((ts.set k { x with t := t' }).getD k tab0).val = .iface ty (.pointer (some ⟨x.G, 0, none⟩)) := by
            intro t' ht'
            rw [getD_setT _ _ _ _ hkt, if_pos rfl, ← Hty.out]
            show Value.iface t'.ty _ = _
            rw [ht'.ty]
          have HMd : Hid (SMem c w w2.drew next m ts bv us) := HM1.out.nw ((Fr.refl _ w2).drew)
          have hK0 := hKx _ _ _ _ HMd.out rfl hval
          refine wp_region_held (S := fun w' => w'.cell? ⟨c.X, 9, none⟩ = some (.slice (some ⟨tb, 0, none⟩) ts.length c.tcap) ∧ w'.cell? ⟨tb, k, none⟩ = some (.iface ty (.pointer (some ⟨x.G, 0, none⟩))) ∧ Blk w' w.heap.size (domV next) 60) (by kernel_rfl) ?_
          refine wpAnyH_take (i := 0) (v := .pointer (some ⟨c.X, 0, none⟩)) rfl (by kernel_rfl) (by kernel_rfl) (by kernel_rfl) (fun _ _ _ h => h) (.inl ⟨by kernel_rfl, fun w' _ => rfl⟩) hK0 ?_
          refine wpAnyH_take (i := 1) (v := .pointer (some ⟨c.X, 0, none⟩)) rfl (by kernel_rfl) (by kernel_rfl) (by kernel_rfl) (fun _ _ _ h => h) (.inl ⟨by kernel_rfl, fun w' _ => rfl⟩) hK0 ?_
          refine wpAnyH_take (i := 2) (v := .pointer (some ⟨c.X, 0, none⟩)) rfl (by kernel_rfl) (by kernel_rfl) (by kernel_rfl) (fun _ _ _ h => h) (.inl ⟨by kernel_rfl, fun w' hS => by kernel_rfl⟩) hK0 ?_
          refine wpAnyH_take (i := 3) (v := .pointer (some ⟨c.X, 9, none⟩)) rfl (by kernel_rfl) (by kernel_rfl) (by kernel_rfl) (fun _ _ _ h => h) (.inl ⟨by kernel_rfl, fun w' hS => by kernel_rfl⟩) hK0 ?_
          refine wpAnyH_take (i := 4) (v := .slice (some ⟨tb, 0, none⟩) ts.length c.tcap) rfl (by kernel_rfl) (by kernel_rfl) (by kernel_rfl) (fun _ _ _ h => h) (.inl ⟨by kernel_rfl, fun w' hS => ?_⟩) hK0 ?_
          · have hc := hS.1
            clear hS hK0 hKx hval hval' hcT hcI hso'
            go_simp
          refine wpAnyH_take (i := 5) (v := .int .i64 (k : Int)) rfl (by kernel_rfl) (by kernel_rfl) (by kernel_rfl) (fun _ _ _ h => h) (.inl ⟨by kernel_rfl, fun w' hS => rfl⟩) hK0 ?_
          refine wpAnyH_take (i := 6) (v := .pointer (some ⟨tb, k, none⟩)) rfl (by kernel_rfl) (by kernel_rfl) (by kernel_rfl) (fun _ _ _ h => h) (.inl ⟨by kernel_rfl, fun w' hS => ?_⟩) hK0 ?_
          · clear hS hK0 hKx hval hval' hcT hcI hso'
            simp only [Act.put, List.setIfInBounds_toArray, List.set_cons_zero, List.set_cons_succ, List.getElem_toArray, List.getElem_cons_zero, List.getElem_cons_succ]
            go_simp
          refine wpAnyH_take (i := 7) (v := .iface ty (.pointer (some ⟨x.G, 0, none⟩))) rfl (by kernel_rfl) (by kernel_rfl) (by kernel_rfl) (fun _ _ _ h => h) (.inl ⟨by kernel_rfl, fun w' hS => ?_⟩) hK0 ?_
          · have hc := hS.2.1
            clear hS hK0 hKx hval hval' hcT hcI hso'
            go_simp
          refine wpAnyH_take (i := 8) (v := .agg (domV next)) rfl (by kernel_rfl) (by kernel_rfl) (by kernel_rfl) (fun _ _ _ h => h) (.inl ⟨by kernel_rfl, fun w' hS => ?_⟩) hK0 ?_
          · obtain ⟨k0, k1, k2, k3, k4, k5, k6, k7⟩ := cells8 (Hdv.out ▸ hS.2.2)
            clear hS hK0 hKx hval hval' hcT hcI hso'
            rw [Hdv.out]
            go_simp
          refine wpAnyH_all (rs := [9, 10]) (by kernel_rfl) (by simp) (fun i hi => ?_)
          rcases List.mem_cons.1 hi with rfl | hi
          · refine op_enter (f := 46) (args := #[.pointer (some ⟨c.X, 0, none⟩), .iface ty (.pointer (some ⟨x.G, 0, none⟩)), .agg (domV next)]) (w' := w2.drew) rfl (by kernel_rfl) (by kernel_rfl) ?_
            have hnar := narrowW_any c.X x.G x.g x.cap c.szv c.d _ _ c.ss _ x.vars x.t next _ HMd.out.blk hd8 HMd.out.tr hxl (Hat.out.nw ((Fr.refl _ w2).drew)) h8 h4 Hok.out HS.out.dm.lt
            rw [Hty.out, Hnd.out] at hnar
            refine hnar.mono ?_
            clear hnar
            rintro e w3 ⟨rfl, hf3, bv', t', S, hnx, hT3, hX3, htr3, hbT3, hbS3, hSl, _, hown⟩
            have hM3 := HMd.out.narrowed Hinj.out hkt (t' := t') (T := w2.drew.heap.size) (S := S) (by rw [Hx.out]; exact hnx.kin) (by rw [Hx.out]; exact hf3) (by rw [Hx.out]; exact hT3) hX3 htr3 (by rw [hval]; exact hbT3) (by rw [Hx.out]; exact hbS3) hown (Nat.le_refl _) hSl
            rw [Hx.out] at hM3
            have hs3 : w2.heap.size ≤ w3.heap.size := hf3.size
            have hK1 := hKx _ _ _ _ hM3 (by simp) (hval' t' hnx.kin)
            refine ⟨_, rfl, hK1, ?_⟩
            refine wpAnyH_all (rs := [10]) (by kernel_rfl) (by simp) (fun i hi => ?_)
            rcases List.mem_cons.1 hi with rfl | hi
            · obtain ⟨Y, hY⟩ : ∃ Y, Y = w3.alloc (.cells (domV zero8) 60) := ⟨_, rfl⟩
              have hfY : Nw w3 Y := by rw [hY]; exact (Fr.refl _ w3).alloc _
              have hZ : Blk Y w3.heap.size (domV zero8) 60 := by rw [hY]; exact Blk.new _ _ _
              have hMY := hM3.nw hfY
              have hKY := hKx _ _ _ _ hMY (by simp) (hval' t' hnx.kin)
              refine op_value (v := .pointer (some ⟨w3.heap.size, 0, none⟩)) (w' := Y) rfl (by kernel_rfl) ?_ ⟨hKY, ?_⟩
              · rw [hY]
                kernel_rfl
              · refine wpAnyH_all (rs := [11]) (by kernel_rfl) (by simp) (fun i hi => ?_)
                rcases List.mem_cons.1 hi with rfl | hi
                · have hF8 := (Fr.refl (fun k => k = w3.heap.size) Y).set8 w3.heap.size 0 1 2 3 4 5 6 7 (.int .u8 y0) (.int .u8 y1) (.int .u8 y2) (.int .u8 y3) (.int .u8 y4) (.int .u8 y5) (.int .u8 y6) (.int .u8 y7) (.inl rfl)
                  have hB8 := hZ.put8 Hnv.out
                  obtain ⟨q0, q1, q2, q3, q4, q5, q6, q7⟩ := cells8 hZ
                  have hfz := hZ.free
                  have hM8 := hMY.wr hF8 ((Only.one hZ).mono (fun _ x => x) (by decide)) (fun k hk => by omega) (hMY.nx.fr hF8 (by omega)) (hMY.mks.fr hF8 (by omega))
                  have hK8 := hKx _ _ _ _ hM8 (by simp) (hval' t' hnx.kin)
                  clear hY
                  refine op_skip (w' := _) rfl (by kernel_rfl) ?_ ⟨hK8, wpAnyH_done (by kernel_rfl) ?_ _⟩
                  · clear hK1 hK0 hKY hf3 hF8 hB8 hM8 hK8 hMY hM3 hX3 hT3 hbT3 hbS3 htr3 hval hval' hKx hcT hcI hso' hnx hown
                    rw [Hnv.out]
                    go_simp
                  · simp only [Act.put, List.setIfInBounds_toArray, List.set_cons_zero, List.set_cons_succ, List.getElem_toArray, List.getElem_cons_zero, List.getElem_cons_succ]
                    go_wp2_with fail
                    go_meet
                    case rel => exact ⟨w3.heap.size, rfl, hB8, t', bv', _, S, hnx, hM8, by omega⟩
                · simp at hi
            · simp at hi
          · rcases List.mem_cons.1 hi with rfl | hi
            · obtain ⟨Y, hY⟩ : ∃ Y, Y = w2.drew.alloc (.cells (domV zero8) 60) := ⟨_, rfl⟩
              have hfY : Nw w2 Y := by rw [hY]; exact ((Fr.refl _ w2).drew).alloc _
              have hZ : Blk Y w2.heap.size (domV zero8) 60 := by rw [hY]; exact Blk.new _ _ _
              have hMY := HM1.out.nw hfY
              have hKY := hKx _ _ _ _ hMY rfl hval
              refine op_value (v := .pointer (some ⟨w2.heap.size, 0, none⟩)) (w' := Y) rfl (by kernel_rfl) ?_ ⟨hKY, ?_⟩
              · rw [hY]
                kernel_rfl
              · refine wpAnyH_all (rs := [9]) (by kernel_rfl) (by simp) (fun i hi => ?_)
                rcases List.mem_cons.1 hi with rfl | hi
                · refine op_enter (f := 46) (args := #[.pointer (some ⟨c.X, 0, none⟩), .iface ty (.pointer (some ⟨x.G, 0, none⟩)), .agg (domV next)]) (w' := Y) rfl (by kernel_rfl) (by kernel_rfl) ?_
                  have hnar := narrowW_any c.X x.G x.g x.cap c.szv c.d _ _ c.ss _ x.vars x.t next _ hMY.blk hd8 hMY.tr hxl (Hat.out.nw hfY) h8 h4 Hok.out HS.out.dm.lt
                  rw [Hty.out, Hnd.out] at hnar
                  refine hnar.mono ?_
                  clear hnar
                  rintro e w3 ⟨rfl, hf3, bv', t', S, hnx, hT3, hX3, htr3, hbT3, hbS3, hSl, _, hown⟩
                  have hM3 := hMY.narrowed Hinj.out hkt (t' := t') (T := Y.heap.size) (S := S) (by rw [Hx.out]; exact hnx.kin) (by rw [Hx.out]; exact hf3) (by rw [Hx.out]; exact hT3) hX3 htr3 (by rw [hval]; exact hbT3) (by rw [Hx.out]; exact hbS3) hown (Nat.le_refl _) hSl
                  rw [Hx.out] at hM3
                  have hs3 := hf3.size
                  have hK1 := hKx _ _ _ _ hM3 (by simp) (hval' t' hnx.kin)
                  refine ⟨_, rfl, hK1, ?_⟩
                  refine wpAnyH_all (rs := [11]) (by kernel_rfl) (by simp) (fun i hi => ?_)
                  rcases List.mem_cons.1 hi with rfl | hi
                  · have hZ3 := hZ.frO hf3 (Hx.out ▸ hMY.only hkt) (by decide)
                    have hF8 := (Fr.refl (fun k => k = w2.heap.size) w3).set8 w2.heap.size 0 1 2 3 4 5 6 7 (.int .u8 y0) (.int .u8 y1) (.int .u8 y2) (.int .u8 y3) (.int .u8 y4) (.int .u8 y5) (.int .u8 y6) (.int .u8 y7) (.inl rfl)
                    have hB8 := hZ3.put8 Hnv.out
                    obtain ⟨q0, q1, q2, q3, q4, q5, q6, q7⟩ := cells8 hZ3
                    have hfz := hZ3.free
                    have hM8 := hM3.wr hF8 ((Only.one hZ3).mono (fun _ x => x) (by decide)) (fun k hk => by omega) (hM3.nx.fr hF8 (by omega)) (hM3.mks.fr hF8 (by omega))
                    have hK8 := hKx _ _ _ _ hM8 (by simp) (hval' t' hnx.kin)
                    clear hY
                    refine op_skip (w' := _) rfl (by kernel_rfl) ?_ ⟨hK8, wpAnyH_done (by kernel_rfl) ?_ _⟩
                    · clear hK1 hK0 hKY hf3 hF8 hB8 hM8 hK8 hMY hM3 hX3 hT3 hbT3 hbS3 htr3 hval hval' hKx hcT hcI hso' hnx hown hZ hZ3
                      rw [Hnv.out]
                      go_simp
                    · simp only [Act.put, List.setIfInBounds_toArray, List.set_cons_zero, List.set_cons_succ, List.getElem_toArray, List.getElem_cons_zero, List.getElem_cons_succ]
                      go_wp2_with fail
                      go_meet
                      case rel => exact ⟨w2.heap.size, rfl, hB8, t', bv', _, S, hnx, hM8, by omega⟩
                  · simp at hi
                · simp at hi
            · simp at hi
        case rest =>
          obtain ⟨N, rfl, hN, t', bv', T, S, HNx, HM3, hNl⟩ := hcut
          clear hcT hcI
          have hlen : (ts.set k { x with t := t' }).length = ts.length := by simp
          obtain ⟨ts', hts'⟩ : ∃ ts', ts.set k { x with t := t' } = ts' := ⟨_, rfl⟩
          obtain ⟨us', hus'⟩ : ∃ us', us ++ [Un.n T S k x.t] = us' := ⟨_, rfl⟩
          have hM3 := HM3.out
          rw [hts', hus'] at hM3
          rw [hts'] at hlen
          obtain ⟨c0, c1, c2, c3, c4, c5, c6, c7⟩ := cells8 (Hdv.out ▸ hM3.nx)
          obtain ⟨k0, k1, k2, k3, k4, k5, k6, k7⟩ := cells8 (Hnv.out ▸ hN.out)
          have hwk : ∀ j, wakeTo ts' next nd m j = wakeTo ts next nd m j := by
            intro j
            induction j with
            | zero => rfl
            | succ j ih =>
              have e : (ts'.getD j tab0).vars = (ts.getD j tab0).vars := by
                rw [← hts', getD_setT _ _ _ _ hkt]
                by_cases e : k = j
                · subst e
                  rw [if_pos rfl, Hx.out]
                · rw [if_neg e]
              simp only [wakeTo, ih, e]
          have Hwk := hd hwk
          have Hts' := hd hts'
          have Hus' := hd hus'
          have HM3' := hd hM3
          have hst : ∀ o, c.so = some o → o.block ≠ w.heap.size + 1 := fun o ho e => by
            have h1 := hM3.tabs.row
            refine h1.ne hM3.mks (by decide) ?_
            rw [hso'] at ho ⊢
            cases ho
            exact congrArg some e
          have hnM : ∀ i, i < ts'.length → (ts'.getD i tab0).G ≠ w.heap.size + 1 ∧ (ts'.getD i tab0).g ≠ w.heap.size + 1 := fun i hi => by
            have h1 := hM3.tabs.at_ i hi
            refine ⟨fun e => ?_, fun e => ?_⟩
            · obtain ⟨cu, e', hb', hc'⟩ := h1.tyAt (.inl rfl)
              rw [e] at hb'
              have := (hb'.inj hM3.mks).2
              subst this
              revert hc'
              decide
            · obtain ⟨cu, e', hb', hc'⟩ := h1.tyAt (.inr (.inl rfl))
              rw [e] at hb'
              have := (hb'.inj hM3.mks).2
              subst this
              revert hc'
              decide
          have Hst := hd hst
          have HnM := hd hnM
          clear HM3 hts' hus' hM3 hwk hst hnM
          go_wp2_with fail
          rw [← Hdv.out, ← Hnv.out]
          refine (wake_any c.X (w.heap.size + 1) c.so c.tcap c.szv c.d _ ts' next nd m _ HM3'.out.blk hd8 HM3'.out.tabs (by omega) Hml.out HnM.out Hst.out h8 hn8 HM3'.out.mks).mono ?_
          rw [Hwk.out, hlen]
          rintro e w4 ⟨rfl, hf4, hM4⟩
          have hN4 := hN.out.fr hf4 (by omega)
          have hS4 := HM3'.out.wr hf4 ((Only.one HM3'.out.mks).mono (fun _ x => x) (by decide)) (fun k hk => by omega) (HM3'.out.nx.fr hf4 (by omega)) hM4
          have hwl : (wakeTo ts next nd m ts.length).length = 12 := by rw [wakeTo_length]; exact Hml.out
          obtain ⟨bm, hbm⟩ : ∃ b, w4.cell? ⟨w.heap.size + 1, k, none⟩ = some b := ⟨_, (hM4.cell k).trans (mksV_get _ _ (by omega))⟩
          have hfm := hM4.free k
          have hk12' : k < 12 := by omega
          have HS4 := hd hS4
          have HN4 := hd hN4
          have HM4 := hd hM4
          have Hwl := hd hwl
          clear hf4 hS4 hN4 hM4 hwl c0 c1 c2 c3 c4 c5 c6 c7 k0 k1 k2 k3 k4 k5 k6 k7
          go_upto_region 8 with fail
          obtain ⟨U, hU⟩ : ∃ U, U = w4.setCell ⟨w.heap.size + 1, k, none⟩ (.bool false) := ⟨_, rfl⟩
          have hfU : Fr (fun k => k = w.heap.size + 1) w4 U := by rw [hU]; exact (Fr.refl _ w4).setCell _ _ (.inl rfl)
          have hMU : Blk U (w.heap.size + 1) (mksV ((wakeTo ts next nd m ts.length).set k false)) 71 := by
            have h5 := HM4.out.set k (.bool false)
            have e6 : mksV ((wakeTo ts next nd m ts.length).set k false) = (mksV (wakeTo ts next nd m ts.length)).setIfInBounds k (.bool false) := by simp [mksV, List.map_set]
            rw [hU, e6]
            exact h5
          rw [← hU]
          have hSU := HS4.out.wr hfU ((Only.one HM4.out).mono (fun _ x => x) (by decide)) (fun k hk => by omega) (HS4.out.nx.fr hfU (by omega)) hMU
          have hNU := HN4.out.fr hfU (by omega)
          obtain ⟨c0, c1, c2, c3, c4, c5, c6, c7⟩ := cells8 (Hdv.out ▸ hSU.nx)
          obtain ⟨k0, k1, k2, k3, k4, k5, k6, k7⟩ := cells8 (Hnv.out ▸ hNU)
          have hfz := hSU.nx.free
          have hB8 := Blk.set8 (cur := #[Value.int .u8 x0, Value.int .u8 x1, Value.int .u8 x2, Value.int .u8 x3, Value.int .u8 x4, Value.int .u8 x5, Value.int .u8 x6, Value.int .u8 x7]) (Hdv.out ▸ hSU.nx) 0 1 2 3 4 5 6 7 (.int .u8 y0) (.int .u8 y1) (.int .u8 y2) (.int .u8 y3) (.int .u8 y4) (.int .u8 y5) (.int .u8 y6) (.int .u8 y7)
          rw [arr8, ← Hnv.out] at hB8
          have hF8 := (Fr.refl (fun k => k = w.heap.size) U).set8 w.heap.size 0 1 2 3 4 5 6 7 (.int .u8 y0) (.int .u8 y1) (.int .u8 y2) (.int .u8 y3) (.int .u8 y4) (.int .u8 y5) (.int .u8 y6) (.int .u8 y7) (.inl rfl)
          have hSV := hSU.wr hF8 ((Only.one hSU.nx).mono (fun _ x => x) (by decide)) (fun k hk => by omega) hB8 (hMU.fr hF8 (by omega))
          have HSV := hd hSV
          have HB8 := hd hB8
          have HMV := hd (hMU.fr hF8 (by omega))
          clear hU hMU hSU hNU hB8 hF8 hfU hbm hfm hSV
          go_wp2_with fail
          have hfits := HM.out.same.fits Hf.out
          have hkb : k < c.bs.length := by rw [← hfits.1]; exact hkt
          have hblen : c.bs.length ≤ m.length := by rw [← hfits.1, HM.out.same.len, Hml.out]; exact h12
          have hstep := HS.out.step Hb.out hfits hblen Hfull.out hkb (t' := t') (by rw [Hx.out]; exact HNx.out)
          rw [Hx.out, Hnd.out, Hts'.out] at hstep
          have hsub : SubD nd next := by
            have hv := hfits.2 k hkb
            have hr := HS.out.rep k hkb
            rw [Hx.out] at hv hr
            rw [← Hnd.out, hv]
            exact tDom_sub (Hb.out k hkb).1 HS.out.dm hr (full_out Hfull.out (Hb.out k hkb).2)
          have hless := round_less (ts := ts) Hml.out HS.out.dm hstep.dm hsub Hkm.out
          refine ⟨⟨nd, (wakeTo ts next nd m ts.length).set k false, ts', bv', us', HSV.out, hstep, ?_, ?_, ?_⟩, ?_⟩
          · show us'.length + _ ≤ B
            have h1 := HC.out
            rw [← Hus'.out, List.length_append]
            simp only [List.length_singleton]
            omega
          · show List.length _ = 12
            rw [List.length_set]
            exact Hwl.out
          · show ∀ j, c.ts.length ≤ j → _
            intro j hj
            rw [getD_setB]
            split
            · rfl
            · have hw := wakeTo_get ts next nd m (by rw [HM.out.same.len, Hml.out]; exact h12) j ts.length (Nat.le_refl _)
              cases hx : (wakeTo ts next nd m ts.length).getD j false with
              | false => rfl
              | true =>
                rcases hw.1 hx with h1 | ⟨h1, _⟩
                · rw [Hmo.out j hj] at h1
                  cases h1
                · rw [HM.out.same.len] at h1
                  omega
          · rw [mu_at HSV.out.nx HSV.out.mks, mu_at HM.out.nx HM.out.mks]
            exact hless
end Go.Proofs.YtkjfpdfkcfgfkaaGreat

/- A Work between two calls: what lies in memory, and what it means. -/
namespace Go.Proofs.YtkjfpdfkcfgfkaaGreat
open Go.RowKit

def ts00 : TS := .rs false [] 0
/-- A Work: its domains, tables (in memory; in the document's words), trail, levels (the last first: how many changes there were, and what the domains and tables were). -/
structure WS where
  szv : Value
  d : List Nat
  so : Option Addr
  tcap : Nat
  l : Rest
  ts : List Tab
  bs : List Tb
  us : List Un
  sk : List (Nat × List Nat × List TS)
/-- Domains and tables between two calls. -/
structure Good (zs : List Int) (bs : List Tb) (d : List Nat) (tss : List TS) : Prop where
  dm : Dm d
  inn : SubD d (fullTo zs zs.length)
  alive : d = zero8 ∨ Full zs.length d
  clo : ∀ b ∈ bs, SuppAll b d
  len : tss.length = bs.length
  rep : ∀ k, k < bs.length → TRep (bs.getD k tb0) d (tss.getD k ts00)
/-- What is undone leads to what was at each Push. -/
def StackOk (zs : List Int) (bs : List Tb) : List Un → List Nat × List TS → List (Nat × List Nat × List TS) → Prop
  | us, _, [] => us = []
  | us, cur, (n, s) :: r => n ≤ us.length ∧ (us.drop n).foldr Un.undo cur = s ∧ Good zs bs s.1 s.2 ∧ n + 900 * bitsOf s.1 ≤ 57600 ∧ StackOk zs bs (us.take n) s r
def startsOf (sk : List (Nat × List Nat × List TS)) : List Value := sk.reverse.map (fun p => Value.int .i64 (p.1 : Int))
structure WMem (w : World) (X : Nat) (zs : List Int) (s : WS) : Prop where
  blk : Blk w X (workCells s.szv s.d (.slice s.so s.ts.length s.tcap) s.l) 66
  sz : Row w s.szv 3 (zs.map (Value.int .i64))
  zok : okSizes zs = true
  tabs : TabsAt w s.so s.tcap s.ts
  inj : Inj s.ts
  t12 : s.ts.length ≤ 12
  fits : Fits s.bs s.ts
  tbok : TbsOk zs.length s.bs
  tr : TrAt w s.l (startsOf s.sk) (s.us.map Un.val)
  un : ∀ u ∈ s.us, u.At w X s.ts
  apart : ∀ k, s.l.starts.ownBlock = some k → s.szv.ownBlock ≠ some k ∧ ∀ i, i < s.ts.length → (s.ts.getD i tab0).g ≠ k
/-- A Work between two calls. -/
structure WAt (w : World) (X : Nat) (zs : List Int) (s : WS) : Prop where
  mem : WMem w X zs s
  good : Good zs s.bs s.d (s.ts.map Tab.t)
  cnt : s.us.length + 900 * bitsOf s.d ≤ 57600
  sk : StackOk zs s.bs s.us (s.d, s.ts.map Tab.t) s.sk
  lev : s.sk.length ≤ 20
theorem okSizes_len {zs : List Int} (h : okSizes zs = true) : 0 < zs.length ∧ zs.length ≤ 8 := by
  simp only [okSizes, Bool.and_eq_true, decide_eq_true_eq] at h
  omega
/-- Blocks of a Work's own (but for nodes, which are never written again). -/
def WS.own (X : Nat) (s : WS) (k : Nat) : Prop := k = X ∨ s.szv.ownBlock = some k ∨ (Value.slice s.so s.ts.length s.tcap).ownBlock = some k ∨ (∃ i, i < s.ts.length ∧ (k = (s.ts.getD i tab0).G ∨ k = (s.ts.getD i tab0).g)) ∨ s.l.backs.ownBlock = some k ∨ s.l.starts.ownBlock = some k ∨ ∃ u ∈ s.us, u.boxes k
def ownTys : List TypeId := [66, 3, 73, 131, 125, 1, 137, 35, 60]
theorem TAt.tyg {w : World} {G g cap : Nat} {vars : List Int} {t : TS} (h : TAt w G g cap vars t) : ∃ cur, Blk w g cur 3 := by
  cases t with
  | rs nt br live =>
    obtain ⟨cur, hb, _⟩ := h.2.1.blk rfl
    exact ⟨cur, hb⟩
  | dg nv os root =>
    obtain ⟨cur, hb, _⟩ := h.1.rv.blk rfl
    exact ⟨cur, hb⟩
theorem TAt.tyn {w : World} {G g cap : Nat} {vars : List Int} {t : TS} (h : TAt w G g cap vars t) {k : Nat} (hk : t.nodes k) : ∃ cur, Blk w k cur 151 := by
  cases t with
  | rs nt br live => exact hk.elim
  | dg nv os root => exact ownsRow.blk h.1.row hk
theorem Un.At.box {w : World} {X : Nat} {ts : List Tab} {u : Un} (h : u.At w X ts) {k : Nat} (hk : u.boxes k) : ∃ cur e, Blk w k cur e ∧ (e = 73 ∨ e = 137 ∨ e = 35 ∨ e = 60) := by
  cases u with
  | n T S j t0 =>
    rcases hk with rfl | rfl
    · exact ⟨_, _, h.2.1, .inl rfl⟩
    · exact ⟨_, _, h.2.2.1, .inr (.inl rfl)⟩
  | r T D d0 =>
    rcases hk with rfl | rfl
    · exact ⟨_, _, h.1, .inr (.inr (.inl rfl))⟩
    · exact ⟨_, _, h.2.1, .inr (.inr (.inr rfl))⟩
theorem Un.At.fr {S : Nat → Prop} {w w' : World} {X : Nat} {ts : List Tab} {u : Un} (h : u.At w X ts) (f : Fr S w w') (hn : ∀ k, u.boxes k → ¬ S k) {es : List TypeId} (o : Only w S es) (he : 151 ∉ es) : u.At w' X ts := by
  cases u with
  | n T S' j t0 => exact ⟨h.1, h.2.1.fr f (hn _ (.inl rfl)), h.2.2.1.fr f (hn _ (.inr rfl)), h.2.2.2.frO f o he⟩
  | r T D d0 => exact ⟨h.1.fr f (hn _ (.inl rfl)), h.2.1.fr f (hn _ (.inr rfl)), h.2.2⟩
theorem WMem.ty {w : World} {X : Nat} {zs : List Int} {s : WS} (h : WMem w X zs s) {k : Nat} (hk : s.own X k) : ∃ cur e, Blk w k cur e ∧ e ∈ ownTys := by
  rcases hk with rfl | hk | hk | ⟨i, hi, rfl | rfl⟩ | hk | hk | ⟨u, hu, hk⟩
  · exact ⟨_, _, h.blk, by decide⟩
  · obtain ⟨cur, hb, _⟩ := h.sz.blk hk
    exact ⟨_, _, hb, by decide⟩
  · obtain ⟨cur, hb, _⟩ := h.tabs.row.blk hk
    exact ⟨_, _, hb, by decide⟩
  · obtain ⟨cur, e, hb, he⟩ := (h.tabs.at_ i hi).tyG
    refine ⟨_, _, hb, ?_⟩
    rcases he with rfl | rfl <;> decide
  · obtain ⟨cur, hb⟩ := (h.tabs.at_ i hi).tyg
    exact ⟨_, _, hb, by decide⟩
  · obtain ⟨cur, hb, _⟩ := h.tr.backs.blk hk
    exact ⟨_, _, hb, by decide⟩
  · obtain ⟨cur, hb, _⟩ := h.tr.starts.blk hk
    exact ⟨_, _, hb, by decide⟩
  · obtain ⟨cur, e, hb, he⟩ := (h.un u hu).box hk
    refine ⟨_, _, hb, ?_⟩
    rcases he with rfl | rfl | rfl | rfl <;> decide
theorem WMem.lt {w : World} {X : Nat} {zs : List Int} {s : WS} (h : WMem w X zs s) {k : Nat} (hk : s.own X k) : k < w.heap.size := by
  obtain ⟨_, _, hb, _⟩ := h.ty hk
  exact hb.lt
theorem WMem.only {w : World} {X : Nat} {zs : List Int} {s : WS} (h : WMem w X zs s) : Only w (s.own X) ownTys := fun k cur e hk hb => by
  obtain ⟨_, _, hb', he⟩ := h.ty hk
  rw [(hb.inj hb').2]
  exact he
theorem WMem.fr {S : Nat → Prop} {w w' : World} {X : Nat} {zs : List Int} {s : WS} (h : WMem w X zs s) (f : Fr S w w') (hn : ∀ k, s.own X k → ¬ S k) {es : List TypeId} (o : Only w S es) (he : 151 ∉ es) : WMem w' X zs s := by
  refine ⟨h.blk.fr f (hn _ (.inl rfl)), h.sz.fr f (fun k hk => hn k (.inr (.inl hk))), h.zok, ⟨h.tabs.row.fr f (fun k hk => hn k (.inr (.inr (.inl hk)))), fun i hi => (h.tabs.at_ i hi).fr f ?_, h.tabs.four, h.tabs.ok⟩, h.inj, h.t12, h.fits, h.tbok, h.tr.fr f (fun k hk => hn k (.inr (.inr (.inr (.inr (.inr (.inl hk))))))) (fun k hk => hn k (.inr (.inr (.inr (.inr (.inl hk)))))), fun u hu => (h.un u hu).fr f (fun k hk => hn k (.inr (.inr (.inr (.inr (.inr (.inr ⟨u, hu, hk⟩))))))) o he, h.apart⟩
  rintro k (hk | hk | hk)
  · exact hn k (.inr (.inr (.inr (.inl ⟨i, hi, .inl hk⟩))))
  · exact hn k (.inr (.inr (.inr (.inl ⟨i, hi, .inr hk⟩))))
  · obtain ⟨cur, hb⟩ := (h.tabs.at_ i hi).tyn hk
    exact fun hs => he (o k cur _ hs hb)
theorem WAt.fr {S : Nat → Prop} {w w' : World} {X : Nat} {zs : List Int} {s : WS} (h : WAt w X zs s) (f : Fr S w w') (hn : ∀ k, s.own X k → ¬ S k) {es : List TypeId} (o : Only w S es) (he : 151 ∉ es) : WAt w' X zs s := ⟨h.mem.fr f hn o he, h.good, h.cnt, h.sk, h.lev⟩
theorem WAt.nw {w w' : World} {X : Nat} {zs : List Int} {s : WS} (h : WAt w X zs s) (f : Nw w w') : WAt w' X zs s := h.fr f (fun _ _ x => x) (Only.none w) (by decide)
theorem WMem.nw {w w' : World} {X : Nat} {zs : List Int} {s : WS} (h : WMem w X zs s) (f : Nw w w') : WMem w' X zs s := h.fr f (fun _ _ x => x) (Only.none w) (by decide)
/-- A call on a Work: it writes what is its own, and takes new blocks. -/
structure WStep (w w' : World) (X : Nat) (s s' : WS) : Prop where
  fr : Fr (s.own X) w w'
  grow : ∀ k, s'.own X k → s.own X k ∨ w.heap.size ≤ k
theorem WStep.nw {w w' : World} (h : Nw w w') (X : Nat) (s : WS) : WStep w w' X s s := ⟨h.mono (fun _ x => x.elim), fun _ h => .inl h⟩
theorem WStep.trans {a b c : World} {X : Nat} {s s' s'' : WS} (h : WStep a b X s s') (k : WStep b c X s' s'') : WStep a c X s s'' := ⟨h.fr.trans k.fr h.grow, fun i hi => by
  rcases k.grow i hi with h1 | h1
  · exact h.grow i h1
  · exact .inr (Nat.le_trans h.fr.size h1)⟩
theorem zero_supp (b : Tb) : SuppAll b zero8 := fun i v _ h => by rw [zero8_get] at h; simp at h
theorem bits_max (d : List Nat) : bitsOf d ≤ 64 := by
  have key : ∀ (l : List Nat) (a : Nat), (l.map (fun q => (vals (d.getD q 0)).length)).foldl (· + ·) a ≤ a + 8 * l.length := by
    intro l
    induction l with
    | nil => intro a; simp
    | cons q l ih =>
      intro a
      have h1 := ih (a + (vals (d.getD q 0)).length)
      have h2 : (vals (d.getD q 0)).length ≤ 8 := by
        have := List.length_filter_le (fun v => (d.getD q 0).testBit v) (List.range 8)
        simpa [vals] using this
      simp only [List.map_cons, List.foldl_cons, List.length_cons]
      omega
  have := key (List.range 8) 0
  simpa [bitsOf] using this
theorem mapT_getD (ts : List Tab) (k : Nat) : (ts.map Tab.t).getD k ts00 = (ts.getD k tab0).t := by
  simp only [List.getD, List.getElem?_map]
  cases ts[k]? <;> rfl
def WS.ctx (X : Nat) (zs : List Int) (s : WS) (start : List Nat) : SCtx := ⟨X, s.szv, zs, s.d, s.so, s.tcap, s.l, startsOf s.sk, s.us.map Un.val, s.ts, s.bs, start⟩
/-- The Work behind settle. -/
def WS.set (s : WS) (d' : List Nat) (bv : Value) (ts : List Tab) (us : List Un) : WS := { s with d := d', l := ⟨bv, s.l.starts, s.l.busy⟩, ts := ts, us := if s.sk.isEmpty then [] else s.us ++ us }
theorem WMem.onlyS {w : World} {X : Nat} {zs : List Int} {s : WS} (h : WMem w X zs s) : Only w (SFr X s.ts s.l.backs) [66, 131, 125, 1] := by
  rintro k cur e (rfl | ⟨i, hi, rfl⟩ | hk) hb
  · rw [(hb.inj h.blk).2]
    decide
  · obtain ⟨cur', e', hb', he⟩ := (h.tabs.at_ i hi).tyG
    rw [(hb.inj hb').2]
    rcases he with rfl | rfl <;> decide
  · obtain ⟨cur', hb', _⟩ := h.tr.backs.blk hk
    rw [(hb.inj hb').2]
    decide
theorem StackOk.add {zs : List Int} {bs : List Tb} {us us' : List Un} {cur cur' : List Nat × List TS} (hb : us'.foldr Un.undo cur' = cur) : ∀ {sk : List (Nat × List Nat × List TS)}, StackOk zs bs us cur sk → StackOk zs bs (if sk.isEmpty then [] else us ++ us') cur' sk
  | [], _ => rfl
  | (n, s) :: r, ⟨h1, h2, h3, h4, h5⟩ => by
    show StackOk zs bs (us ++ us') cur' ((n, s) :: r)
    refine ⟨by rw [List.length_append]; omega, ?_, h3, h4, ?_⟩
    · rw [List.drop_append_of_le_length h1, List.foldr_append, hb]
      exact h2
    · rw [List.take_append_of_le_length h1]
      exact h5
theorem WMem.settled {w w' : World} {X : Nat} {zs : List Int} {s : WS} {start : List Nat} {B : Nat} {d' : List Nat} {bv : Value} {ts : List Tab} {us : List Un} (h : WMem w X zs s) (hk : StackOk zs s.bs s.us (s.d, s.ts.map Tab.t) s.sk)
    (hin : SubD start (fullTo zs zs.length)) (hdm : Dm s.d) (hsub : SubD start s.d) (hc : s.us.length + 900 * bitsOf s.d ≤ 57600) (hB1 : B ≤ 850) (hB2 : d' = s.d → s.sk ≠ [] → B ≤ bitsOf s.d * 13) (hlev : s.sk.length ≤ 20) (set : Settled (s.ctx X zs start) B w w' d' bv ts us) :
    WAt w' X zs (s.set d' bv ts us) ∧ WStep w w' X s (s.set d' bv ts us) := by
  have hsame : SameT s.ts ts := set.same
  have hfr : Fr (SFr X s.ts s.l.backs) w w' := set.fr
  have oS := h.onlyS
  have hd' : SubD d' s.d := by
    by_cases hF : Full zs.length d'
    · exact ((set.clo.full hF).1).trans hsub
    · rw [(set.clo.none hF).1]
      exact zero8_sub _
  refine ⟨⟨⟨set.blk, set.sz, h.zok, set.tabs, hsame.inj h.inj, by show ts.length ≤ 12; rw [hsame.len]; exact h.t12, hsame.fits h.fits, h.tbok, ?_, ?_, fun k hk => ⟨(h.apart k hk).1, fun i hi => ?_⟩⟩, ?_, ?_, ?_, hlev⟩, ?_⟩
  · have htr := set.tr
    show TrAt w' ⟨bv, s.l.starts, s.l.busy⟩ (startsOf s.sk) ((if s.sk.isEmpty then [] else s.us ++ us).map Un.val)
    have e : (if s.sk.isEmpty then [] else s.us ++ us).map Un.val = keepIf (startsOf s.sk) (s.us.map Un.val) us := by
      cases hsk : s.sk with
      | nil =>
        rw [hsk] at hk
        have hu : s.us = [] := hk
        simp [keepIf, startsOf, hu]
      | cons p r => simp [keepIf, startsOf]
    rw [e]
    exact htr
  · intro u hu
    have key : ∀ u ∈ s.us, u.At w' X ts := fun u hu => ((h.un u hu).frO hfr oS (by decide) (.inr (by decide))).same hsame
    have hu' : u ∈ (if s.sk.isEmpty then [] else s.us ++ us) := hu
    split at hu'
    · cases hu'
    · rcases List.mem_append.1 hu' with h1 | h1
      · exact key u h1
      · exact set.un u h1
  · have hi' : i < s.ts.length := by rw [← hsame.len]; exact hi
    show (ts.getD i tab0).g ≠ k
    rw [(hsame.at_ i hi').2.1]
    exact (h.apart k hk).2 i hi'
  · refine ⟨set.dm, ?_, ?_, ?_, ?_, ?_⟩
    · show SubD d' _
      by_cases hF : Full zs.length d'
      · exact ((set.clo.full hF).1).trans hin
      · rw [(set.clo.none hF).1]
        exact zero8_sub _
    · by_cases hF : Full zs.length d'
      · exact .inr hF
      · exact .inl (set.clo.none hF).1
    · by_cases hF : Full zs.length d'
      · exact (set.clo.full hF).2.1
      · intro b hb
        show SuppAll b d'
        rw [(set.clo.none hF).1]
        exact zero_supp b
    · show (ts.map Tab.t).length = s.bs.length
      rw [List.length_map, hsame.len, h.fits.1]
    · intro k hk'
      show TRep _ d' ((ts.map Tab.t).getD k ts00)
      rw [mapT_getD]
      exact set.rep k hk'
  · show (if s.sk.isEmpty then [] else s.us ++ us).length + 900 * bitsOf d' ≤ 57600
    have hcnt := set.cnt
    have hm1 := bits_max d'
    cases hsk : s.sk with
    | nil =>
      simp
      omega
    | cons p r =>
      simp only [List.isEmpty_cons, Bool.false_eq_true, if_false, List.length_append]
      have hcnt : us.length + bitsOf d' * 13 ≤ B + (if d' = s.d then 0 else 1) := hcnt
      by_cases e : d' = s.d
      · rw [if_pos e] at hcnt
        have h2 := hB2 e (by rw [hsk]; simp)
        rw [e] at hcnt ⊢
        omega
      · rw [if_neg e] at hcnt
        have h2 := bits_lt set.dm hdm hd' e
        omega
  · exact hk.add set.back
  · refine ⟨hfr.mono ?_, ?_⟩
    · rintro i (rfl | ⟨j, hj, rfl⟩ | hi)
      · exact .inl (.inl rfl)
      · exact .inl (.inr (.inr (.inr (.inl ⟨j, hj, .inl rfl⟩))))
      · exact .inl (.inr (.inr (.inr (.inr (.inl hi)))))
    · rintro k (rfl | hk' | hk' | ⟨i, hi, hk'⟩ | hk' | hk' | ⟨u, hu, hk'⟩)
      · exact .inl (.inl rfl)
      · exact .inl (.inr (.inl hk'))
      · refine .inl (.inr (.inr (.inl ?_)))
        have hk2 : (Value.slice s.so ts.length s.tcap).ownBlock = some k := hk'
        rw [hsame.len] at hk2
        exact hk2
      · have hi' : i < s.ts.length := by rw [← hsame.len]; exact hi
        have hk2 : k = (ts.getD i tab0).G ∨ k = (ts.getD i tab0).g := hk'
        rw [(hsame.at_ i hi').1, (hsame.at_ i hi').2.1] at hk2
        exact .inl (.inr (.inr (.inr (.inl ⟨i, hi', hk2⟩))))
      · rcases set.own k hk' with h1 | h1
        · exact .inl (.inr (.inr (.inr (.inr (.inl h1)))))
        · exact .inr h1
      · exact .inl (.inr (.inr (.inr (.inr (.inr (.inl hk'))))))
      · have hu' : u ∈ (if s.sk.isEmpty then [] else s.us ++ us) := hu
        split at hu'
        · cases hu'
        · rcases List.mem_append.1 hu' with h1 | h1
          · exact .inl (.inr (.inr (.inr (.inr (.inr (.inr ⟨u, h1, hk'⟩))))))
          · exact .inr (set.new u h1 k hk')
end Go.Proofs.YtkjfpdfkcfgfkaaGreat

/- restrict, over any tables, at any level. -/
namespace Go.Proofs.YtkjfpdfkcfgfkaaGreat
open Go.RowKit

def noMarks : List Bool := List.replicate 12 false
theorem noMarks_get (k : Nat) : noMarks.getD k false = false := by
  simp only [noMarks, List.getD, List.getElem?_replicate]
  split <;> rfl
theorem list12 {α : Type} {l : List α} (h : l.length = 12) : ∃ a0 a1 a2 a3 a4 a5 a6 a7 a8 a9 a10 a11, l = [a0, a1, a2, a3, a4, a5, a6, a7, a8, a9, a10, a11] := by
  match l, h with
  | [a0, a1, a2, a3, a4, a5, a6, a7, a8, a9, a10, a11], _ => exact ⟨_, _, _, _, _, _, _, _, _, _, _, _, rfl⟩
theorem Good.restr {zs : List Int} {bs : List Tb} {ts : List Tab} {d dn : List Nat} (h : Good zs bs d (ts.map Tab.t)) (hf : Fits bs ts) (h12 : ts.length ≤ 12) (hdn : Dm dn) (hsub : SubD dn d) : SInv bs ts (wakeTo ts d dn noMarks ts.length) dn dn := by
  refine ⟨hdn, SubD.refl _, fun _ h _ => h, fun k hk hq => ?_, fun k hk => ?_⟩
  · have hw := wakeTo_get ts d dn noMarks (by show ts.length ≤ 12; exact h12) k ts.length (Nat.le_refl _)
    have h2 : changedB (bs.getD k tb0).vars d dn (bs.getD k tb0).vars.length = false := by
      cases hx : changedB (bs.getD k tb0).vars d dn (bs.getD k tb0).vars.length with
      | false => rfl
      | true =>
        rw [← hf.2 k hk] at hx
        rw [hw.2 (.inr ⟨by rw [hf.1]; exact hk, hx⟩)] at hq
        cases hq
    exact (h.clo _ (getD_mem hk)).same (changed_same h2)
  · have := (h.rep k hk).mono hsub
    rw [mapT_getD] at this
    exact this
theorem wakeTo_off (ts : List Tab) (a b : List Nat) (h12 : ts.length ≤ 12) (k : Nat) (hk : ts.length ≤ k) : (wakeTo ts a b noMarks ts.length).getD k false = false := by
  have hw := wakeTo_get ts a b noMarks (by show ts.length ≤ 12; exact h12) k ts.length (Nat.le_refl _)
  cases hx : (wakeTo ts a b noMarks ts.length).getD k false with
  | false => rfl
  | true =>
    rcases hw.1 hx with h1 | ⟨h1, _⟩
    · rw [noMarks_get] at h1
      cases h1
    · omega

set_option maxHeartbeats 3200000 in
set_option maxRecDepth 1000000 in
theorem restrict_any (X : Nat) (zs : List Int) (s : WS) (v x : Nat) (w : World) (h : WAt w X zs s) (hv : v < zs.length) (hsub : SubD (s.d.set v x) s.d) (hfull : Full zs.length s.d) :
    Calls Tryz.prog 31 #[.pointer (some ⟨X, 0, none⟩), .int .i64 v, .int .u8 x] w fun e w' => e = .returned (.tuple #[]) ∧ ∃ d' bv ts us, Closure zs.length s.bs (s.d.set v x) d' ∧ Dm d' ∧
      WAt w' X zs (s.set d' bv ts us) ∧ WStep w w' X s (s.set d' bv ts us) := by
  obtain ⟨hz0, hzl⟩ := okSizes_len h.mem.zok
  have hd8 : s.d.length = 8 := h.good.dm.len
  obtain ⟨v0, v1, v2, v3, v4, v5, v6, v7, hdv⟩ := domV8 hd8
  obtain ⟨⟨x0, rfl⟩, ⟨x1, rfl⟩, ⟨x2, rfl⟩, ⟨x3, rfl⟩, ⟨x4, rfl⟩, ⟨x5, rfl⟩, ⟨x6, rfl⟩, ⟨x7, rfl⟩⟩ := domV_one s.d hdv
  obtain ⟨dn, hdn⟩ : ∃ dn, s.d.set v x = dn := ⟨_, rfl⟩
  have h8 : dn.length = 8 := by rw [← hdn]; simpa using hd8
  rw [hdn] at hsub ⊢
  have hdm : Dm dn := ⟨h8, fun q => subD_lt hsub (h.good.dm.lt q)⟩
  obtain ⟨m0, m1, m2, m3, m4, m5, m6, m7, hnv⟩ := domV8 h8
  have hX := h.mem.blk
  have hXlt := hX.lt
  have hi8 : (v : Int) < 8 := by omega
  obtain ⟨c0, c1, c2, c3, c4, c5, c6, c7⟩ := work8 hX hdv
  obtain ⟨mk, hmk⟩ : ∃ mk, wakeTo s.ts s.d dn noMarks s.ts.length = mk := ⟨_, rfl⟩
  have hml : mk.length = 12 := by rw [← hmk, wakeTo_length]; rfl
  obtain ⟨b0, b1, b2, b3, b4, b5, b6, b7, b8, b9, b10, b11, hmb⟩ := list12 hml
  have hmv : mksV mk = #[.bool b0, .bool b1, .bool b2, .bool b3, .bool b4, .bool b5, .bool b6, .bool b7, .bool b8, .bool b9, .bool b10, .bool b11] := by rw [hmb]; rfl
  have HH := hd h
  have HX := hd hX
  have Hdv := hd hdv
  have Hnv := hd hnv
  have Hdn := hd hdn
  have Hmk := hd hmk
  have Hmv := hd hmv
  have Hsub := hd hsub
  have Hfull := hd hfull
  clear h hX hdv hnv hdn hmk hmv hmb hsub hfull
  go_enter Tryz.func31, Tryz.ntmps31
  go_upto_region 1 with fail
  obtain ⟨W, hW⟩ : ∃ W, W = w.alloc (.cells (domV s.d) 60) := ⟨_, rfl⟩
  have hfW : Nw w W := by rw [hW]; exact (Fr.refl _ w).alloc _
  have hbN : Blk W w.heap.size (domV s.d) 60 := by rw [hW]; exact Blk.new _ _ _
  rw [← Hdv.out]
  rw [← hW]
  clear hW c0 c1 c2 c3 c4 c5 c6 c7
  have hfz := hbN.free v
  obtain ⟨xv, hcv⟩ : ∃ xv, W.cell? ⟨w.heap.size, v, none⟩ = some xv := ⟨_, (hbN.cell _).trans (domV_get s.d v (by omega))⟩
  have HbN := hd hbN
  clear hbN
  go_upto_region 2 with fail
  obtain ⟨U, hU⟩ : ∃ U, U = W.setCell ⟨w.heap.size, v, none⟩ (.int .u8 (x : Int)) := ⟨_, rfl⟩
  have hbU : Blk U w.heap.size (domV dn) 60 := by rw [hU, ← Hdn.out, ← domV_set]; exact HbN.out.set v _
  have hfU : Nw w U := by rw [hU]; exact hfW.setCell _ _ (.inr (Nat.le_refl _))
  have hlU := hbU.lt
  rw [← hU]
  clear hU hfW hcv hfz HbN
  have HbU := hd hbU
  clear hbU
  go_upto_region 3 with fail
  obtain ⟨V, hV⟩ : ∃ V, V = U.alloc (.cells (mksV noMarks) 71) := ⟨_, rfl⟩
  have hfV : Nw w V := by rw [hV]; exact hfU.alloc _
  have hbV : Blk V w.heap.size (domV dn) 60 := by rw [hV]; exact HbU.out.alloc _
  have hbM : Blk V U.heap.size (mksV noMarks) 71 := by rw [hV]; exact Blk.new _ _ _
  rw [show U.alloc (Obj.cells #[Value.bool false, Value.bool false, Value.bool false, Value.bool false, Value.bool false, Value.bool false, Value.bool false, Value.bool false, Value.bool false, Value.bool false, Value.bool false, Value.bool false] 71) = V from hV.symm]
  clear hV
  have hlM := hbM.lt
  have hHV := HH.out.mem.nw hfV
  obtain ⟨c0, c1, c2, c3, c4, c5, c6, c7⟩ := work8 hHV.blk Hdv.out
  obtain ⟨e0, e1, e2, e3, e4, e5, e6, e7⟩ := cells8 (Hnv.out ▸ hbV)
  have HbV := hd hbV
  have HbM := hd hbM
  have HHV := hd hHV
  have HHd := hd (hHV.nw ((Fr.refl _ V).drew))
  have HfV := hd hfV
  have Hown : Hid (∀ k, s.own X k → k < w.heap.size) := fun k hk => HH.out.mem.lt hk
  clear hbV hbM hfV hfU HX HbU hHV
  go_still_tail 6, (by kernel_rfl)
  go_wp2_with fail
  rw [← Hdv.out, ← Hnv.out]
  refine (wake_any X U.heap.size s.so s.tcap s.szv s.d s.l s.ts s.d dn noMarks _ HHd.out.blk hd8 HHd.out.tabs HHd.out.t12 rfl (fun i hi => ⟨fun e => ?_, fun e => ?_⟩) (fun o ho e => ?_) hd8 h8 HbM.out.drew).mono ?_
  · have := Hown.out _ (.inr (.inr (.inr (.inl ⟨i, hi, .inl rfl⟩))))
    omega
  · have := Hown.out _ (.inr (.inr (.inr (.inl ⟨i, hi, .inr rfl⟩))))
    omega
  · obtain ⟨so', sc', hfo, hg⟩ := HHd.out.tabs.row.form
    have e2 : s.so = so' := by injection hfo
    obtain ⟨g, hg1, hg2⟩ := hg o (by rw [← e2]; exact ho)
    have := Hown.out _ (.inr (.inr (.inl hg2)))
    subst hg1
    have e3 : g = U.heap.size := e
    omega
  rw [Hmk.out]
  rintro e w1 ⟨rfl, hf1, hM1⟩
  have hf1' : Fr (fun k => k = U.heap.size) V w1 := hf1.of_drew
  have hs1 := hf1'.size
  have hb1 := HbV.out.fr hf1' (by omega)
  have hH1 := HHV.out.fr hf1' (fun k hk e => by have := Hown.out k hk; omega) ((Only.one HbM.out).mono (fun _ x => x) (fun _ x => x)) (by decide)
  clear c0 c1 c2 c3 c4 c5 c6 c7 e0 e1 e2 e3 e4 e5 e6 e7
  obtain ⟨e0, e1, e2, e3, e4, e5, e6, e7⟩ := cells8 (Hnv.out ▸ hb1)
  rw [Hmv.out] at hM1
  have r0 : w1.cell? ⟨U.heap.size, 0, none⟩ = some (.bool b0) := hM1.cell 0
  have r1 : w1.cell? ⟨U.heap.size, 1, none⟩ = some (.bool b1) := hM1.cell 1
  have r2 : w1.cell? ⟨U.heap.size, 2, none⟩ = some (.bool b2) := hM1.cell 2
  have r3 : w1.cell? ⟨U.heap.size, 3, none⟩ = some (.bool b3) := hM1.cell 3
  have r4 : w1.cell? ⟨U.heap.size, 4, none⟩ = some (.bool b4) := hM1.cell 4
  have r5 : w1.cell? ⟨U.heap.size, 5, none⟩ = some (.bool b5) := hM1.cell 5
  have r6 : w1.cell? ⟨U.heap.size, 6, none⟩ = some (.bool b6) := hM1.cell 6
  have r7 : w1.cell? ⟨U.heap.size, 7, none⟩ = some (.bool b7) := hM1.cell 7
  have r8 : w1.cell? ⟨U.heap.size, 8, none⟩ = some (.bool b8) := hM1.cell 8
  have r9 : w1.cell? ⟨U.heap.size, 9, none⟩ = some (.bool b9) := hM1.cell 9
  have r10 : w1.cell? ⟨U.heap.size, 10, none⟩ = some (.bool b10) := hM1.cell 10
  have r11 : w1.cell? ⟨U.heap.size, 11, none⟩ = some (.bool b11) := hM1.cell 11
  have HF1 : Hid (Nw w w1) := HfV.out.trans hf1' (fun i h => .inr (by omega))
  have HH1 := hd hH1
  have hin : SubD dn (fullTo zs zs.length) := Hsub.out.trans HH.out.good.inn
  have hbm := bits_max dn
  have hmm := marks_le mk
  have hcn := HH.out.cnt
  have hS : SInv s.bs s.ts mk dn dn := by rw [← Hmk.out]; exact HH.out.good.restr HH.out.mem.fits HH.out.mem.t12 hdm Hsub.out
  have hoff : ∀ k, s.ts.length ≤ k → mk.getD k false = false := fun k hk => by rw [← Hmk.out]; exact wakeTo_off _ _ _ HH.out.mem.t12 k hk
  have HS := hd hS
  have Hoff := hd hoff
  have Hin := hd hin
  have Hdm := hd hdm
  clear hb1 hM1 hf1 hf1' hH1 hS hoff hin hdm
  go_wp2_with (go_at_call 27; rw [← Hnv.out, ← Hmv.out]; refine (settle_any (s.ctx X zs dn) dn mk _ HH1.out.blk HH1.out.sz hz0 hzl hd8 HH.out.good.dm.mem HH1.out.tabs HH1.out.inj HH1.out.t12 hml Hoff.out HH1.out.tr (by show (s.us.map Un.val).length + _ ≤ 900000; rw [List.length_map]; omega) HS.out HH1.out.tbok HH1.out.fits).mono ?_; rintro e w2 ⟨rfl, d', bv, ts, us, hset⟩)
  go_end0
  have hB2 : d' = s.d → s.sk ≠ [] → bitsOf dn * 13 + marksOf mk ≤ bitsOf s.d * 13 := by
    intro e _
    have h1 : SubD s.d dn := by
      have h2 := (hset.clo.full (by rw [e]; exact Hfull.out)).1
      rw [e] at h2
      exact h2
    have h3 : dn = s.d := SubD.eq Hdm.out HH.out.good.dm Hsub.out h1
    have h4 : mk = noMarks := by rw [← Hmk.out, h3, wakeTo_same]
    rw [h3, h4]
    exact Nat.le_of_eq rfl
  obtain ⟨hA, hB⟩ := HH1.out.settled HH.out.sk Hin.out HH.out.good.dm Hsub.out HH.out.cnt (by omega) hB2 HH.out.lev hset
  exact ⟨rfl, d', bv, ts, us, hset.clo, hset.dm, hA, (WStep.nw HF1.out X s).trans hB⟩
end Go.Proofs.YtkjfpdfkcfgfkaaGreat

/- Fix and Remove, over any tables, at any level. -/
namespace Go.Proofs.YtkjfpdfkcfgfkaaGreat
open Go.RowKit

/-- The domain that Fix leaves of y. -/
def fixV (y v : Nat) : Nat := y &&& 2 ^ v
/-- The domain that Remove leaves of y. -/
def remV (y v : Nat) : Nat := if y.testBit v then y - 2 ^ v else y
theorem bits_fix (y v : Nat) (hy : y < 64) (hv : v < 6) : bits .and .u8 (y : Int) (2 ^ v : Nat) = (fixV y v : Nat) := by
  have key : ∀ y : Fin 64, ∀ v : Fin 6, bits .and .u8 ((y.val : Nat) : Int) ((2 ^ v.val : Nat) : Int) = (fixV y.val v.val : Nat) := by decide +kernel
  exact key ⟨y, hy⟩ ⟨v, hv⟩
theorem bits_rem (y v : Nat) (hy : y < 64) (hv : v < 6) : bits .andNot .u8 (y : Int) (2 ^ v : Nat) = (remV y v : Nat) := by
  have key : ∀ y : Fin 64, ∀ v : Fin 6, bits .andNot .u8 ((y.val : Nat) : Int) ((2 ^ v.val : Nat) : Int) = (remV y.val v.val : Nat) := by decide +kernel
  exact key ⟨y, hy⟩ ⟨v, hv⟩
theorem fixV_bit (y v u : Nat) : (fixV y v).testBit u = (y.testBit u && decide (v = u)) := by
  simp [fixV, Nat.testBit_two_pow]
theorem remV_lt (y v : Nat) (hy : y < 64) : remV y v < 64 := by
  unfold remV
  split
  · exact Nat.lt_of_le_of_lt (Nat.sub_le _ _) hy
  · exact hy
theorem remV_bit (y v u : Nat) (hy : y < 64) : (remV y v).testBit u = (y.testBit u && decide (v ≠ u)) := by
  by_cases hu : u < 6
  · by_cases hv : v < 6
    · have key : ∀ y : Fin 64, ∀ v : Fin 6, ∀ u : Fin 6, (remV y.val v.val).testBit u.val = (y.val.testBit u.val && decide (v.val ≠ u.val)) := by decide +kernel
      exact key ⟨y, hy⟩ ⟨v, hv⟩ ⟨u, hu⟩
    · have h1 : y.testBit v = false := by
        cases hx : y.testBit v with
        | false => rfl
        | true => exact absurd (bit_lt6 hy hx) hv
      have h2 : v ≠ u := by omega
      simp [remV, h1, h2]
  · have h1 : y.testBit u = false := by
      cases hx : y.testBit u with
      | false => rfl
      | true => exact absurd (bit_lt6 hy hx) hu
    have h2 : (remV y v).testBit u = false := by
      cases hx : (remV y v).testBit u with
      | false => rfl
      | true => exact absurd (bit_lt6 (remV_lt y v hy) hx) hu
    rw [h1, h2]
    rfl
theorem set_sub {d : List Nat} {v x : Nat} (h : ∀ u, x.testBit u = true → (d.getD v 0).testBit u = true) : SubD (d.set v x) d := by
  intro q u hu
  by_cases e : v = q
  · subst e
    by_cases hl : v < d.length
    · have e2 : (d.set v x).getD v 0 = x := by simp [List.getD, hl]
      rw [e2] at hu
      exact h u hu
    · have e2 : d.set v x = d := List.set_eq_of_length_le (by omega)
      rw [e2] at hu
      exact hu
  · have e2 : (d.set v x).getD q 0 = d.getD q 0 := by simp [List.getD, e]
    rw [e2] at hu
    exact hu
theorem fault_zero {zs : List Int} {d : List Nat} {v value : Int} (h : faultOf zs d v value = 0) : 0 ≤ v ∧ v < zs.length ∧ 0 ≤ value ∧ value < zs.getD v.toNat 0 ∧ d.getD 0 0 ≠ 0 := by
  unfold faultOf at h
  split at h
  · rename_i h1
    split at h
    · omega
    · rename_i h2
      exact ⟨h1.1, h1.2.1, h1.2.2.1, h1.2.2.2, h2⟩
  · omega
theorem okSizes_get {zs : List Int} (h : okSizes zs = true) (i : Nat) (hi : i < zs.length) : 1 ≤ zs.getD i 0 ∧ zs.getD i 0 ≤ 6 := by
  simp only [okSizes, Bool.and_eq_true, decide_eq_true_eq, List.all_eq_true] at h
  have h2 := h.2 zs[i] (List.getElem_mem hi)
  simp only [okSize, decide_eq_true_eq] at h2
  simpa [List.getD, hi] using h2
theorem Good.full {zs : List Int} {bs : List Tb} {d : List Nat} {tss : List TS} (h : Good zs bs d tss) (h0 : d.getD 0 0 ≠ 0) : Full zs.length d := by
  rcases h.alive with e | e
  · rw [e, zero8_get] at h0
    exact absurd rfl h0
  · exact e

set_option maxHeartbeats 3200000 in
set_option maxRecDepth 1000000 in
theorem fix_no (X : Nat) (zs : List Int) (s : WS) (v value : Int) (w : World) (h : WAt w X zs s) (hbz : s.l.busy = false) (hf : faultOf zs s.d v value ≠ 0) :
    Calls Tryz.prog 56 #[.pointer (some ⟨X, 0, none⟩), .int .i64 v, .int .i64 value] w fun e w' => e = .returned (.int .i64 (faultOf zs s.d v value)) ∧ w' = w := by
  obtain ⟨hz0, hzl⟩ := okSizes_len h.mem.zok
  have HH := hd h
  have hd8 : s.d.length = 8 := h.good.dm.len
  obtain ⟨r, hr⟩ : ∃ r, faultOf zs s.d v value = r := ⟨_, rfl⟩
  have Hr := hd hr
  rw [hr] at hf ⊢
  clear h hr
  go_enter Tryz.func56, Tryz.ntmps56
  go_wp2_with (go_at_call 30; refine (fault_any X s.szv s.d _ s.l zs v value _ HH.out.mem.blk HH.out.mem.sz hzl hd8 hbz).mono ?_; rw [Hr.out]; rintro e w' ⟨rfl, rfl⟩)
  go_ret
  exact ⟨rfl, rfl⟩

set_option maxHeartbeats 3200000 in
set_option maxRecDepth 1000000 in
theorem remove_no (X : Nat) (zs : List Int) (s : WS) (v value : Int) (w : World) (h : WAt w X zs s) (hbz : s.l.busy = false) (hf : faultOf zs s.d v value ≠ 0) :
    Calls Tryz.prog 13 #[.pointer (some ⟨X, 0, none⟩), .int .i64 v, .int .i64 value] w fun e w' => e = .returned (.int .i64 (faultOf zs s.d v value)) ∧ w' = w := by
  obtain ⟨hz0, hzl⟩ := okSizes_len h.mem.zok
  have HH := hd h
  have hd8 : s.d.length = 8 := h.good.dm.len
  obtain ⟨r, hr⟩ : ∃ r, faultOf zs s.d v value = r := ⟨_, rfl⟩
  have Hr := hd hr
  rw [hr] at hf ⊢
  clear h hr
  go_enter Tryz.func13, Tryz.ntmps13
  go_wp2_with (go_at_call 30; refine (fault_any X s.szv s.d _ s.l zs v value _ HH.out.mem.blk HH.out.mem.sz hzl hd8 hbz).mono ?_; rw [Hr.out]; rintro e w' ⟨rfl, rfl⟩)
  go_ret
  exact ⟨rfl, rfl⟩

set_option maxHeartbeats 3200000 in
set_option maxRecDepth 1000000 in
theorem fix_yes (X : Nat) (zs : List Int) (s : WS) (v value : Nat) (w : World) (h : WAt w X zs s) (hbz : s.l.busy = false) (hf : faultOf zs s.d v value = 0) :
    Calls Tryz.prog 56 #[.pointer (some ⟨X, 0, none⟩), .int .i64 v, .int .i64 value] w fun e w' => e = .returned (.int .i64 0) ∧ ∃ d' bv ts us, Closure zs.length s.bs (s.d.set v (fixV (s.d.getD v 0) value)) d' ∧ Dm d' ∧
      WAt w' X zs (s.set d' bv ts us) ∧ WStep w w' X s (s.set d' bv ts us) := by
  obtain ⟨hz0, hzl⟩ := okSizes_len h.mem.zok
  obtain ⟨_, hv1, _, hv3, hv4⟩ := fault_zero hf
  rw [Int.toNat_natCast] at hv3
  have hvz : v < zs.length := by omega
  have hval : value < 6 := by
    have := okSizes_get h.mem.zok v hvz
    omega
  have hi8 : (v : Int) < 8 := by omega
  have hd8 : s.d.length = 8 := h.good.dm.len
  have hcd : w.cell? ⟨X, 1 + v, none⟩ = some (.int .u8 (s.d.getD v 0 : Nat)) := (h.mem.blk.cell _).trans (workCells_dom _ _ _ _ _ (by omega))
  have hy64 := h.good.dm.lt v
  obtain ⟨y, hy⟩ : ∃ y, s.d.getD v 0 = y := ⟨_, rfl⟩
  have hsub : SubD (s.d.set v (fixV y value)) s.d := set_sub (fun u hu => by rw [fixV_bit] at hu; rw [hy]; simp at hu; exact hu.1)
  have hfull := h.good.full hv4
  rw [hy] at hcd hy64 ⊢
  have hbf := bits_fix y value hy64 hval
  have HH := hd h
  have Hy := hd hy
  have Hsub := hd hsub
  have Hfull := hd hfull
  have Hbf := hd hbf
  clear h hy hsub hfull hbf
  go_enter Tryz.func56, Tryz.ntmps56
  go_upto_region 4 with (go_at_call 30; refine (fault_any X s.szv s.d _ s.l zs v value _ HH.out.mem.blk HH.out.mem.sz hzl hd8 hbz).mono ?_; rw [hf]; rintro e w' ⟨rfl, rfl⟩)
  go_still_tail 11, (by kernel_rfl)
  refine still_call (f := 32) (args := #[.int .i64 (value : Int)]) (.int .u8 (2 ^ value : Nat)) (by kernel_rfl) (by kernel_rfl) (one_any value _ (by omega)) ?_
  simp only [Act.put, List.setIfInBounds_toArray, List.set_cons_zero, List.set_cons_succ]
  refine still_value (.int .u8 (fixV y value : Nat)) (by kernel_rfl) ?_ ?_
  · have hxx := Hbf.out
    clear hf hv4 hcd hv3
    go_simp
    simpa using hxx
  refine wpStill_nil ?_
  simp only [Act.put, List.setIfInBounds_toArray, List.set_cons_zero, List.set_cons_succ]
  go_wp2_with (go_at_call 31; refine (restrict_any X zs s v (fixV y value) _ (HH.out.nw ((Fr.refl _ _).drew)) hvz Hsub.out Hfull.out).mono ?_; rintro e w2 ⟨rfl, d', bv, ts, us, h1, h2, h3, h4⟩)
  go_ret
  exact ⟨rfl, d', bv, ts, us, h1, h2, h3, ⟨h4.fr.of_drew, h4.grow⟩⟩

set_option maxHeartbeats 3200000 in
set_option maxRecDepth 1000000 in
theorem remove_yes (X : Nat) (zs : List Int) (s : WS) (v value : Nat) (w : World) (h : WAt w X zs s) (hbz : s.l.busy = false) (hf : faultOf zs s.d v value = 0) :
    Calls Tryz.prog 13 #[.pointer (some ⟨X, 0, none⟩), .int .i64 v, .int .i64 value] w fun e w' => e = .returned (.int .i64 0) ∧ ∃ d' bv ts us, Closure zs.length s.bs (s.d.set v (remV (s.d.getD v 0) value)) d' ∧ Dm d' ∧
      WAt w' X zs (s.set d' bv ts us) ∧ WStep w w' X s (s.set d' bv ts us) := by
  obtain ⟨hz0, hzl⟩ := okSizes_len h.mem.zok
  obtain ⟨_, hv1, _, hv3, hv4⟩ := fault_zero hf
  rw [Int.toNat_natCast] at hv3
  have hvz : v < zs.length := by omega
  have hval : value < 6 := by
    have := okSizes_get h.mem.zok v hvz
    omega
  have hi8 : (v : Int) < 8 := by omega
  have hd8 : s.d.length = 8 := h.good.dm.len
  have hcd : w.cell? ⟨X, 1 + v, none⟩ = some (.int .u8 (s.d.getD v 0 : Nat)) := (h.mem.blk.cell _).trans (workCells_dom _ _ _ _ _ (by omega))
  have hy64 := h.good.dm.lt v
  obtain ⟨y, hy⟩ : ∃ y, s.d.getD v 0 = y := ⟨_, rfl⟩
  have hsub : SubD (s.d.set v (remV y value)) s.d := set_sub (fun u hu => by rw [remV_bit _ _ _ (by rw [← hy]; exact hy64)] at hu; rw [hy]; simp at hu; exact hu.1)
  have hfull := h.good.full hv4
  rw [hy] at hcd hy64 ⊢
  have hbf := bits_rem y value hy64 hval
  have HH := hd h
  have Hy := hd hy
  have Hsub := hd hsub
  have Hfull := hd hfull
  have Hbf := hd hbf
  clear h hy hsub hfull hbf
  go_enter Tryz.func13, Tryz.ntmps13
  go_upto_region 4 with (go_at_call 30; refine (fault_any X s.szv s.d _ s.l zs v value _ HH.out.mem.blk HH.out.mem.sz hzl hd8 hbz).mono ?_; rw [hf]; rintro e w' ⟨rfl, rfl⟩)
  go_still_tail 11, (by kernel_rfl)
  refine still_call (f := 32) (args := #[.int .i64 (value : Int)]) (.int .u8 (2 ^ value : Nat)) (by kernel_rfl) (by kernel_rfl) (one_any value _ (by omega)) ?_
  simp only [Act.put, List.setIfInBounds_toArray, List.set_cons_zero, List.set_cons_succ]
  refine still_value (.int .u8 (remV y value : Nat)) (by kernel_rfl) ?_ ?_
  · have hxx := Hbf.out
    clear hf hv4 hcd hv3
    go_simp
    simpa using hxx
  refine wpStill_nil ?_
  simp only [Act.put, List.setIfInBounds_toArray, List.set_cons_zero, List.set_cons_succ]
  go_wp2_with (go_at_call 31; refine (restrict_any X zs s v (remV y value) _ (HH.out.nw ((Fr.refl _ _).drew)) hvz Hsub.out Hfull.out).mono ?_; rintro e w2 ⟨rfl, d', bv, ts, us, h1, h2, h3, h4⟩)
  go_ret
  exact ⟨rfl, d', bv, ts, us, h1, h2, h3, ⟨h4.fr.of_drew, h4.grow⟩⟩
end Go.Proofs.YtkjfpdfkcfgfkaaGreat

/- Post over any tables: a table more, ahead of the closure. -/
namespace Go.Proofs.YtkjfpdfkcfgfkaaGreat
open Go.RowKit

theorem okTable_parts {zs vars : List Int} {rows : List (List Int)} {way : Int} (h : okTable zs vars rows way = true) (hz : zs.length ≤ 8) : (way = 1 ∨ way = 2) ∧ 1 ≤ vars.length ∧ rows.length ≤ 60 ∧ VarsOk vars ∧ (∀ i, i < vars.length → vars.getD i 0 < zs.length) ∧ (∀ j, j < rows.length → (rows.getD j []).length = vars.length) := by
  simp only [okTable, Bool.and_eq_true, decide_eq_true_eq, List.all_eq_true, List.mem_range] at h
  obtain ⟨⟨⟨h1, h2⟩, h3⟩, h4⟩ := h
  obtain ⟨b1, b2, b3⟩ := okVars_bounds h2
  refine ⟨by simpa [okWay] using h1, b1, h3, ⟨b2, fun i hi => ⟨(b3 i hi).1, by have := (b3 i hi).2; omega⟩, ?_⟩, fun i hi => (b3 i hi).2, fun j hj => ?_⟩
  · have key : ∀ i k, i < k → k < vars.length → vars.getD i 0 ≠ vars.getD k 0 := by
      intro i k hik hk e
      simp only [okVars, Bool.and_eq_true, decide_eq_true_eq, List.all_eq_true, List.mem_range] at h2
      have h5 := h2.2 k hk
      simp only [okVar, Bool.and_eq_true, decide_eq_true_eq, Bool.not_eq_true'] at h5
      have h6 : (vars.take k).contains (vars.getD k 0) = true := by
        rw [List.contains_iff_mem, List.mem_iff_getElem]
        refine ⟨i, by simp; omega, ?_⟩
        have hi : i < vars.length := by omega
        rw [List.getElem_take, ← e]
        simp [List.getD, hi]
      rw [h6] at h5
      exact absurd h5.2 (by simp)
    intro i k hi hk e
    rcases Nat.lt_trichotomy i k with h | h | h
    · exact absurd e (key i k h hk)
    · exact h
    · exact absurd e.symm (key k i h hi)
  · have h5 := h4 j hj
    simp only [okRowAt, okRow, Bool.and_eq_true, decide_eq_true_eq] at h5
    exact h5.1
theorem getD_app (ts : List Tab) (x : Tab) (i : Nat) : (ts ++ [x]).getD i tab0 = if i < ts.length then ts.getD i tab0 else if i = ts.length then x else tab0 := by
  by_cases h : i < ts.length
  · rw [if_pos h]
    simp [List.getD, List.getElem?_append_left h]
  · rw [if_neg h]
    by_cases e : i = ts.length
    · subst e
      simp [List.getD]
    · rw [if_neg e]
      have : (ts ++ [x]).length ≤ i := by simp; omega
      simp [List.getD, List.getElem?_eq_none this]
theorem getD_appB (bs : List Tb) (b : Tb) (i : Nat) : (bs ++ [b]).getD i tb0 = if i < bs.length then bs.getD i tb0 else if i = bs.length then b else tb0 := by
  by_cases h : i < bs.length
  · rw [if_pos h]
    simp [List.getD, List.getElem?_append_left h]
  · rw [if_neg h]
    by_cases e : i = bs.length
    · subst e
      simp [List.getD]
    · rw [if_neg e]
      have : (bs ++ [b]).length ≤ i := by simp; omega
      simp [List.getD, List.getElem?_eq_none this]
/-- The Work with a table more. -/
def WS.more (s : WS) (so : Option Addr) (tcap : Nat) (x : Tab) (b : Tb) : WS := { s with so := so, tcap := tcap, ts := s.ts ++ [x], bs := s.bs ++ [b] }
theorem WMem.more {S : Nat → Prop} {w Z : World} {X : Nat} {zs : List Int} {s : WS} {so : Option Addr} {tcap : Nat} {x : Tab} {b : Tb} (h : WMem w X zs s) (hu : s.us = []) (f : Fr S w Z) (o : Only w S [66, 73])
    (hX : Blk Z X (workCells s.szv s.d (.slice so (s.ts.length + 1) tcap) s.l) 66) (hrow : Row Z (.slice so (s.ts.length + 1) tcap) 73 (s.ts.map Tab.val ++ [x.val])) (hx : TAt Z x.G x.g x.cap x.vars x.t) (hG : w.heap.size ≤ x.G) (hg : w.heap.size ≤ x.g)
    (h12 : s.ts.length < 12) (hv : x.vars = b.vars) (hb : b.Ok) (hbn : ∀ i, i < b.vars.length → b.vars.getD i 0 < zs.length) : WMem Z X zs (s.more so tcap x b) := by
  refine ⟨?_, h.sz.frO f o (by decide), h.zok, ⟨?_, ?_, ?_, ?_⟩, ?_, ?_, ⟨?_, ?_⟩, ?_, h.tr.frO f o (by decide), ?_, fun k hk => ⟨(h.apart k hk).1, fun i hi => ?_⟩⟩
  · show Blk Z X (workCells s.szv s.d (.slice so (s.ts ++ [x]).length tcap) s.l) _
    rw [List.length_append]
    exact hX
  · show Row Z (.slice so (s.ts ++ [x]).length tcap) _ ((s.ts ++ [x]).map Tab.val)
    rw [List.length_append, List.map_append]
    exact hrow
  · intro i hi
    have hi' : i < s.ts.length + 1 := by simpa [WS.more] using hi
    simp only [WS.more]
    rw [getD_app]
    by_cases h1 : i < s.ts.length
    · rw [if_pos h1]
      exact (h.tabs.at_ i h1).frO f o (by decide)
    · rw [if_neg h1, if_pos (by omega)]
      exact hx
  · intro i hi
    show ((s.ts ++ [x]).getD i tab0).vars.length ≤ 4
    have hi' : i < s.ts.length + 1 := by simpa [WS.more] using hi
    rw [getD_app]
    by_cases h1 : i < s.ts.length
    · rw [if_pos h1]
      exact h.tabs.four i h1
    · rw [if_neg h1, if_pos (by omega), hv]
      exact hb.vars.four
  · intro i hi
    show ∀ k, k < ((s.ts ++ [x]).getD i tab0).vars.length → _
    have hi' : i < s.ts.length + 1 := by simpa [WS.more] using hi
    simp only [WS.more]
    rw [getD_app]
    by_cases h1 : i < s.ts.length
    · rw [if_pos h1]
      exact h.tabs.ok i h1
    · rw [if_neg h1, if_pos (by omega), hv]
      exact hb.vars.ok
  · intro i j hi hj e
    have hi' : i < s.ts.length + 1 := by simpa [WS.more] using hi
    have hj' : j < s.ts.length + 1 := by simpa [WS.more] using hj
    simp only [WS.more] at e
    rw [getD_app, getD_app] at e
    by_cases h1 : i < s.ts.length
    · rw [if_pos h1] at e
      by_cases h2 : j < s.ts.length
      · rw [if_pos h2] at e
        exact h.inj i j h1 h2 e
      · rw [if_neg h2, if_pos (by omega)] at e
        have := (h.tabs.at_ i h1).lt (.inl rfl)
        omega
    · rw [if_neg h1, if_pos (by omega)] at e
      by_cases h2 : j < s.ts.length
      · rw [if_pos h2] at e
        have := (h.tabs.at_ j h2).lt (.inl rfl)
        omega
      · omega
  · show (s.ts ++ [x]).length ≤ 12
    simp
    omega
  · simp [WS.more, h.fits.1]
  · intro k hk
    have hk' : k < s.bs.length + 1 := by simpa [WS.more] using hk
    simp only [WS.more]
    rw [getD_app, getD_appB, h.fits.1]
    by_cases h1 : k < s.bs.length
    · rw [if_pos h1, if_pos h1]
      exact h.fits.2 k h1
    · rw [if_neg h1, if_neg h1, if_pos (by omega), if_pos (by omega)]
      exact hv
  · intro k hk
    have hk' : k < s.bs.length + 1 := by simpa [WS.more] using hk
    simp only [WS.more]
    rw [getD_appB]
    by_cases h1 : k < s.bs.length
    · rw [if_pos h1]
      exact h.tbok k h1
    · rw [if_neg h1, if_pos (by omega)]
      refine ⟨hb, fun i hi => ?_⟩
      have := hbn i hi
      have := hb.vars.ok i hi
      omega
  · intro u hu'
    have : u ∈ s.us := hu'
    rw [hu] at this
    cases this
  · have hi' : i < s.ts.length + 1 := by simpa [WS.more] using hi
    simp only [WS.more]
    rw [getD_app]
    by_cases h1 : i < s.ts.length
    · rw [if_pos h1]
      exact (h.apart k hk).2 i h1
    · rw [if_neg h1, if_pos (by omega)]
      have := h.tr.starts.lt hk
      omega
/-- The new table alone waits. -/
theorem Good.more {zs : List Int} {s : WS} (h : Good zs s.bs s.d (s.ts.map Tab.t)) (hf : Fits s.bs s.ts) (h12 : s.ts.length < 12) {so : Option Addr} {tcap : Nat} {x : Tab} {b : Tb} (hr : TRep b s.d x.t) :
    SInv (s.more so tcap x b).bs (s.more so tcap x b).ts (noMarks.set s.ts.length true) s.d s.d := by
  refine ⟨h.dm, SubD.refl _, fun _ h _ => h, fun k hk hq => ?_, fun k hk => ?_⟩
  · have hk' : k < s.bs.length + 1 := by simpa [WS.more] using hk
    simp only [WS.more]
    rw [getD_appB]
    by_cases h1 : k < s.bs.length
    · rw [if_pos h1]
      exact h.clo _ (getD_mem h1)
    · have e : s.ts.length = k := by rw [hf.1]; omega
      rw [getD_setB, if_pos ⟨e, by show s.ts.length < 12; exact h12⟩] at hq
      cases hq
  · have hk' : k < s.bs.length + 1 := by simpa [WS.more] using hk
    simp only [WS.more]
    rw [getD_appB, getD_app, hf.1]
    by_cases h1 : k < s.bs.length
    · rw [if_pos h1, if_pos h1, ← mapT_getD]
      exact h.rep k h1
    · rw [if_neg h1, if_neg h1, if_pos (by omega), if_pos (by omega)]
      exact hr
theorem WStep.more {S : Nat → Prop} {w Z : World} {X : Nat} {s : WS} {so : Option Addr} {tcap : Nat} {x : Tab} {b : Tb} (f : Fr S w Z) (hS : ∀ k, S k → s.own X k) (hso : ∀ k, (Value.slice so (s.ts.length + 1) tcap).ownBlock = some k → (Value.slice s.so s.ts.length s.tcap).ownBlock = some k ∨ w.heap.size ≤ k) (hG : w.heap.size ≤ x.G) (hg : w.heap.size ≤ x.g) :
    WStep w Z X s (s.more so tcap x b) := by
  refine ⟨f.mono (fun i hi => .inl (hS i hi)), ?_⟩
  rintro k (rfl | hk' | hk' | ⟨i, hi, hk'⟩ | hk' | hk' | ⟨u, hu, hk'⟩)
  · exact .inl (.inl rfl)
  · exact .inl (.inr (.inl hk'))
  · have hk2 : (Value.slice so (s.ts ++ [x]).length tcap).ownBlock = some k := hk'
    rw [List.length_append] at hk2
    exact (hso k hk2).imp (fun h => .inr (.inr (.inl h))) id
  · have hi' : i < s.ts.length + 1 := by simpa [WS.more] using hi
    have hk2 : k = ((s.ts ++ [x]).getD i tab0).G ∨ k = ((s.ts ++ [x]).getD i tab0).g := hk'
    rw [getD_app] at hk2
    by_cases h1 : i < s.ts.length
    · rw [if_pos h1] at hk2
      exact .inl (.inr (.inr (.inr (.inl ⟨i, h1, hk2⟩))))
    · rw [if_neg h1, if_pos (by omega)] at hk2
      rcases hk2 with rfl | rfl
      · exact .inr hG
      · exact .inr hg
  · exact .inl (.inr (.inr (.inr (.inr (.inl hk')))))
  · exact .inl (.inr (.inr (.inr (.inr (.inr (.inl hk'))))))
  · exact .inl (.inr (.inr (.inr (.inr (.inr (.inr ⟨u, hu, hk'⟩))))))
end Go.Proofs.YtkjfpdfkcfgfkaaGreat

/- Post, over any tables. -/
namespace Go.Proofs.YtkjfpdfkcfgfkaaGreat
open Go.RowKit

/-- The answer of Post. -/
def postOf (zs : List Int) (s : WS) (vars : List Int) (rows : List (List Int)) (way : Int) : Int :=
  if okTable zs vars rows way = false then 1 else if s.ts.length = 12 then 2 else if s.sk.length ≠ 0 then 4 else if s.d.getD 0 0 = 0 then 3 else 0
theorem startsOf_form {w : World} {l : Rest} {sk : List (Nat × List Nat × List TS)} {xs : List Value} (h : TrAt w l (startsOf sk) xs) : ∃ so sc, l.starts = .slice so sk.length sc := by
  obtain ⟨so, sc, hf, _⟩ := h.starts.form
  exact ⟨so, sc, by rw [hf]; simp [startsOf]⟩

set_option maxHeartbeats 3200000 in
set_option maxRecDepth 1000000 in
theorem post_no (X : Nat) (vo ro : Option Addr) (vcap rcap : Nat) (zs : List Int) (s : WS) (vars : List Int) (rows : List (List Int)) (nt : Bool) (way : Int) (w : World) (h : WAt w X zs s) (hbz : s.l.busy = false)
    (hl : vars.length * 8 ≤ 140737488355328) (hrl : rows.length * 24 ≤ 140737488355328) (hvcap : vars.length ≤ vcap) (hvs : IntsAt w vo vars) (hrs : RowsAt w ro rows) (hno : postOf zs s vars rows way ≠ 0) :
    Calls Tryz.prog 11 #[.pointer (some ⟨X, 0, none⟩), .agg #[.slice vo vars.length vcap, .slice ro rows.length rcap, .bool nt, .int .i64 way]] w fun e w' => e = .returned (.int .i64 (postOf zs s vars rows way)) ∧ Nw w w' := by
  have hd8 : s.d.length = 8 := h.good.dm.len
  obtain ⟨sa, scap, hszv, _⟩ := h.mem.sz.form
  simp only [List.length_map] at hszv
  obtain ⟨W, hW⟩ : ∃ W, W = w.alloc (.cells #[.slice vo vars.length vcap, .slice ro rows.length rcap, .bool nt, .int .i64 way] 41) := ⟨_, rfl⟩
  have hfW : Nw w W := by rw [hW]; exact (Fr.refl _ w).alloc _
  have hbT : Blk W w.heap.size #[.slice vo vars.length vcap, .slice ro rows.length rcap, .bool nt, .int .i64 way] 41 := by rw [hW]; exact Blk.new _ _ _
  have t0 : W.cell? ⟨w.heap.size, 0, none⟩ = some (.slice vo vars.length vcap) := hbT.cell 0
  have t1 : W.cell? ⟨w.heap.size, 1, none⟩ = some (.slice ro rows.length rcap) := hbT.cell 1
  have t2 : W.cell? ⟨w.heap.size, 2, none⟩ = some (.bool nt) := hbT.cell 2
  have t3 : W.cell? ⟨w.heap.size, 3, none⟩ = some (.int .i64 way) := hbT.cell 3
  have hM := h.mem.nw hfW
  have hcs : W.cell? ⟨X, 0, none⟩ = some (.slice sa zs.length scap) := (hM.blk.cell 0).trans ((workCells_sz ..).trans (by rw [hszv]))
  have hcb : W.cell? ⟨X, 12, none⟩ = some (.bool false) := (hM.blk.cell 12).trans ((workCells_busy _ _ _ _ hd8).trans (by rw [hbz]))
  have HsR : Hid (Row W (.slice sa zs.length scap) 3 (zs.map (Value.int .i64))) := by rw [← hszv]; exact hM.sz
  have HM := hd hM
  have Hvs := hd (hvs.nw hfW)
  have Hrs := hd (hrs.nw hfW)
  have HW := hd hW
  have HfW := hd hfW
  have h12 := h.mem.t12
  obtain ⟨so', sc', hst⟩ := startsOf_form h.mem.tr
  have Hst := hd hst
  obtain ⟨r, hr⟩ : ∃ r, postOf zs s vars rows way = r := ⟨_, rfl⟩
  rw [hr] at hno ⊢
  have Hr := hd hr
  clear h hM hvs hrs hbT hW hfW hszv hst hr
  go_enter Tryz.func11, Tryz.ntmps11
  go_upto_region 1 with fail
  rw [← HW.out]
  go_upto_region 2 with fail
  go_still_tail 5, (by kernel_rfl)
  go_wp2_with fail
  refine (valid_any vo ro sa vcap rcap scap vars rows nt way zs _ hl hrl hvcap Hvs.out.drew Hrs.out.drew (HsR.out.drew.ints')).mono ?_
  cases hok : okTable zs vars rows way with
  | false =>
    have hr1 : r = 1 := by rw [← Hr.out]; unfold postOf; rw [if_pos hok]
    subst hr1
    rintro e w1 ⟨rfl, hf1⟩
    have Hf1 : Hid (Nw w w1) := HfW.out.trans hf1.of_drew (fun i h => h.elim)
    clear hf1 hok t0 t1 t2 t3 hcs hcb
    go_wp2
    go_ret
    exact ⟨rfl, Hf1.out⟩
  | true =>
    rintro e w1 ⟨rfl, hf1⟩
    have hM1 := HM.out.nw hf1.of_drew
    have Hf1 : Hid (Nw w w1) := HfW.out.trans hf1.of_drew (fun i h => h.elim)
    have hct : w1.cell? ⟨X, 9, none⟩ = some (.slice s.so s.ts.length s.tcap) := (hM1.blk.cell 9).trans (workCells_tabs _ _ _ _ hd8)
    have hcl : w1.cell? ⟨X, 11, none⟩ = some (.slice so' s.sk.length sc') := (hM1.blk.cell 11).trans ((workCells_starts _ _ _ _ hd8).trans (by rw [Hst.out]))
    have HM1 := hd hM1
    have hok' : ¬ okTable zs vars rows way = false := by rw [hok]; simp
    clear hf1 hM1 t0 t1 t2 t3 hcs hcb HM
    by_cases h1 : s.ts.length = 12
    · have hr1 : r = 2 := by rw [← Hr.out]; unfold postOf; rw [if_neg hok', if_pos h1]
      subst hr1
      rw [h1] at hct
      clear hok hok'
      go_wp2
      go_ret
      exact ⟨rfl, Hf1.out⟩
    · have h1' : ((s.ts.length : Int) == 12) = false := by simp; omega
      by_cases h2 : s.sk.length ≠ 0
      · have hr1 : r = 4 := by rw [← Hr.out]; unfold postOf; rw [if_neg hok', if_neg h1, if_pos h2]
        subst hr1
        have h2' : ((s.sk.length : Int) != 0) = true := by simp; simpa using h2
        clear hok hok'
        go_wp2_with (go_at_call 24; refine (level_any X so' s.sk.length sc' _ hcl).mono ?_; rintro e w' ⟨rfl, rfl⟩)
        go_ret
        exact ⟨rfl, Hf1.out⟩
      · have h2' : ((s.sk.length : Int) != 0) = false := by simp; simpa using h2
        have h3 : s.d.getD 0 0 = 0 := by
          refine Classical.byContradiction fun hc => hno ?_
          rw [← Hr.out]
          unfold postOf
          rw [if_neg hok', if_neg h1, if_neg h2, if_neg hc]
        have hr1 : r = 3 := by rw [← Hr.out]; unfold postOf; rw [if_neg hok', if_neg h1, if_neg h2, if_pos h3]
        subst hr1
        have h3' : (s.d.getD 0 0 == 0) = true := by simpa using h3
        have H3 := hd h3'
        clear hok hok' h3 h3'
        go_wp2_with (first
          | (go_at_call 24; refine (level_any X so' s.sk.length sc' _ hcl).mono ?_; rintro e w' ⟨rfl, rfl⟩)
          | (go_at_call 25; refine (dead_any X _ s.d _ s.l _ HM1.out.blk hd8).mono ?_; rw [H3.out]; rintro e w' ⟨rfl, rfl⟩))
        go_ret
        exact ⟨rfl, Hf1.out⟩

theorem postOf_zero {zs : List Int} {s : WS} {vars : List Int} {rows : List (List Int)} {way : Int} (h : postOf zs s vars rows way = 0) : okTable zs vars rows way = true ∧ s.ts.length ≠ 12 ∧ s.sk = [] ∧ s.d.getD 0 0 ≠ 0 := by
  unfold postOf at h
  by_cases h1 : okTable zs vars rows way = false
  · rw [if_pos h1] at h
    omega
  · rw [if_neg h1] at h
    by_cases h2 : s.ts.length = 12
    · rw [if_pos h2] at h
      omega
    · rw [if_neg h2] at h
      by_cases h3 : s.sk.length ≠ 0
      · rw [if_pos h3] at h
        omega
      · rw [if_neg h3] at h
        by_cases h4 : s.d.getD 0 0 = 0
        · rw [if_pos h4] at h
          omega
        · exact ⟨by simpa using h1, h2, by simpa using h3, h4⟩

set_option maxHeartbeats 6400000 in
set_option maxRecDepth 1000000 in
theorem post_yes (X : Nat) (vo ro : Option Addr) (vcap rcap : Nat) (zs : List Int) (s : WS) (vars : List Int) (rows : List (List Int)) (nt : Bool) (way : Int) (w : World) (h : WAt w X zs s) (hbz : s.l.busy = false)
    (hvcap : vars.length ≤ vcap) (hvs : IntsAt w vo vars) (hrs : RowsAt w ro rows) (hyes : postOf zs s vars rows way = 0) :
    Calls Tryz.prog 11 #[.pointer (some ⟨X, 0, none⟩), .agg #[.slice vo vars.length vcap, .slice ro rows.length rcap, .bool nt, .int .i64 way]] w fun e w' => e = .returned (.int .i64 0) ∧ ∃ so tcap x d' bv ts us, Closure zs.length (s.bs ++ [⟨vars, rows, nt⟩]) s.d d' ∧ Dm d' ∧
      WAt w' X zs ((s.more so tcap x ⟨vars, rows, nt⟩).set d' bv ts us) ∧ WStep w w' X s ((s.more so tcap x ⟨vars, rows, nt⟩).set d' bv ts us) := by
  obtain ⟨hz0, hzl⟩ := okSizes_len h.mem.zok
  have hd8 : s.d.length = 8 := h.good.dm.len
  obtain ⟨hok, hn12, hsk, halive⟩ := postOf_zero hyes
  have h12 : s.ts.length < 12 := by have := h.mem.t12; omega
  have hus : s.us = [] := by
    have := h.sk
    rw [hsk] at this
    exact this
  obtain ⟨hway, hv1, hr60, hVO, hvn, hrl⟩ := okTable_parts hok hzl
  have hTb : (⟨vars, rows, nt⟩ : Tb).Ok := ⟨hVO, hrl, hv1⟩
  obtain ⟨b, o, hvo, _, _⟩ := hvs 0 hv1
  subst hvo
  obtain ⟨sa, scap, hszv, _⟩ := h.mem.sz.form
  simp only [List.length_map] at hszv
  obtain ⟨v0, v1, v2, v3, v4, v5, v6, v7, hdv⟩ := domV8 hd8
  obtain ⟨⟨x0, rfl⟩, ⟨x1, rfl⟩, ⟨x2, rfl⟩, ⟨x3, rfl⟩, ⟨x4, rfl⟩, ⟨x5, rfl⟩, ⟨x6, rfl⟩, ⟨x7, rfl⟩⟩ := domV_one s.d hdv
  obtain ⟨W, hW⟩ : ∃ W, W = w.alloc (.cells #[.slice (some ⟨b, o, none⟩) vars.length vcap, .slice ro rows.length rcap, .bool nt, .int .i64 way] 41) := ⟨_, rfl⟩
  have hfW : Nw w W := by rw [hW]; exact (Fr.refl _ w).alloc _
  have hbT : Blk W w.heap.size #[.slice (some ⟨b, o, none⟩) vars.length vcap, .slice ro rows.length rcap, .bool nt, .int .i64 way] 41 := by rw [hW]; exact Blk.new _ _ _
  have t0 : W.cell? ⟨w.heap.size, 0, none⟩ = some (.slice (some ⟨b, o, none⟩) vars.length vcap) := hbT.cell 0
  have t1 : W.cell? ⟨w.heap.size, 1, none⟩ = some (.slice ro rows.length rcap) := hbT.cell 1
  have t2 : W.cell? ⟨w.heap.size, 2, none⟩ = some (.bool nt) := hbT.cell 2
  have t3 : W.cell? ⟨w.heap.size, 3, none⟩ = some (.int .i64 way) := hbT.cell 3
  have hM := h.mem.nw hfW
  have hcs : W.cell? ⟨X, 0, none⟩ = some (.slice sa zs.length scap) := (hM.blk.cell 0).trans ((workCells_sz ..).trans (by rw [hszv]))
  have hcb : W.cell? ⟨X, 12, none⟩ = some (.bool false) := (hM.blk.cell 12).trans ((workCells_busy _ _ _ _ hd8).trans (by rw [hbz]))
  have HsR : Hid (Row W (.slice sa zs.length scap) 3 (zs.map (Value.int .i64))) := by rw [← hszv]; exact hM.sz
  have hXlt := h.mem.blk.lt
  have HM := hd hM
  have HH := hd h
  have Hvs := hd (hvs.nw hfW)
  have Hrs := hd (hrs.nw hfW)
  have HbT := hd hbT
  have HW := hd hW
  have HfW := hd hfW
  have Hdv := hd hdv
  have h12i : (s.ts.length : Int) < 12 := by omega
  have hne12 : ((s.ts.length : Int) == 12) = false := by simp; omega
  obtain ⟨so', sc', hst⟩ := startsOf_form h.mem.tr
  rw [hsk] at hst
  have hst0 : s.l.starts = .slice so' 0 sc' := hst
  have Hst := hd hst0
  have Hsk := hd hsk
  have Hus := hd hus
  have Hok := hd hok
  have Hal : Hid ((s.d.getD 0 0 == 0) = false) := by show (s.d.getD 0 0 == 0) = false; simpa using halive
  have HVO := hd hVO
  have HTb := hd hTb
  have Hrl := hd hrl
  have Hvn := hd hvn
  clear h hM hvs hrs hbT hW hfW hszv hst hst0 hsk hus hok halive hVO hTb hrl hvn hdv hyes hn12
  go_enter Tryz.func11, Tryz.ntmps11
  go_upto_region 1 with fail
  rw [← HW.out]
  go_upto_region 2 with fail
  go_still_tail 5, (by kernel_rfl)
  go_wp2_with fail
  refine (valid_any (some ⟨b, o, none⟩) ro sa vcap rcap scap vars rows nt way zs _ (by have := HVO.out.four; omega) (by omega) hvcap Hvs.out.drew Hrs.out.drew (HsR.out.drew.ints')).mono ?_
  rw [Hok.out]
  rintro e w1 ⟨rfl, hf1⟩
  have hf1' : Nw W w1 := hf1.of_drew
  have hM1 := HM.out.nw hf1'
  have hct : w1.cell? ⟨X, 9, none⟩ = some (.slice s.so s.ts.length s.tcap) := (hM1.blk.cell 9).trans (workCells_tabs _ _ _ _ hd8)
  have hcl : w1.cell? ⟨X, 11, none⟩ = some (.slice so' 0 sc') := (hM1.blk.cell 11).trans ((workCells_starts _ _ _ _ hd8).trans (by rw [Hst.out]))
  have HM1 := hd hM1
  have Hvs1 := hd (Hvs.out.nw hf1')
  have Hrs1 := hd (Hrs.out.nw hf1')
  have HbT1 := hd (HbT.out.nw hf1')
  have hs1 : w.heap.size + 1 ≤ w1.heap.size := by have := HbT1.out.lt; omega
  have Hf1 : Hid (Nw w w1) := HfW.out.trans hf1' (fun i h => h.elim)
  clear hf1 hf1' hM1 HM Hvs Hrs HbT t0 t1 t2 t3 hcs hcb HfW HW HsR
  go_upto_region 12 with (first
    | (go_at_call 24; refine (level_any X so' 0 sc' _ hcl).mono ?_; rintro e w' ⟨rfl, rfl⟩)
    | (go_at_call 25; refine (dead_any X _ s.d _ s.l _ HM1.out.blk hd8).mono ?_; rw [Hal.out]; rintro e w' ⟨rfl, rfl⟩))
  obtain ⟨V, hV⟩ : ∃ V, V = w'.alloc (.cells (mksV noMarks) 71) := ⟨_, rfl⟩
  have hfV : Nw w' V := by rw [hV]; exact (Fr.refl _ w').alloc _
  have hbM : Blk V w'.heap.size (mksV noMarks) 71 := by rw [hV]; exact Blk.new _ _ _
  rw [show w'.alloc (Obj.cells #[Value.bool false, Value.bool false, Value.bool false, Value.bool false, Value.bool false, Value.bool false, Value.bool false, Value.bool false, Value.bool false, Value.bool false, Value.bool false, Value.bool false] 71) = V from hV.symm]
  clear hV hct hcl
  have hct : V.cell? ⟨X, 9, none⟩ = some (.slice s.so s.ts.length s.tcap) := ((HM1.out.nw hfV).blk.cell 9).trans (workCells_tabs _ _ _ _ hd8)
  have hcM : V.cell? ⟨w'.heap.size, s.ts.length, none⟩ = some (.bool (noMarks.getD s.ts.length false)) := (hbM.cell _).trans (mksV_get _ _ (by show s.ts.length < 12; exact h12))
  have hfM := hbM.free s.ts.length
  have HbM := hd hbM
  clear hbM
  go_upto_region 13 with fail
  obtain ⟨U, hU⟩ : ∃ U, U = V.setCell ⟨w'.heap.size, s.ts.length, none⟩ (.bool true) := ⟨_, rfl⟩
  have hfU : Nw w' U := by rw [hU]; exact hfV.setCell _ _ (.inr (Nat.le_refl _))
  have hbM : Blk U w'.heap.size (mksV (noMarks.set s.ts.length true)) 71 := by
    have h5 := HbM.out.set s.ts.length (.bool true)
    have e6 : mksV (noMarks.set s.ts.length true) = (mksV noMarks).setIfInBounds s.ts.length (.bool true) := by simp [mksV, List.map_set]
    rw [hU, e6]
    exact h5
  rw [← hU]
  have hMl := hbM.lt
  clear hU hct hcM hfM HbM hfV
  have hMU := HM1.out.nw hfU
  have hXU := hMU.blk
  have hTU := HbT1.out.nw hfU
  have HfU : Hid (Nw w U) := Hf1.out.trans hfU (fun i h => h.elim)
  have HvU := hd (Hvs1.out.nw hfU)
  have HrU := hd (Hrs1.out.nw hfU)
  have HMU := hd hMU
  have HbM := hd hbM
  obtain ⟨xs, hxs⟩ : ∃ xs, s.ts.map Tab.val = xs := ⟨_, rfl⟩
  have hxl : s.ts.length = xs.length := by rw [← hxs]; simp
  have hrU : Row U (.slice s.so xs.length s.tcap) 73 xs := by
    have := hMU.tabs.row
    rw [hxs, hxl] at this
    exact this
  have HrT := hd hrU
  have Hxs := hd hxs
  have Hxl := hd hxl
  rw [hxl] at hXU
  rw [hxl] at h12 h12i
  clear hbM Hvs1 Hrs1 HbT1 Hf1 hfU hMU HM1 hrU hxs hxl hne12
  obtain ⟨szv, hszv⟩ : ∃ szv, s.szv = szv := ⟨_, rfl⟩
  have hK0 : Blk U.drew X (workCells s.szv s.d (.slice s.so xs.length s.tcap) s.l) 66 ∧ Blk U.drew w.heap.size #[.slice (some ⟨b, o, none⟩) vars.length vcap, .slice ro rows.length rcap, .bool nt, .int .i64 way] 41 := ⟨hXU.drew, hTU.drew⟩
  refine region_U (S := fun w'' => Blk w'' X (workCells s.szv s.d (.slice s.so xs.length s.tcap) s.l) 66 ∧ Blk w'' w.heap.size #[.slice (some ⟨b, o, none⟩) vars.length vcap, .slice ro rows.length rcap, .bool nt, .int .i64 way] 41) 15 (by kernel_rfl) ?_
  refine anyU_take (i := 0) (v := .pointer (some ⟨X, 0, none⟩)) (by kernel_rfl) rfl (by kernel_rfl) (by kernel_rfl) (by kernel_rfl) (fun _ _ _ h => h) (.inl ⟨by kernel_rfl, fun w'' hS => by kernel_rfl⟩) hK0 ?_
  refine anyU_take (i := 1) (v := .pointer (some ⟨X, 0, none⟩)) (by kernel_rfl) rfl (by kernel_rfl) (by kernel_rfl) (by kernel_rfl) (fun _ _ _ h => h) (.inl ⟨by kernel_rfl, fun w'' hS => by kernel_rfl⟩) hK0 ?_
  refine anyU_take (i := 2) (v := .pointer (some ⟨X, 0, none⟩)) (by kernel_rfl) rfl (by kernel_rfl) (by kernel_rfl) (by kernel_rfl) (fun _ _ _ h => h) (.inl ⟨by kernel_rfl, fun w'' hS => by kernel_rfl⟩) hK0 ?_
  refine anyU_take (i := 3) (v := .pointer (some ⟨X, 9, none⟩)) (by kernel_rfl) rfl (by kernel_rfl) (by kernel_rfl) (by kernel_rfl) (fun _ _ _ h => h) (.inl ⟨by kernel_rfl, fun w'' hS => by kernel_rfl⟩) hK0 ?_
  refine anyU_take (i := 4) (v := .slice s.so xs.length s.tcap) (by kernel_rfl) rfl (by kernel_rfl) (by kernel_rfl) (by kernel_rfl) (fun _ _ _ h => h) (.inl ⟨by kernel_rfl, fun w'' hS => ?_⟩) hK0 ?_
  · have hc := (hS.1.cell 9).trans (workCells_tabs _ _ _ _ hd8)
    clear hS hK0 hXU hTU hszv
    simp only [Act.put, List.setIfInBounds_toArray, List.set_cons_zero, List.set_cons_succ, List.getElem_toArray, List.getElem_cons_zero, List.getElem_cons_succ]
    go_simp
  refine anyU_take (i := 5) (v := .agg #[.slice (some ⟨b, o, none⟩) vars.length vcap, .slice ro rows.length rcap, .bool nt, .int .i64 way]) (by kernel_rfl) rfl (by kernel_rfl) (by kernel_rfl) (by kernel_rfl) (fun _ _ _ h => h) (.inl ⟨by kernel_rfl, fun w'' hS => ?_⟩) hK0 ?_
  · have q0 : w''.cell? ⟨w.heap.size, 0, none⟩ = some (.slice (some ⟨b, o, none⟩) vars.length vcap) := hS.2.cell 0
    have q1 : w''.cell? ⟨w.heap.size, 1, none⟩ = some (.slice ro rows.length rcap) := hS.2.cell 1
    have q2 : w''.cell? ⟨w.heap.size, 2, none⟩ = some (.bool nt) := hS.2.cell 2
    have q3 : w''.cell? ⟨w.heap.size, 3, none⟩ = some (.int .i64 way) := hS.2.cell 3
    clear hS hK0 hXU hTU hszv
    simp only [Act.put, List.setIfInBounds_toArray, List.set_cons_zero, List.set_cons_succ, List.getElem_toArray, List.getElem_cons_zero, List.getElem_cons_succ]
    go_simp
  refine anyU_take (i := 6) (v := .pointer (some ⟨X, 0, none⟩)) (by kernel_rfl) rfl (by kernel_rfl) (by kernel_rfl) (by kernel_rfl) (fun _ _ _ h => h) (.inl ⟨by kernel_rfl, fun w'' hS => by kernel_rfl⟩) hK0 ?_
  refine anyU_take (i := 7) (v := .pointer (some ⟨X, 0, none⟩)) (by kernel_rfl) rfl (by kernel_rfl) (by kernel_rfl) (by kernel_rfl) (fun _ _ _ h => h) (.inl ⟨by kernel_rfl, fun w'' hS => by kernel_rfl⟩) hK0 ?_
  refine anyU_take (i := 8) (v := .pointer (some ⟨X, 1, none⟩)) (by kernel_rfl) rfl (by kernel_rfl) (by kernel_rfl) (by kernel_rfl) (fun _ _ _ h => h) (.inl ⟨by kernel_rfl, fun w'' hS => by kernel_rfl⟩) hK0 ?_
  refine anyU_take (i := 9) (v := .agg (domV s.d)) (by kernel_rfl) rfl (by kernel_rfl) (by kernel_rfl) (by kernel_rfl) (fun _ _ _ h => h) (.inl ⟨by kernel_rfl, fun w'' hS => ?_⟩) hK0 ?_
  · obtain ⟨k0, k1, k2, k3, k4, k5, k6, k7⟩ := work8 hS.1 Hdv.out
    clear hS hK0 hXU hTU hszv
    rw [Hdv.out]
    simp only [Act.put, List.setIfInBounds_toArray, List.set_cons_zero, List.set_cons_succ, List.getElem_toArray, List.getElem_cons_zero, List.getElem_cons_succ]
    go_simp
  refine anyU_one (i := 10) (by kernel_rfl) ?_
  refine op_enter (f := 26) (args := #[.agg #[.slice (some ⟨b, o, none⟩) vars.length vcap, .slice ro rows.length rcap, .bool nt, .int .i64 way], .agg (domV s.d)]) (w' := U.drew) rfl (by kernel_rfl) (by kernel_rfl) ?_
  refine (makeT_any b o ro vcap rcap vars rows nt way hway s.d _ hd8 hv1 HVO.out.four HVO.out.ok HH.out.good.dm.lt hr60 Hrl.out HvU.out.drew HrU.out.drew).mono ?_
  rintro e w2 ⟨G, g, cap, t, rfl, hf2, hmade, hT2, hnew⟩
  have hf2' : Nw U w2 := hf2.of_drew
  obtain ⟨ty, hty⟩ : ∃ ty, t.ty = ty := ⟨_, rfl⟩
  rw [hty]
  refine ⟨_, rfl, fun _ => ⟨hXU.nw hf2', hTU.nw hf2'⟩, ?_⟩
  refine anyU_one (i := 11) (by kernel_rfl) ?_
  refine op_value (v := .slice (some ⟨w2.heap.size, 0, none⟩) 1 1) (w' := w2.alloc (.cells #[.iface ty (.pointer (some ⟨G, 0, none⟩))] 73)) rfl (by kernel_rfl) ?_ ⟨fun _ => ⟨(hXU.nw hf2').alloc _, (hTU.nw hf2').alloc _⟩, ?_⟩
  · kernel_rfl
  obtain ⟨i0, hi0, hz0', hz1, hz2⟩ := info_parts Tryz.infoTable
  obtain ⟨v', w3, hr, hown, hgrow, _, hat⟩ := run_append_own_at (P := Tryz.prog) (w2.alloc (.cells #[.iface ty (.pointer (some ⟨G, 0, none⟩))] 73)) 0 61 61 73 i0 .nilIface 1 16 Tryz.underlying61 hi0 hz0' hz1 hz2 rfl (by decide) (.slice s.so xs.length s.tcap) xs.length xs (Row.alloc (HrT.out.nw hf2') _) ⟨w2.heap.size, 0, none⟩ 1 1 [.iface ty (.pointer (some ⟨G, 0, none⟩))] rfl (cell_one_new _ _ _) (by simp [Value.oneCell']) (by unfold maxLen; omega) (by omega) (Nat.zero_le _)
  obtain ⟨tb, tcap, rfl, hr3, hf3, ha3, hlt3⟩ := app1 hown hgrow hat
  clear hown hgrow hat
  have o3 : Only w2 (fun k => (Value.slice s.so xs.length s.tcap).ownBlock = some k) [73] := Only.row (HrT.out.nw hf2')
  have hX3 := (hXU.nw hf2').frO hf3 o3 (by decide)
  have hT3 := (hTU.nw hf2').frO hf3 o3 (by decide)
  refine anyU_one (i := 12) (by kernel_rfl) ?_
  refine op_value (v := .slice (some ⟨tb, 0, none⟩) (xs.length + 1) tcap) (w' := w3) rfl (by kernel_rfl) ?_ ⟨fun _ => ⟨hX3, hT3⟩, ?_⟩
  · simp only [Act.put, List.setIfInBounds_toArray, List.set_cons_zero, List.set_cons_succ, List.getElem_toArray, List.getElem_cons_zero, List.getElem_cons_succ]
    unfold execOp
    simp only [resolve, invoke, builtin, Sem.run_bind, Sem.run_pure, Result.andThen_ok, List.map_toArray, List.map_cons, List.map_nil, Act.eval]
    erw [hr]
    rfl
  refine anyU_one (i := 13) (by kernel_rfl) ?_
  refine op_value (v := .pointer (some ⟨X, 0, none⟩)) (w' := w3) rfl (by kernel_rfl) (by kernel_rfl) ⟨fun _ => ⟨hX3, hT3⟩, ?_⟩
  refine anyU_one (i := 14) (by kernel_rfl) ?_
  refine op_value (v := .pointer (some ⟨X, 9, none⟩)) (w' := w3) rfl (by kernel_rfl) (by kernel_rfl) ⟨fun _ => ⟨hX3, hT3⟩, ?_⟩
  refine anyU_one (i := 15) (by kernel_rfl) ?_
  have hc9 := (hX3.cell 9).trans (workCells_tabs _ _ _ _ hd8)
  have hf9 := hX3.free 9
  refine op_skip (w' := w3.setCell ⟨X, 9, none⟩ (.slice (some ⟨tb, 0, none⟩) (xs.length + 1) tcap)) rfl (by kernel_rfl) ?_ ⟨fun h => absurd rfl h, anyU_done (by kernel_rfl) ?_ _⟩
  · clear hK0 hXU hTU hX3 hT3 hf3 hr hr3 hf2 hf2' hT2 hmade hnew o3 hszv ha3
    simp only [Act.put, List.setIfInBounds_toArray, List.set_cons_zero, List.set_cons_succ, List.getElem_toArray, List.getElem_cons_zero, List.getElem_cons_succ]
    go_simp
  simp only [Act.put, List.setIfInBounds_toArray, List.set_cons_zero, List.set_cons_succ, List.getElem_toArray, List.getElem_cons_zero, List.getElem_cons_succ]
  obtain ⟨Z, hZ⟩ : ∃ Z, Z = w3.setCell ⟨X, 9, none⟩ (.slice (some ⟨tb, 0, none⟩) (xs.length + 1) tcap) := ⟨_, rfl⟩
  have hfZ : Fr (fun k => k = X) w3 Z := by rw [hZ]; exact (Fr.refl _ w3).setCell _ _ (.inl rfl)
  have hXZ : Blk Z X (workCells s.szv s.d (.slice (some ⟨tb, 0, none⟩) (xs.length + 1) tcap) s.l) 66 := by
    rw [hZ, ← workCells_setTabs _ _ _ _ _ hd8]
    exact hX3.set 9 _
  rw [← hZ]
  clear hZ
  have oX : Only w3 (fun k => k = X) [66] := Only.one hX3
  have hTZ := (hT2.frO hf3 o3 (by decide)).frO hfZ oX (by decide)
  have hrZ := hr3.frO hfZ oX (by decide)
  have hUZ : Fr (fun k => k = X ∨ (Value.slice s.so xs.length s.tcap).ownBlock = some k) U Z := ((hf2'.mono (S' := fun k => k = X ∨ (Value.slice s.so xs.length s.tcap).ownBlock = some k) (fun i h => h.elim)).trans hf3 (fun i h => .inl (.inr h))).trans hfZ (fun i h => .inl (.inl h))
  have hwZ : Fr (fun k => k = X ∨ (Value.slice s.so xs.length s.tcap).ownBlock = some k) w Z := (HfU.out.mono (fun i h => h.elim)).trans hUZ (fun i h => .inl h)
  have hrw : Row w (.slice s.so xs.length s.tcap) 73 xs := by
    have := HH.out.mem.tabs.row
    rw [Hxs.out, Hxl.out] at this
    exact this
  have oZ : Only w (fun k => k = X ∨ (Value.slice s.so xs.length s.tcap).ownBlock = some k) [66, 73] := (Only.one HH.out.mem.blk).or (Only.row hrw)
  have hGn : w.heap.size ≤ G := by
    have h1 : U.heap.size ≤ G := hnew G (.inl rfl)
    have := HfU.out.size
    omega
  have hgn : w.heap.size ≤ g := by
    have h1 : U.heap.size ≤ g := hnew g (.inr (.inl rfl))
    have := HfU.out.size
    omega
  have hMZ := WMem.more (x := ⟨G, g, cap, vars, t⟩) (b := ⟨vars, rows, nt⟩) HH.out.mem Hus.out hwZ oZ (by rw [Hxl.out]; exact hXZ) (by rw [Hxl.out, Hxs.out]; show Row Z _ _ (xs ++ [Value.iface t.ty _]); rw [hty]; exact hrZ) hTZ hGn hgn (by rw [Hxl.out]; exact h12) rfl HTb.out Hvn.out
  have hSt : WStep w Z X s (s.more (some ⟨tb, 0, none⟩) tcap ⟨G, g, cap, vars, t⟩ ⟨vars, rows, nt⟩) := WStep.more hwZ (fun k hk => hk.elim (fun e => .inl e) (fun e => .inr (.inr (.inl (by rw [Hxl.out]; exact e))))) (fun k hk => by
    rw [Hxl.out]
    have e : tb = k := by cases hk; rfl
    subst e
    rcases ha3 with h1 | h1
    · exact .inl h1
    · have := HfU.out.size
      have := hf2'.size
      exact .inr (by omega)) hGn hgn
  have hSI := HH.out.good.more (so := some ⟨tb, 0, none⟩) (tcap := tcap) (x := ⟨G, g, cap, vars, t⟩) (b := ⟨vars, rows, nt⟩) HH.out.mem.fits (by rw [Hxl.out]; exact h12) (made_rep HTb.out HH.out.good.dm hmade)
  have hbMZ := HbM.out.frO hUZ ((Only.one hXU).or (Only.row HrT.out)) (by decide)
  have Hmc : Hid (mksV (noMarks.set s.ts.length true) = mksV (noMarks.set s.ts.length true)) := rfl
  obtain ⟨mk, hmk⟩ : ∃ mk, noMarks.set s.ts.length true = mk := ⟨_, rfl⟩
  have hml : mk.length = 12 := by rw [← hmk]; simp [noMarks]
  obtain ⟨b0, b1, b2, b3, b4, b5, b6, b7, b8, b9, b10, b11, hmb⟩ := list12 hml
  have hmv : mksV mk = #[.bool b0, .bool b1, .bool b2, .bool b3, .bool b4, .bool b5, .bool b6, .bool b7, .bool b8, .bool b9, .bool b10, .bool b11] := by rw [hmb]; rfl
  rw [hmk] at hSI hbMZ
  have hoff : ∀ k, s.ts.length + 1 ≤ k → mk.getD k false = false := fun k hk => by
    rw [← hmk, getD_setB, if_neg (fun e => by omega)]
    exact noMarks_get k
  have hmc : marksOf mk ≤ 12 := by have := marks_le mk; omega
  have hbm := bits_max s.d
  obtain ⟨c0, c1, c2, c3, c4, c5, c6, c7⟩ := work8 hXZ Hdv.out
  rw [hmv] at hbMZ
  have r0 : Z.cell? ⟨w'.heap.size, 0, none⟩ = some (.bool b0) := hbMZ.cell 0
  have r1 : Z.cell? ⟨w'.heap.size, 1, none⟩ = some (.bool b1) := hbMZ.cell 1
  have r2 : Z.cell? ⟨w'.heap.size, 2, none⟩ = some (.bool b2) := hbMZ.cell 2
  have r3 : Z.cell? ⟨w'.heap.size, 3, none⟩ = some (.bool b3) := hbMZ.cell 3
  have r4 : Z.cell? ⟨w'.heap.size, 4, none⟩ = some (.bool b4) := hbMZ.cell 4
  have r5 : Z.cell? ⟨w'.heap.size, 5, none⟩ = some (.bool b5) := hbMZ.cell 5
  have r6 : Z.cell? ⟨w'.heap.size, 6, none⟩ = some (.bool b6) := hbMZ.cell 6
  have r7 : Z.cell? ⟨w'.heap.size, 7, none⟩ = some (.bool b7) := hbMZ.cell 7
  have r8 : Z.cell? ⟨w'.heap.size, 8, none⟩ = some (.bool b8) := hbMZ.cell 8
  have r9 : Z.cell? ⟨w'.heap.size, 9, none⟩ = some (.bool b9) := hbMZ.cell 9
  have r10 : Z.cell? ⟨w'.heap.size, 10, none⟩ = some (.bool b10) := hbMZ.cell 10
  have r11 : Z.cell? ⟨w'.heap.size, 11, none⟩ = some (.bool b11) := hbMZ.cell 11
  have HMZ := hd hMZ
  have HSt := hd hSt
  have HSI := hd hSI
  have Hoff := hd hoff
  have Hmv := hd hmv
  have hlen1 : (s.more (some ⟨tb, 0, none⟩) tcap ⟨G, g, cap, vars, t⟩ ⟨vars, rows, nt⟩).ts.length = s.ts.length + 1 := by simp [WS.more]
  have Hlen1 := hd hlen1
  clear hMZ hSt hSI hoff hmv hmb hmk Hmc hbMZ hXZ hX3 hT3 hc9 hf9 hr hr3 hf3 ha3 hlt3 hf2 hf2' hmade hT2 hnew hK0 hXU hTU o3 oX oZ hTZ hrZ hUZ hwZ hrw hfZ hGn hgn HvU HrU HMU HbM HrT hty hszv hlen1
  simp only [Exit.then]
  go_upto_region 14 with fail
  go_still_tail 6, (by kernel_rfl)
  go_wp2_with fail
  rw [← Hdv.out, ← Hmv.out]
  have HMd := HMZ.out.nw ((Fr.refl _ Z).drew)
  refine (settle_any ((s.more (some ⟨tb, 0, none⟩) tcap ⟨G, g, cap, vars, t⟩ ⟨vars, rows, nt⟩).ctx X zs s.d) s.d mk _ HMd.blk HMd.sz hz0 hzl hd8 HH.out.good.dm.mem HMd.tabs HMd.inj HMd.t12 hml (fun k hk => Hoff.out k (by rw [← Hlen1.out]; exact hk)) HMd.tr (by show (s.us.map Un.val).length + _ ≤ 900000; rw [Hus.out]; simp; omega) HSI.out HMd.tbok HMd.fits).mono ?_
  rintro e w4 ⟨rfl, d', bv, ts, us, hset⟩
  obtain ⟨hA, hB⟩ := HMd.settled (by show StackOk zs _ s.us _ s.sk; rw [Hsk.out, Hus.out]; rfl) HH.out.good.inn HH.out.good.dm (SubD.refl _) (by show s.us.length + 900 * bitsOf s.d ≤ _; rw [Hus.out]; simp; omega) (by omega) (fun _ hc => absurd Hsk.out hc) (by show s.sk.length ≤ 20; rw [Hsk.out]; simp) hset
  have hB' : WStep Z w4 X (s.more (some ⟨tb, 0, none⟩) tcap ⟨G, g, cap, vars, t⟩ ⟨vars, rows, nt⟩) _ := ⟨hB.fr.of_drew, hB.grow⟩
  have HA := hd hA
  have HB := hd (HSt.out.trans hB')
  have Hclo := hd hset.clo
  have Hdm := hd hset.dm
  clear hset hA hB hB' HMd c0 c1 c2 c3 c4 c5 c6 c7 r0 r1 r2 r3 r4 r5 r6 r7 r8 r9 r10 r11
  go_wp2_with fail
  go_ret
  exact ⟨rfl, _, _, _, d', bv, ts, us, Hclo.out, Hdm.out, HA.out, HB.out⟩
end Go.Proofs.YtkjfpdfkcfgfkaaGreat

/- 'for _, f := range slices.Backward(l) { .. }': the iterator's contract, and a law for the statement. -/
namespace Go.Proofs.YtkjfpdfkcfgfkaaGreat
open Go.RowKit Go.Shelf
attribute [local go_sem] Oper.semAt_some

/-- What the iterator reads: its box, the list's functions. -/
def BRd (Bx : Nat) (ao : Option Addr) (cap : Nat) (xs : List Value) (W : World) : Prop := W.cell? ⟨Bx, 0, none⟩ = some (.slice ao xs.length cap) ∧ ∀ i, i < xs.length → ∃ b o, ao = some ⟨b, o, none⟩ ∧ W.cell? ⟨b, o + i, none⟩ = some (xs.getD i undef)

set_option maxHeartbeats 1600000 in
theorem backw_in (n l Bx : Nat) (ao : Option Addr) (cap : Nat) (xs : List Value) (hxl : xs.length ≤ 1000000) (J : Nat → World → Prop) (W : World) (h0 : J xs.length W) (hR : ∀ i W, J i W → BRd Bx ao cap xs W)
    (hY : ∀ (i : Nat) (W1 : World), i < xs.length → J (i + 1) W1 → YieldAt Fence.wide (n - 1) Tryz.prog l #[.int .i64 (i : Int), xs.getD i undef] W1 fun e W' => e = .returned (.bool true) ∧ J i W') :
    CallsIn Fence.wide n Tryz.prog 99 #[.func (.yield l) #[] #[], .pointer (some ⟨Bx, 0, none⟩)] W fun e W' => (∃ v, e = .returned v) ∧ J 0 W' := by
  refine callsIn_of_wp Tryz.func99 rfl trivial ?_ rfl
  simp only [Tryz.ntmps99, List.size_toArray, List.length_cons, List.length_nil, Nat.reduceAdd, Nat.reduceSub, Array.replicate_succ, Array.replicate_zero, List.push_toArray, List.append_toArray, List.nil_append, List.cons_append]
  have hc0 := (hR _ _ h0).1
  gi_wp2
  gi_loopw [3] (fun p wr => ∃ i : Nat, i ≤ xs.length ∧ p = .int .i64 ((i : Int) - 1) ∧ J i wr) (fun p _ => (intOf p + 1).toNat)
  case atStart => exact ⟨xs.length, Nat.le_refl _, by go_num, h0⟩
  case round =>
    obtain ⟨i, hi, rfl, hJ⟩ := hrel
    clear hc0
    cases i with
    | zero =>
      gi_wp2
      go_end0
      exact ⟨⟨_, rfl⟩, hJ⟩
    | succ i =>
      obtain ⟨hc, hx⟩ := hR _ _ hJ
      obtain ⟨b, o, hao, hcx⟩ := hx i (by omega)
      subst hao
      obtain ⟨fn, tmps, assign, body, hy, hRd⟩ := hY i wr (by omega) hJ
      obtain ⟨v, hv⟩ : ∃ v, xs.getD i undef = v := ⟨_, rfl⟩
      rw [hv] at hcx hy
      have e1 : ((i + 1 : Nat) : Int) - 1 = (i : Int) := by omega
      rw [e1]
      have hil : (i : Int) < xs.length := by omega
      have hi0 : (0 : Int) ≤ i := by omega
      clear hx
      gi_wp2_with fail
      refine ⟨(fun h => by cases h), ?_⟩
      refine hRd.mono ?_
      rintro e W3 ⟨rfl, hJ3⟩
      gi_wp2
      exact ⟨⟨i, by omega, by go_num, hJ3⟩, by simp [intOf]⟩

/-- **'for _, f := range slices.Backward(l) { body }', where no body leaves early.** I i: i functions are left. -/
theorem wp_backw {n Bx : Nat} {ao : Option Addr} {cap : Nat} {xs : List Value} (hxl : xs.length ≤ 1000000) {g : Operand} {t0 t d : Tmp} {rid : Nat} {ty : TypeId} {pos : String} {body : Code} {Q : Exit → Act → World → Prop} {a : Act} {w : World}
    (hg : a.eval g = .func (.func 99) #[] #[.pointer (some ⟨Bx, 0, none⟩)]) (ht : t < a.tmps.size) (I : Nat → World → Prop) (hI : ∀ i A B, I i A → Bk w.heap.size A B → I i B) (hR : ∀ i W, I i W → BRd Bx ao cap xs W) (h0 : I xs.length w)
    (hround : ∀ (l : Nat) (i : Nat) (W : World), i < xs.length → I (i + 1) W →
      body.wpIn (Fence.wide.inRound l) (n - 1 - 1) Tryz.prog (eachPost (I i) W) { tmps := ((a.tmps.setIfInBounds t0 (.int .i64 (i : Int))).setIfInBounds t (xs.getD i undef)).setIfInBounds d (xs.getD i undef), defers := [] } W)
    (hdone : ∀ (D : Nat) (W : World), w.heap.size ≤ D → I 0 W → W.heap[D]? = some (.deferred (some [])) → Q .normal { a with defers := mark D :: a.defers } W) :
    (Code.rangeFunc g #[t0, t] (Code.region rid #[{ dst := some d, op := .assign (.tmp t), type := ty, pos := pos, after := #[], guard := none }] false) body).wpIn Fence.wide n Tryz.prog Q a w := by
  generalize hA : Code.region rid #[{ dst := some d, op := Op.assign (.tmp t), type := ty, pos := pos, after := #[], guard := none }] false = assign
  have hassign : ∀ (l : Nat) (i : Nat) (v : Value) (W : World) (K : Act → World → Prop), K { tmps := ((a.tmps.setIfInBounds t0 (.int .i64 (i : Int))).setIfInBounds t v).setIfInBounds d v, defers := [] } W →
      assign.wpIn (Fence.wide.inRound l) (n - 1 - 1) Tryz.prog (Exit.then K (fun _ _ _ => False)) { tmps := (a.tmps.setIfInBounds t0 (.int .i64 (i : Int))).setIfInBounds t v, defers := [] } W := by
    intro l i v W K hK
    subst hA
    have hget : ((a.tmps.setIfInBounds t0 (.int .i64 (i : Int))).setIfInBounds t v).getD t undef = v := by
      simp [ht]
    gi_wp2
    exact hK
  refine wpIn_rangeFunc ?_
  intro fn hfn
  obtain ⟨rec, hrec⟩ : ∃ rec : LoopState → Option Code → Loop, rec = fun st pe => { state := st, pending := pe, fn, tmps := a.tmps, params := #[t0, t], assign, body, defers := w.heap.size } := ⟨_, rfl⟩
  obtain ⟨W1, hW1⟩ : ∃ W1, (w.alloc (.deferred (some []))).alloc (.loop (rec .ready none)) = W1 := ⟨_, rfl⟩
  have hL1 : W1.heap[w.heap.size + 1]? = some (.loop (rec .ready none)) := by
    rw [← hW1]
    have := heap_alloc_new (w.alloc (.deferred (some []))) (.loop (rec .ready none))
    simpa using this
  have hK1 : W1.heap[w.heap.size]? = some (.deferred (some [])) := by
    rw [← hW1]; exact (Below.heap_alloc _ _ _ (by simp)).trans (heap_alloc_new w _)
  have hI1 : I xs.length W1 := by rw [← hW1]; exact hI _ _ _ (hI _ _ _ h0 (Bk.alloc _ _ _)) (Bk.alloc _ _ _)
  refine ⟨w.heap.size + 1, [mark w.heap.size], W1, { target := .fn (.func 99) #[.pointer (some ⟨Bx, 0, none⟩)], args := #[.func (.yield (w.heap.size + 1)) #[] #[]] }, W1, 99,
    #[.func (.yield (w.heap.size + 1)) #[] #[], .pointer (some ⟨Bx, 0, none⟩)], W1, ?_, ?_, ?_, ?_, (fun h => by cases h), ?_⟩
  · rw [← hW1, hrec]; exact run_enterLoop_outer _ _ _ _ _
  · simp only [resolve, hg]
    simp [go_sem]
  · intro f' _; trivial
  · simp [invoke, go_sem]
  · refine (backw_in (n - 1) (w.heap.size + 1) Bx ao cap xs hxl
      (fun i W => I i W ∧ W.heap[w.heap.size + 1]? = some (.loop (rec .ready none)) ∧ W.heap[w.heap.size]? = some (.deferred (some []))) W1 ⟨hI1, hL1, hK1⟩ (fun i W h => hR i W h.1) ?_).mono ?_
    · rintro i W hpre ⟨hi, hl, hk⟩
      have hlt : w.heap.size + 1 < W.heap.size := (Array.getElem?_eq_some_iff.1 hl).1
      have hy := run_yield (P := Tryz.prog) (args := #[.int .i64 (i : Int), xs.getD i undef]) hl (by rw [hrec]; rfl)
      rw [hrec] at hy
      dsimp only at hy
      have hfold : ((#[t0, t] : Array Tmp).zip #[Value.int .i64 (i : Int), xs.getD i undef]).foldl (fun tmps (x : Tmp × Value) => match x with | (t, a) => tmps.setIfInBounds t a) a.tmps = (a.tmps.setIfInBounds t0 (.int .i64 (i : Int))).setIfInBounds t (xs.getD i undef) := by simp
      rw [hfold] at hy
      have hl2 : (W.putObj (w.heap.size + 1) (.loop { rec .ready none with state := .busy })).heap[w.heap.size + 1]? = some (.loop { rec .ready none with state := .busy }) := World.putObj_heap_same hlt
      have hk2 : (W.putObj (w.heap.size + 1) (.loop { rec .ready none with state := .busy })).heap[w.heap.size]? = some (.deferred (some [])) := (World.putObj_heap_other (by omega)).trans hk
      have hbody := hround (w.heap.size + 1) i _ hpre (hI _ _ _ hi (Bk.put (.loop { rec .ready none with state := .busy }) (by omega) hl rfl))
      refine ⟨fn, _, assign, body, hy, roundIn_of_wpIn hfn ?_⟩
      refine hassign _ i _ W _ ?_
      refine ⟨_, run_beginRound hl (by rw [hrec]), ?_⟩
      refine wpIn_mono hbody ?_
      rintro e a3 W3 hp
      cases e with
      | normal =>
        obtain ⟨hk3, hi3⟩ := hp
        have hl3 := hk3.same _ _ hl2 rfl
        have hend := run_endRound (P := Tryz.prog) none hl3
        refine ⟨_, _, hend, rfl, hI _ _ _ hi3 (Bk.put _ (by omega) hl3 rfl), ?_, (World.putObj_heap_other (by omega)).trans (hk3.same _ _ hk2 rfl)⟩
        rw [World.putObj_heap_same (Array.getElem?_eq_some_iff.1 hl3).1, hrec]
        rfl
      | ret => exact hp.elim
      | exit id => exact hp.elim
      | goto t => exact hp.elim
      | panic ch => exact hp.elim
      | outgrown => exact hp.elim
    · rintro e W2 ⟨⟨v, rfl⟩, hi, hl, hk⟩
      refine ⟨none, _, ?_, hdone w.heap.size _ (Nat.le_refl _) (hI _ _ _ hi (Bk.put (.loop { rec .ready none with state := .exhausted }) (by omega) hl rfl)) ((World.putObj_heap_other (by omega)).trans hk)⟩
      have := run_endLoop (P := Tryz.prog) hl (by rw [hrec]; simp)
      rw [hrec] at this ⊢
      exact this

set_option maxHeartbeats 400000 in
/-- slices.Backward makes the iterator: a box with the list. -/
theorem backward_any (ao : Option Addr) (n cap : Nat) (w : World) :
    Calls Tryz.prog 96 #[.slice ao n cap] w fun e w' => e = .returned (.func (.func 99) #[] #[.pointer (some ⟨w.heap.size, 0, none⟩)]) ∧ w' = w.alloc (.cells #[.slice ao n cap] 62) := by
  have hmf : ∀ (fn : Fn) (first cap : Array Value) (w : World), (Instr.makeFunc fn first cap).run Tryz.prog w = .ok (.func fn first cap) w := fun _ _ _ _ => rfl
  go_enter Tryz.func96, Tryz.ntmps96
  go_wp2
  go_ret
  exact ⟨rfl, rfl⟩
end Go.Proofs.YtkjfpdfkcfgfkaaGreat

/- What Pop of a trail needs: one change put back; the cut of a row; clear. -/
namespace Go.Proofs.YtkjfpdfkcfgfkaaGreat
open Go.RowKit

theorem Row.take {w : World} {ao : Option Addr} {m cap : Nat} {e : TypeId} {xs : List Value} (h : Row w (.slice ao m cap) e xs) (n : Nat) (hn : n ≤ xs.length) : Row w (.slice ao n cap) e (xs.take n) := by
  have hl : (xs.take n).length = n := by simp; omega
  refine ⟨by rw [hl]; simp, ?_⟩
  rcases h.2 with ⟨he, h0⟩ | ⟨g, cap', cur, he, hb, hg, hc, hm, hs, ht⟩
  · have hn0 : n = 0 := by omega
    subst hn0
    have e2 : (Value.slice ao 0 cap) = .slice none 0 0 := by
      injection he with e1 e2 e3
      rw [e1, e3]
    exact .inl ⟨by rw [e2], by simp⟩
  · injection he with e1 e2 e3
    subst e1 e3
    refine .inr ⟨g, cap, cur, by rw [hl], hb, hg, by rw [hl]; omega, hm, hs, ?_⟩
    rw [hl, ← ht, List.take_take]
    congr 1
    omega
theorem Row.sliced0 {w : World} {ao : Option Addr} {m cap : Nat} {e : TypeId} {xs : List Value} (h : Row w (.slice ao m cap) e xs) (n : Nat) : sliced ao 0 n cap 1 = .slice ao n cap := by
  unfold sliced
  rcases h.2 with ⟨he, h0⟩ | ⟨g, cap', cur, he, _⟩
  · injection he with e1 e2 e3
    subst e1 e3
    simp
  · injection he with e1 e2 e3
    subst e1
    split
    · simp
    · simp [Addr.add]
/-- The tail of a row, as a slice. -/
theorem Row.tail {w : World} {ao : Option Addr} {m cap : Nat} {e : TypeId} {xs : List Value} (h : Row w (.slice ao m cap) e xs) (n : Nat) (hn : n ≤ xs.length) : ∃ ao', sliced ao n m cap 1 = .slice ao' (xs.drop n).length (cap - n) ∧ ((∃ g, ao = some ⟨g, 0, none⟩ ∧ n < xs.length ∧ ao' = some ⟨g, n, none⟩) ∨ n = xs.length) := by
  have hm : m = xs.length := by
    rcases h.2 with ⟨he, h0⟩ | ⟨g, cap', cur, he, _⟩
    · injection he with e1 e2 e3
      omega
    · injection he with e1 e2 e3
  subst hm
  unfold sliced
  by_cases e1 : n = xs.length
  · exact ⟨if cap = n then ao else Option.map (fun x => x.add (n * 1)) ao, by simp, .inr e1⟩
  · have hlt : n < xs.length := by omega
    rcases h.2 with ⟨he, h0⟩ | ⟨g, cap', cur, he, _, _, hc, _⟩
    · omega
    · injection he with e2 e3 e4
      subst e2 e4
      have hne : ¬ cap = n := by omega
      refine ⟨some ⟨g, n, none⟩, ?_, .inl ⟨g, rfl, hlt, rfl⟩⟩
      rw [if_neg hne]
      simp [Addr.add]
      exact fun h => h.symm
theorem Fr.setRow {S : Nat → Prop} {a b : World} (h : Fr S a b) (g : Nat) (c : Array Value) (hg : S g ∨ a.heap.size ≤ g) : Fr S a (b.setRow g c) :=
  ⟨h.os, h.tape, h.output, by rw [setRow_size]; exact h.size, fun k hk hn => (setRow_other _ _ _ _ (fun e => by subst e; exact hg.elim hn (fun h' => by omega))).trans (h.block k hk hn)⟩
theorem Tryz.zeroFunc (w : World) : (zeroValue 1).run Tryz.prog w = .ok .nilFunc w := by kernel_rfl
/-- clear of what lies behind the first n of a row. -/
theorem clear_tail {w : World} {ao : Option Addr} {m cap : Nat} {xs : List Value} (ty : TypeId) (h : Row w (.slice ao m cap) 1 xs) (n : Nat) (hn : n ≤ xs.length) {ao' : Option Addr} {k cap' : Nat} (hs : sliced ao n m cap 1 = .slice ao' k cap') :
    ∃ w', (Builtin.clear_ #[62] ty #[.slice ao' k cap']).run Tryz.prog w = .ok (.tuple #[]) w' ∧ Fr (fun k => (Value.slice ao m cap).ownBlock = some k) w w' ∧ Row w' (.slice ao n cap) 1 (xs.take n) := by
  obtain ⟨ao2, he, hc⟩ := h.tail n hn
  rw [hs] at he
  injection he with e1 e2 e3
  subst e1 e2
  have hu : Tryz.prog.underlying 62 = some (.slice 1) := by kernel_rfl
  rcases hc with ⟨g, rfl, hlt, rfl⟩ | rfl
  · rcases h.2 with ⟨he, h0⟩ | ⟨g', cap2, cur, he, hb, hg, hc, hm, hsz, ht⟩
    · cases he
    · injection he with e1 e2 e3
      cases e1
      subst e2 e3
      have hk0 : (xs.drop n).length ≠ 0 := by rw [List.length_drop]; omega
      obtain ⟨k', hk'⟩ : ∃ k', (xs.drop n).length = k' + 1 := ⟨(xs.drop n).length - 1, by omega⟩
      have hzl : (Builtin.zeroCells (Value.nilFunc).cells (k' + 1)).toList = List.replicate (k' + 1) Value.nilFunc := by
        refine List.ext_getElem (by simp [Builtin.zeroCells, Value.cells]) (fun i h1 h2 => ?_)
        simp [Builtin.zeroCells, Value.cells, Nat.mod_one]
      have hst := run_storeCells_at (P := Tryz.prog) g n 1 (List.replicate (k' + 1) Value.nilFunc) 0 cur w hg (by rw [List.length_replicate, ← hk', List.length_drop]; simp at hsz; omega) (fun v hv => by
        rw [List.eq_of_mem_replicate hv]
        rfl)
      refine ⟨w.setRow g (cur.toList.take (n + 0) ++ List.replicate (k' + 1) Value.nilFunc ++ cur.toList.drop (n + 0 + (List.replicate (k' + 1) Value.nilFunc).length)).toArray, ?_, (Fr.refl _ w).setRow g _ (.inl rfl), ?_⟩
      · rw [hk']
        simp only [Builtin.clear_, Sem.run_bind, run_underlying hu, Tryz.zeroFunc, Result.andThen_ok, hzl, hst, Sem.run_pure, List.getElem?_toArray, List.getElem?_cons_zero]
      · have hl : (xs.take n).length = n := by simp; omega
        refine ⟨by rw [hl]; simp, .inr ⟨g, cap, _, by rw [hl], Nat.zero_le _, setRow_heap w g cur _ _ _ hg, by rw [hl]; omega, hm, ?_, ?_⟩⟩
        · simp only [Nat.add_zero, List.size_toArray, List.length_append, List.length_take, List.length_drop, List.length_replicate, Array.length_toList]
          rw [← hk', List.length_drop]
          simp at hsz
          omega
        · rw [hl]
          simp only [Nat.add_zero, Nat.mul_one, List.append_assoc]
          have h9 := congrArg (List.take n) ht
          rw [List.take_take, Nat.mul_one, Nat.min_eq_left hn] at h9
          rw [← h9, List.take_append_of_le_length (by simp; simp at hsz; omega), List.take_take, Nat.min_self]
  · have hk0 : (xs.drop xs.length).length = 0 := by simp
    refine ⟨w, ?_, Fr.refl _ _, h.take _ (Nat.le_refl _)⟩
    rw [hk0]
    cases ao' with
    | none =>
      simp only [Builtin.clear_, Sem.run_bind, run_underlying hu, Result.andThen_ok, Sem.run_pure, List.getElem?_toArray, List.getElem?_cons_zero]
    | some a =>
      simp only [Builtin.clear_, Sem.run_bind, run_underlying hu, Result.andThen_ok, Sem.run_pure, List.getElem?_toArray, List.getElem?_cons_zero]
theorem Un.call (u : Un) : ∃ fn cs, u.val = .func (.func fn) #[] cs ∧ ∀ a W, (callFunc fn a).run Tryz.prog W = .ok (.enter fn a) W := by
  cases u with
  | n T S k t0 => exact ⟨_, _, rfl, fun a W => by kernel_rfl⟩
  | r T D d0 => exact ⟨_, _, rfl, fun a W => by kernel_rfl⟩
def noS : Nat → Prop := fun _ => False
/-- One change is put back. -/
theorem WMem.undo {W : World} {X : Nat} {zs : List Int} {s : WS} (h : WMem W X zs s) (hd8 : s.d.length = 8) {u : Un} (hu : u ∈ s.us) {fn : FuncId} {cs : Array Value} (hv : u.val = .func (.func fn) #[] cs) :
    Calls Tryz.prog fn cs W fun e W' => e = .returned (.tuple #[]) ∧ Fr (SFr X s.ts (.slice none 0 0)) W W' ∧ ∃ d ts, u.undo (s.d, s.ts.map Tab.t) = (d, ts.map Tab.t) ∧ SameT s.ts ts ∧ d.length = 8 ∧ WMem W' X zs { s with d := d, ts := ts } := by
  cases u with
  | n T S k t0 =>
    obtain ⟨hk, hT, hS, hW⟩ := h.un _ hu
    have hv' : backN T S = .func (.func fn) #[] cs := hv
    injection hv' with e1 e2 e3
    injection e1 with e1
    subst e1 e3
    refine (backN_any T S _ _ _ _ _ t0 W (h.tabs.at_ k hk) hW hW.form hT hS).mono ?_
    rintro e W' ⟨rfl, f, hA⟩
    have hs := SameT.set hk hW.kin0
    obtain ⟨cG, eG, hbG, hcG⟩ := (h.tabs.at_ k hk).tyG
    have o : Only W (fun q => q = (s.ts.getD k tab0).G) [131, 125] := (Only.one hbG).mono (fun _ x => x) (by rcases hcG with rfl | rfl <;> decide)
    refine ⟨rfl, f.mono (fun i hi => .inl (.inr (.inl ⟨k, hk, hi⟩))), s.d, s.ts.set k { s.ts.getD k tab0 with t := t0 }, ?_, hs, hd8, ⟨?_, h.sz.frO f o (by decide), h.zok, ?_, hs.inj h.inj, by rw [hs.len]; exact h.t12, hs.fits h.fits, h.tbok, h.tr.frO f o (by decide), fun u hu => ((h.un u hu).frO f o (by decide) (.inr (by decide))).same hs, fun k' hk' => ⟨(h.apart k' hk').1, fun i hi => by rw [(hs.at_ i (by rw [← hs.len]; exact hi)).2.1]; exact (h.apart k' hk').2 i (by rw [← hs.len]; exact hi)⟩⟩⟩
    · simp only [Un.undo, List.map_set]
    · show Blk W' X (workCells s.szv s.d (.slice s.so (s.ts.set k _).length s.tcap) s.l) _
      rw [hs.len]
      exact h.blk.frO f o (by decide)
    · exact h.tabs.step (S := noS) h.inj hk (Only.none W) (f.mono (fun i hi => .inl (.inl hi))) (fun _ _ => List.not_mem_nil) hW.kin0 hA
  | r T D d0 =>
    obtain ⟨hT, hD, h8, h64⟩ := h.un _ hu
    have hv' : backR T D = .func (.func fn) #[] cs := hv
    injection hv' with e1 e2 e3
    injection e1 with e1
    subst e1 e3
    refine (backR_any X T D s.szv d0 s.d _ s.l W h.blk h8 hd8 hT hD).mono ?_
    rintro e W' ⟨rfl, f, hB⟩
    have o : Only W (fun k => k = X) [66] := Only.one h.blk
    exact ⟨rfl, f.mono (fun i hi => .inl (.inl hi)), d0, s.ts, rfl, SameT.refl _, h8, ⟨hB, h.sz.frO f o (by decide), h.zok, h.tabs.frO f o (by decide), h.inj, h.t12, h.fits, h.tbok, h.tr.frO f o (by decide), fun u hu => (h.un u hu).frO f o (by decide) (.inr (by decide)), h.apart⟩⟩
/-- Book-keeping of ranges over functions leaves a Work as it is. -/
theorem WMem.bk {lo : Nat} {A B : World} {X : Nat} {zs : List Int} {s : WS} (h : WMem A X zs s) (hb : Bk lo A B) : WMem B X zs s := by
  obtain ⟨row, hg, hr⟩ := hb
  have key : ∀ k cur e, row = some k → ¬ Blk A k cur e := by
    intro k cur e hk hB
    obtain ⟨_, o, ho, hc⟩ := hr k hk
    have h' : A.heap[k]? = some (.cells cur e (0, 0)) := hB
    rw [h'] at ho
    cases ho
    cases hc
  refine h.fr (S := fun k => row = some k) ((Fr.refl _ A).grown hg (fun k hk => .inl hk)) (fun k hk hs => ?_) (es := []) (fun k cur e hs hB => absurd hB (key k cur e hs)) (by decide)
  obtain ⟨cur, e, hB, _⟩ := h.ty hk
  exact key k cur e hs hB
end Go.Proofs.YtkjfpdfkcfgfkaaGreat
