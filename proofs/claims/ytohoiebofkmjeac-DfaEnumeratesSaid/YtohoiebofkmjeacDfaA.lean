/- Automata in memory. -/
import Derived.Test.YtohoiebofkmjeacChecked
import Derived.Test.YtohoiebofkmjeacDfaM
import Derived.WalkKit
import Derived.WalkSpells
import Derived.WalkLawsBesides
import Derived.WalkArith
import Derived.Lib.Hide
import Derived.Lib.SmallJoins
import Derived.Below
import Derived.Deep.Fields
import Derived.Deep.Slices
import Derived.Deep.Grids
import Derived.Deep.Matrix
import Derived.ChangeSame
import Derived.OpenShut
import Derived.Laws.AppendOwnNone
import Derived.Maps.AppendAt
namespace Go.Proofs.Ytohoiebofkmjeac
open Go Go.RowKit Go.ChangeShapes Go.WideShapes Go.Joins Go.Deep
set_option linter.unusedVariables false
def B64 (x : Int) : Prop := -9223372036854775808 ≤ x ∧ x ≤ 9223372036854775807
theorem b64_of {n : Int} (h : (Lit.int .i64 n).wf = true) : B64 n := bounds_i64 h
theorem B64.wf {x : Int} (h : B64 x) : (Lit.int .i64 x).wf = true := WalkArith.wf_i64 h
theorem cell_lt {w : World} {b o : Nat} {s : Option Nat} {v : Value} (h : w.cell? ⟨b, o, none⟩ = some v) : b < w.heap.size := by
  apply Nat.lt_of_not_le
  intro hle
  have : w.heap[b]? = none := by simp [hle]
  simp [World.cell?, this] at h
theorem add_none (b off k : Nat) : (⟨b, off, none⟩ : Addr).add k = ⟨b, off + k, none⟩ := by unfold Addr.add; split <;> simp_all
/-! ### rows that are read -/
/-- at a there are n values f 0, f 1, .. -/
def RowV (w : World) (a : Option Addr) (n : Nat) (f : Nat → Value) : Prop :=
  n = 0 ∨ ∃ b off, a = some ⟨b, off, none⟩ ∧ b < w.heap.size ∧ ∀ i, i < n → w.cell? ⟨b, off + i, none⟩ = some (f i)
theorem RowV.keep {w w' : World} {a : Option Addr} {n : Nat} {f : Nat → Value} (h : RowV w a n f) (hb : Below w.heap.size w w') : RowV w' a n f := by
  rcases h with h | ⟨b, off, rfl, hl, hc⟩
  · exact .inl h
  · exact .inr ⟨b, off, rfl, Nat.lt_of_lt_of_le hl hb.size, fun i hi => by rw [hb.cell (p := ⟨b, off + i, none⟩) hl]; exact hc i hi⟩
theorem RowV.congr {w : World} {a : Option Addr} {n : Nat} {f g : Nat → Value} (h : RowV w a n f) (hf : ∀ i, i < n → f i = g i) : RowV w a n g := by
  rcases h with h | ⟨b, off, rfl, hl, hc⟩
  · exact .inl h
  · exact .inr ⟨b, off, rfl, hl, fun i hi => by rw [← hf i hi]; exact hc i hi⟩
theorem RowV.at {w : World} {a : Option Addr} {n : Nat} {f : Nat → Value} (h : RowV w a n f) {i : Nat} (hi : i < n) : ∃ b off, a = some ⟨b, off, none⟩ ∧ b < w.heap.size ∧ w.cell? ⟨b, off + i, none⟩ = some (f i) := by
  rcases h with h | ⟨b, off, rfl, hl, hc⟩
  · omega
  · exact ⟨b, off, rfl, hl, hc i hi⟩
/-- at a there are m rows, the i-th of ln i values -/
def RowsV (w : World) (a : Option Addr) (m : Nat) (ln : Nat → Nat) (g : Nat → Nat → Value) : Prop :=
  m = 0 ∨ ∃ b off, a = some ⟨b, off, none⟩ ∧ b < w.heap.size ∧ ∀ i, i < m → ∃ r c, w.cell? ⟨b, off + i, none⟩ = some (.slice r (ln i) c) ∧ RowV w r (ln i) (g i)
theorem RowsV.keep {w w' : World} {a : Option Addr} {m : Nat} {ln : Nat → Nat} {g : Nat → Nat → Value} (h : RowsV w a m ln g) (hb : Below w.heap.size w w') : RowsV w' a m ln g := by
  rcases h with h | ⟨b, off, rfl, hl, hc⟩
  · exact .inl h
  · refine .inr ⟨b, off, rfl, Nat.lt_of_lt_of_le hl hb.size, fun i hi => ?_⟩
    obtain ⟨r, c, h1, h2⟩ := hc i hi
    exact ⟨r, c, by rw [hb.cell (p := ⟨b, off + i, none⟩) hl]; exact h1, h2.keep hb⟩
theorem RowsV.at {w : World} {a : Option Addr} {m : Nat} {ln : Nat → Nat} {g : Nat → Nat → Value} (h : RowsV w a m ln g) {i : Nat} (hi : i < m) :
    ∃ b off r c, a = some ⟨b, off, none⟩ ∧ b < w.heap.size ∧ w.cell? ⟨b, off + i, none⟩ = some (.slice r (ln i) c) ∧ RowV w r (ln i) (g i) := by
  rcases h with h | ⟨b, off, rfl, hl, hc⟩
  · omega
  · obtain ⟨r, c, h1, h2⟩ := hc i hi
    exact ⟨b, off, r, c, rfl, hl, h1, h2⟩
/-! ### rows of the call's own -/
def vals (n : Nat) (f : Nat → Value) : List Value := (List.range n).map f
theorem vals_length (n : Nat) (f : Nat → Value) : (vals n f).length = n := by simp [vals]
theorem vals_get {n : Nat} {f : Nat → Value} {j : Nat} (h : j < n) : (vals n f)[j]? = some (f j) := by simp [vals, h]
theorem vals_congr {n : Nat} {f g : Nat → Value} (h : ∀ t, t < n → f t = g t) : vals n f = vals n g := by
  unfold vals; exact List.map_congr_left fun t ht => h t (List.mem_range.1 ht)
theorem vals_snoc (n : Nat) (f : Nat → Value) : vals (n + 1) f = vals n f ++ [f n] := by simp [vals, List.range_succ]
theorem vals_set {n : Nat} {f : Nat → Value} {j : Nat} {x : Value} : (vals n f).set j x = vals n fun t => if t = j then x else f t := by
  apply List.ext_getElem?
  intro k
  rw [List.getElem?_set]
  by_cases hk : k < n
  · rw [vals_get hk, vals_get hk]
    by_cases e : j = k
    · subst e; simp [vals_length, hk]
    · rw [if_neg e, if_neg (Ne.symm e)]
  · rw [List.getElem?_eq_none (by rw [vals_length]; omega), List.getElem?_eq_none (by rw [vals_length]; omega), vals_length]
    simp
    omega
theorem vals_made (n : Nat) (z : Value) (hz : z.oneCell' = true) : (madeCells #[z] n).toList = vals n fun _ => z := by
  rw [toList_madeCells_one]
  apply List.ext_getElem?
  intro k
  by_cases hk : k < n
  · rw [vals_get hk]; simp [hk]
  · rw [List.getElem?_eq_none (by simp; omega), List.getElem?_eq_none (by rw [vals_length]; omega)]
/-- a full row of the call's own, of type e -/
def OwnV (w : World) (base : Nat) (e : TypeId) (g n : Nat) (f : Nat → Value) : Prop := w.ownsRow base e 1 (.slice (some ⟨g, 0, none⟩) n n) n (vals n f)
theorem OwnV.cell {w : World} {base g n : Nat} {e : TypeId} {f : Nat → Value} (h : OwnV w base e g n f) {j : Nat} (hj : j < n) : w.cell? ⟨g, j, none⟩ = some (f j) := by
  have := World.ownsRow.cellAt h j (by omega)
  rw [this, vals_get hj]
theorem OwnV.free {w : World} {base g n : Nat} {e : TypeId} {f : Nat → Value} (h : OwnV w base e g n f) (j : Nat) : w.frozen? ⟨g, j, none⟩ = false := World.ownsRow.frozenAt h j
theorem OwnV.congr {w : World} {base g n : Nat} {e : TypeId} {f f' : Nat → Value} (h : OwnV w base e g n f) (hf : ∀ t, t < n → f t = f' t) : OwnV w base e g n f' := by
  unfold OwnV at h ⊢
  rwa [← vals_congr hf]
theorem OwnV.drew {w : World} {base g n : Nat} {e : TypeId} {f : Nat → Value} (h : OwnV w base e g n f) : OwnV w.drew base e g n f := h
theorem OwnV.drewN {w : World} {base g n q : Nat} {e : TypeId} {f : Nat → Value} (h : OwnV w base e g n f) : OwnV (w.drewN q) base e g n f := h
theorem OwnV.set {w : World} {base g n : Nat} {e : TypeId} {f : Nat → Value} (h : OwnV w base e g n f) (j : Nat) (x : Value) : OwnV (w.setCell ⟨g, j, none⟩ x) base e g n (fun t => if t = j then x else f t) := by
  have := (World.ownsRow.stored h j x).1
  unfold OwnV
  rwa [vals_set] at this
theorem OwnV.kept {w w' : World} {base g n : Nat} {e : TypeId} {f : Nat → Value} {row : Option Nat} (h : OwnV w base e g n f) (hg : w.grownBy w' row) (hne : some g ≠ row) : OwnV w' base e g n f := World.ownsRow.kept h hg (.inr hne)
theorem OwnV.keep {w w' : World} {base g n B : Nat} {e : TypeId} {f : Nat → Value} (h : OwnV w base e g n f) (hb : Below B w w') (hg : g < B) : OwnV w' base e g n f := by
  refine ⟨h.1, ?_⟩
  rcases h.2 with ⟨h1, h2⟩ | ⟨g', cap, cur, he, h1, h2, h3⟩
  · cases h1
  · have : g = g' := by injection he with e1; injection e1 with e2; injection e2
    subst this
    exact .inr ⟨g, cap, cur, he, h1, by rw [hb.block g hg]; exact h2, h3⟩
theorem OwnV.lt {w : World} {base g n : Nat} {e : TypeId} {f : Nat → Value} (h : OwnV w base e g n f) : base ≤ g ∧ g < w.heap.size := World.ownsRow.lt h g rfl
theorem OwnV.row {w : World} {base g n : Nat} {e : TypeId} {f : Nat → Value} (h : OwnV w base e g n f) : RowV w (some ⟨g, 0, none⟩) n f := by
  by_cases h0 : n = 0
  · exact .inl h0
  · refine .inr ⟨g, 0, rfl, h.lt.2, fun i hi => ?_⟩
    rw [Nat.zero_add]
    exact h.cell hi
/-- the first k entries are f's, the others z -/
def upV (k : Nat) (z f : Nat → Value) (t : Nat) : Value := if t < k then f t else z t
theorem upV_zero (z f : Nat → Value) (t : Nat) : upV 0 z f t = z t := by simp [upV]
theorem upV_all {n : Nat} {z f : Nat → Value} {t : Nat} (h : t < n) : upV n z f t = f t := by simp [upV, h]
theorem OwnV.up {w : World} {base g n : Nat} {e : TypeId} {k : Nat} {x : Value} {z f : Nat → Value} (ho : OwnV w base e g n (upV k z f)) (hx : x = f k) : OwnV (w.setCell ⟨g, k, none⟩ x) base e g n (upV (k + 1) z f) := by
  refine (ho.set k x).congr fun t ht => ?_
  unfold upV
  by_cases et : t = k
  · subst et; rw [if_pos rfl, if_pos (by omega), hx]
  · rw [if_neg et]
    by_cases h2 : t < k
    · rw [if_pos h2, if_pos (by omega)]
    · rw [if_neg h2, if_neg (by omega)]
/-- the call returns a slice that reads f, and leaves what was there -/
def GivesV (w : World) (n : Nat) (f : Nat → Value) (e : Ending) (w' : World) : Prop :=
  ∃ (r : Option Addr) (c : Nat), e = .returned (.slice r n c) ∧ RowV w' r n f ∧ Below w.heap.size w w'
/-! ### automata -/
abbrev iV (x : Int) : Value := .int .i64 x
def boolsV (F : Nat → Bool) : Nat → Value := fun i => .bool (F i)
def intsV (f : Nat → Int) : Nat → Value := fun i => .int .i64 (f i)
def rowsV (N : Nat → Nat → Int) : Nat → Nat → Value := fun i => intsV (N i)
structure InD (w : World) (d : DF) (af an : Option Addr) : Prop where
  fin : RowV w af d.n (boolsV d.F)
  nxt : RowsV w an d.m d.ln (rowsV d.N)
  bL : B64 d.L
  bS : B64 d.S
  nm : d.n ≤ 9223372036854775807
  mm : d.m ≤ 9223372036854775807
  lm : ∀ i, i < d.m → d.ln i ≤ 9223372036854775807
  bN : ∀ i x, i < d.m → x < d.ln i → B64 (d.N i x)
theorem InD.keep {w w' : World} {d : DF} {af an : Option Addr} (h : InD w d af an) (hb : Below w.heap.size w w') : InD w' d af an :=
  { h with fin := h.fin.keep hb, nxt := h.nxt.keep hb }
theorem InD.box {w : World} {d : DF} {af an : Option Addr} (h : InD w d af an) (o : Obj) : InD (w.alloc o) d af an := h.keep ((Below.refl _ w).alloc (Nat.le_refl _) o)
abbrev dV (d : DF) (af : Option Addr) (cf : Nat) (an : Option Addr) (cn : Nat) : Value := .agg #[.int .i64 d.L, .int .i64 d.S, .slice af d.n cf, .slice an d.m cn]
abbrev dO (d : DF) (af : Option Addr) (cf : Nat) (an : Option Addr) (cn : Nat) : Obj := .cells #[.int .i64 d.L, .int .i64 d.S, .slice af d.n cf, .slice an d.m cn] 25
/-- a box of an automaton, later -/
theorem dbox_cells {w w' : World} {v0 v1 v2 v3 : Value} (h : Below (w.heap.size + 1) (w.alloc (.cells #[v0, v1, v2, v3] 25)) w') :
    w'.cell? ⟨w.heap.size, 0, none⟩ = some v0 ∧ w'.cell? ⟨w.heap.size, 1, none⟩ = some v1 ∧ w'.cell? ⟨w.heap.size, 2, none⟩ = some v2 ∧ w'.cell? ⟨w.heap.size, 3, none⟩ = some v3 := by
  refine ⟨?_, ?_, ?_, ?_⟩ <;> rw [h.cell (p := ⟨w.heap.size, _, none⟩) (by simp)] <;> simp [go_sem]
theorem below_dbox {w w' : World} {o : Obj} (h : Below (w.heap.size + 1) (w.alloc o) w') : Below w.heap.size w w' :=
  ((Below.refl _ w).alloc (Nat.le_refl _) o).trans (h.mono (Nat.le_succ _))
/-- W0 is w with a box of the automaton -/
structure BoxD (w W0 : World) (d : DF) (af : Option Addr) (cf : Nat) (an : Option Addr) (cn : Nat) : Prop where
  eq : W0 = w.alloc (dO d af cf an cn)
theorem BoxD.cells {w W0 : World} {d : DF} {af : Option Addr} {cf : Nat} {an : Option Addr} {cn : Nat} (h : BoxD w W0 d af cf an cn) {w' : World} (hb : Below (w.heap.size + 1) W0 w') :
    w'.cell? ⟨w.heap.size, 0, none⟩ = some (.int .i64 d.L) ∧ w'.cell? ⟨w.heap.size, 1, none⟩ = some (.int .i64 d.S) ∧ w'.cell? ⟨w.heap.size, 2, none⟩ = some (.slice af d.n cf) ∧ w'.cell? ⟨w.heap.size, 3, none⟩ = some (.slice an d.m cn) := by
  rw [h.eq] at hb; exact dbox_cells hb
theorem BoxD.out {w W0 : World} {d : DF} {af : Option Addr} {cf : Nat} {an : Option Addr} {cn : Nat} (h : BoxD w W0 d af cf an cn) {w' : World} (hb : Below (w.heap.size + 1) W0 w') : Below w.heap.size w w' := by
  rw [h.eq] at hb; exact below_dbox hb
theorem BoxD.size {w W0 : World} {d : DF} {af : Option Addr} {cf : Nat} {an : Option Addr} {cn : Nat} (h : BoxD w W0 d af cf an cn) : W0.heap.size = w.heap.size + 1 := by rw [h.eq]; simp
theorem BoxD.in {w W0 : World} {d : DF} {af : Option Addr} {cf : Nat} {an : Option Addr} {cn : Nat} (h : BoxD w W0 d af cf an cn) (hi : InD w d af an) : InD W0 d af an := by rw [h.eq]; exact hi.box _
theorem BoxD.below {w W0 : World} {d : DF} {af : Option Addr} {cf : Nat} {an : Option Addr} {cn : Nat} (h : BoxD w W0 d af cf an cn) : Below w.heap.size w W0 := by rw [h.eq]; exact (Below.refl _ w).alloc (Nat.le_refl _) _
theorem OwnV.base {w : World} {base base' g n : Nat} {e : TypeId} {f : Nat → Value} (h : OwnV w base e g n f) (hb : base' ≤ base) : OwnV w base' e g n f := by
  refine ⟨h.1, ?_⟩
  rcases h.2 with ⟨h1, h2⟩ | ⟨g', cap, cur, he, h1, h2, h3⟩
  · cases h1
  · exact .inr ⟨g', cap, cur, he, Nat.le_trans hb h1, h2, h3⟩
/-! ### opening -/
theorem cellsD : Try.prog.cellsOf 25 = 4 := by kernel_rfl
theorem cellsI : Try.prog.cellsOf 3 = 1 := by kernel_rfl
theorem cellsBo : Try.prog.cellsOf 4 = 1 := by kernel_rfl
theorem cellsSI : Try.prog.cellsOf 30 = 1 := by kernel_rfl
section
variable {H : Type} {enc : TypeId × Value → H} {w : World} {held : Bool}
set_option maxRecDepth 100000 in
theorem bools_in (fuel : Nat) (v : Value) (x : DataW H × List MemPlace) (h : DataW.trod enc Try.prog w 0 (fun _ => true) held fuel 22 [v] = some x) : ∃ a n c F, v = .slice a n c ∧ RowV w a n (boolsV F) ∧ n ≤ 9223372036854775807 := by
  rcases open_bools Try.underlying22 Try.underlying4 cellsBo h with ⟨hcs, _⟩ | ⟨a, len, cap, B, hcs, _, hl, hm, _, hc⟩
  · exact ⟨none, 0, 0, fun _ => false, by simpa using hcs, .inl rfl, by omega⟩
  · have hlm : len ≤ 9223372036854775807 := by unfold maxLen at hm; omega
    refine ⟨some a, len, cap, B, by simpa using hcs, ?_, hlm⟩
    by_cases h0 : len = 0
    · exact .inl h0
    obtain ⟨b, off, spot⟩ := a
    have h1 := hc 0 (by omega)
    have hs : spot = none := by simpa [Addr.add] using World.cell?_spot h1
    subst hs
    rw [add_none] at h1
    refine .inr ⟨b, off, rfl, cell_lt (s := none) h1, fun i hi => ?_⟩
    have := hc i (by omega)
    rw [add_none] at this
    exact this
set_option maxRecDepth 100000 in
theorem rows_in (fuel : Nat) (v : Value) (x : DataW H × List MemPlace) (h : DataW.trod enc Try.prog w 0 (fun _ => true) held fuel 23 [v] = some x) : ∃ a m c ln N, v = .slice a m c ∧ RowsV w a m ln (rowsV N) ∧ m ≤ 9223372036854775807 ∧ (∀ i, i < m → ln i ≤ 9223372036854775807) ∧ (∀ i y, i < m → y < ln i → B64 (N i y)) := by
  rcases open_int_rows Try.underlying23 Try.underlying30 Try.underlying3 cellsSI cellsI h with ⟨hcs, _⟩ | ⟨a, len, cap, A, L, C, Z, hcs, _, hl, hm, _, hc⟩
  · exact ⟨none, 0, 0, fun _ => 0, fun _ _ => 0, by simpa using hcs, .inl rfl, by omega, fun i hi => by omega, fun i y hi => by omega⟩
  · have hlm : len ≤ 9223372036854775807 := by unfold maxLen at hm; omega
    refine ⟨some a, len, cap, L, fun r c => (Z r).getD c 0, by simpa using hcs, ?_, hlm, fun i hi => ?_, fun i y hi hy => ?_⟩
    · by_cases h0 : len = 0
      · exact .inl h0
      obtain ⟨b, off, spot⟩ := a
      have h1 := (hc 0 (by omega)).1
      have hs : spot = none := by simpa [Addr.add] using World.cell?_spot h1
      subst hs
      rw [add_none] at h1
      refine .inr ⟨b, off, rfl, cell_lt (s := none) h1, fun i hi => ?_⟩
      obtain ⟨h2, h3, h4, h5, h6, h7, h8⟩ := hc i (by omega)
      rw [add_none] at h2
      refine ⟨A i, C i, h2, ?_⟩
      by_cases h9 : L i = 0
      · exact .inl h9
      cases ha : A i with
      | none => have := h7 ha; omega
      | some a' =>
        obtain ⟨_, h10⟩ := h8 a' ha
        obtain ⟨b', off', spot'⟩ := a'
        have h11 := h10 0 (by omega)
        have hs' : spot' = none := by simpa [Addr.add] using World.cell?_spot h11
        subst hs'
        rw [add_none] at h11
        refine .inr ⟨b', off', rfl, cell_lt (s := none) h11, fun c hcc => ?_⟩
        have := h10 c (by omega)
        rw [add_none] at this
        exact this
    · obtain ⟨_, h3, h4, _⟩ := hc i (by omega)
      unfold maxLen at h4; omega
    · obtain ⟨_, h3, h4, h5, h6, _⟩ := hc i (by omega)
      have hlt : y < (Z i).length := by omega
      have : (Z i).getD y 0 ∈ Z i := by rw [List.getD_eq_getElem?_getD, List.getElem?_eq_getElem hlt]; exact List.getElem_mem hlt
      exact b64_of (h6 _ this)
set_option maxRecDepth 100000 in
/-- an automaton by value, opened -/
theorem open_dfa {r : Reach} {b0 : Nat} {v : Value} {dd : DataW H} {p : List MemPlace} (hv : Value.okWide Try.prog w r b0 25 v) (h : DataW.Trod enc Try.prog w 0 (fun _ => true) held 25 v dd p) :
    ∃ d af cf an cn, v = dV d af cf an cn ∧ InD w d af an := by
  obtain ⟨v0, v1, v2, v3, y0, y1, y2, y3, n, rfl, rfl, rfl, h0, h1, h2, h3⟩ := open_agg4 Try.underlying25 (by kernel_rfl) cellsD hv h
  obtain ⟨L, e0, _, w0⟩ := DataW.trod_int Try.underlying3 h0
  obtain ⟨S, e1, _, w1⟩ := DataW.trod_int Try.underlying3 h1
  obtain ⟨af, nf, cf, F, rfl, hf, hnf⟩ := bools_in n v2 _ h2
  obtain ⟨an, m, cn, ln, N, rfl, hn, hm, hlm, hbN⟩ := rows_in n v3 _ h3
  have e0' : v0 = .int .i64 L := by simpa using e0
  have e1' : v1 = .int .i64 S := by simpa using e1
  subst e0' e1'
  exact ⟨⟨L, S, nf, F, m, ln, N⟩, af, cf, an, cn, rfl, hf, hn, b64_of w0, b64_of w1, hnf, hm, hlm, hbN⟩
end
end Go.Proofs.Ytohoiebofkmjeac
