/- How a slice of pairs of integers that came in is told to the walks. -/
import Derived.Test.YtfgpjkkdgjhkfaaRows0
import Derived.Deep.Slices
import Derived.OpenShut
namespace Go.Proofs.Ytfgpjkkdgjhkfaa
open Go Go.RowKit
set_option linter.unusedVariables false
/-- a slice of arrays of two integers that came in -/
def PairRow (w : World) (a : Option Addr) (len cap : Nat) (A B : Nat → Int) : Prop :=
  (a = none ∧ len = 0 ∧ cap = 0) ∨
  ∃ x, a = some x ∧ len ≤ cap ∧ cap ≤ maxLen ∧ ∀ i, i < len → (w.cell? (x.add (i * 2)) = some (.int .i64 (A i)) ∧ w.cell? (x.add (i * 2 + 1)) = some (.int .i64 (B i))) ∧ (Lit.int .i64 (A i)).wf = true ∧ (Lit.int .i64 (B i)).wf = true
theorem add_add (x : Addr) (i j : Nat) : (x.add i).add j = x.add (i + j) := by
  obtain ⟨b, off, s⟩ := x
  unfold Addr.add
  by_cases hi : i = 0
  · subst hi; simp
  · by_cases hj : j = 0
    · subst hj; simp [hi]
    · simp [hi, hj, Nat.add_assoc]
theorem open_ipairs {H : Type} {enc : TypeId × Value → H} {P : Program} {w : World} {base : Nat} {spare : Nat → Bool} {held : Bool} {fuel : Nat} {t e q : TypeId} {cs : List Value} {x : DataW H × List MemPlace}
    (ht : P.underlying t = some (.slice e)) (he : P.underlying e = some (.array 2 q)) (hq : P.underlying q = some (.int .i64)) (ce : P.cellsOf e = 2) (cq : P.cellsOf q = 1)
    (h : DataW.trod enc P w base spare held fuel t cs = some x) :
    cs = [.slice none 0 0] ∨ ∃ (a : Addr) (len cap : Nat) (A B : Nat → Int), cs = [.slice (some a) len cap] ∧ len ≤ cap ∧ cap ≤ maxLen ∧
      ∀ i, i < len → (w.cell? (a.add (i * 2)) = some (.int .i64 (A i)) ∧ w.cell? (a.add (i * 2 + 1)) = some (.int .i64 (B i))) ∧ (Lit.int .i64 (A i)).wf = true ∧ (Lit.int .i64 (B i)).wf = true := by
  rcases Go.Deep.open_slice ht h with ⟨h0, _⟩ | ⟨a, len, cap, m, n, D, Pl, rfl, hb, hl, hm, hmm, _, hx⟩
  · exact .inl h0
  · right
    have hlm : len ≤ m := by rw [hmm]; split <;> omega
    have each : ∀ i, ∃ z : Int × Int, i < len → (w.cell? (a.add (i * 2)) = some (.int .i64 z.1) ∧ w.cell? (a.add (i * 2 + 1)) = some (.int .i64 z.2)) ∧ (Lit.int .i64 z.1).wf = true ∧ (Lit.int .i64 z.2).wf = true := by
      intro i
      by_cases hi : i < len
      · obtain ⟨cs', h1, h2⟩ := hx i (by omega)
        rw [ce] at h1
        obtain ⟨_, hlen, hcell⟩ := World.cells?_some h1
        obtain ⟨ys, k, _, _, _, hyl, hy⟩ := DataW.trod_array he h2
        rw [cq] at hy
        match cs', hlen with
        | [v0, v1], _ =>
          have g0 := hy 0 (by omega)
          have g1 := hy 1 (by omega)
          simp at g0 g1
          match ys, hyl with
          | [y0, y1], _ =>
            simp at g0 g1
            obtain ⟨a0, e0, _, w0⟩ := DataW.trod_int hq g0
            obtain ⟨a1, e1, _, w1⟩ := DataW.trod_int hq g1
            have c0 := hcell 0 (by omega)
            have c1 := hcell 1 (by omega)
            rw [add_add] at c0 c1
            simp at c0 c1 e0 e1
            subst e0; subst e1
            exact ⟨(a0, a1), fun _ => ⟨⟨c0, c1⟩, w0, w1⟩⟩
      · exact ⟨(0, 0), fun h => absurd h hi⟩
    exact ⟨a, len, cap, fun i => (Classical.choose (each i)).1, fun i => (Classical.choose (each i)).2, rfl, hl, hm, fun i hi => Classical.choose_spec (each i) hi⟩
end Go.Proofs.Ytfgpjkkdgjhkfaa
