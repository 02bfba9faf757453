/- Rows of edges of the call's own. -/
import Derived.Test.YtdoifdpmgmlpdaaNfaL
import Derived.Test.YtdoifdpmgmlpdaaNfaA
import Derived.Test.YtdoifdpmgmlpdaaNfaG
namespace Go.Proofs.Ytdoifdpmgmlpdaa
open Go Go.RowKit
set_option linter.unusedVariables false
theorem infoEd : (Try.prog.info? 44).map (fun i => (i.zero, i.size, i.bytes)) = some (some (.agg #[.int .i64 0, .int .i64 0, .int .i64 0]), 3, 24) := by kernel_rfl
def flatE : List Ed → List Value
  | [] => []
  | e :: es => .int .i64 e.f :: .int .i64 e.l :: .int .i64 e.t :: flatE es
theorem flatE_append (b : List Ed) : ∀ a : List Ed, flatE (a ++ b) = flatE a ++ flatE b
  | [] => rfl
  | e :: a => by simp [flatE, flatE_append b a]
theorem flatE_get : ∀ {es : List Ed} {i : Nat} {e : Ed}, es[i]? = some e → (flatE es)[i * 3]? = some (.int .i64 e.f) ∧ (flatE es)[i * 3 + 1]? = some (.int .i64 e.l) ∧ (flatE es)[i * 3 + 2]? = some (.int .i64 e.t)
  | [], i, e, h => by simp at h
  | x :: es, 0, e, h => by simp at h; subst h; simp [flatE]
  | x :: es, i + 1, e, h => by
    have h2 : es[i]? = some e := by simpa using h
    obtain ⟨a, b, c⟩ := flatE_get h2
    have e1 : (i + 1) * 3 = i * 3 + 3 := by omega
    rw [e1]
    refine ⟨?_, ?_, ?_⟩
    · show (_ :: _ :: _ :: flatE es)[i * 3 + 3]? = _; simpa using a
    · show (_ :: _ :: _ :: flatE es)[i * 3 + 3 + 1]? = _
      rw [show i * 3 + 3 + 1 = (i * 3 + 1) + 3 by omega]; simpa using b
    · show (_ :: _ :: _ :: flatE es)[i * 3 + 3 + 2]? = _
      rw [show i * 3 + 3 + 2 = (i * 3 + 2) + 3 by omega]; simpa using c
/-- v holds the edges es in memory of its own -/
def OwnEd (w : World) (base : Nat) (v : Value) (es : List Ed) : Prop := w.ownsRow base 44 3 v es.length (flatE es)
theorem OwnEd.nil (w : World) (base : Nat) : OwnEd w base (.slice none 0 0) [] := ⟨by simp [flatE], .inl ⟨rfl, rfl⟩⟩
theorem OwnEd.form {w : World} {base : Nat} {v : Value} {es : List Ed} (h : OwnEd w base v es) : ∃ a c, v = .slice a es.length c := by
  rcases h.2 with ⟨h1, h2⟩ | ⟨g, cap, cur, h1, _⟩
  · exact ⟨none, 0, by rw [h1, h2]⟩
  · exact ⟨_, _, h1⟩
theorem OwnEd.snoc {w : World} {base : Nat} {v : Value} {es : List Ed} {e : Ed} (h : w.ownsRow base 44 3 v (es.length + 1) (flatE es ++ [.int .i64 e.f, .int .i64 e.l, .int .i64 e.t])) : OwnEd w base v (es ++ [e]) := by
  unfold OwnEd
  rw [flatE_append, show (es ++ [e]).length = es.length + 1 by simp]
  exact h
/-- read as edges -/
theorem OwnEd.inE {w : World} {base : Nat} {a : Option Addr} {c : Nat} {es : List Ed} (h : OwnEd w base (.slice a es.length c) es) (hb : ∀ e, e ∈ es → B64 e.f ∧ B64 e.l ∧ B64 e.t) : InE w a es := by
  by_cases h0 : es = []
  · exact .inl h0
  rcases h.2 with ⟨h1, h2⟩ | ⟨g, cap, cur, h1, _⟩
  · exact .inl (List.length_eq_zero_iff.1 h2)
  · injection h1 with e1 e2 e3
    subst e1
    subst e3
    refine .inr ⟨g, 0, rfl, (World.ownsRow.lt h g rfl).2, fun i e he => ?_⟩
    obtain ⟨f1, f2, f3⟩ := flatE_get he
    have hi : i < es.length := by
      apply Nat.lt_of_not_le; intro hle; rw [List.getElem?_eq_none hle] at he; cases he
    refine ⟨⟨?_, ?_, ?_⟩, hb e (List.mem_of_getElem? he)⟩
    · rw [Nat.zero_add, World.ownsRow.cellAt h (i * 3) (by omega)]; exact f1
    · rw [Nat.zero_add, World.ownsRow.cellAt h (i * 3 + 1) (by omega)]; exact f2
    · rw [Nat.zero_add, World.ownsRow.cellAt h (i * 3 + 2) (by omega)]; exact f3
/-- five cells in a block -/
theorem cells5_of {v : World} {b t : Nat} {v0 v1 v2 v3 v4 : Value} (h : v.heap[b]? = some (.cells #[v0, v1, v2, v3, v4] t)) :
    (v.cell? ⟨b, 0, none⟩ = some v0 ∧ v.cell? ⟨b, 1, none⟩ = some v1 ∧ v.cell? ⟨b, 2, none⟩ = some v2 ∧ v.cell? ⟨b, 3, none⟩ = some v3 ∧ v.cell? ⟨b, 4, none⟩ = some v4) ∧
    (v.frozen? ⟨b, 0, none⟩ = false ∧ v.frozen? ⟨b, 1, none⟩ = false ∧ v.frozen? ⟨b, 2, none⟩ = false ∧ v.frozen? ⟨b, 3, none⟩ = false ∧ v.frozen? ⟨b, 4, none⟩ = false) := by
  simp [World.cell?, World.frozen?, h]
theorem set4_heap {w : World} {b t : Nat} {v0 v1 v2 v3 v4 x : Value} (h : w.heap[b]? = some (.cells #[v0, v1, v2, v3, v4] t)) : (w.setCell ⟨b, 4, none⟩ x).heap[b]? = some (.cells #[v0, v1, v2, v3, x] t) := by
  have h1 := heap_setCell_same w b 4 #[v0, v1, v2, v3, v4] t x h
  simpa using h1
end Go.Proofs.Ytdoifdpmgmlpdaa
