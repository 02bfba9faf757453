/- A box; facts. -/
import Derived.Test.YthmdndondlffeaaExprQA
import Derived.Test.YthmdndondlffeaaExprPM
import Derived.Test.YthmdndondlffeaaExprCB
import Derived.Test.YthmdndondlffeaaExprF
namespace Go.Proofs.Ythmdndondlffeaa
open Go Go.RowKit Go.Sort
set_option linter.unusedVariables false
/-- a box -/
def Box (W : World) (b : Nat) (x y z : Value) : Prop := W.cell? ⟨b, 0, none⟩ = some x ∧ W.cell? ⟨b, 1, none⟩ = some y ∧ W.cell? ⟨b, 2, none⟩ = some z
theorem Box.keep {W W' : World} {b : Nat} {x y z : Value} (h : Box W b x y z) (hb : Below W.heap.size W W') : Box W' b x y z := by
  have hl := cell_lt (s := none) h.1
  exact ⟨by rw [hb.cell (p := ⟨b, 0, none⟩) hl]; exact h.1, by rw [hb.cell (p := ⟨b, 1, none⟩) hl]; exact h.2.1, by rw [hb.cell (p := ⟨b, 2, none⟩) hl]; exact h.2.2⟩
theorem Box.new (w : World) (x y z : Value) : Box (w.alloc (.cells #[x, y, z] 24)) w.heap.size x y z := ⟨by simp [go_sem], by simp [go_sem], by simp [go_sem]⟩
theorem Box.alloc {W : World} {b : Nat} {x y z : Value} (h : Box W b x y z) (o : Obj) : Box (W.alloc o) b x y z := h.keep ((Below.refl _ _).alloc (Nat.le_refl _) _)
theorem text_facts {t : T} (h : valB t = true) : (strOfNums (fmtT t)).size ≤ 4096 ∧ bytesI (strOfNums (fmtT t)) = fmtT t ∧ (∀ b, b ∈ bytesI (strOfNums (fmtT t)) → b ≠ 32) := by
  obtain ⟨h1, h2, h3⟩ := valB_size h
  have h4 := fmtT_len t
  have h5 := okB_T t h3
  have h6 := bytes_of_nums h5
  refine ⟨by rw [strOfNums_size]; omega, h6, fun b hb => ?_⟩
  rw [h6] at hb
  have := (h5 b hb).1
  omega
theorem valB_within {t : T} (h : valB t = true) : withinB t = true ∧ wfT 6 t = true := by
  simp only [valB, Bool.and_eq_true] at h; exact h
end Go.Proofs.Ythmdndondlffeaa
