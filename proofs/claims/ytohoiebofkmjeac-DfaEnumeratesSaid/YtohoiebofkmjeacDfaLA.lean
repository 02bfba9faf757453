/- Walks of the laws DfaValidates, DfaRuns. -/
import Derived.Test.YtohoiebofkmjeacDfaY
import Derived.Test.YtohoiebofkmjeacDfaV
import Derived.Test.YtohoiebofkmjeacDfaRR
namespace Go.Proofs.Ytohoiebofkmjeac
open Go Go.RowKit Go.Lib Go.Sort
set_option linter.unusedVariables false
theorem InD.re {w : World} {d : DF} {af an : Option Addr} (h : InD w d af an) (q : Nat) (os : Array Obj) : InD (grow (redrawn w q) os) d af an := h.keep (below_regrown w q os)
theorem dbox_re (w : World) (v0 v1 v2 v3 : Value) : ∀ d os, ((grow (redrawn (w.alloc (.cells #[v0, v1, v2, v3] 25)) d) os).cell? ⟨w.heap.size, 0, none⟩ = some v0 ∧ (grow (redrawn (w.alloc (.cells #[v0, v1, v2, v3] 25)) d) os).cell? ⟨w.heap.size, 1, none⟩ = some v1) ∧ (grow (redrawn (w.alloc (.cells #[v0, v1, v2, v3] 25)) d) os).cell? ⟨w.heap.size, 2, none⟩ = some v2 ∧ (grow (redrawn (w.alloc (.cells #[v0, v1, v2, v3] 25)) d) os).cell? ⟨w.heap.size, 3, none⟩ = some v3 :=
  fun d os => ⟨⟨cell_regrown (by simp [go_sem]) d os, cell_regrown (by simp [go_sem]) d os⟩, cell_regrown (by simp [go_sem]) d os, cell_regrown (by simp [go_sem]) d os⟩
end Go.Proofs.Ytohoiebofkmjeac
