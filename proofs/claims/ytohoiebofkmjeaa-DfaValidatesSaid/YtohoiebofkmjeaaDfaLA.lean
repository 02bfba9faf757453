/- Walks of the laws DfaValidates, DfaRuns. -/
import Derived.Test.YtohoiebofkmjeaaDfaY
import Derived.Test.YtohoiebofkmjeaaDfaV
import Derived.Test.YtohoiebofkmjeaaDfaRR
namespace Go.Proofs.Ytohoiebofkmjeaa
open Go Go.RowKit Go.Lib Go.Sort
set_option linter.unusedVariables false
theorem InD.re {w : World} {d : DF} {af an : Option Addr} (h : InD w d af an) (q : Nat) (os : Array Obj) : InD (grow (redrawn w q) os) d af an := h.keep (below_regrown w q os)
theorem dbox_re (w : World) (v0 v1 v2 v3 : Value) : ∀ d os, ((grow (redrawn (w.alloc (.cells #[v0, v1, v2, v3] 25)) d) os).cell? ⟨w.heap.size, 0, none⟩ = some v0 ∧ (grow (redrawn (w.alloc (.cells #[v0, v1, v2, v3] 25)) d) os).cell? ⟨w.heap.size, 1, none⟩ = some v1) ∧ (grow (redrawn (w.alloc (.cells #[v0, v1, v2, v3] 25)) d) os).cell? ⟨w.heap.size, 2, none⟩ = some v2 ∧ (grow (redrawn (w.alloc (.cells #[v0, v1, v2, v3] 25)) d) os).cell? ⟨w.heap.size, 3, none⟩ = some v3 :=
  fun d os => ⟨⟨cell_regrown (by simp [go_sem]) d os, cell_regrown (by simp [go_sem]) d os⟩, cell_regrown (by simp [go_sem]) d os, cell_regrown (by simp [go_sem]) d os⟩
set_option maxRecDepth 100000 in
set_option maxHeartbeats 2000000 in
theorem wDfaValidates {w : World} (d : DF) (af : Option Addr) (cf : Nat) (an : Option Addr) (cn : Nat) (hin : InD w d af an) :
    Calls Try.prog 3 #[dV d af cf an cn] w fun e w' => e = .returned (.bool true) ∧ Below w.heap.size w w' := by
  have HI := Lib.hid hin
  have D1 := Lib.hid (fun W (h : InD W d af an) => dvalidate_any d af cf an cn W h)
  have D2 := Lib.hid (fun W (h : InD W d af an) => rvalidate_any d af cf an cn W h)
  obtain ⟨r, hr⟩ : ∃ r, r = errD d := ⟨_, rfl⟩
  rw [← hr] at D1 D2
  have hre := dbox_re w (.int .i64 d.L) (.int .i64 d.S) (.slice af d.n cf) (.slice an d.m cn)
  have b0 := fun d os => (hre d os).1.1
  have b1 := fun d os => (hre d os).1.2
  have b2 := fun d os => (hre d os).2.1
  have b3 := fun d os => (hre d os).2.2
  have E1 := Lib.hid (fun q os => D1.out (grow (redrawn (w.alloc (dO d af cf an cn)) q) os) ((HI.out.box _).re q os))
  have E2 := Lib.hid (fun q os => D2.out (grow (redrawn (w.alloc (dO d af cf an cn)) q) os) ((HI.out.box _).re q os))
  clear hre hr hin
  go_enter Try.func3, Try.ntmps3
  go_wp2_with fail
  refine wp_region_quiet_below (by kernel_rfl) (by kernel_rfl) ?_
  repeat (go_big_quiet_step (first | (with_reducible exact Calls.regrown_of (E1.out _ _)) | (with_reducible exact Calls.regrown_of (E2.out _ _)) | (with_reducible exact Calls.regrown_of (awake_any _))))
  refine wpQuiet_nil ?_
  intro _ hw'
  obtain ⟨⟨dq, osq⟩, hw''⟩ := hw'
  subst hw''
  have hb := (Below.refl w.heap.size w).alloc (Nat.le_refl _) (dO d af cf an cn) |>.trans ((below_regrown (w.alloc (dO d af cf an cn)) dq osq).mono (by simp))
  go_wp2_with fail
  go_ret
  exact ⟨rfl, hb⟩
end Go.Proofs.Ytohoiebofkmjeaa
