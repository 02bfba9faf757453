/- Walks of the laws: ExprValidates. -/
import Derived.Test.YtjnnabcpamionaaExprQA
import Derived.Test.YtjnnabcpamionaaExprF
import Derived.Lib.QuietBelow
import Derived.BigQuiet
namespace Go.Proofs.Ytjnnabcpamionaa
open Go Go.RowKit Go.Lib Go.Sort
set_option linter.unusedVariables false
theorem InX.re {w : World} {op l : Int} {ks : List T} {a : Option Addr} (h : InX w op l ks a) (d : Nat) (os : Array Obj) : InX (grow (redrawn w d) os) op l ks a := h.keep (below_regrown w d os)
/-- a box of an expression, in whatever later world -/
theorem box_re (w : World) (x y z : Value) : ∀ d os, (grow (redrawn (w.alloc (.cells #[x, y, z] 24)) d) os).cell? ⟨w.heap.size, 0, none⟩ = some x ∧ (grow (redrawn (w.alloc (.cells #[x, y, z] 24)) d) os).cell? ⟨w.heap.size, 1, none⟩ = some y ∧ (grow (redrawn (w.alloc (.cells #[x, y, z] 24)) d) os).cell? ⟨w.heap.size, 2, none⟩ = some z :=
  fun d os => ⟨cell_regrown (by simp [go_sem]) d os, cell_regrown (by simp [go_sem]) d os, cell_regrown (by simp [go_sem]) d os⟩
set_option maxRecDepth 100000 in
set_option maxHeartbeats 2000000 in
theorem wExprValidates {w : World} (op l : Int) (ks : List T) (a : Option Addr) (c : Nat) (hin : InX w op l ks a) (L : Int) (hL : (Lit.int .i64 L).wf = true) :
    Calls Try.prog 3 #[.agg #[.int .i64 op, .int .i64 l, .slice a ks.length c], .int .i64 L] w fun e w' => e = .returned (.bool true) ∧ Below w.heap.size w w' := by
  have HI := Lib.hid hin
  obtain ⟨r, hr⟩ : ∃ r, r = errT (.node op l ks) L := ⟨_, rfl⟩
  have D1 := Lib.hid (fun W (h : InX W op l ks a) => validate_any op l ks L a c W h)
  have D2 := Lib.hid (fun W (h : InX W op l ks a) => validateR_any op l ks L a c W h)
  rw [← hr] at D1 D2
  obtain ⟨n, hn⟩ : ∃ n, n = ks.length := ⟨_, rfl⟩
  rw [← hn] at D1 D2 ⊢
  have hre := box_re w (.int .i64 op) (.int .i64 l) (.slice a n c)
  have b0 := fun d os => (hre d os).1
  have b1 := fun d os => (hre d os).2.1
  have b2 := fun d os => (hre d os).2.2
  have E1 := Lib.hid (fun d os => D1.out (grow (redrawn (w.alloc (.cells #[.int .i64 op, .int .i64 l, .slice a n c] 24)) d) os) ((HI.out.box _).re d os))
  have E2 := Lib.hid (fun d os => D2.out (grow (redrawn (w.alloc (.cells #[.int .i64 op, .int .i64 l, .slice a n c] 24)) d) os) ((HI.out.box _).re d os))
  clear hre hr hn hin
  go_enter Try.func3, Try.ntmps3
  go_wp2_with fail
  refine wp_region_quiet_below (by kernel_rfl) (by kernel_rfl) ?_
  repeat (go_big_quiet_step (first | (with_reducible exact Calls.regrown_of (E1.out _ _)) | (with_reducible exact Calls.regrown_of (E2.out _ _)) | (with_reducible exact Calls.regrown_of (awake_any _))))
  refine wpQuiet_nil ?_
  intro _ hw'
  obtain ⟨⟨dq, osq⟩, hw''⟩ := hw'
  subst hw''
  have hb := (Below.refl w.heap.size w).alloc (Nat.le_refl _) (.cells #[.int .i64 op, .int .i64 l, .slice a n c] 24) |>.trans ((below_regrown (w.alloc (.cells #[.int .i64 op, .int .i64 l, .slice a n c] 24)) dq osq).mono (by simp))
  go_wp2_with fail
  go_ret
  exact ⟨rfl, hb⟩
end Go.Proofs.Ytjnnabcpamionaa
