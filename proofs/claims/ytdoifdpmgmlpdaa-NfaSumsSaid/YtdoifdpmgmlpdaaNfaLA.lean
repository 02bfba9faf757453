/- Walk of the law NfaValidates. -/
import Derived.Test.YtdoifdpmgmlpdaaNfaX
import Derived.Test.YtdoifdpmgmlpdaaNfaV
namespace Go.Proofs.Ytdoifdpmgmlpdaa
open Go Go.RowKit Go.Lib Go.Sort
set_option linter.unusedVariables false
theorem InN.re {w : World} {L S : Int} {st fi : Nat} {a : Option Addr} {es : List Ed} (h : InN w L S st fi a es) (d : Nat) (os : Array Obj) : InN (grow (redrawn w d) os) L S st fi a es := h.keep (below_regrown w d os)
theorem nbox_re (w : World) (v0 v1 v2 v3 v4 : Value) : ∀ d os, ((grow (redrawn (w.alloc (.cells #[v0, v1, v2, v3, v4] 25)) d) os).cell? ⟨w.heap.size, 0, none⟩ = some v0 ∧ (grow (redrawn (w.alloc (.cells #[v0, v1, v2, v3, v4] 25)) d) os).cell? ⟨w.heap.size, 1, none⟩ = some v1 ∧ (grow (redrawn (w.alloc (.cells #[v0, v1, v2, v3, v4] 25)) d) os).cell? ⟨w.heap.size, 2, none⟩ = some v2) ∧ (grow (redrawn (w.alloc (.cells #[v0, v1, v2, v3, v4] 25)) d) os).cell? ⟨w.heap.size, 3, none⟩ = some v3 ∧ (grow (redrawn (w.alloc (.cells #[v0, v1, v2, v3, v4] 25)) d) os).cell? ⟨w.heap.size, 4, none⟩ = some v4 :=
  fun d os => ⟨⟨cell_regrown (by simp [go_sem]) d os, cell_regrown (by simp [go_sem]) d os, cell_regrown (by simp [go_sem]) d os⟩, cell_regrown (by simp [go_sem]) d os, cell_regrown (by simp [go_sem]) d os⟩
set_option maxRecDepth 100000 in
set_option maxHeartbeats 2000000 in
theorem wNfaValidates {w : World} (L S : Int) (st fi : Nat) (es : List Ed) (a : Option Addr) (c : Nat) (hin : InN w L S st fi a es) :
    Calls Try.prog 3 #[.agg #[.int .i64 L, .int .i64 S, .int .u64 st, .int .u64 fi, .slice a es.length c]] w fun e w' => e = .returned (.bool true) ∧ Below w.heap.size w w' := by
  have HI := Lib.hid hin
  have D1 := Lib.hid (fun W (h : InN W L S st fi a es) => nvalidate_any L S st fi es a c W h)
  have D2 := Lib.hid (fun W (h : InN W L S st fi a es) => rvalidate_any L S st fi es a c W h)
  obtain ⟨r, hr⟩ : ∃ r, r = errN L S st fi es := ⟨_, rfl⟩
  rw [← hr] at D1 D2
  obtain ⟨n, hn⟩ : ∃ n, n = es.length := ⟨_, rfl⟩
  rw [← hn] at D1 D2 ⊢
  have hre := nbox_re w (.int .i64 L) (.int .i64 S) (.int .u64 st) (.int .u64 fi) (.slice a n c)
  have b0 := fun d os => (hre d os).1.1
  have b1 := fun d os => (hre d os).1.2.1
  have b2 := fun d os => (hre d os).1.2.2
  have b3 := fun d os => (hre d os).2.1
  have b4 := fun d os => (hre d os).2.2
  have E1 := Lib.hid (fun d os => D1.out (grow (redrawn (w.alloc (.cells #[.int .i64 L, .int .i64 S, .int .u64 st, .int .u64 fi, .slice a n c] 25)) d) os) ((HI.out.box _).re d os))
  have E2 := Lib.hid (fun d os => D2.out (grow (redrawn (w.alloc (.cells #[.int .i64 L, .int .i64 S, .int .u64 st, .int .u64 fi, .slice a n c] 25)) d) os) ((HI.out.box _).re d os))
  clear hre hr hn hin
  go_enter Try.func3, Try.ntmps3
  go_wp2_with fail
  refine wp_region_quiet_below (by kernel_rfl) (by kernel_rfl) ?_
  repeat (go_big_quiet_step (first | (with_reducible exact Calls.regrown_of (E1.out _ _)) | (with_reducible exact Calls.regrown_of (E2.out _ _)) | (with_reducible exact Calls.regrown_of (awake_any _))))
  refine wpQuiet_nil ?_
  intro _ hw'
  obtain ⟨⟨dq, osq⟩, hw''⟩ := hw'
  subst hw''
  have hb := (Below.refl w.heap.size w).alloc (Nat.le_refl _) (.cells #[.int .i64 L, .int .i64 S, .int .u64 st, .int .u64 fi, .slice a n c] 25) |>.trans ((below_regrown (w.alloc (.cells #[.int .i64 L, .int .i64 S, .int .u64 st, .int .u64 fi, .slice a n c] 25)) dq osq).mono (by simp))
  go_wp2_with fail
  go_ret
  exact ⟨rfl, hb⟩
end Go.Proofs.Ytdoifdpmgmlpdaa
