/- Walks of the laws DfaValidates, DfaRuns. -/
import Derived.Test.YtohoiebofkmjeaaDfaY
import Derived.Test.YtohoiebofkmjeaaDfaV
import Derived.Test.YtohoiebofkmjeaaDfaRR
namespace Go.Proofs.Ytohoiebofkmjeaa
open Go Go.RowKit Go.Lib Go.Sort
set_option linter.unusedVariables false
theorem InD.re {w : World} {d : DF} {af an : Option Addr} (h : InD w d af an) (q : Nat) (os : Array Obj) : InD (grow (redrawn w q) os) d af an := h.keep (below_regrown w q os)
theorem dbox_re (w : World) (v0 v1 v2 v3 : Value) : ∀ d os, ((grow (redrawn (w.alloc (.cells #[v0, v1, v2, v3] 25)) d) os).cell? ⟨w.heap.size, 0, none⟩ = some v0 ∧ (grow (redrawn (w.alloc (.cells #[v0, v1, v2, v3] 25)) d) os).cell? ⟨w.heap.size, 1, none⟩ = some v1) ∧ (grow (redrawn (w.alloc (.cells #[v0, v1, v2, v3] 25)) d) os).cell? ⟨w.heap.size, 2, none⟩ = some v2 ∧ (grow (redrawn (w.alloc (.cells #[v0, v1, v2, v3] 25)) d) os).cell? ⟨w.heap.size, 3, none⟩ = some v3 :=
  fun d os => ⟨⟨cell_regrown (by simp [go_sem]) d os, cell_regrown (by simp [go_sem]) d os⟩, cell_regrown (by simp [go_sem]) d os, cell_regrown (by simp [go_sem]) d os⟩
set_option maxRecDepth 100000 in
set_option maxHeartbeats 2000000 in
theorem wDfaValidates {w : World} (d : DF) (af : Option Addr) (cf : Nat) (an : Option Addr) (cn : Nat) (hin : InD w d af an) :
    Calls Try.prog 3 #[dV d af cf an cn] w fun e w' => e = .returned (.bool true) ∧ Below w.heap.size w w' := by
  have HI := Lib.hid hin
  have D1 := Lib.hid (fun W (h : InD W d af an) => dvalidate_any d af cf an cn W h)
  have D2 := Lib.hid (fun W (h : InD W d af an) => rvalidate_any d af cf an cn W h)
  obtain ⟨r, hr⟩ : ∃ r, r = errD d := ⟨_, rfl⟩
  rw [← hr] at D1 D2
  have hre := dbox_re w (.int .i64 d.L) (.int .i64 d.S) (.slice af d.n cf) (.slice an d.m cn)
  have b0 := fun d os => (hre d os).1.1
  have b1 := fun d os => (hre d os).1.2
  have b2 := fun d os => (hre d os).2.1
  have b3 := fun d os => (hre d os).2.2
  have E1 := Lib.hid (fun q os => D1.out (grow (redrawn (w.alloc (dO d af cf an cn)) q) os) ((HI.out.box _).re q os))
  have E2 := Lib.hid (fun q os => D2.out (grow (redrawn (w.alloc (dO d af cf an cn)) q) os) ((HI.out.box _).re q os))
  clear hre hr hin
  go_enter Try.func3, Try.ntmps3
  go_wp2_with fail
  refine wp_region_quiet_below (by kernel_rfl) (by kernel_rfl) ?_
  repeat (go_big_quiet_step (first | (with_reducible exact Calls.regrown_of (E1.out _ _)) | (with_reducible exact Calls.regrown_of (E2.out _ _)) | (with_reducible exact Calls.regrown_of (awake_any _))))
  refine wpQuiet_nil ?_
  intro _ hw'
  obtain ⟨⟨dq, osq⟩, hw''⟩ := hw'
  subst hw''
  have hb := (Below.refl w.heap.size w).alloc (Nat.le_refl _) (dO d af cf an cn) |>.trans ((below_regrown (w.alloc (dO d af cf an cn)) dq osq).mono (by simp))
  go_wp2_with fail
  go_ret
  exact ⟨rfl, hb⟩
set_option maxRecDepth 100000 in
set_option maxHeartbeats 4000000 in
theorem wDfaRuns {w : World} (d : DF) (af : Option Addr) (cf : Nat) (an : Option Addr) (cn : Nat) (hin : InD w d af an) (q : Int) (hq : (Lit.int .i64 q).wf = true) (s : ByteArray) (hs : s.size ≤ maxLen) :
    Calls Try.prog 4 #[dV d af cf an cn, .int .i64 q, .string s] w fun e w' => e = .returned (.bool true) ∧ Below w.heap.size w w' := by
  have HI := Lib.hid hin
  have HLV := Lib.hid (fun W (h : InD W d af an) => lvalid_any d af cf an cn W h)
  have hre := dbox_re w (.int .i64 d.L) (.int .i64 d.S) (.slice af d.n cf) (.slice an d.m cn)
  have b0 := fun d os => (hre d os).1.1
  have b1 := fun d os => (hre d os).1.2
  have b2 := fun d os => (hre d os).2.1
  have b3 := fun d os => (hre d os).2.2
  have HB0 := Lib.hid (fun dq osq => (Below.refl (w.heap.size + 1) (w.alloc (dO d af cf an cn))).trans ((below_regrown (w.alloc (dO d af cf an cn)) dq osq).mono (by simp)))
  cases hv : valD d
  · have E1 := Lib.hid (fun q' os => run_bad d af cf an cn q s (grow (redrawn (w.alloc (dO d af cf an cn)) q') os) ((HI.out.box _).re q' os) hv)
    have E2 := Lib.hid (fun q' os => accepts_bad d af cf an cn s (grow (redrawn (w.alloc (dO d af cf an cn)) q') os) ((HI.out.box _).re q' os) hv)
    rw [hv] at HLV
    clear hre hin hv hq hs
    go_enter Try.func4, Try.ntmps4
    go_wp2_with fail
    refine wp_region_quiet_below (by kernel_rfl) (by kernel_rfl) ?_
    repeat (go_big_quiet_step (first | (with_reducible exact Calls.regrown_of (E1.out _ _)) | (with_reducible exact Calls.regrown_of (E2.out _ _))))
    refine wpQuiet_nil ?_
    intro _ hw'
    obtain ⟨⟨dq, osq⟩, hw''⟩ := hw'
    subst hw''
    have HIQ := Lib.hid ((HI.out.box (dO d af cf an cn)).re dq osq)
    have HB1 := Lib.hid (HB0.out dq osq)
    clear b0 b1 b2 b3
    obtain ⟨W1, hW1⟩ : ∃ W1, W1 = grow (redrawn (w.alloc (dO d af cf an cn)) dq) osq := ⟨_, rfl⟩
    rw [← hW1] at HIQ HB1 ⊢
    obtain ⟨z0, z1, z2, z3⟩ := dbox_cells HB1.out
    clear hW1
    go_wp2_with fail
    refine (HLV.out _ HIQ.out).mono ?_
    rintro e w2 ⟨rfl, hB⟩
    have HB2 := Lib.hid (HB1.out.trans (hB.mono (by have := HB1.out.size; simp at this; omega)))
    clear hB z0 z1 z2 z3
    go_wp2_with fail
    refine (awake_any _).mono ?_
    rintro e w3 ⟨rfl, hB⟩
    have HB3 := Lib.hid (HB2.out.trans (hB.mono (by have := HB2.out.size; simp at this; omega)))
    clear hB
    go_wp2_with fail
    go_ret
    exact ⟨rfl, below_dbox HB3.out⟩
  · have hok := valD_iff.1 hv
    have E1 := Lib.hid (fun q' os => run_ok d af cf an cn q s (grow (redrawn (w.alloc (dO d af cf an cn)) q') os) ((HI.out.box _).re q' os) hok)
    have E2 := Lib.hid (fun q' os => accepts_ok d af cf an cn s (grow (redrawn (w.alloc (dO d af cf an cn)) q') os) ((HI.out.box _).re q' os) hok)
    have R1 := Lib.hid (fun W (h : InD W d af an) => rrun_ok d af cf an cn q s W h hok)
    have R2 := Lib.hid (fun W (h : InD W d af an) => raccepts_ok d af cf an cn s W h hok)
    rw [hv] at HLV
    obtain ⟨r, hr⟩ : ∃ r, r = d.runV q s := ⟨_, rfl⟩
    obtain ⟨v, hvv⟩ : ∃ v, v = d.accV s := ⟨_, rfl⟩
    rw [← hr] at E1 R1
    rw [← hvv] at E2 R2
    clear hre hin hv hq hs hok hr hvv
    go_enter Try.func4, Try.ntmps4
    go_wp2_with fail
    refine wp_region_quiet_below (by kernel_rfl) (by kernel_rfl) ?_
    repeat (go_big_quiet_step (first | (with_reducible exact Calls.regrown_of (E1.out _ _)) | (with_reducible exact Calls.regrown_of (E2.out _ _))))
    refine wpQuiet_nil ?_
    intro _ hw'
    obtain ⟨⟨dq, osq⟩, hw''⟩ := hw'
    subst hw''
    have HIQ := Lib.hid ((HI.out.box (dO d af cf an cn)).re dq osq)
    have HB1 := Lib.hid (HB0.out dq osq)
    clear b0 b1 b2 b3
    obtain ⟨W1, hW1⟩ : ∃ W1, W1 = grow (redrawn (w.alloc (dO d af cf an cn)) dq) osq := ⟨_, rfl⟩
    rw [← hW1] at HIQ HB1 ⊢
    obtain ⟨z0, z1, z2, z3⟩ := dbox_cells HB1.out
    clear hW1
    go_wp2_with fail
    refine (HLV.out _ HIQ.out).mono ?_
    rintro e w2 ⟨rfl, hB⟩
    have HB2 := Lib.hid (HB1.out.trans (hB.mono (by have := HB1.out.size; simp at this; omega)))
    have HIQ2 := Lib.hid (HIQ.out.keep hB)
    clear hB z0 z1 z2 z3
    obtain ⟨z0, z1, z2, z3⟩ := dbox_cells HB2.out
    go_wp2_with fail
    refine (R1.out _ HIQ2.out).mono ?_
    rintro e w3 ⟨rfl, hB⟩
    have HB3 := Lib.hid (HB2.out.trans (hB.mono (by have := HB2.out.size; simp at this; omega)))
    have HIQ3 := Lib.hid (HIQ2.out.keep hB)
    clear hB z0 z1 z2 z3
    obtain ⟨z0, z1, z2, z3⟩ := dbox_cells HB3.out
    go_wp2_with fail
    refine (R2.out _ HIQ3.out).mono ?_
    rintro e w4 ⟨rfl, hB⟩
    have HB4 := Lib.hid (HB3.out.trans (hB.mono (by have := HB3.out.size; simp at this; omega)))
    clear hB z0 z1 z2 z3
    go_wp2_with fail
    refine (awake_any _).mono ?_
    rintro e w5 ⟨rfl, hB⟩
    have HB5 := Lib.hid (HB4.out.trans (hB.mono (by have := HB4.out.size; simp at this; omega)))
    clear hB
    go_wp2_with fail
    go_ret
    exact ⟨rfl, below_dbox HB5.out⟩
end Go.Proofs.Ytohoiebofkmjeaa
