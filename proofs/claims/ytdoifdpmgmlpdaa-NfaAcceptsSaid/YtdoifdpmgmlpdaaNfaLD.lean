/- Walk of the law NfaAccepts. -/
import Derived.Test.YtdoifdpmgmlpdaaNfaLA
import Derived.Test.YtdoifdpmgmlpdaaNfaRC
namespace Go.Proofs.Ytdoifdpmgmlpdaa
open Go Go.RowKit Go.Lib Go.Sort
open Go.Proofs.Ytdoifdpmgmlpdaa.wrd.WordM (wordB)
set_option linter.unusedVariables false
set_option maxRecDepth 100000 in
set_option maxHeartbeats 2000000 in
theorem accepts_not (L S : Int) (st fi : Nat) (es : List Ed) (a : Option Addr) (c : Nat) (s : ByteArray) (w : World) (hin : InN w L S st fi a es) (hv : valN L S st fi es = false) :
    Calls Try.prog 16 #[.agg #[.int .i64 L, .int .i64 S, .int .u64 st, .int .u64 fi, .slice a es.length c], .string s] w fun e w' => e = .returned (.bool false) ∧ Below w.heap.size w w' := by
  have HI := Lib.hid hin
  have HV := Lib.hid (fun W (h : InN W L S st fi a es) => nvalid_any L S st fi es a c W h)
  rw [hv] at HV
  obtain ⟨n, hn⟩ : ∃ n, n = es.length := ⟨_, rfl⟩
  rw [← hn] at HV ⊢
  have HB0 := Lib.hid ((Below.refl w.heap.size w).alloc (Nat.le_refl _) (.cells #[.int .i64 L, .int .i64 S, .int .u64 st, .int .u64 fi, .slice a n c] 25))
  have HI0 := Lib.hid (HI.out.box (.cells #[.int .i64 L, .int .i64 S, .int .u64 st, .int .u64 fi, .slice a n c] 25))
  clear hin hv hn
  go_enter Try.func16, Try.ntmps16
  go_wp2_with fail
  refine (HV.out _ HI0.out).mono ?_
  rintro e w2 ⟨rfl, hB⟩
  have HB1 := Lib.hid (HB0.out.trans (hB.mono (by simp)))
  clear hB
  go_wp2_with fail
  go_ret
  exact ⟨rfl, HB1.out⟩
set_option maxRecDepth 100000 in
set_option maxHeartbeats 2000000 in
theorem runs_not (L S : Int) (st fi : Nat) (es : List Ed) (a : Option Addr) (c : Nat) (s : ByteArray) (w : World) (hin : InN w L S st fi a es) (hv : valN L S st fi es = false) :
    Calls Try.prog 17 #[.agg #[.int .i64 L, .int .i64 S, .int .u64 st, .int .u64 fi, .slice a es.length c], .string s] w fun e w' => e = .returned (.int .i64 0) ∧ Below w.heap.size w w' := by
  have HI := Lib.hid hin
  have HV := Lib.hid (fun W (h : InN W L S st fi a es) => nvalid_any L S st fi es a c W h)
  rw [hv] at HV
  obtain ⟨n, hn⟩ : ∃ n, n = es.length := ⟨_, rfl⟩
  rw [← hn] at HV ⊢
  have HB0 := Lib.hid ((Below.refl w.heap.size w).alloc (Nat.le_refl _) (.cells #[.int .i64 L, .int .i64 S, .int .u64 st, .int .u64 fi, .slice a n c] 25))
  have HI0 := Lib.hid (HI.out.box (.cells #[.int .i64 L, .int .i64 S, .int .u64 st, .int .u64 fi, .slice a n c] 25))
  clear hin hv hn
  go_enter Try.func17, Try.ntmps17
  go_wp2_with fail
  refine (HV.out _ HI0.out).mono ?_
  rintro e w2 ⟨rfl, hB⟩
  have HB1 := Lib.hid (HB0.out.trans (hB.mono (by simp)))
  clear hB
  go_wp2_with fail
  go_ret
  exact ⟨rfl, HB1.out⟩
theorem acc_runs {L : Int} {m st fi : Nat} {es : List Ed} (hv : valN L (m : Int) st fi es = true) (s : ByteArray) : accB L st fi es s = decide (0 < runsW L m st fi es s) := by
  have h := valN_iff.1 hv
  have hto := valN_to hv
  rw [Int.toNat_natCast] at h hto
  unfold accB runsW
  cases hw : wordB L s.data.toList
  · simp
  · rw [Bool.true_and, if_pos rfl]
    exact decide_eq_decide.2 (accepts_runs hto h.2.1.1 h.2.1.2 (wdL s))
set_option maxRecDepth 100000 in
set_option maxHeartbeats 4000000 in
theorem wNfaAccepts {w : World} (L S : Int) (st fi : Nat) (es : List Ed) (a : Option Addr) (c : Nat) (hin : InN w L S st fi a es) (s : ByteArray) (hs : s.size ≤ maxLen) :
    Calls Try.prog 5 #[.agg #[.int .i64 L, .int .i64 S, .int .u64 st, .int .u64 fi, .slice a es.length c], .string s] w fun e w' => e = .returned (.bool true) ∧ Below w.heap.size w w' := by
  have HI := Lib.hid hin
  have DV := Lib.hid (fun W (h : InN W L S st fi a es) => lvalid_any L S st fi es a c W h)
  obtain ⟨n, hn⟩ : ∃ n, n = es.length := ⟨_, rfl⟩
  have HB0 := Lib.hid ((Below.refl w.heap.size w).alloc (Nat.le_refl _) (.cells #[.int .i64 L, .int .i64 S, .int .u64 st, .int .u64 fi, .slice a n c] 25))
  have HI0 := Lib.hid (HI.out.box (.cells #[.int .i64 L, .int .i64 S, .int .u64 st, .int .u64 fi, .slice a n c] 25))
  have hre := nbox_re w (.int .i64 L) (.int .i64 S) (.int .u64 st) (.int .u64 fi) (.slice a n c)
  have b0 := fun d os => (hre d os).1.1
  have b1 := fun d os => (hre d os).1.2.1
  have b2 := fun d os => (hre d os).1.2.2
  have b3 := fun d os => (hre d os).2.1
  have b4 := fun d os => (hre d os).2.2
  cases hv : valN L S st fi es
  · have D1 := Lib.hid (fun W (h : InN W L S st fi a es) => accepts_not L S st fi es a c s W h hv)
    have D2 := Lib.hid (fun W (h : InN W L S st fi a es) => runs_not L S st fi es a c s W h hv)
    rw [hv] at DV
    rw [← hn] at D1 D2 DV ⊢
    have E1 := Lib.hid (fun d os => D1.out (grow (redrawn (w.alloc (.cells #[.int .i64 L, .int .i64 S, .int .u64 st, .int .u64 fi, .slice a n c] 25)) d) os) ((HI.out.box _).re d os))
    have E2 := Lib.hid (fun d os => D2.out (grow (redrawn (w.alloc (.cells #[.int .i64 L, .int .i64 S, .int .u64 st, .int .u64 fi, .slice a n c] 25)) d) os) ((HI.out.box _).re d os))
    clear hre hv hn hin hs
    go_enter Try.func5, Try.ntmps5
    go_wp2_with fail
    refine wp_region_quiet_below (by kernel_rfl) (by kernel_rfl) ?_
    repeat (go_big_quiet_step (first | (with_reducible exact Calls.regrown_of (E1.out _ _)) | (with_reducible exact Calls.regrown_of (E2.out _ _))))
    refine wpQuiet_nil ?_
    intro _ hw'
    obtain ⟨⟨dq, osq⟩, hw''⟩ := hw'
    subst hw''
    have HIQ := Lib.hid ((HI0.out).re dq osq)
    have HBQ := Lib.hid (below_regrown (w.alloc (.cells #[.int .i64 L, .int .i64 S, .int .u64 st, .int .u64 fi, .slice a n c] 25)) dq osq)
    have HBW := Lib.hid (HB0.out.trans (HBQ.out.mono (by simp)))
    go_wp2_with fail
    refine (DV.out _ HIQ.out).mono ?_
    rintro e w3 ⟨rfl, hB⟩
    have HB3 := Lib.hid (HBW.out.trans (hB.mono HBW.out.size))
    clear hB b0 b1 b2 b3 b4
    go_wp2_with fail
    refine (awake_any _).mono ?_
    rintro e w4 ⟨rfl, hB⟩
    have HB4 := Lib.hid (HB3.out.trans (hB.mono HB3.out.size))
    clear hB
    go_wp2_with fail
    go_ret
    exact ⟨rfl, HB4.out⟩
  · have hv2 := valN_iff.1 hv
    obtain ⟨m, rfl⟩ : ∃ m : Nat, S = (m : Int) := ⟨S.toNat, by omega⟩
    have D1 := Lib.hid (fun W (h : InN W L (m : Int) st fi a es) => accepts_any L (m : Int) st fi es a c s W h hv)
    have D2 := Lib.hid (fun W (h : InN W L (m : Int) st fi a es) => runs_any L m st fi es a c s W h hv)
    have D3 := Lib.hid (fun W (h : InN W L (m : Int) st fi a es) => raccepts_any L (m : Int) st fi es a c s W h hv)
    have D4 := Lib.hid (fun W (h : InN W L (m : Int) st fi a es) => rruns_any L m st fi es a c s W h hv)
    have har := acc_runs hv s
    rw [hv] at DV
    rw [har] at D1 D3
    obtain ⟨r, hr⟩ : ∃ r, r = runsW L m st fi es s := ⟨_, rfl⟩
    rw [← hr] at D1 D2 D3 D4
    obtain ⟨ab, hab⟩ : ∃ ab, ab = decide (0 < r) := ⟨_, rfl⟩
    rw [← hab] at D1 D3
    rw [← hn] at D1 D2 D3 D4 DV ⊢
    have hcase : (ab = true ∧ decide ((0 : Int) < (r : Int)) = true ∧ decide (0 < r) = true) ∨ (ab = false ∧ decide ((0 : Int) < (r : Int)) = false ∧ decide (0 < r) = false) := by
      by_cases h0 : 0 < r
      · exact .inl ⟨by rw [hab]; simpa using h0, by simpa using h0, by simpa using h0⟩
      · exact .inr ⟨by rw [hab]; simpa using h0, by simpa using h0, by simpa using h0⟩
    have E1 := Lib.hid (fun d os => D1.out (grow (redrawn (w.alloc (.cells #[.int .i64 L, .int .i64 (m : Int), .int .u64 st, .int .u64 fi, .slice a n c] 25)) d) os) ((HI.out.box _).re d os))
    have E2 := Lib.hid (fun d os => D2.out (grow (redrawn (w.alloc (.cells #[.int .i64 L, .int .i64 (m : Int), .int .u64 st, .int .u64 fi, .slice a n c] 25)) d) os) ((HI.out.box _).re d os))
    clear hre hv hv2 hn hin hs har hr hab
    rcases hcase with ⟨rfl, t1, t2⟩ | ⟨rfl, t1, t2⟩
    all_goals
      go_enter Try.func5, Try.ntmps5
      go_wp2_with fail
      refine wp_region_quiet_below (by kernel_rfl) (by kernel_rfl) ?_
      repeat (go_big_quiet_step (first | (with_reducible exact Calls.regrown_of (E1.out _ _)) | (with_reducible exact Calls.regrown_of (E2.out _ _))))
      refine wpQuiet_nil ?_
      intro _ hw'
      obtain ⟨⟨dq, osq⟩, hw''⟩ := hw'
      subst hw''
      have HIQ := Lib.hid ((HI0.out).re dq osq)
      have HBQ := Lib.hid (below_regrown (w.alloc (.cells #[.int .i64 L, .int .i64 (m : Int), .int .u64 st, .int .u64 fi, .slice a n c] 25)) dq osq)
      have HBW := Lib.hid (show Below (w.heap.size + 1) (w.alloc (.cells #[.int .i64 L, .int .i64 (m : Int), .int .u64 st, .int .u64 fi, .slice a n c] 25)) _ from HBQ.out.mono (by simp))
      go_wp2_with fail
      refine (DV.out _ HIQ.out).mono ?_
      rintro e w3 ⟨rfl, hB⟩
      have HB3 := Lib.hid (HBW.out.trans (hB.mono (Nat.le_trans (by simp) HBQ.out.size)))
      have HI3 := Lib.hid (HIQ.out.keep hB)
      obtain ⟨z0, z1, z2, z3, z4⟩ := nbox_cells HB3.out
      clear hB b0 b1 b2 b3 b4
      go_wp2_with fail
      refine (D3.out _ HI3.out).mono ?_
      rintro e w4 ⟨rfl, hB⟩
      have HB4 := Lib.hid (HB3.out.trans (hB.mono (by have := HB3.out.size; simp at this; omega)))
      have HI4 := Lib.hid (HI3.out.keep hB)
      clear z0 z1 z2 z3 z4
      obtain ⟨z0, z1, z2, z3, z4⟩ := nbox_cells HB4.out
      clear hB
      go_wp2_with fail
      refine (D4.out _ HI4.out).mono ?_
      rintro e w5 ⟨rfl, hB⟩
      have HB5 := Lib.hid (below_nbox (HB4.out.trans (hB.mono (by have := HB4.out.size; simp at this; omega))))
      clear hB
      go_wp2_with fail
      refine (awake_any _).mono ?_
      rintro e w6 ⟨rfl, hB⟩
      have HB6 := Lib.hid (HB5.out.trans (hB.mono HB5.out.size))
      clear hB
      go_wp2_with fail
      go_ret
      exact ⟨rfl, HB6.out⟩
end Go.Proofs.Ytdoifdpmgmlpdaa
