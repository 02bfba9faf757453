/- The walk of the law on successive ranks. -/
import Derived.Test.YtnhfagolmafonaaWordO
namespace Go.Proofs.Ytnhfagolmafonaa
open Go.RowKit Go.Sort
open WordM
set_option linter.unusedVariables false

theorem un_parts {k n : Int} (h : unOk k n = true) : ∃ κ : Nat, k = κ ∧ (unS k n).data.toList.all (letB κ) = true ∧ rkN κ (unS k n).data.toList = n.toNat ∧ (unS k n).size ≤ 2048 := by
  obtain ⟨h1, h2⟩ := rk_un h
  have hw : wordB k (unS k n).data.toList = true := by simp only [rkOk, Bool.and_eq_true] at h1; exact h1.1
  obtain ⟨k1, k2, hs, hall⟩ := wordB_parts hw
  obtain ⟨b0, b1, b2⟩ := rkV_bounds h1
  rw [h2] at b2
  exact ⟨k.toNat, by omega, by rw [Int.toNat_of_nonneg (by omega)]; exact hall, b2.symm, hs⟩
theorem unS_size (k n : Int) : (unS k n).size ≤ maxLen := by
  unfold maxLen
  cases h : unOk k n
  · simp only [unS, h, cond_false]; decide
  · obtain ⟨κ, _, _, _, hs⟩ := un_parts h
    omega

theorem succ_lt {k n : Int} (n0 : 0 ≤ n) (h : unOk k n = true) (h' : unOk k (n + 1) = true) : cmpW (unS k n) (unS k (n + 1)) = -1 := by
  obtain ⟨κ, rfl, a1, a2, _⟩ := un_parts h
  obtain ⟨κ', hk, b1, b2, _⟩ := un_parts h'
  obtain rfl : κ = κ' := by omega
  rcases ltW_tri (unS κ n) (unS κ (n + 1)) with l | l | l
  · exact cmpW_lt l
  · rw [← l, a2] at b2; omega
  · have := rk_mono b1 a1 l; omega
theorem no_between {k n : Int} {x : ByteArray} (n0 : 0 ≤ n) (h : unOk k n = true) (h' : unOk k (n + 1) = true) (hx : wordB k x.data.toList = true) (l1 : cmpW (unS k n) x < 0) (l2 : cmpW x (unS k (n + 1)) < 0) : False := by
  obtain ⟨κ, rfl, a1, a2, _⟩ := un_parts h
  obtain ⟨κ', hk, b1, b2, _⟩ := un_parts h'
  obtain rfl : κ = κ' := by omega
  have hall := (wordB_parts hx).2.2.2
  have c1 := cmpW_cases (unS κ n) x
  have c2 := cmpW_cases x (unS κ (n + 1))
  have m1 := rk_mono a1 hall ((cmpW_iff _ _).1.1 (by omega))
  have m2 := rk_mono hall b1 ((cmpW_iff _ _).1.1 (by omega))
  omega

set_option maxRecDepth 100000 in
set_option maxHeartbeats 800000 in
theorem wWordSuccessors (n : Int) (_ : (Lit.int .i64 n).wf = true) (k : Int) (_ : (Lit.int .i64 k).wf = true) (x : ByteArray) (hx : x.size ≤ maxLen) (w : World) :
    Calls Try.prog 8 #[.int .i64 n, .int .i64 k, .string x] w fun e w' => e = .returned (.bool true) ∧ Below w.heap.size w w' := by
  by_cases n0 : n < 0
  · go_enter Try.func8, Try.ntmps8
    go_wp2_with fail
    refine (awake_any _).mono ?_
    rintro e w2 ⟨rfl, hb⟩
    go_wp2_with fail
    go_ret
    exact ⟨rfl, hb⟩
  by_cases n1 : 4611686018427387904 ≤ n
  · go_enter Try.func8, Try.ntmps8
    go_wp2_with fail
    refine (awake_any _).mono ?_
    rintro e w2 ⟨rfl, hb⟩
    go_wp2_with fail
    go_ret
    exact ⟨rfl, hb⟩
  cases h : unOk k n
  · have HO := Lib.hid h
    clear h
    go_enter Try.func8, Try.ntmps8
    go_wp2_with fail
    refine (unrank_any _ _ _).mono ?_
    rintro e w2 ⟨rfl, hb⟩
    rw [HO.out]
    go_wp2_with fail
    refine (unrank_any _ _ _).mono ?_
    rintro e w3 ⟨rfl, hb3⟩
    have hb4 := hb.trans (hb3.mono hb.size)
    go_wp2_with fail
    refine (awake_any _).mono ?_
    rintro e w5 ⟨rfl, hb5⟩
    have hb6 := hb4.trans (hb5.mono hb4.size)
    go_wp2_with fail
    go_ret
    exact ⟨rfl, hb6⟩
  cases h' : unOk k (n + 1)
  · have HO := Lib.hid h
    have HO' := Lib.hid h'
    clear h h'
    go_enter Try.func8, Try.ntmps8
    go_wp2_with fail
    refine (unrank_any _ _ _).mono ?_
    rintro e w2 ⟨rfl, hb⟩
    rw [HO.out]
    go_wp2_with fail
    refine (unrank_any _ _ _).mono ?_
    rintro e w3 ⟨rfl, hb3⟩
    rw [HO'.out]
    have hb4 := hb.trans (hb3.mono hb.size)
    go_wp2_with fail
    refine (awake_any _).mono ?_
    rintro e w5 ⟨rfl, hb5⟩
    have hb6 := hb4.trans (hb5.mono hb4.size)
    go_wp2_with fail
    go_ret
    exact ⟨rfl, hb6⟩
  have HSL := Lib.hid (succ_lt (by omega) h h')
  cases hwx : wordB k x.data.toList
  · have HO := Lib.hid h
    have HO' := Lib.hid h'
    have HX := Lib.hid hwx
    clear h h' hwx
    go_enter Try.func8, Try.ntmps8
    go_wp2_with fail
    refine (unrank_any _ _ _).mono ?_
    rintro e w2 ⟨rfl, hb⟩
    rw [HO.out]
    go_wp2_with fail
    refine (unrank_any _ _ _).mono ?_
    rintro e w3 ⟨rfl, hb3⟩
    rw [HO'.out]
    have hb4 := hb.trans (hb3.mono hb.size)
    go_wp2_with fail
    refine (valid_any _ _ _).mono ?_
    rintro e w4 ⟨rfl, rfl⟩
    rw [HX.out]
    go_wp2_with fail
    refine (compare_any _ _ (unS_size _ _) (unS_size _ _) _).mono ?_
    rintro e w4 ⟨rfl, rfl⟩
    rw [HSL.out]
    go_wp2_with fail
    refine (awake_any _).mono ?_
    rintro e w5 ⟨rfl, hb5⟩
    have hb6 := hb4.trans (hb5.mono hb4.size)
    go_wp2_with fail
    go_ret
    exact ⟨rfl, hb6⟩
  by_cases l1 : cmpW (unS k n) x < 0
  · have l2 : ¬ cmpW x (unS k (n + 1)) < 0 := fun l2 => no_between (by omega) h h' hwx l1 l2
    have l2d : decide (cmpW x (unS k (n + 1)) < 0) = false := decide_eq_false l2
    clear l2
    have HO := Lib.hid h
    have HO' := Lib.hid h'
    have HX := Lib.hid hwx
    clear h h' hwx
    go_enter Try.func8, Try.ntmps8
    go_wp2_with fail
    refine (unrank_any _ _ _).mono ?_
    rintro e w2 ⟨rfl, hb⟩
    rw [HO.out]
    go_wp2_with fail
    refine (unrank_any _ _ _).mono ?_
    rintro e w3 ⟨rfl, hb3⟩
    rw [HO'.out]
    have hb4 := hb.trans (hb3.mono hb.size)
    go_wp2_with fail
    refine (valid_any _ _ _).mono ?_
    rintro e w4 ⟨rfl, rfl⟩
    rw [HX.out]
    go_wp2_with fail
    refine (compare_any _ _ (unS_size _ _) hx _).mono ?_
    rintro e w4 ⟨rfl, rfl⟩
    go_wp2_with fail
    refine (compare_any _ _ hx (unS_size _ _) _).mono ?_
    rintro e w4 ⟨rfl, rfl⟩
    go_wp2_with fail
    refine (compare_any _ _ (unS_size _ _) (unS_size _ _) _).mono ?_
    rintro e w4 ⟨rfl, rfl⟩
    rw [HSL.out]
    go_wp2_with fail
    refine (awake_any _).mono ?_
    rintro e w5 ⟨rfl, hb5⟩
    have hb6 := hb4.trans (hb5.mono hb4.size)
    go_wp2_with fail
    go_ret
    exact ⟨rfl, hb6⟩
  · have HO := Lib.hid h
    have HO' := Lib.hid h'
    have HX := Lib.hid hwx
    clear h h' hwx
    go_enter Try.func8, Try.ntmps8
    go_wp2_with fail
    refine (unrank_any _ _ _).mono ?_
    rintro e w2 ⟨rfl, hb⟩
    rw [HO.out]
    go_wp2_with fail
    refine (unrank_any _ _ _).mono ?_
    rintro e w3 ⟨rfl, hb3⟩
    rw [HO'.out]
    have hb4 := hb.trans (hb3.mono hb.size)
    go_wp2_with fail
    refine (valid_any _ _ _).mono ?_
    rintro e w4 ⟨rfl, rfl⟩
    rw [HX.out]
    go_wp2_with fail
    refine (compare_any _ _ (unS_size _ _) hx _).mono ?_
    rintro e w4 ⟨rfl, rfl⟩
    go_wp2_with fail
    refine (compare_any _ _ (unS_size _ _) (unS_size _ _) _).mono ?_
    rintro e w4 ⟨rfl, rfl⟩
    rw [HSL.out]
    go_wp2_with fail
    refine (awake_any _).mono ?_
    rintro e w5 ⟨rfl, hb5⟩
    have hb6 := hb4.trans (hb5.mono hb4.size)
    go_wp2_with fail
    go_ret
    exact ⟨rfl, hb6⟩
end Go.Proofs.Ytnhfagolmafonaa
