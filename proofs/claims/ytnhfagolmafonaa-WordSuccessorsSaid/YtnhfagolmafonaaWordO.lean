/- The walks of the laws on ranks. -/
import Derived.Test.YtnhfagolmafonaaWordN
namespace Go.Proofs.Ytnhfagolmafonaa
open Go.RowKit Go.Sort
open WordM
set_option linter.unusedVariables false

/-- is there a word of rank n over k letters? which? -/
def unOk (k n : Int) : Bool := mayB k && decide (0 ≤ n) && decide (n ≤ 4611686018427387904) && urB k.toNat n.toNat
def unS (k n : Int) : ByteArray := bif unOk k n then urS k.toNat n.toNat else ⟨#[]⟩

theorem un_no {k n : Int} (h : mayB k = false ∨ n < 0 ∨ 4611686018427387904 < n) : unOk k n = false ∧ unS k n = ⟨#[]⟩ := by
  have h1 : unOk k n = false := by
    rcases h with h | h | h
    · simp only [unOk, h, Bool.false_and]
    · simp only [unOk, decide_eq_false (show ¬ 0 ≤ n by omega), Bool.and_false, Bool.false_and]
    · simp only [unOk, decide_eq_false (show ¬ n ≤ 4611686018427387904 by omega), Bool.and_false, Bool.false_and]
  exact ⟨h1, by simp only [unS, h1, cond_false]⟩
theorem un_yes {κ : Nat} {n : Int} (hk1 : 1 ≤ κ) (hk2 : κ ≤ 6) (h0 : 0 ≤ n) (hn : n ≤ 4611686018427387904) : unOk κ n = urB κ n.toNat ∧ unS κ n = urS κ n.toNat := by
  have h1 : unOk κ n = urB κ n.toNat := by
    simp only [unOk, mayB_true (show (1 : Int) ≤ κ by omega) (show (κ : Int) ≤ 6 by omega), decide_eq_true h0, decide_eq_true hn, Bool.true_and, Int.toNat_natCast]
  refine ⟨h1, ?_⟩
  simp only [unS, h1, Int.toNat_natCast]
  cases hb : urB κ n.toNat
  · simp only [cond_false, urS, hb]
  · simp only [cond_true]

theorem may_nat {k : Int} (h : mayB k = true) : ∃ κ : Nat, k = κ ∧ 1 ≤ κ ∧ κ ≤ 6 := by
  have := mayB_iff.1 h
  exact ⟨k.toNat, by omega, by omega, by omega⟩

/-- word.Unrank -/
theorem unrank_any (n k : Int) (w : World) :
    Calls Try.prog 22 #[.int .i64 n, .int .i64 k] w fun e w' => e = .returned (.tuple #[.string (unS k n), .bool (unOk k n)]) ∧ Below w.heap.size w w' := by
  by_cases hb : mayB k = false ∨ n < 0 ∨ 4611686018427387904 < n
  · obtain ⟨h1, h2⟩ := un_no hb
    rw [h1, h2]
    refine (unrank_bad n k w hb).mono ?_
    rintro e w' ⟨rfl, rfl⟩
    exact ⟨rfl, Below.refl _ _⟩
  · obtain ⟨κ, rfl, hk1, hk2⟩ := may_nat (k := k) (by cases h : mayB k; exact absurd (.inl h) hb; rfl)
    obtain ⟨h1, h2⟩ := un_yes (n := n) hk1 hk2 (by omega) (by omega)
    rw [h1, h2]
    exact unrank_ok n κ w hk1 hk2 (by omega) (by omega)

/-- the reference's Unrank -/
theorem runrank_any (n k : Int) (w : World) :
    Calls Try.prog 23 #[.int .i64 n, .int .i64 k] w fun e w' => e = .returned (.tuple #[.string (unS k n), .bool (unOk k n)]) ∧ Below w.heap.size w w' := by
  by_cases hb : mayB k = false ∨ n < 0 ∨ 4611686018427387904 < n
  · obtain ⟨h1, h2⟩ := un_no hb
    rw [h1, h2]
    refine (runrank_bad n k w (by rcases hb with h | h | h; exact .inl h; exact .inr (.inl h); exact .inr (.inr (.inl h)))).mono ?_
    rintro e w' ⟨rfl, rfl⟩
    exact ⟨rfl, Below.refl _ _⟩
  · obtain ⟨κ, rfl, hk1, hk2⟩ := may_nat (k := k) (by cases h : mayB k; exact absurd (.inl h) hb; rfl)
    obtain ⟨h1, h2⟩ := un_yes (n := n) hk1 hk2 (by omega) (by omega)
    rw [h1, h2]
    by_cases h : κ = 1
    · subst h
      by_cases hn : n ≤ 2048
      · exact runrank_one n w (by omega) (by omega) hn
      · have hu : urB 1 n.toNat = false := by rw [urB_one]; simp only [decide_eq_false_iff_not]; omega
        have hs : urS 1 n.toNat = ⟨#[]⟩ := by simp only [urS, hu, cond_false]
        rw [hu, hs]
        refine (runrank_bad n 1 w (.inr (.inr (.inr ⟨rfl, by omega⟩)))).mono ?_
        rintro e w' ⟨rfl, rfl⟩
        exact ⟨rfl, Below.refl _ _⟩
    · exact runrank_ok n κ w hk1 hk2 (by omega) (by omega) h

theorem rkV_bounds {k : Int} {s : ByteArray} (h : rkOk k s = true) : 0 ≤ rkV k s ∧ rkV k s ≤ 4611686018427387904 ∧ (rkV k s).toNat = rkN k.toNat s.data.toList := by
  simp only [rkV, h, cond_true, Int.toNat_natCast]
  have h' := h
  simp only [rkOk, Bool.and_eq_true, decide_eq_true_eq] at h'
  exact ⟨by omega, h'.2, trivial⟩
/-- the word of a word's rank is that word -/
theorem un_rk {k : Int} {s : ByteArray} (h : rkOk k s = true) : unOk k (rkV k s) = true ∧ unS k (rkV k s) = s := by
  obtain ⟨b0, b1, b2⟩ := rkV_bounds h
  have hw : wordB k s.data.toList = true := by simp only [rkOk, Bool.and_eq_true] at h; exact h.1
  obtain ⟨k1, k2, hs, hall⟩ := wordB_parts hw
  obtain ⟨κ, rfl, hk1, hk2⟩ := may_nat (mayB_true k1 k2)
  obtain ⟨h1, h2⟩ := un_yes (n := rkV κ s) hk1 hk2 b0 b1
  rw [h1, h2, b2, Int.toNat_natCast]
  exact ur_rk hk1 hall hs
/-- the word of rank n has the rank n -/
theorem rk_un {k n : Int} (h : unOk k n = true) : rkOk k (unS k n) = true ∧ rkV k (unS k n) = n := by
  have h0 := h
  simp only [unOk, Bool.and_eq_true, decide_eq_true_eq] at h0
  obtain ⟨⟨⟨hm, n0⟩, n1⟩, hu⟩ := h0
  obtain ⟨κ, rfl, hk1, hk2⟩ := may_nat hm
  obtain ⟨h1, h2⟩ := un_yes (n := n) hk1 hk2 n0 n1
  rw [Int.toNat_natCast] at hu
  have hlen : (digs κ n.toNat).length ≤ 2048 := by simpa [urB] using hu
  obtain ⟨_, e2⟩ := ur_short (k := κ) (n := n.toNat) rfl hlen
  rw [h2, e2]
  refine rk_in ?_ ?_ n1
  · rw [wordB_mk hm (by rw [strOfNums_size]; simpa using hlen)]
    exact all_digs hk1 hk2 _
  · rw [rkN_digs hk1 hk2]; omega

set_option maxRecDepth 100000 in
set_option maxHeartbeats 400000 in
theorem wWordRanks (s : ByteArray) (_ : s.size ≤ maxLen) (k : Int) (_ : (Lit.int .i64 k).wf = true) (w : World) :
    Calls Try.prog 6 #[.string s, .int .i64 k] w fun e w' => e = .returned (.bool true) ∧ Below w.heap.size w w' := by
  cases h : rkOk k s
  · have HO := Lib.hid h
    clear h
    go_enter Try.func6, Try.ntmps6
    go_wp2_with fail
    refine (rank_any _ _ _).mono ?_
    rintro e w2 ⟨rfl, rfl⟩
    rw [HO.out]
    go_wp2_with fail
    refine (rrank_any _ _ _).mono ?_
    rintro e w2 ⟨rfl, rfl⟩
    rw [HO.out]
    go_wp2_with fail
    refine (awake_any _).mono ?_
    rintro e w2 ⟨rfl, hb⟩
    go_wp2_with fail
    go_ret
    exact ⟨rfl, hb⟩
  · have HU := Lib.hid (un_rk h)
    have HO := Lib.hid h
    clear h
    have he : (s.toList == s.toList) = true := by simp
    go_enter Try.func6, Try.ntmps6
    go_wp2_with fail
    refine (rank_any _ _ _).mono ?_
    rintro e w2 ⟨rfl, rfl⟩
    rw [HO.out]
    go_wp2_with fail
    refine (rrank_any _ _ _).mono ?_
    rintro e w2 ⟨rfl, rfl⟩
    rw [HO.out]
    go_wp2_with fail
    refine (unrank_any _ _ _).mono ?_
    rintro e w2 ⟨rfl, hb⟩
    rw [HU.out.1, HU.out.2]
    go_wp2_with fail
    refine (awake_any _).mono ?_
    rintro e w3 ⟨rfl, hb3⟩
    have hb4 := hb.trans (hb3.mono hb.size)
    go_wp2_with fail
    go_ret
    exact ⟨rfl, hb4⟩

set_option maxRecDepth 100000 in
set_option maxHeartbeats 400000 in
theorem wWordUnranks (n : Int) (_ : (Lit.int .i64 n).wf = true) (k : Int) (_ : (Lit.int .i64 k).wf = true) (w : World) :
    Calls Try.prog 7 #[.int .i64 n, .int .i64 k] w fun e w' => e = .returned (.bool true) ∧ Below w.heap.size w w' := by
  have he : ((unS k n).toList == (unS k n).toList) = true := by simp
  have he2 : ((unS k n).toList != (unS k n).toList) = false := by simp
  cases h : unOk k n
  · have HO := Lib.hid h
    clear h
    go_enter Try.func7, Try.ntmps7
    go_wp2_with fail
    refine (unrank_any _ _ _).mono ?_
    rintro e w2 ⟨rfl, hb⟩
    rw [HO.out]
    go_wp2_with fail
    refine (runrank_any _ _ _).mono ?_
    rintro e w3 ⟨rfl, hb3⟩
    rw [HO.out]
    have hb4 := hb.trans (hb3.mono hb.size)
    go_wp2_with fail
    refine (awake_any _).mono ?_
    rintro e w5 ⟨rfl, hb5⟩
    have hb6 := hb4.trans (hb5.mono hb4.size)
    go_wp2_with fail
    go_ret
    exact ⟨rfl, hb6⟩
  · have HU := Lib.hid (rk_un h)
    have HO := Lib.hid h
    clear h
    go_enter Try.func7, Try.ntmps7
    go_wp2_with fail
    refine (unrank_any _ _ _).mono ?_
    rintro e w2 ⟨rfl, hb⟩
    rw [HO.out]
    go_wp2_with fail
    refine (runrank_any _ _ _).mono ?_
    rintro e w3 ⟨rfl, hb3⟩
    rw [HO.out]
    have hb4 := hb.trans (hb3.mono hb.size)
    go_wp2_with fail
    refine (rank_any _ _ _).mono ?_
    rintro e w3 ⟨rfl, rfl⟩
    rw [HU.out.1, HU.out.2]
    go_wp2_with fail
    refine (awake_any _).mono ?_
    rintro e w5 ⟨rfl, hb5⟩
    have hb6 := hb4.trans (hb5.mono hb4.size)
    go_wp2_with fail
    go_ret
    exact ⟨rfl, hb6⟩
end Go.Proofs.Ytnhfagolmafonaa
