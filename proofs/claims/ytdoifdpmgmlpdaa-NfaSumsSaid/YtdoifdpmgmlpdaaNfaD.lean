/- Contracts: Validate, valid. -/
import Derived.Test.YtdoifdpmgmlpdaaNfaC
namespace Go.Proofs.Ytdoifdpmgmlpdaa
open Go Go.RowKit
open Go.Proofs.Ytdoifdpmgmlpdaa.rel (u_or or_u div_zero_iff ret_b ret_u pow_lt64 pow_le64)
set_option linter.unusedVariables false
theorem errN_head {L S : Int} {st fi : Nat} {es : List Ed} (h : hdB L S = false) : errN L S st fi es = 1 := by simp [errN, h]
theorem errN_set {L S : Int} {st fi : Nat} {es : List Ed} (h : hdB L S = true) (h2 : setB S st fi = false) : errN L S st fi es = 4 := by simp [errN, h, h2]
theorem errN_edge {L S : Int} {st fi : Nat} {es : List Ed} (h : hdB L S = true) (h2 : setB S st fi = true) (h3 : edB L S es = false) : errN L S st fi es = 4 := by simp [errN, h, h2, h3]
theorem errN_good {L S : Int} {st fi : Nat} {es : List Ed} (h : hdB L S = true) (h2 : setB S st fi = true) (h3 : edB L S es = true) : errN L S st fi es = 0 := by simp [errN, h, h2, h3]
theorem hdB_cases {L S : Int} (h : hdB L S = false) : L < 1 ∨ (1 ≤ L ∧ 6 < L) ∨ (1 ≤ L ∧ L ≤ 6 ∧ S < 0) ∨ (1 ≤ L ∧ L ≤ 6 ∧ 0 ≤ S ∧ 64 < S) := by
  rw [← Bool.not_eq_true, hdB, decide_eq_true_iff] at h; omega
theorem setB_shr {n st fi : Nat} : (((st ||| fi : Nat) : Int) / 2 ^ n == 0) = setB (n : Int) st fi := by
  have e : (((st ||| fi : Nat) : Int) / 2 ^ n) = ((((st ||| fi) / 2 ^ n : Nat)) : Int) := by simp
  rw [e, Bool.eq_iff_iff, beq_iff_eq, setB, decide_eq_true_iff, Int.toNat_natCast]
  have h1 : (((st ||| fi) / 2 ^ n : Nat) : Int) = 0 ↔ (st ||| fi) / 2 ^ n = 0 := by omega
  rw [h1, div_zero_iff]
  constructor
  · intro h; exact ⟨Nat.lt_of_le_of_lt Nat.left_le_or h, Nat.lt_of_le_of_lt Nat.right_le_or h⟩
  · rintro ⟨h1, h2⟩; exact Nat.or_lt_two_pow h1 h2
set_option maxRecDepth 100000 in
set_option maxHeartbeats 2000000 in
theorem nvalidate_any (L S : Int) (st fi : Nat) (es : List Ed) (a : Option Addr) (c : Nat) (w : World) (hin : InN w L S st fi a es) :
    Calls Try.prog 9 #[.agg #[.int .i64 L, .int .i64 S, .int .u64 st, .int .u64 fi, .slice a es.length c]] w fun e w' => e = .returned (.int .i64 (errN L S st fi es)) ∧ Below w.heap.size w w' := by
  have HI := Lib.hid hin
  have HQ := Lib.hid (fun W (h : InN W L S st fi a es) => validEdges_any L S st fi es a c W h)
  obtain ⟨n, hn⟩ : ∃ n, n = es.length := ⟨_, rfl⟩
  rw [← hn] at HQ ⊢
  clear hn
  have HB0 := Lib.hid ((Below.refl w.heap.size w).alloc (Nat.le_refl _) (.cells #[.int .i64 L, .int .i64 S, .int .u64 st, .int .u64 fi, .slice a n c] 25))
  have HI0 := Lib.hid (HI.out.box (.cells #[.int .i64 L, .int .i64 S, .int .u64 st, .int .u64 fi, .slice a n c] 25))
  cases h1 : hdB L S
  · have HF := Lib.hid (errN_head (st := st) (fi := fi) (es := es) h1)
    have hc := hdB_cases h1
    clear h1 hin HQ
    rcases hc with h | ⟨h, h2⟩ | ⟨h, h2, h3⟩ | ⟨h, h2, h3, h4⟩
    all_goals
      go_enter Try.func9, Try.ntmps9
      go_wp2_with fail
      go_ret
      exact ⟨by rw [HF.out]; rfl, HB0.out⟩
  obtain ⟨sn, rfl⟩ : ∃ m : Nat, S = (m : Int) := ⟨S.toNat, by rw [hdB, decide_eq_true_iff] at h1; omega⟩
  obtain ⟨b1, b2, b3, b4⟩ := by rw [hdB, decide_eq_true_iff] at h1; exact h1
  have hor := u_or hin.2.2.2.1 hin.2.2.2.2.1
  have hz := @setB_shr sn st fi
  have hxu := or_u hin.2.2.2.1 hin.2.2.2.2.1
  obtain ⟨x, hx⟩ : ∃ x, x = st ||| fi := ⟨_, rfl⟩
  rw [← hx] at hor hz hxu
  clear hx hin
  have H1 := Lib.hid h1
  clear h1
  cases h2 : setB (sn : Int) st fi
  · have HF := Lib.hid (errN_set (es := es) H1.out h2)
    rw [h2] at hz
    have hz2 : ((x : Int) / 2 ^ sn != 0) = true := by rw [bne, hz]; rfl
    clear h2 HQ
    go_enter Try.func9, Try.ntmps9
    go_wp2_with fail
    go_ret
    exact ⟨by rw [HF.out]; rfl, HB0.out⟩
  rw [h2] at hz
  have hz2 : ((x : Int) / 2 ^ sn != 0) = false := by rw [bne, hz]; rfl
  cases h3 : edB L (sn : Int) es
  · have HF := Lib.hid (errN_edge H1.out h2 h3)
    have H3 := Lib.hid h3
    clear h2 h3
    go_enter Try.func9, Try.ntmps9
    go_wp2_with fail
    refine (HQ.out _ HI0.out).mono ?_
    rintro e w2 ⟨rfl, hB⟩
    rw [H3.out]
    have HB2 := Lib.hid (HB0.out.trans (hB.mono (by simp)))
    clear hB
    go_wp2_with fail
    go_ret
    exact ⟨by rw [HF.out]; rfl, HB2.out⟩
  · have HF := Lib.hid (errN_good H1.out h2 h3)
    have H3 := Lib.hid h3
    clear h2 h3
    go_enter Try.func9, Try.ntmps9
    go_wp2_with fail
    refine (HQ.out _ HI0.out).mono ?_
    rintro e w2 ⟨rfl, hB⟩
    rw [H3.out]
    have HB2 := Lib.hid (HB0.out.trans (hB.mono (by simp)))
    clear hB
    go_wp2_with fail
    go_ret
    exact ⟨by rw [HF.out]; rfl, HB2.out⟩
theorem errN_eq0 (L S : Int) (st fi : Nat) (es : List Ed) : (errN L S st fi es == 0) = valN L S st fi es := by
  rw [Bool.eq_iff_iff, beq_iff_eq]; exact errN_ok
set_option maxHeartbeats 1000000 in
theorem nvalid_any (L S : Int) (st fi : Nat) (es : List Ed) (a : Option Addr) (c : Nat) (w : World) (hin : InN w L S st fi a es) :
    Calls Try.prog 35 #[.agg #[.int .i64 L, .int .i64 S, .int .u64 st, .int .u64 fi, .slice a es.length c]] w fun e w' => e = .returned (.bool (valN L S st fi es)) ∧ Below w.heap.size w w' := by
  have HI := Lib.hid hin
  have HQ := Lib.hid (fun W (h : InN W L S st fi a es) => nvalidate_any L S st fi es a c W h)
  have HE := Lib.hid (errN_eq0 L S st fi es)
  clear hin
  obtain ⟨n, hn⟩ : ∃ n, n = es.length := ⟨_, rfl⟩
  obtain ⟨r, hr⟩ : ∃ r, r = errN L S st fi es := ⟨_, rfl⟩
  rw [← hr] at HE HQ
  rw [← hn] at HQ ⊢
  clear hn hr
  have HB0 := Lib.hid ((Below.refl w.heap.size w).alloc (Nat.le_refl _) (.cells #[.int .i64 L, .int .i64 S, .int .u64 st, .int .u64 fi, .slice a n c] 25))
  have HI0 := Lib.hid (HI.out.box (.cells #[.int .i64 L, .int .i64 S, .int .u64 st, .int .u64 fi, .slice a n c] 25))
  go_enter Try.func35, Try.ntmps35
  go_wp2_with fail
  refine (HQ.out _ HI0.out).mono ?_
  rintro e w2 ⟨rfl, hB⟩
  have HB2 := Lib.hid (HB0.out.trans (hB.mono (by simp)))
  clear hB
  go_wp2_with fail
  go_ret
  exact ⟨by rw [← HE.out]; rfl, HB2.out⟩
end Go.Proofs.Ytdoifdpmgmlpdaa
