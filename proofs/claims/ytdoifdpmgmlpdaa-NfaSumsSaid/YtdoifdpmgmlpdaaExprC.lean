/- Contracts: validLetters, withinLimits, validKids, validLetter, wellFormed, Validate, valid. -/
import Derived.Test.YtdoifdpmgmlpdaaExprB
namespace Go.Proofs.Ytdoifdpmgmlpdaa
open Go Go.RowKit
set_option linter.unusedVariables false
theorem mayB_yes {L : Int} (h1 : 1 ≤ L) (h2 : L ≤ 6) : mayB L = true := by simp [mayB]; omega
theorem mayB_lo {L : Int} (h1 : L < 1) : mayB L = false := by simp [mayB]; omega
theorem mayB_hi {L : Int} (h1 : 6 < L) : mayB L = false := by simp [mayB]; omega
set_option maxHeartbeats 400000 in
theorem validLetters_any (L : Int) (w : World) : Calls Try.prog 87 #[.int .i64 L] w fun e w' => e = .returned (.bool (mayB L)) ∧ w = w' := by
  by_cases h1 : 1 ≤ L
  · by_cases h2 : L ≤ 6
    · have H := Lib.hid (mayB_yes h1 h2)
      go_enter Try.func87, Try.ntmps87
      go_wp2_with fail
      go_ret
      exact ⟨by rw [H.out]; rfl, rfl⟩
    · have H := Lib.hid (mayB_hi (L := L) (by omega))
      go_enter Try.func87, Try.ntmps87
      go_wp2_with fail
      go_ret
      exact ⟨by rw [H.out]; rfl, rfl⟩
  · have H := Lib.hid (mayB_lo (L := L) (by omega))
    go_enter Try.func87, Try.ntmps87
    go_wp2_with fail
    go_ret
    exact ⟨by rw [H.out]; rfl, rfl⟩
theorem spentL_within (op l : Int) (ks : List T) : (decide (0 ≤ spentL ks 400 40)) = withinB (.node op l ks) := by
  rw [spentL_node op l, withinB]
  by_cases h : sizeT (.node op l ks) ≤ 400 ∧ depthT (.node op l ks) ≤ 40
  · rw [if_pos h]; simp [h]; omega
  · rw [if_neg h]; simp [h]
set_option maxHeartbeats 400000 in
theorem within_any (op l : Int) (ks : List T) (a : Option Addr) (c : Nat) (w : World) (hin : InK w a ks) (hop : B64 op) (hl : B64 l) (hlen : ks.length ≤ 9223372036854775807) :
    Calls Try.prog 88 #[.agg #[.int .i64 op, .int .i64 l, .slice a ks.length c]] w fun e w' => e = .returned (.bool (withinB (.node op l ks))) ∧ Below w.heap.size w w' := by
  have HW := Lib.hid (spentL_within op l ks)
  have HQ := Lib.hid (fun W (h : InK W a ks) => spend_any op l ks 400 40 a c W h (by omega) (by omega) hop hl hlen)
  have HI := Lib.hid hin
  obtain ⟨n, hn⟩ : ∃ n, n = ks.length := ⟨_, rfl⟩
  obtain ⟨r, hr⟩ : ∃ r, r = spentL ks 400 40 := ⟨_, rfl⟩
  rw [← hr] at HW HQ
  rw [← hn] at HQ hlen ⊢
  clear hin hn hr
  cases hw : withinB (.node op l ks)
  · have t : decide (0 ≤ r) = false := HW.out.trans hw
    have HH := Lib.hid hw
    clear hw
    go_enter Try.func88, Try.ntmps88
    go_wp2_with fail
    refine (HQ.out _ (in_box HI.out)).mono ?_
    rintro e w2 ⟨rfl, hB⟩
    have HB2 := Lib.hid (((Below.refl _ w).alloc (Nat.le_refl _) _).trans (hB.mono (by simp)))
    clear hB
    go_wp2_with fail
    go_ret
    exact ⟨rfl, HB2.out⟩
  · have t : decide (0 ≤ r) = true := HW.out.trans hw
    have HH := Lib.hid hw
    clear hw
    go_enter Try.func88, Try.ntmps88
    go_wp2_with fail
    refine (HQ.out _ (in_box HI.out)).mono ?_
    rintro e w2 ⟨rfl, hB⟩
    have HB2 := Lib.hid (((Below.refl _ w).alloc (Nat.le_refl _) _).trans (hB.mono (by simp)))
    clear hB
    go_wp2_with fail
    go_ret
    exact ⟨rfl, HB2.out⟩

theorem op_cases (op : Int) : op = 1 ∨ op = 2 ∨ op = 3 ∨ op = 4 ∨ op = 5 ∨ op = 6 ∨ op = 7 ∨ op = 8 ∨ (op ≠ 1 ∧ op ≠ 2 ∧ op ≠ 3 ∧ op ≠ 4 ∧ op ≠ 5 ∧ op ≠ 6 ∧ op ≠ 7 ∧ op ≠ 8) := by omega
theorem ne_beq {a b : Int} (h : a ≠ b) : (a == b) = false := beq_eq_false_iff_ne.2 h
theorem eqB_cast (n m : Nat) : ((n : Int) == (m : Int)) = decide (n = m) := by
  by_cases h : n = m
  · subst h; simp
  · rw [ne_beq (by omega)]; simp [h]
theorem eq0_cast (n : Nat) : ((n : Int) == 0) = decide (n = 0) := eqB_cast n 0
theorem eq1_cast (n : Nat) : ((n : Int) == 1) = decide (n = 1) := eqB_cast n 1
theorem ge2_cast (n : Nat) : decide ((2 : Int) ≤ (n : Int)) = decide (2 ≤ n) := by
  by_cases h : 2 ≤ n
  · simp [h]; omega
  · simp [h]; omega
theorem kidsOk_0 {op : Int} (n : Nat) (h : op = 1 ∨ op = 2 ∨ op = 3) : kidsOk op n = ((n : Int) == 0) := by rw [kidsOk, if_pos h, eq0_cast]
theorem kidsOk_1 {op : Int} (n : Nat) (h : op = 7 ∨ op = 8) : kidsOk op n = ((n : Int) == 1) := by rw [kidsOk, if_neg (by omega), if_pos h, eq1_cast]
theorem kidsOk_2 {op : Int} (n : Nat) (h : op = 4 ∨ op = 5 ∨ op = 6) : kidsOk op n = decide ((2 : Int) ≤ (n : Int)) := by rw [kidsOk, if_neg (by omega), if_neg (by omega), if_pos h, ge2_cast]
theorem kidsOk_no {op : Int} (n : Nat) (h : op ≠ 1 ∧ op ≠ 2 ∧ op ≠ 3 ∧ op ≠ 4 ∧ op ≠ 5 ∧ op ≠ 6 ∧ op ≠ 7 ∧ op ≠ 8) : kidsOk op n = false := by rw [kidsOk, if_neg (by omega), if_neg (by omega), if_neg (by omega)]
set_option maxHeartbeats 1000000 in
theorem validKids_any (op : Int) (n : Nat) (w : World) (hn : n ≤ 9223372036854775807) : Calls Try.prog 96 #[.int .i64 op, .int .i64 n] w fun e w' => e = .returned (.bool (kidsOk op n)) ∧ w = w' := by
  rcases op_cases op with h | h | h | h | h | h | h | h | h
  case inr.inr.inr.inr.inr.inr.inr.inr =>
    have H := Lib.hid (kidsOk_no n h)
    obtain ⟨h1, h2, h3, h4, h5, h6, h7, h8⟩ := h
    have t1 := ne_beq h1
    have t2 := ne_beq h2
    have t3 := ne_beq h3
    have t4 := ne_beq h4
    have t5 := ne_beq h5
    have t6 := ne_beq h6
    have t7 := ne_beq h7
    have t8 := ne_beq h8
    clear h1 h2 h3 h4 h5 h6 h7 h8
    go_enter Try.func96, Try.ntmps96
    go_wp2_with fail
    go_ret
    exact ⟨by rw [H.out]; rfl, rfl⟩
  all_goals
    have H := Lib.hid (show kidsOk op n = _ from by first | exact kidsOk_0 n (by omega) | exact kidsOk_1 n (by omega) | exact kidsOk_2 n (by omega))
    subst h
    go_enter Try.func96, Try.ntmps96
    go_wp2_with fail
    go_ret
    exact ⟨by rw [H.out]; rfl, rfl⟩
theorem letOk_3 {op l L : Int} (h : op = 3) : letOk op l L = decide (0 ≤ l ∧ l < L) := by rw [letOk, if_pos h]
theorem letOk_n {op l L : Int} (h : op ≠ 3) : letOk op l L = (l == 0) := by
  rw [letOk, if_neg h]
  by_cases h : l = 0 <;> simp [h]
set_option maxHeartbeats 1000000 in
theorem validLetter_any (op l L : Int) (a : Option Addr) (n c : Nat) (w : World) :
    Calls Try.prog 97 #[.agg #[.int .i64 op, .int .i64 l, .slice a n c], .int .i64 L] w fun e w' => e = .returned (.bool (letOk op l L)) ∧ Below w.heap.size w w' := by
  by_cases h : op = 3
  · by_cases h1 : 0 ≤ l
    · by_cases h2 : l < L
      · have H := Lib.hid (show letOk op l L = true by rw [letOk_3 h]; simp [h1, h2])
        have t : (op == 3) = true := by rw [h]; rfl
        clear h
        go_enter Try.func97, Try.ntmps97
        go_wp2_with fail
        go_ret
        exact ⟨by rw [H.out]; rfl, (Below.refl _ _).alloc (Nat.le_refl _) _⟩
      · have H := Lib.hid (show letOk op l L = false by rw [letOk_3 h]; simp [h2])
        have t : (op == 3) = true := by rw [h]; rfl
        clear h
        go_enter Try.func97, Try.ntmps97
        go_wp2_with fail
        go_ret
        exact ⟨by rw [H.out]; rfl, (Below.refl _ _).alloc (Nat.le_refl _) _⟩
    · have H := Lib.hid (show letOk op l L = false by rw [letOk_3 h]; simp [h1])
      have t : (op == 3) = true := by rw [h]; rfl
      clear h
      go_enter Try.func97, Try.ntmps97
      go_wp2_with fail
      go_ret
      exact ⟨by rw [H.out]; rfl, (Below.refl _ _).alloc (Nat.le_refl _) _⟩
  · have H := Lib.hid (letOk_n (l := l) (L := L) h)
    have t := ne_beq h
    clear h
    go_enter Try.func97, Try.ntmps97
    go_wp2_with fail
    go_ret
    exact ⟨by rw [H.out]; rfl, (Below.refl _ _).alloc (Nat.le_refl _) _⟩
end Go.Proofs.Ytdoifdpmgmlpdaa
