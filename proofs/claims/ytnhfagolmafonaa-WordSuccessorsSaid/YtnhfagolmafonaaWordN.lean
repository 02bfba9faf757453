/- Contracts: word.Rank, the reference's Rank and Unrank; the walks of the laws on ranks. -/
import Derived.Test.YtnhfagolmafonaaWordC
import Derived.Test.YtnhfagolmafonaaWordRM
namespace Go.Proofs.Ytnhfagolmafonaa
open Go.RowKit Go.Sort
open WordM
set_option linter.unusedVariables false

/-- has s a rank over k letters that is not too great? -/
def rkOk (k : Int) (s : ByteArray) : Bool := wordB k s.data.toList && decide ((rkN k.toNat s.data.toList : Int) ≤ 4611686018427387904)
def rkV (k : Int) (s : ByteArray) : Int := bif rkOk k s then (rkN k.toNat s.data.toList : Int) else 0

theorem rk_no {k : Int} {s : ByteArray} (h : wordB k s.data.toList = false) : rkOk k s = false ∧ rkV k s = 0 := by
  have h1 : rkOk k s = false := by simp only [rkOk, h, Bool.false_and]
  exact ⟨h1, by simp only [rkV, h1, cond_false]⟩
theorem wordB_parts {k : Int} {s : ByteArray} (h : wordB k s.data.toList = true) : 1 ≤ k ∧ k ≤ 6 ∧ s.size ≤ 2048 ∧ s.data.toList.all (letB k) = true := by
  simp only [wordB, Bool.and_eq_true, decide_eq_true_eq] at h
  obtain ⟨⟨h1, h2⟩, h3⟩ := h
  have := mayB_iff.1 h1
  exact ⟨this.1, this.2, by simpa using h2, h3⟩

theorem strOf_append (a b : List Int) : strOfNums a ++ strOfNums b = strOfNums (a ++ b) := by
  apply ext_list
  simp [strOfNums]
theorem rk_take {κ : Nat} {s : ByteArray} {j : Nat} (hlt : j < s.size) {r : Int} (hc : 97 ≤ (s[j].toNat : Int)) (h : (rkN κ (s.data.toList.take j) : Int) = r) :
    (rkN κ (s.data.toList.take (j + 1)) : Int) = r * κ + (s[j].toNat - 97 + 1) := by
  rw [take_snoc s j hlt, rkN_snoc, ← h, Int.natCast_add, Int.natCast_mul]
  omega
theorem rk_over {κ : Nat} {s : ByteArray} {j : Nat} (hk : 1 ≤ κ) (h : 4611686018427387904 < (rkN κ (s.data.toList.take j) : Int)) : rkOk κ s = false ∧ rkV κ s = 0 := by
  have hle : rkN κ (s.data.toList.take j) ≤ rkN κ s.data.toList := by
    have := rkN_take_le hk (s.data.toList.take j) (s.data.toList.drop j)
    rwa [List.take_append_drop] at this
  have h1 : rkOk κ s = false := by
    have : ¬ (rkN κ s.data.toList : Int) ≤ 4611686018427387904 := by omega
    simp only [rkOk, Int.toNat_natCast, decide_eq_false this, Bool.and_false]
  exact ⟨h1, by simp only [rkV, h1, cond_false]⟩
theorem rk_in {κ : Nat} {s : ByteArray} {r : Int} (hw : wordB κ s.data.toList = true) (h : (rkN κ s.data.toList : Int) = r) (hr : r ≤ 4611686018427387904) : rkOk κ s = true ∧ rkV κ s = r := by
  have h1 : rkOk κ s = true := by
    have : (rkN κ s.data.toList : Int) ≤ 4611686018427387904 := by omega
    simp only [rkOk, Int.toNat_natCast, hw, decide_eq_true this, Bool.and_self]
  exact ⟨h1, by simp only [rkV, h1, cond_true, Int.toNat_natCast, h]⟩

set_option maxHeartbeats 400000 in
theorem rank_no (s : ByteArray) (k : Int) (w : World) (h : wordB k s.data.toList = false) :
    Calls Try.prog 20 #[.string s, .int .i64 k] w fun e w' => e = .returned (.tuple #[.int .i64 (rkV k s), .bool (rkOk k s)]) ∧ w = w' := by
  have HN := Lib.hid (rk_no h)
  have HW := Lib.hid h
  clear h
  go_enter Try.func20, Try.ntmps20
  go_wp2_with fail
  refine (valid_any _ _ _).mono ?_
  rintro e w2 ⟨rfl, rfl⟩
  rw [HW.out]
  go_wp2_with fail
  go_ret2
  exact ⟨by rw [HN.out.1, HN.out.2]; rfl, rfl⟩

set_option maxRecDepth 100000 in
set_option maxHeartbeats 1000000 in
theorem rank_yes (s : ByteArray) (κ : Nat) (w : World) (h : wordB κ s.data.toList = true) :
    Calls Try.prog 20 #[.string s, .int .i64 κ] w fun e w' => e = .returned (.tuple #[.int .i64 (rkV κ s), .bool (rkOk κ s)]) ∧ w = w' := by
  obtain ⟨hk1, hk2, hs, hall⟩ := wordB_parts h
  have hκ1 : 1 ≤ κ := by omega
  have HW := Lib.hid h
  have HALL := Lib.hid hall
  clear h hall
  go_enter Try.func20, Try.ntmps20
  go_wp2_with fail
  refine (valid_any _ _ _).mono ?_
  rintro e w2 ⟨rfl, rfl⟩
  rw [HW.out]
  go_wp2_with fail
  go_loop [6, 15] (fun vr vi => ∃ (j : Nat) (r : Int), vr = .int .i64 r ∧ vi = .int .i64 j ∧ j ≤ s.size ∧ 0 ≤ r ∧ r ≤ 4611686018427387904 ∧ (rkN κ (s.data.toList.take j) : Int) = r) (fun _ vi => s.size - (intOf vi).toNat)
  case atStart => exact ⟨0, 0, rfl, rfl, Nat.zero_le _, by omega, by omega, by simp [rkN, rkFrom]⟩
  case round =>
    obtain ⟨j, r, rfl, rfl, hj, hr0, hr1, hrk⟩ := hrel
    have HR := Lib.hid hrk
    clear hrk
    by_cases hlt : j < s.size
    · have hc := let_iff.1 (List.all_eq_true.1 HALL.out s[j] (by simp; exact Array.getElem_mem _))
      have hc1 : 97 ≤ (s[j].toNat : Int) := by omega
      have hc2 : (s[j].toNat : Int) < 103 := by omega
      have hws := w8sub hc1
      clear hc
      have hst := rk_take hlt hc1 HR.out
      by_cases hq : (4611686018427387904 - ((s[j].toNat : Int) - 97 + 1)) / (κ : Int) < r
      · have HO := Lib.hid (rk_over (s := s) (j := j + 1) hκ1 (by
          rw [hst]; have := Int.lt_mul_of_ediv_lt (show (0 : Int) < κ by omega) hq; omega))
        clear hst
        go_wp2_with fail
        go_ret2
        exact ⟨by rw [HO.out.1, HO.out.2]; rfl, rfl⟩
      · have hm : r * (κ : Int) ≤ 4611686018427387904 - ((s[j].toNat : Int) - 97 + 1) := (Int.le_ediv_iff_mul_le (show (0 : Int) < κ by omega)).1 (by omega)
        have hm0 : 0 ≤ r * (κ : Int) := Int.mul_nonneg hr0 (by omega)
        have HST := Lib.hid hst
        clear hst
        go_wp2_with fail
        exact ⟨⟨j + 1, _, rfl, by go_num, by omega, by omega, by omega, HST.out⟩, by simp [intOf]; omega⟩
    · have HF := Lib.hid (rk_in HW.out (by rw [← HR.out, take_all s j (by omega)]) hr1)
      go_wp2_with fail
      go_ret2
      exact ⟨by rw [HF.out.1, HF.out.2]; rfl, rfl⟩

/-- word.Rank -/
theorem rank_any (s : ByteArray) (k : Int) (w : World) :
    Calls Try.prog 20 #[.string s, .int .i64 k] w fun e w' => e = .returned (.tuple #[.int .i64 (rkV k s), .bool (rkOk k s)]) ∧ w = w' := by
  cases h : wordB k s.data.toList
  · exact rank_no s k w h
  · have hk := (wordB_parts h).1
    obtain ⟨κ, rfl⟩ := Int.eq_ofNat_of_zero_le (show 0 ≤ k by omega)
    exact rank_yes s κ w h

set_option maxHeartbeats 400000 in
theorem rrank_no (s : ByteArray) (k : Int) (w : World) (h : wordB k s.data.toList = false) :
    Calls Try.prog 21 #[.string s, .int .i64 k] w fun e w' => e = .returned (.tuple #[.int .i64 (rkV k s), .bool (rkOk k s)]) ∧ w = w' := by
  have HN := Lib.hid (rk_no h)
  have HW := Lib.hid h
  clear h
  go_enter Try.func21, Try.ntmps21
  go_wp2_with fail
  refine (rvalid_any _ _ _).mono ?_
  rintro e w2 ⟨rfl, rfl⟩
  rw [HW.out]
  go_wp2_with fail
  go_ret2
  exact ⟨by rw [HN.out.1, HN.out.2]; rfl, rfl⟩

set_option maxRecDepth 100000 in
set_option maxHeartbeats 1000000 in
theorem rrank_yes (s : ByteArray) (κ : Nat) (w : World) (h : wordB κ s.data.toList = true) :
    Calls Try.prog 21 #[.string s, .int .i64 κ] w fun e w' => e = .returned (.tuple #[.int .i64 (rkV κ s), .bool (rkOk κ s)]) ∧ w = w' := by
  obtain ⟨hk1, hk2, hs, hall⟩ := wordB_parts h
  have hκ1 : 1 ≤ κ := by omega
  have HW := Lib.hid h
  have HALL := Lib.hid hall
  clear h hall
  go_enter Try.func21, Try.ntmps21
  go_wp2_with fail
  refine (rvalid_any _ _ _).mono ?_
  rintro e w2 ⟨rfl, rfl⟩
  rw [HW.out]
  go_wp2_with fail
  go_loop [6, 7] (fun vr vi => ∃ (j : Nat) (r : Int), vr = .int .i64 r ∧ vi = .int .i64 j ∧ j ≤ s.size ∧ 0 ≤ r ∧ r ≤ 4611686018427387904 ∧ (rkN κ (s.data.toList.take j) : Int) = r) (fun _ vi => s.size - (intOf vi).toNat)
  case atStart => exact ⟨0, 0, rfl, rfl, Nat.zero_le _, by omega, by omega, by simp [rkN, rkFrom]⟩
  case round =>
    obtain ⟨j, r, rfl, rfl, hj, hr0, hr1, hrk⟩ := hrel
    have HR := Lib.hid hrk
    clear hrk
    by_cases hlt : j < s.size
    · have hc := let_iff.1 (List.all_eq_true.1 HALL.out s[j] (by simp; exact Array.getElem_mem _))
      have hc1 : 97 ≤ (s[j].toNat : Int) := by omega
      have hc2 : (s[j].toNat : Int) < 103 := by omega
      have hws := w8sub hc1
      clear hc
      have hst := rk_take hlt hc1 HR.out
      by_cases hq : (4611686018427387904 - ((s[j].toNat : Int) - 97 + 1)) / (κ : Int) < r
      · have HO := Lib.hid (rk_over (s := s) (j := j + 1) hκ1 (by
          rw [hst]; have := Int.lt_mul_of_ediv_lt (show (0 : Int) < κ by omega) hq; omega))
        clear hst
        go_wp2_with fail
        go_ret2
        exact ⟨by rw [HO.out.1, HO.out.2]; rfl, rfl⟩
      · have hm : r * (κ : Int) ≤ 4611686018427387904 - ((s[j].toNat : Int) - 97 + 1) := (Int.le_ediv_iff_mul_le (show (0 : Int) < κ by omega)).1 (by omega)
        have hm0 : 0 ≤ r * (κ : Int) := Int.mul_nonneg hr0 (by omega)
        have HST := Lib.hid hst
        clear hst
        go_wp2_with fail
        exact ⟨⟨j + 1, _, rfl, by go_num, by omega, by omega, by omega, HST.out⟩, by simp [intOf]; omega⟩
    · have HF := Lib.hid (rk_in HW.out (by rw [← HR.out, take_all s j (by omega)]) hr1)
      go_wp2_with fail
      go_ret2
      exact ⟨by rw [HF.out.1, HF.out.2]; rfl, rfl⟩

/-- the reference's Rank -/
theorem rrank_any (s : ByteArray) (k : Int) (w : World) :
    Calls Try.prog 21 #[.string s, .int .i64 k] w fun e w' => e = .returned (.tuple #[.int .i64 (rkV k s), .bool (rkOk k s)]) ∧ w = w' := by
  cases h : wordB k s.data.toList
  · exact rrank_no s k w h
  · have hk := (wordB_parts h).1
    obtain ⟨κ, rfl⟩ := Int.eq_ofNat_of_zero_le (show 0 ≤ k by omega)
    exact rrank_yes s κ w h


set_option maxHeartbeats 400000 in
theorem runrank_bad (n k : Int) (w : World) (hm : mayB k = false ∨ n < 0 ∨ 4611686018427387904 < n ∨ (k = 1 ∧ 2048 < n)) :
    Calls Try.prog 23 #[.int .i64 n, .int .i64 k] w fun e w' => e = .returned (.tuple #[.string ⟨#[]⟩, .bool false]) ∧ w = w' := by
  cases hk : mayB k
  · have HK := Lib.hid hk
    clear hk hm
    go_enter Try.func23, Try.ntmps23
    go_wp2_with (go_at_call 40; refine (mayLetters_any _ _).mono ?_; rintro e w' ⟨rfl, rfl⟩; rw [HK.out])
    go_ret2
    exact ⟨rfl, rfl⟩
  · have HK := Lib.hid hk
    have hm' : n < 0 ∨ 4611686018427387904 < n ∨ (k = 1 ∧ 2048 < n) := by rcases hm with h | h; (rw [hk] at h; cases h); exact h
    clear hk hm
    by_cases h0 : n < 0
    · go_enter Try.func23, Try.ntmps23
      go_wp2_with (go_at_call 40; refine (mayLetters_any _ _).mono ?_; rintro e w' ⟨rfl, rfl⟩; rw [HK.out])
      go_ret2
      exact ⟨rfl, rfl⟩
    · by_cases h1 : 4611686018427387904 < n
      · clear hm'
        go_enter Try.func23, Try.ntmps23
        go_wp2_with (go_at_call 40; refine (mayLetters_any _ _).mono ?_; rintro e w' ⟨rfl, rfl⟩; rw [HK.out])
        go_ret2
        exact ⟨rfl, rfl⟩
      · obtain ⟨rfl, h2⟩ : k = 1 ∧ 2048 < n := by omega
        clear hm'
        go_enter Try.func23, Try.ntmps23
        go_wp2_with (go_at_call 40; refine (mayLetters_any _ _).mono ?_; rintro e w' ⟨rfl, rfl⟩; rw [HK.out])
        go_ret2
        exact ⟨rfl, rfl⟩

set_option maxRecDepth 100000 in
set_option maxHeartbeats 1000000 in
theorem runrank_one (n : Int) (w : World) (hn0 : 0 ≤ n) (hn : n ≤ 4611686018427387904) (hn2 : n ≤ 2048) :
    Calls Try.prog 23 #[.int .i64 n, .int .i64 1] w fun e w' => e = .returned (.tuple #[.string (urS 1 n.toNat), .bool (urB 1 n.toNat)]) ∧ Below w.heap.size w w' := by
  have HK := Lib.hid (mayB_true (k := 1) (by omega) (by omega))
  have hub : urB 1 n.toNat = true := by rw [urB_one]; simp only [decide_eq_true_eq]; omega
  have HLEN := Lib.hid (show (digs 1 n.toNat).length ≤ 2048 by simpa [urB] using hub)
  clear hub
  go_enter Try.func23, Try.ntmps23
  go_wp2_with (go_at_call 40; refine (mayLetters_any _ _).mono ?_; rintro e w' ⟨rfl, rfl⟩; rw [HK.out])
  go_loopw [0, 6] (fun vn v wr => ∃ (m : Int) (xs : List Int), vn = .int .i64 m ∧ 0 ≤ m ∧ m ≤ 4611686018427387904 ∧ v = .string (strOfNums xs.reverse) ∧ xs ++ digs 1 m.toNat = digs 1 n.toNat ∧ Below w.heap.size w wr) (fun vn _ _ => (intOf vn).toNat)
  case atStart => exact ⟨n, [], rfl, hn0, hn, rfl, rfl, Below.refl _ _⟩
  case round =>
    obtain ⟨m, xs, rfl, hm0, hm, rfl, hdig, hb⟩ := hrel
    have hxl : xs.length ≤ 2048 := by
      have h1 := HLEN.out
      rw [← hdig, List.length_append] at h1; omega
    have HD := Lib.hid hdig
    clear hdig
    by_cases h0 : 0 < m
    · have hz1 : (strOfNums xs.reverse).size = xs.length := by rw [strOfNums_size]; simp
      have hz2 : (strOfNums [97]).size = 1 := by rw [strOfNums_size]; rfl
      have hcv := run_convert_bytes_arg (P := Try.prog) (wr.alloc (.cells #[.int .u8 (97)] 5)) 47 5 Try.underlying47 Try.underlying5 wr.heap.size 0 1 1 [97] rfl (fun i hi => by
        obtain rfl : i = 0 := by omega
        simp) 9 Try.underlying9
      go_wp2_with fail
      refine ⟨⟨m - 1, xs ++ [97], rfl, by omega, by omega, by rw [List.reverse_append, ← strOf_append]; rfl, ?_, hb.alloc hb.size _⟩, by simp [intOf]; omega⟩
      rw [← HD.out, List.append_assoc, digs_step m 1 h0]
      simp [Int.emod_one]
    · obtain rfl : m = 0 := by omega
      go_wp2_with fail
      go_ret2
      obtain ⟨e1, e2⟩ := ur_short (by rw [← HD.out]; simp [digs_zero]) hxl
      exact ⟨by rw [e1, e2]; rfl, hb⟩

set_option maxRecDepth 100000 in
set_option maxHeartbeats 1000000 in
theorem runrank_ok (n : Int) (κ : Nat) (w : World) (hk1 : 1 ≤ κ) (hk2 : κ ≤ 6) (hn0 : 0 ≤ n) (hn : n ≤ 4611686018427387904) (hkk : κ ≠ 1) :
    Calls Try.prog 23 #[.int .i64 n, .int .i64 κ] w fun e w' => e = .returned (.tuple #[.string (urS κ n.toNat), .bool (urB κ n.toNat)]) ∧ Below w.heap.size w w' := by
  have HK := Lib.hid (mayB_true (k := κ) (by omega) (by omega))
  have hub : urB κ n.toNat = true := urB_small (by omega) (by omega)
  have HLEN := Lib.hid (show (digs κ n.toNat).length ≤ 2048 by simpa [urB] using hub)
  clear hub
  have hkb : ((κ : Int) == 1) = false := by rw [beq_eq_false_iff_ne]; omega
  go_enter Try.func23, Try.ntmps23
  go_wp2_with (go_at_call 40; refine (mayLetters_any _ _).mono ?_; rintro e w' ⟨rfl, rfl⟩; rw [HK.out])
  go_loopw [0, 6] (fun vn v wr => ∃ (m : Int) (xs : List Int), vn = .int .i64 m ∧ 0 ≤ m ∧ m ≤ 4611686018427387904 ∧ v = .string (strOfNums xs.reverse) ∧ xs ++ digs κ m.toNat = digs κ n.toNat ∧ Below w.heap.size w wr) (fun vn _ _ => (intOf vn).toNat)
  case atStart => exact ⟨n, [], rfl, hn0, hn, rfl, rfl, Below.refl _ _⟩
  case round =>
    obtain ⟨m, xs, rfl, hm0, hm, rfl, hdig, hb⟩ := hrel
    have hxl : xs.length ≤ 2048 := by
      have h1 := HLEN.out
      rw [← hdig, List.length_append] at h1; omega
    have HD := Lib.hid hdig
    clear hdig
    have hkp : (0 : Int) < (κ : Int) := by omega
    have hr0 : 0 ≤ (m - 1) % (κ : Int) := Int.emod_nonneg _ (by omega)
    have hr1 : (m - 1) % (κ : Int) < 6 := Int.lt_of_lt_of_le (Int.emod_lt_of_pos _ hkp) (by omega)
    have hr3 : (97 + (m - 1) % (κ : Int)) % 256 = 97 + (m - 1) % (κ : Int) := by omega
    by_cases h0 : 0 < m
    · have hz1 : (strOfNums xs.reverse).size = xs.length := by rw [strOfNums_size]; simp
      have hz2 : (strOfNums [97 + (m - 1) % (κ : Int)]).size = 1 := by rw [strOfNums_size]; rfl
      have hq0 : 0 ≤ (m - 1) / (κ : Int) := Int.ediv_nonneg (by omega) (by omega)
      have hq1 : (m - 1) / (κ : Int) ≤ m - 1 := Int.ediv_le_self _ (by omega)
      have hcv := run_convert_bytes_arg (P := Try.prog) (wr.alloc (.cells #[.int .u8 (97 + (m - 1) % (κ : Int))] 5)) 47 5 Try.underlying47 Try.underlying5 wr.heap.size 0 1 1 [97 + (m - 1) % (κ : Int)] rfl (fun i hi => by
        obtain rfl : i = 0 := by omega
        simp) 9 Try.underlying9
      go_wp2_with fail
      refine ⟨⟨(m - 1) / κ, xs ++ [97 + (m - 1) % (κ : Int)], rfl, hq0, by omega, by rw [List.reverse_append, ← strOf_append]; rfl, ?_, hb.alloc hb.size _⟩, by simp [intOf]; omega⟩
      rw [← HD.out, List.append_assoc, digs_step m κ h0]
      rfl
    · obtain rfl : m = 0 := by omega
      go_wp2_with fail
      go_ret2
      obtain ⟨e1, e2⟩ := ur_short (by rw [← HD.out]; simp [digs_zero]) hxl
      exact ⟨by rw [e1, e2]; rfl, hb⟩
end Go.Proofs.Ytnhfagolmafonaa
