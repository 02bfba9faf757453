/- The contract of the statements' 'cut'; the walk of the law on occurrences. -/
import Derived.Test.YtnhfagolmafonabWordQ
import Derived.Lib.Strings
namespace Go.Proofs.Ytnhfagolmafonab
open Go.RowKit Go.Sort
open WordM
set_option linter.unusedVariables false

/-- at most the first n bytes of s -/
def cutS (s : ByteArray) (n : Nat) : ByteArray := s.extract 0 (min s.size n)
theorem cutS_size (s : ByteArray) (n : Nat) : (cutS s n).size = min s.size n := by
  simp [cutS]
theorem cutS_le (s : ByteArray) (n : Nat) : (cutS s n).size ≤ n := by rw [cutS_size]; omega

set_option maxHeartbeats 400000 in
theorem cut_any (s : ByteArray) (n : Int) (w : World) (h0 : 0 ≤ n) (h1 : n ≤ 4096) :
    Calls Try.prog 10 #[.string s, .int .i64 n] w fun e w' => e = .returned (.string (cutS s n.toNat)) ∧ w = w' := by
  by_cases h : (s.size : Int) ≤ n
  · have HC := Lib.hid (show cutS s n.toNat = s by rw [cutS, show min s.size n.toNat = s.size by omega]; simp)
    have hm : min (s.size : Int) n = (s.size : Int) := by omega
    have hb : (0 : Int) ≤ (s.size : Int) := by omega
    go_enter Try.func10, Try.ntmps10
    go_wp2_with fail
    go_ret
    refine ⟨by rw [HC.out]; rfl, rfl⟩
  · have HC := Lib.hid (show cutS s n.toNat = s.extract 0 n.toNat by rw [cutS, show min s.size n.toNat = n.toNat by omega])
    have hm : min (s.size : Int) n = n := by omega
    have hb : n ≤ (s.size : Int) := by omega
    go_enter Try.func10, Try.ntmps10
    go_wp2_with fail
    go_ret
    refine ⟨by rw [HC.out]; rfl, rfl⟩

set_option maxHeartbeats 400000 in
theorem wWordOccurrences (u : ByteArray) (hu : u.size ≤ maxLen) (v : ByteArray) (hv : v.size ≤ maxLen) (m : Int) (_ : (Lit.int .i64 m).wf = true) (w : World) :
    Calls Try.prog 5 #[.string u, .string v, .int .i64 m] w fun e w' => e = .returned (.bool true) ∧ Below w.heap.size w w' := by
  have c1 := cutS_le u 50
  have c2 := cutS_le v 200
  have c3 : (cutS v 200).size ≤ maxLen := by unfold maxLen; omega
  go_enter Try.func5, Try.ntmps5
  go_wp2_with fail
  refine (cut_any _ _ _ (by omega) (by omega)).mono ?_
  rintro e w2 ⟨rfl, rfl⟩
  go_wp2_with fail
  refine (cut_any _ _ _ (by omega) (by omega)).mono ?_
  rintro e w2 ⟨rfl, rfl⟩
  go_wp2_with fail
  refine (occ_any _ _ _ _ (show (cutS u 50).size ≤ 4096 by omega) c3).mono ?_
  rintro e w2 ⟨rfl, hb⟩
  go_wp2_with fail
  refine (rocc_any _ _ _ _ (show (cutS u 50).size ≤ 4096 by omega) c3).mono ?_
  rintro e w3 ⟨rfl, hb3⟩
  have hb4 := hb.trans (hb3.mono hb.size)
  go_wp2_with fail
  refine (awake_any _).mono ?_
  rintro e w5 ⟨rfl, hb5⟩
  have hb6 := hb4.trans (hb5.mono hb4.size)
  go_wp2_with fail
  go_ret
  exact ⟨rfl, hb6⟩
end Go.Proofs.Ytnhfagolmafonab
