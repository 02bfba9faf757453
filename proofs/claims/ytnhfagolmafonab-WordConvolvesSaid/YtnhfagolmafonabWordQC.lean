/- The walk of the law on occurrences in a concatenation. -/
import Derived.Test.YtnhfagolmafonabWordQ
import Derived.Lib.QuietBelow
import Derived.Deep.DeepCutAuto
namespace Go.Proofs.Ytnhfagolmafonab
open Go.RowKit Go.Sort
open WordM
set_option linter.unusedVariables false

/-- the sum of the products over the first n ways to cut u in two -/
def convN (u v w : List UInt8) : Nat → Nat
  | 0 => 0
  | n + 1 => convN u v w n + occ (u.take n) v * occ (u.drop n) w
theorem convN_none (u v : List UInt8) : ∀ n, n ≤ u.length → convN u v [] n = 0
  | 0, _ => rfl
  | n + 1, h => by
    have h1 := convN_none u v n (by omega)
    have h2 : occ (u.drop n) [] = 0 := occ_long (by rw [List.length_drop]; simp; omega)
    simp [convN, h1, h2]
theorem convN_snoc (u v w : List UInt8) (a b : UInt8) : ∀ n, n ≤ u.length + 1 → convN (u ++ [a]) v (w ++ [b]) n = convN (u ++ [a]) v w n + if a = b then convN u v w n else 0
  | 0, _ => by simp [convN]
  | n + 1, h => by
    have ih := convN_snoc u v w a b n (by omega)
    have h1 : (u ++ [a]).take n = u.take n := List.take_append_of_le_length (by omega)
    have h2 : (u ++ [a]).drop n = u.drop n ++ [a] := List.drop_append_of_le_length (by omega)
    simp only [convN, ih, h1, h2, occ_snoc]
    by_cases e : a = b
    · simp only [e, ↓reduceIte, Nat.mul_add]; omega
    · simp only [if_neg e, Nat.add_zero]
/-- the occurrences in a concatenation -/
theorem occ_conv (u v w : List UInt8) : occ u (v ++ w) = convN u v w (u.length + 1) := by
  generalize hn : w.length = n
  induction n generalizing u w with
  | zero =>
    obtain rfl : w = [] := List.length_eq_zero_iff.1 hn
    rw [convN, convN_none u v _ (Nat.le_refl _), List.append_nil, List.take_length, List.drop_length, occ_nil]; omega
  | succ n ih =>
    have hne : w ≠ [] := by intro e; subst e; simp at hn
    have hl : w.dropLast ++ [w.getLast hne] = w := List.dropLast_concat_getLast hne
    generalize w.dropLast = w' at hl
    generalize w.getLast hne = b at hl
    subst hl
    have hw' : w'.length = n := by simpa using hn
    by_cases hu : u = []
    · subst hu
      simp [convN, occ_nil]
    · have hl : u.dropLast ++ [u.getLast hu] = u := List.dropLast_concat_getLast hu
      generalize u.dropLast = u' at hl
      generalize u.getLast hu = a at hl
      subst hl
      have key := convN_snoc u' v w' a b (u'.length + 1) (Nat.le_refl _)
      have r1 : ∀ x : List UInt8, convN (u' ++ [a]) v x (u'.length + 1 + 1) = convN (u' ++ [a]) v x (u'.length + 1) + occ (u' ++ [a]) v := fun x => by
        show convN (u' ++ [a]) v x (u'.length + 1) + occ ((u' ++ [a]).take (u'.length + 1)) v * occ ((u' ++ [a]).drop (u'.length + 1)) x = _
        rw [List.take_of_length_le (by simp), List.drop_eq_nil_of_le (by simp), occ_nil, Nat.mul_one]
      rw [← List.append_assoc, occ_snoc, ih (u' ++ [a]) w' hw', ih u' w' hw', List.length_append, List.length_singleton, r1, r1, key]
      omega

theorem occ_all' (m : Int) (u v : ByteArray) : occF m u v u.size v.size = (occ u.data.toList v.data.toList : Int) % m := by
  rw [occF, take_all u _ (Nat.le_refl _), take_all v _ (Nat.le_refl _)]

/-- the sum modulo m, in the program's steps -/
def convZ (m : Int) (u v w : ByteArray) : Nat → Int
  | 0 => 0
  | n + 1 => (convZ m u v w n + occZ m (u.extract 0 n) v * occZ m (u.extract n u.size) w) % m
theorem convZ_eq {m : Int} (hm : 1 ≤ m ∧ m ≤ 2147483648) (u v w : ByteArray) : ∀ n, n ≤ u.size + 1 → convZ m u v w n = (convN u.data.toList v.data.toList w.data.toList n : Int) % m
  | 0, _ => by simp [convZ, convN]
  | n + 1, h => by
    have ih := convZ_eq hm u v w n (by omega)
    have e1 : (u.extract 0 n).data.toList = u.data.toList.take n := by
      rw [ByteArray.data_extract, Array.toList_extract, List.extract_eq_take_drop, List.drop_zero, Nat.sub_zero]
    have e2 : (u.extract n u.size).data.toList = u.data.toList.drop n := by
      rw [ByteArray.data_extract, Array.toList_extract, List.extract_eq_take_drop, List.take_of_length_le (by rw [List.length_drop]; exact Nat.le_refl _)]
    simp only [convZ, ih, occZ, if_pos hm, occ_all', e1, e2, convN, Int.natCast_add, Int.natCast_mul]
    rw [Int.add_emod, Int.emod_emod_of_dvd _ (Int.dvd_refl m), ← Int.mul_emod, ← Int.add_emod]

theorem convZ_range {m : Int} (hm : 1 ≤ m) (u v x : ByteArray) : ∀ n, 0 ≤ convZ m u v x n ∧ convZ m u v x n < m
  | 0 => by simp only [convZ]; omega
  | n + 1 => ⟨Int.emod_nonneg _ (by omega), Int.emod_lt_of_pos _ (by omega)⟩
theorem occZ_range' {m : Int} (hm : 1 ≤ m) (u v : ByteArray) : 0 ≤ occZ m u v ∧ occZ m u v < m := by
  unfold occZ
  by_cases h : 1 ≤ m ∧ m ≤ 2147483648
  · rw [if_pos h]; exact occF_range hm u v _ _
  · rw [if_neg h]; omega
theorem occZ_conv {m : Int} (hm : 1 ≤ m ∧ m ≤ 2147483648) (u v x : ByteArray) : occZ m u (v ++ x) = convZ m u v x (u.size + 1) := by
  have h : (v ++ x).data.toList = v.data.toList ++ x.data.toList := by simp
  have hu : u.data.toList.length = u.size := by simp
  rw [convZ_eq hm u v x _ (Nat.le_refl _), occZ, if_pos hm, occ_all', h, occ_conv, hu]

set_option maxRecDepth 100000 in
set_option maxHeartbeats 2000000 in
theorem wWordConvolves (u0 : ByteArray) (hu0 : u0.size ≤ maxLen) (v0 : ByteArray) (hv0 : v0.size ≤ maxLen) (x0 : ByteArray) (hx0 : x0.size ≤ maxLen) (m : Int) (_ : (Lit.int .i64 m).wf = true) (w : World) :
    Calls Try.prog 7 #[.string u0, .string v0, .string x0, .int .i64 m] w fun e w' => e = .returned (.bool true) ∧ Below w.heap.size w w' := by
  have c1 := cutS_le u0 12
  have c2 := cutS_le v0 60
  have c3 := cutS_le x0 60
  by_cases hm : 1 ≤ m ∧ m ≤ 2147483648
  · have HM := Lib.hid hm
    obtain ⟨m1, m2⟩ := hm
    go_enter Try.func7, Try.ntmps7
    go_wp2_with fail
    refine (cut_any _ _ _ (by omega) (by omega)).mono ?_
    rintro e w2 ⟨rfl, rfl⟩
    go_wp2_with fail
    refine (cut_any _ _ _ (by omega) (by omega)).mono ?_
    rintro e w2 ⟨rfl, rfl⟩
    go_wp2_with fail
    refine (cut_any _ _ _ (by omega) (by omega)).mono ?_
    rintro e w2 ⟨rfl, rfl⟩
    rw [show (60 : Int).toNat = 60 from rfl]
    generalize cutS u0 12 = u at *
    generalize cutS v0 60 = v at *
    generalize cutS x0 60 = x at *
    have HZV := Lib.hid (show v.size ≤ maxLen by unfold maxLen; omega)
    have HZX := Lib.hid (show x.size ≤ maxLen by unfold maxLen; omega)
    have HZU := Lib.hid (show (v ++ x).size ≤ maxLen by rw [ByteArray.size_append]; unfold maxLen; omega)
    go_wp2_with fail
    go_loopw [9, 10] (fun vs vn wr => ∃ n : Nat, vn = .int .i64 n ∧ n ≤ u.size + 1 ∧ vs = .int .i64 (convZ m u v x n) ∧ Below w.heap.size w wr) (fun _ vn _ => u.size + 1 - (intOf vn).toNat)
    case atStart => exact ⟨0, rfl, Nat.zero_le _, rfl, Below.refl _ _⟩
    case round =>
      obtain ⟨n, rfl, hn, rfl, hb⟩ := hrel
      have hB := Lib.hid hb
      clear hb
      obtain ⟨s0, s1⟩ := convZ_range m1 u v x n
      by_cases hlt : n ≤ u.size
      · have h1 : (0 : Int) ≤ (n : Int) := by omega
        have h2 : (n : Int) ≤ (u.size : Int) := by omega
        have D1 := Lib.hid (fun W : World => occ_any (u.extract 0 n) v m W (by rw [ByteArray.size_extract]; omega) HZV.out)
        have D2 := Lib.hid (fun W : World => occ_any (u.extract n u.size) x m W (by rw [ByteArray.size_extract]; omega) HZX.out)
        obtain ⟨X, hX⟩ : ∃ X, X = occZ m (u.extract 0 n) v := ⟨_, rfl⟩
        obtain ⟨Y, hY⟩ : ∃ Y, Y = occZ m (u.extract n u.size) x := ⟨_, rfl⟩
        have HST := Lib.hid (show convZ m u v x (n + 1) = (convZ m u v x n + X * Y) % m by rw [hX, hY]; rfl)
        rw [← hX] at D1
        rw [← hY] at D2
        have rx := occZ_range' m1 (u.extract 0 n) v
        have ry := occZ_range' m1 (u.extract n u.size) x
        rw [← hX] at rx
        rw [← hY] at ry
        obtain ⟨a0, a1⟩ := rx
        obtain ⟨b0, b1⟩ := ry
        clear hX hY
        have p0 : 0 ≤ X * Y := Int.mul_nonneg a0 b0
        have p1 : X * Y ≤ 2147483648 * 2147483648 := Int.mul_le_mul (by omega) (by omega) b0 (by omega)
        have p2 : X * Y ≤ 4611686018427387904 := by omega
        clear p1
        go_wp2_with fail
        refine wp_region_quiet_below (by kernel_rfl) (by kernel_rfl) ?_
        repeat (go_big_quiet_step (first | (with_reducible exact Calls.regrown_of (D1.out _)) | (with_reducible exact Calls.regrown_of (D2.out _))))
        refine wpQuiet_nil ?_
        intro _ hw'
        obtain ⟨⟨dq, osq⟩, hw''⟩ := hw'
        subst hw''
        have hb9 := below_regrown wr dq osq
        have hb10 := hB.out.trans (hb9.mono hB.out.size)
        go_wp2_with fail
        exact ⟨⟨n + 1, by go_num, by omega, by rw [HST.out], hb10⟩, by simp [intOf]; omega⟩
      · have hn2 : n = u.size + 1 := by omega
        have HC := Lib.hid (show occZ m u (v ++ x) = convZ m u v x n by rw [hn2]; exact occZ_conv HM.out u v x)
        clear hn2
        go_wp2_with fail
        refine (occ_any u (v ++ x) m _ (by omega) HZU.out).mono ?_
        rintro e w5 ⟨rfl, hb5⟩
        rw [HC.out]
        have hb6 := hB.out.trans (hb5.mono hB.out.size)
        go_wp2_with fail
        refine (awake_any _).mono ?_
        rintro e w7 ⟨rfl, hb7⟩
        have hb8 := hb6.trans (hb7.mono hb6.size)
        go_wp2_with fail
        go_ret
        exact ⟨rfl, hb8⟩
  · by_cases m0 : m < 1
    · clear hm
      go_enter Try.func7, Try.ntmps7
      go_wp2_with fail
      refine (cut_any _ _ _ (by omega) (by omega)).mono ?_
      rintro e w2 ⟨rfl, rfl⟩
      go_wp2_with fail
      refine (cut_any _ _ _ (by omega) (by omega)).mono ?_
      rintro e w2 ⟨rfl, rfl⟩
      go_wp2_with fail
      refine (cut_any _ _ _ (by omega) (by omega)).mono ?_
      rintro e w2 ⟨rfl, rfl⟩
      go_wp2_with fail
      refine (awake_any _).mono ?_
      rintro e w7 ⟨rfl, hb7⟩
      go_wp2_with fail
      go_ret
      exact ⟨rfl, hb7⟩
    · have m3 : 2147483648 < m := by omega
      clear hm
      go_enter Try.func7, Try.ntmps7
      go_wp2_with fail
      refine (cut_any _ _ _ (by omega) (by omega)).mono ?_
      rintro e w2 ⟨rfl, rfl⟩
      go_wp2_with fail
      refine (cut_any _ _ _ (by omega) (by omega)).mono ?_
      rintro e w2 ⟨rfl, rfl⟩
      go_wp2_with fail
      refine (cut_any _ _ _ (by omega) (by omega)).mono ?_
      rintro e w2 ⟨rfl, rfl⟩
      go_wp2_with fail
      refine (awake_any _).mono ?_
      rintro e w7 ⟨rfl, hb7⟩
      go_wp2_with fail
      go_ret
      exact ⟨rfl, hb7⟩
end Go.Proofs.Ytnhfagolmafonab
