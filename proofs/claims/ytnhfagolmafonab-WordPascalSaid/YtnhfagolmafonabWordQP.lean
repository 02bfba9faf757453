/- The walk of the law on Pascal's rule for occurrences. -/
import Derived.Test.YtnhfagolmafonabWordQ
import Derived.Deep.RegionWith
import Derived.StillTailTactics
import Derived.OpenShut
import Derived.Lib.QuietBelow
namespace Go.Proofs.Ytnhfagolmafonab
open Go.RowKit Go.Sort
open WordM
set_option linter.unusedVariables false

theorem occZ_range {m : Int} (hm : 1 ≤ m) (u v : ByteArray) : 0 ≤ occZ m u v ∧ occZ m u v < m := by
  unfold occZ
  by_cases h : 1 ≤ m ∧ m ≤ 2147483648
  · rw [if_pos h]; exact occF_range hm u v _ _
  · rw [if_neg h]; omega
theorem occZ_empty {m : Int} (hm : 1 ≤ m ∧ m ≤ 2147483648) (v : ByteArray) : occZ m ⟨#[]⟩ v = 1 % m := by
  unfold occZ
  rw [if_pos hm]
  exact occF_zero m _ v _
theorem one_data (x : Int) : (strOfNums [x]).data.toList = [UInt8.ofNat x.toNat] := rfl
theorem app_data (u v : ByteArray) : (u ++ v).data.toList = u.data.toList ++ v.data.toList := by simp
theorem occ_all (m : Int) (u v : ByteArray) : occF m u v u.size v.size = (occ u.data.toList v.data.toList : Int) % m := by
  rw [occF, take_all u _ (Nat.le_refl _), take_all v _ (Nat.le_refl _)]
theorem byte_inj {a b : Int} (ha : (Lit.int .u8 a).wf = true) (hb : (Lit.int .u8 b).wf = true) (h : UInt8.ofNat a.toNat = UInt8.ofNat b.toNat) : a = b := by
  have h1 := bounds_u8 ha
  have h2 := bounds_u8 hb
  have h3 := congrArg UInt8.toNat h
  rw [UInt8.toNat_ofNat', UInt8.toNat_ofNat', Nat.mod_eq_of_lt (by omega), Nat.mod_eq_of_lt (by omega)] at h3
  omega
theorem occZ_pascal_same {m a b : Int} {u v : ByteArray} (hm : 1 ≤ m ∧ m ≤ 2147483648) (ha : (Lit.int .u8 a).wf = true) (hb : (Lit.int .u8 b).wf = true) (h : a = b) :
    occZ m (u ++ strOfNums [a]) (v ++ strOfNums [b]) = (occZ m (u ++ strOfNums [a]) v + occZ m u v) % m := by
  subst h
  simp only [occZ, if_pos hm, occ_all, app_data, one_data, occ_snoc]
  rw [if_pos trivial, Int.natCast_add, ← Int.add_emod]
theorem occZ_pascal_other {m a b : Int} {u v : ByteArray} (hm : 1 ≤ m ∧ m ≤ 2147483648) (ha : (Lit.int .u8 a).wf = true) (hb : (Lit.int .u8 b).wf = true) (h : a ≠ b) :
    occZ m (u ++ strOfNums [a]) (v ++ strOfNums [b]) = occZ m (u ++ strOfNums [a]) v := by
  simp only [occZ, if_pos hm, occ_all, app_data, one_data, occ_snoc]
  rw [if_neg (fun e => h (byte_inj ha hb e)), Nat.add_zero]

set_option maxRecDepth 100000 in
set_option maxHeartbeats 2000000 in
theorem wWordPascal (u0 : ByteArray) (hu0 : u0.size ≤ maxLen) (v0 : ByteArray) (hv0 : v0.size ≤ maxLen) (a : Int) (ha : (Lit.int .u8 a).wf = true) (b : Int) (hb0 : (Lit.int .u8 b).wf = true) (m : Int) (_ : (Lit.int .i64 m).wf = true) (w : World) :
    Calls Try.prog 6 #[.string u0, .string v0, .int .u8 a, .int .u8 b, .int .i64 m] w fun e w' => e = .returned (.bool true) ∧ Below w.heap.size w w' := by
  have c1 := cutS_le u0 30
  have c2 := cutS_le v0 100
  by_cases hm : 1 ≤ m ∧ m ≤ 2147483648
  · obtain ⟨m1, m2⟩ := hm
    have hcv := fun (W : World) (g : Nat) (x : Int) (h : W.cell? ⟨g, 0, none⟩ = some (.int .u8 x)) => run_convert_bytes_arg (P := Try.prog) W 31 5 Try.underlying31 Try.underlying5 g 0 1 1 [x] rfl (fun i hi => by
          obtain rfl : i = 0 := by omega
          simpa using h) 9 Try.underlying9
    go_enter Try.func6, Try.ntmps6
    go_wp2_with fail
    refine (cut_any _ _ _ (by omega) (by omega)).mono ?_
    rintro e w2 ⟨rfl, rfl⟩
    go_wp2_with fail
    refine (cut_any _ _ _ (by omega) (by omega)).mono ?_
    rintro e w2 ⟨rfl, rfl⟩
    rw [show (100 : Int).toNat = 100 from rfl]
    generalize cutS u0 30 = u at *
    generalize cutS v0 100 = v at *
    go_wp2_with fail
    have hza : (strOfNums [a]).size = 1 := by rw [strOfNums_size]; rfl
    have hzb : (strOfNums [b]).size = 1 := by rw [strOfNums_size]; rfl
    have hz1 : (u ++ strOfNums [a]).size ≤ 4096 := by rw [ByteArray.size_append]; omega
    have hz2 : (v ++ strOfNums [b]).size ≤ maxLen := by unfold maxLen; rw [ByteArray.size_append]; omega
    have hz3 : v.size ≤ maxLen := by unfold maxLen; omega
    have HZ1 := Lib.hid hz1
    have HZ2 := Lib.hid hz2
    have HZ3 := Lib.hid hz3
    clear hz1 hz2 hz3
    go_region
    all_goals
      go_wp2_with fail
      refine (occ_any (u ++ strOfNums [a]) v m _ HZ1.out HZ3.out).mono ?_
      rintro e w5 ⟨rfl, hb5⟩
      have hb6 : Below w.heap.size w w5 := (((((Below.refl w.heap.size w).alloc (Nat.le_refl _) _).alloc (by simp) _).drew)).trans (hb5.mono (by simp; omega))
      clear hb5
      by_cases hab : a = b
      · have hP := Lib.hid (occZ_pascal_same (u := u) (v := v) ⟨m1, m2⟩ ha hb0 hab)
        have heb : (a == b) = true := by rw [beq_iff_eq]; exact hab
        clear hab
        go_wp2_with fail
        refine (occ_any u v m _ (by omega) HZ3.out).mono ?_
        rintro e w7 ⟨rfl, hb7⟩
        have hb8 := hb6.trans (hb7.mono hb6.size)
        clear hb6 hb7
        have hB := Lib.hid hb8
        clear hb8
        obtain ⟨x0, x1⟩ := occZ_range m1 (u ++ strOfNums [a]) v
        obtain ⟨y0, y1⟩ := occZ_range m1 u v
        have hE := Lib.hid (occZ_empty ⟨m1, m2⟩ v)
        have hze : (⟨#[]⟩ : ByteArray).size ≤ 4096 := by decide
        have HZE := Lib.hid hze
        clear hze
        have C1 : ∀ W : World, Calls Try.prog 15 #[.string (u ++ strOfNums [a]), .string (v ++ strOfNums [b]), .int .i64 m] W fun e w' => e = .returned (.int .i64 ((occZ m (u ++ strOfNums [a]) v + occZ m u v) % m)) ∧ Below W.heap.size W w' := fun W => by
          have h := occ_any (u ++ strOfNums [a]) (v ++ strOfNums [b]) m W HZ1.out HZ2.out
          rwa [hP.out] at h
        have C2 : ∀ W : World, Calls Try.prog 15 #[.string ⟨#[]⟩, .string v, .int .i64 m] W fun e w' => e = .returned (.int .i64 (1 % m)) ∧ Below W.heap.size W w' := fun W => by
          have h := occ_any ⟨#[]⟩ v m W HZE.out HZ3.out
          rwa [hE.out] at h
        have D1 := Lib.hid C1
        have D2 := Lib.hid C2
        clear C1 C2
        go_wp2_with fail
        refine wp_region_quiet_below (by kernel_rfl) (by kernel_rfl) ?_
        repeat (go_big_quiet_step (first | (with_reducible exact Calls.regrown_of (D1.out _)) | (with_reducible exact Calls.regrown_of (D2.out _)) | (with_reducible exact Calls.regrown_of (awake_any _))))
        refine wpQuiet_nil ?_
        intro _ hw'
        obtain ⟨⟨dq, osq⟩, hw''⟩ := hw'
        subst hw''
        have hb9 := below_regrown w7 dq osq
        have hb10 := hB.out.trans (hb9.mono hB.out.size)
        go_wp2_with fail
        go_ret
        exact ⟨rfl, hb10⟩
      · have hP := Lib.hid (occZ_pascal_other (u := u) (v := v) ⟨m1, m2⟩ ha hb0 hab)
        have heb : (a == b) = false := by rw [beq_eq_false_iff_ne]; exact hab
        clear hab
        have hB := Lib.hid hb6
        clear hb6
        have hE := Lib.hid (occZ_empty ⟨m1, m2⟩ v)
        have hze : (⟨#[]⟩ : ByteArray).size ≤ 4096 := by decide
        have HZE := Lib.hid hze
        clear hze
        have C1 : ∀ W : World, Calls Try.prog 15 #[.string (u ++ strOfNums [a]), .string (v ++ strOfNums [b]), .int .i64 m] W fun e w' => e = .returned (.int .i64 (occZ m (u ++ strOfNums [a]) v)) ∧ Below W.heap.size W w' := fun W => by
          have h := occ_any (u ++ strOfNums [a]) (v ++ strOfNums [b]) m W HZ1.out HZ2.out
          rwa [hP.out] at h
        have C2 : ∀ W : World, Calls Try.prog 15 #[.string ⟨#[]⟩, .string v, .int .i64 m] W fun e w' => e = .returned (.int .i64 (1 % m)) ∧ Below W.heap.size W w' := fun W => by
          have h := occ_any ⟨#[]⟩ v m W HZE.out HZ3.out
          rwa [hE.out] at h
        have D1 := Lib.hid C1
        have D2 := Lib.hid C2
        clear C1 C2
        go_wp2_with fail
        refine wp_region_quiet_below (by kernel_rfl) (by kernel_rfl) ?_
        repeat (go_big_quiet_step (first | (with_reducible exact Calls.regrown_of (D1.out _)) | (with_reducible exact Calls.regrown_of (D2.out _)) | (with_reducible exact Calls.regrown_of (awake_any _))))
        refine wpQuiet_nil ?_
        intro _ hw'
        obtain ⟨⟨dq, osq⟩, hw''⟩ := hw'
        subst hw''
        have hb9 := below_regrown w5 dq osq
        have hb10 := hB.out.trans (hb9.mono hB.out.size)
        go_wp2_with fail
        go_ret
        exact ⟨rfl, hb10⟩
  · have hmm : m < 1 ∨ 2147483648 < m := by omega
    have hz : ∀ u v : ByteArray, occZ m u v = 0 := fun u v => if_neg hm
    have HZ := Lib.hid hz
    clear hz hm
    go_enter Try.func6, Try.ntmps6
    go_wp2_with fail
    refine (cut_any _ _ _ (by omega) (by omega)).mono ?_
    rintro e w2 ⟨rfl, rfl⟩
    go_wp2_with fail
    refine (cut_any _ _ _ (by omega) (by omega)).mono ?_
    rintro e w2 ⟨rfl, rfl⟩
    rw [show (100 : Int).toNat = 100 from rfl]
    generalize cutS u0 30 = u at *
    generalize cutS v0 100 = v at *
    by_cases m0 : m < 1
    · clear hmm
      go_wp2_with fail
      refine (occ_any u v m _ (by omega) (by unfold maxLen; omega)).mono ?_
      rintro e w5 ⟨rfl, hb5⟩
      rw [HZ.out]
      go_wp2_with fail
      refine (awake_any _).mono ?_
      rintro e w7 ⟨rfl, hb7⟩
      have hb8 := hb5.trans (hb7.mono hb5.size)
      go_wp2_with fail
      go_ret
      exact ⟨rfl, hb8⟩
    · have m3 : 2147483648 < m := by omega
      clear hmm
      go_wp2_with fail
      refine (occ_any u v m _ (by omega) (by unfold maxLen; omega)).mono ?_
      rintro e w5 ⟨rfl, hb5⟩
      rw [HZ.out]
      go_wp2_with fail
      refine (awake_any _).mono ?_
      rintro e w7 ⟨rfl, hb7⟩
      have hb8 := hb5.trans (hb7.mono hb5.size)
      go_wp2_with fail
      go_ret
      exact ⟨rfl, hb8⟩
end Go.Proofs.Ytnhfagolmafonab
