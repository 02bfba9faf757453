/- Contracts: word.Compare, the reference's Compare; the walks of the laws on the order. -/
import Derived.Test.YtnhfagolmafonaaWordK
import Derived.Test.YtnhfagolmafonaaWordCM
import Derived.Test.YtnhfagolmafonaaShelf
namespace Go.Proofs.Ytnhfagolmafonaa
open Go.RowKit Go.Sort
open WordM
set_option linter.unusedVariables false

set_option maxHeartbeats 400000 in
theorem compare_any (u v : ByteArray) (hu : u.size ≤ maxLen) (hv : v.size ≤ maxLen) (w : World) :
    Calls Try.prog 18 #[.string u, .string v] w fun e w' => e = .returned (.int .i64 (cmpW u v)) ∧ w = w' := by
  unfold maxLen at hu hv
  by_cases h1 : u.size < v.size
  · have hc : cmpW u v = Lib.compareInt u.size v.size := by rw [cmpW_lt (.inl h1)]; simp [Lib.compareInt]; omega
    have HC := Lib.hid hc
    clear hc
    have hne : ((u.size : Int) != (v.size : Int)) = true := by rw [bne_iff_ne]; omega
    go_enter Try.func18, Try.ntmps18
    go_wp2_with fail
    refine (Try.cmp_Compare_int _ _ _).mono ?_
    rintro e w' ⟨rfl, rfl⟩
    rw [← HC.out]
    go_wp2_with fail
    go_ret
    exact ⟨rfl, rfl⟩
  · by_cases h2 : v.size < u.size
    · have hc : cmpW u v = Lib.compareInt u.size v.size := by rw [cmpW_gt (.inl h2)]; simp [Lib.compareInt]; omega
      have HC := Lib.hid hc
      clear hc
      have hne : ((u.size : Int) != (v.size : Int)) = true := by rw [bne_iff_ne]; omega
      go_enter Try.func18, Try.ntmps18
      go_wp2_with fail
      refine (Try.cmp_Compare_int _ _ _).mono ?_
      rintro e w' ⟨rfl, rfl⟩
      rw [← HC.out]
      go_wp2_with fail
      go_ret
      exact ⟨rfl, rfl⟩
    · have hc : cmpW u v = Lib.compareBytes u.data.toList v.data.toList := by simp only [cmpW, if_neg h1, if_neg h2]
      have HC := Lib.hid hc
      clear hc
      have hne : ((u.size : Int) != (v.size : Int)) = false := by rw [bne_eq_false_iff_eq]; omega
      go_enter Try.func18, Try.ntmps18
      go_wp2_with fail
      refine (Try.strings_Compare _ _ _).mono ?_
      rintro e w' ⟨rfl, rfl⟩
      rw [← HC.out]
      go_wp2_with fail
      go_ret
      exact ⟨rfl, rfl⟩

set_option maxHeartbeats 400000 in
theorem rcompare_any (u v : ByteArray) (hu : u.size ≤ maxLen) (hv : v.size ≤ maxLen) (w : World) :
    Calls Try.prog 19 #[.string u, .string v] w fun e w' => e = .returned (.int .i64 (cmpW u v)) ∧ w = w' := by
  unfold maxLen at hu hv
  by_cases h1 : u.size < v.size
  · have HC := Lib.hid (cmpW_lt (.inl h1))
    go_enter Try.func19, Try.ntmps19
    go_wp2_with fail
    go_ret
    exact ⟨by rw [HC.out]; rfl, rfl⟩
  · by_cases h2 : v.size < u.size
    · have HC := Lib.hid (cmpW_gt (u := u) (.inl h2))
      have he : (u.toList == v.toList) = false := by
        rw [beq_eq_false_iff_ne, Lib.toList_data, Lib.toList_data]; intro e; rw [ext_list e] at h2; omega
      have hne : ((u.size : Int) == (v.size : Int)) = false := by rw [beq_eq_false_iff_ne]; omega
      go_enter Try.func19, Try.ntmps19
      go_wp2_with fail
      go_ret
      exact ⟨by rw [HC.out]; rfl, rfl⟩
    · have hs : u.size = v.size := by omega
      have hne : ((u.size : Int) == (v.size : Int)) = true := by rw [beq_iff_eq]; omega
      have hb : Op.bytesLess u.toList v.toList = decide (u.data.toList < v.data.toList) := by rw [bytesLess_lt, Lib.toList_data, Lib.toList_data]
      by_cases hl : u.data.toList < v.data.toList
      · have HC := Lib.hid (cmpW_lt (.inr ⟨hs, hl⟩))
        have hb1 : Op.bytesLess u.toList v.toList = true := by rw [hb]; simp [hl]
        clear hb hl hs
        go_enter Try.func19, Try.ntmps19
        go_wp2_with fail
        go_ret
        exact ⟨by rw [HC.out]; rfl, rfl⟩
      · have hb1 : Op.bytesLess u.toList v.toList = false := by rw [hb]; simp [hl]
        by_cases e : u = v
        · subst e
          have HC := Lib.hid (cmpW_self u)
          have he : (u.toList == u.toList) = true := by simp
          clear hb hl hs
          go_enter Try.func19, Try.ntmps19
          go_wp2_with fail
          go_ret
          exact ⟨by rw [HC.out]; rfl, rfl⟩
        · have HC := Lib.hid (cmpW_gt (u := u) (v := v) (by
            rcases ltW_tri u v with h | h | h
            · rcases h with h | h
              · exact absurd h h1
              · exact absurd h.2 hl
            · exact absurd h e
            · exact h))
          have he : (u.toList == v.toList) = false := by
            rw [beq_eq_false_iff_ne, Lib.toList_data, Lib.toList_data]; intro h; exact e (ext_list h)
          clear hb hl hs e
          go_enter Try.func19, Try.ntmps19
          go_wp2_with fail
          go_ret
          exact ⟨by rw [HC.out]; rfl, rfl⟩

set_option maxHeartbeats 400000 in
theorem wWordCompares (u : ByteArray) (hu : u.size ≤ maxLen) (v : ByteArray) (hv : v.size ≤ maxLen) (w : World) :
    Calls Try.prog 4 #[.string u, .string v] w fun e w' => e = .returned (.bool true) ∧ Below w.heap.size w w' := by
  have h1 : (cmpW v u == wrap64 (-cmpW u v)) = true := by
    rw [beq_iff_eq, cmpW_neg, IntWalk.wrap64_in]
    have := cmpW_cases u v; omega
  have h2 : ((cmpW u v == 0) == (u.toList == v.toList)) = true := by
    rw [beq_iff_eq, Bool.eq_iff_iff, beq_iff_eq, beq_iff_eq, (cmpW_iff u v).2.1, Lib.toList_data, Lib.toList_data]
    exact ⟨fun e => by rw [e], ext_list⟩
  go_enter Try.func4, Try.ntmps4
  go_wp2_with fail
  refine (compare_any _ _ hu hv _).mono ?_
  rintro e w2 ⟨rfl, rfl⟩
  go_wp2_with fail
  refine (rcompare_any _ _ hu hv _).mono ?_
  rintro e w2 ⟨rfl, rfl⟩
  go_wp2_with fail
  refine (compare_any _ _ hv hu _).mono ?_
  rintro e w2 ⟨rfl, rfl⟩
  go_wp2_with fail
  refine (awake_any _).mono ?_
  rintro e w2 ⟨rfl, hb⟩
  go_wp2_with fail
  go_ret
  exact ⟨rfl, hb⟩

set_option maxHeartbeats 400000 in
theorem wWordChains (u : ByteArray) (hu : u.size ≤ maxLen) (v : ByteArray) (hv : v.size ≤ maxLen) (x : ByteArray) (hx : x.size ≤ maxLen) (w : World) :
    Calls Try.prog 5 #[.string u, .string v, .string x] w fun e w' => e = .returned (.bool true) ∧ Below w.heap.size w w' := by
  by_cases h1 : cmpW u v ≤ 0
  · by_cases h2 : cmpW v x ≤ 0
    · have h3 := cmpW_chain h1 h2
      go_enter Try.func5, Try.ntmps5
      go_wp2_with fail
      refine (compare_any _ _ hu hv _).mono ?_
      rintro e w2 ⟨rfl, rfl⟩
      go_wp2_with fail
      refine (compare_any _ _ hv hx _).mono ?_
      rintro e w2 ⟨rfl, rfl⟩
      go_wp2_with fail
      refine (compare_any _ _ hu hx _).mono ?_
      rintro e w2 ⟨rfl, rfl⟩
      go_wp2_with fail
      refine (awake_any _).mono ?_
      rintro e w2 ⟨rfl, hb⟩
      go_wp2_with fail
      go_ret
      exact ⟨rfl, hb⟩
    · go_enter Try.func5, Try.ntmps5
      go_wp2_with fail
      refine (compare_any _ _ hu hv _).mono ?_
      rintro e w2 ⟨rfl, rfl⟩
      go_wp2_with fail
      refine (compare_any _ _ hv hx _).mono ?_
      rintro e w2 ⟨rfl, rfl⟩
      go_wp2_with fail
      refine (awake_any _).mono ?_
      rintro e w2 ⟨rfl, hb⟩
      go_wp2_with fail
      go_ret
      exact ⟨rfl, hb⟩
  · go_enter Try.func5, Try.ntmps5
    go_wp2_with fail
    refine (compare_any _ _ hu hv _).mono ?_
    rintro e w2 ⟨rfl, rfl⟩
    go_wp2_with fail
    refine (awake_any _).mono ?_
    rintro e w2 ⟨rfl, hb⟩
    go_wp2_with fail
    go_ret
    exact ⟨rfl, hb⟩
end Go.Proofs.Ytnhfagolmafonaa
