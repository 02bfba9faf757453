/- Contracts: the reference's Root; the walk of the law on roots. -/
import Derived.Test.YtnhfagolmafonaaWordP
import Derived.StillTailTactics
namespace Go.Proofs.Ytnhfagolmafonaa
open Go.RowKit Go.Sort
open WordM
set_option linter.unusedVariables false

theorem per_same {s : ByteArray} {n : Nat} (hn : 1 ≤ n) (hs : n < s.size) :
    (s.extract n s.size).data.toList = (s.extract 0 (s.size - n)).data.toList ↔ per (at' s) s.size n := by
  rw [extract_same (Nat.le_refl _) (by omega) (by omega)]
  constructor
  · intro h
    exact ⟨hn, fun t ht => by have := h t (by omega); rw [Nat.zero_add] at this; rw [← this, Nat.add_comm]⟩
  · intro h t ht
    rw [Nat.zero_add, h.2 t (by omega), Nat.add_comm]

set_option maxRecDepth 100000 in
set_option maxHeartbeats 2000000 in
theorem rroot_any (s : ByteArray) (w : World) (hs : s.size ≤ 4096) :
    Calls Try.prog 38 #[.string s] w fun e w' => e = .returned (.tuple #[.string (rootS s), .int .i64 (rootE s)]) ∧ Below w.heap.size w w' := by
  go_enter Try.func38, Try.ntmps38
  go_wp2_with fail
  go_loopw [4] (fun vn wr => ∃ n : Nat, vn = .int .i64 n ∧ 1 ≤ n ∧ n ≤ s.size + 1 ∧ (∀ d, d < n → d ∣ s.size → ¬ per (at' s) s.size d) ∧ Below w.heap.size w wr) (fun vn _ => s.size + 1 - (intOf vn).toNat)
  case atStart => exact ⟨1, rfl, Nat.le_refl _, by omega, fun d hd _ h => by have := h.1; omega, Below.refl _ _⟩
  case round =>
    obtain ⟨n, rfl, hn1, hn2, hall, hb⟩ := hrel
    by_cases hlt : n ≤ s.size
    · have hs0 : 0 < s.size := by omega
      have h1 : (1 : Int) ≤ (n : Int) := by omega
      have h2 : (n : Int) ≤ (s.size : Int) := by omega
      have hem : (s.size : Int) % (n : Int) = ((s.size % n : Nat) : Int) := (Int.natCast_emod _ _).symm
      by_cases hd : n ∣ s.size
      · have hmod : s.size % n = 0 := Nat.mod_eq_zero_of_dvd hd
        have hm : ((s.size : Int) % (n : Int) == 0) = true := by rw [hem, hmod]; rfl
        have hq : (s.size : Int) / (n : Int) = ((s.size / n : Nat) : Int) := (Int.natCast_ediv _ _).symm
        have hq2 : (s.size / n) ≤ s.size := Nat.div_le_self _ _
        have hlen : per (at' s) s.size n → rootS s = s.extract 0 n ∧ rootE s = ((s.size / n : Nat) : Int) := fun hp => by
          have : rootL s = n := rlen_eq hs0 hp hd fun e he hed => by
            by_cases c : e < n
            · exact absurd he (hall e c hed)
            · omega
          exact ⟨by rw [rootS, this], by rw [rootE, this]⟩
        have hnext : ¬ per (at' s) s.size n → ∀ d, d < n + 1 → d ∣ s.size → ¬ per (at' s) s.size d := fun hp d hd hds => by
          by_cases c : d = n
          · rw [c]; exact hp
          · exact hall d (by omega) hds
        have HLEN := Lib.hid hlen
        have HNEXT := Lib.hid hnext
        clear hlen hnext hall hem hmod hd
        generalize s.size / n = Q at *
        have h3 : IntKind.i64.wrap ((s.size : Int).tdiv (n : Int)) = (Q : Int) := by
          rw [Int.tdiv_eq_ediv_of_nonneg (by omega), hq]; exact IntWalk.i64_in _ (by omega)
        have h4 : IntKind.i64.wrap ((s.size : Int) / (n : Int)) = (Q : Int) := by
          rw [hq]; exact IntWalk.i64_in _ (by omega)
        by_cases hne : n = s.size
        · have HP := Lib.hid (HLEN.out (by rw [hne]; exact per_all _ hs0))
          have hee : ((n : Int) == (s.size : Int)) = true := by rw [beq_iff_eq]; omega
          clear hne
          go_wp2_with fail
          go_quiet (fail)
          go_wp2_with fail
          go_quiet (fail)
          go_wp2_with fail
          go_ret2
          exact ⟨by rw [HP.out.1, HP.out.2]; rfl, below_drewN (below_drewN hb _) _⟩
        · have hee : ((n : Int) == (s.size : Int)) = false := by rw [beq_eq_false_iff_ne]; omega
          have g3 : IntKind.i64.wrap ((s.size : Int) - (n : Int)) = (s.size : Int) - (n : Int) := IntWalk.i64_in _ (by omega)
          have g4 : (0 : Int) ≤ (s.size : Int) - (n : Int) := by omega
          have g5 : ((s.size : Int) - (n : Int)).toNat = s.size - n := by omega
          have g6 : (s.size : Int) - (n : Int) ≤ (s.size : Int) := by omega
          by_cases hp : per (at' s) s.size n
          · have HP := Lib.hid (HLEN.out hp)
            have hse : ((s.extract n s.size).toList == (s.extract 0 (s.size - n)).toList) = true := by
              rw [beq_iff_eq, Lib.toList_data, Lib.toList_data]; exact (per_same hn1 (by omega)).2 hp
            clear hp
            go_wp2_with fail
            go_quiet (fail)
            go_wp2_with fail
            go_quiet (fail)
            go_wp2_with fail
            go_ret2
            exact ⟨by rw [HP.out.1, HP.out.2]; rfl, below_drewN (below_drewN hb _) _⟩
          · have HP := Lib.hid (HNEXT.out hp)
            have hse : ((s.extract n s.size).toList == (s.extract 0 (s.size - n)).toList) = false := by
              rw [beq_eq_false_iff_ne, Lib.toList_data, Lib.toList_data]; intro h; exact hp ((per_same hn1 (by omega)).1 h)
            clear hp
            go_wp2_with fail
            go_quiet (fail)
            go_wp2_with fail
            exact ⟨⟨n + 1, by go_num, by omega, by omega, HP.out, below_drewN hb _⟩, by simp [intOf]; omega⟩
      · have hm : ((s.size : Int) % (n : Int) == 0) = false := by
          rw [beq_eq_false_iff_ne, hem]; intro h; exact hd (Nat.dvd_of_mod_eq_zero (by omega))
        have HNEXT := Lib.hid (show ∀ d, d < n + 1 → d ∣ s.size → ¬ per (at' s) s.size d from fun d hdn hds => by
          by_cases c : d = n
          · rw [c] at hds; exact absurd hds hd
          · exact hall d (by omega) hds)
        clear hall hem hd
        go_wp2_with fail
        go_quiet (fail)
        go_wp2_with fail
        exact ⟨⟨n + 1, by go_num, by omega, by omega, HNEXT.out, below_drewN hb _⟩, by simp [intOf]; omega⟩
    · have h0 : s.size = 0 := by
        by_cases c : s.size = 0
        · exact c
        · exact absurd (per_all (at' s) (by omega)) (hall s.size (by omega) (Nat.dvd_refl _))
      have HR := Lib.hid (root_empty h0)
      clear hall h0
      go_wp2_with fail
      go_ret2
      exact ⟨by rw [HR.out.1, HR.out.2]; rfl, hb⟩

theorem rootS_size {s : ByteArray} (h : s.size ≤ 4096) : (rootS s).size ≤ 4096 := by
  simp only [rootS, ByteArray.size_extract]; omega
/-- the root of the root is the root, once -/
theorem root_root {s : ByteArray} (hs : 0 < s.size) : rootS (rootS s) = rootS s ∧ rootE (rootS s) = 1 := by
  have hle : rootL s ≤ s.size := rlen_le_n (at' s) hs
  have hp : 0 < rootL s := rlen_pos (at' s) hs
  have hz : (rootS s).size = rootL s := by simp only [rootS, ByteArray.size_extract]; omega
  have hat : ∀ t, t < rootL s → at' (rootS s) t = at' s t := fun t ht => by
    have h1 := extract_get (s := s) (a := 0) (b := rootL s) (t := t) hle
    rw [if_pos (by omega), Nat.zero_add] at h1
    simp only [at', List.getD] at h1 ⊢
    rw [show (rootS s).data.toList[t]? = _ from h1]
    rfl
  have hL : rootL (rootS s) = rootL s := by
    show rlen (at' (rootS s)) (rootS s).size = rootL s
    rw [hz, rlen_congr hp hat]
    exact rlen_rlen hs
  constructor
  · show (rootS s).extract 0 (rootL (rootS s)) = rootS s
    rw [hL, ← hz, ByteArray.extract_zero_size]
  · show (((rootS s).size / rootL (rootS s) : Nat) : Int) = 1
    rw [hL, hz, Nat.div_self hp]; rfl

set_option maxRecDepth 100000 in
set_option maxHeartbeats 2000000 in
theorem wWordRoots (s0 : ByteArray) (_ : s0.size ≤ maxLen) (w : World) :
    Calls Try.prog 14 #[.string s0] w fun e w' => e = .returned (.bool true) ∧ Below w.heap.size w w' := by
  have c1 := cutS_le s0 200
  have hee : ((rootS (cutS s0 200)).toList == (rootS (cutS s0 200)).toList) = true := by simp
  have hne : ((rootS (cutS s0 200)).toList != (rootS (cutS s0 200)).toList) = false := by simp
  have hrs := rootS_size (s := cutS s0 200) (by omega)
  by_cases h0 : (cutS s0 200).size = 0
  · have he : (cutS s0 200).toList.isEmpty = true := by rw [List.isEmpty_iff, empty_iff]; exact h0
    have he2 := (empty_iff (cutS s0 200)).2 h0
    have hr := root_empty h0
    have hr2 : rootS (rootS (cutS s0 200)) = rootS (cutS s0 200) ∧ rootE (rootS (cutS s0 200)) = 0 := by
      rw [hr.1]; exact root_empty rfl
    have HR := Lib.hid hr.2
    have HR2 := Lib.hid hr2
    clear h0 hr hr2
    go_enter Try.func14, Try.ntmps14
    go_wp2_with fail
    refine (cut_any _ _ _ (by omega) (by omega)).mono ?_
    rintro e w2 ⟨rfl, rfl⟩
    rw [show (200 : Int).toNat = 200 from rfl]
    generalize cutS s0 200 = s at *
    go_wp2_with fail
    refine (root_any s _ (by omega)).mono ?_
    rintro e w2 ⟨rfl, hb⟩
    go_wp2_with fail
    refine (rroot_any s _ (by omega)).mono ?_
    rintro e w3 ⟨rfl, hb3⟩
    have hb4 := hb.trans (hb3.mono hb.size)
    go_wp2_with fail
    refine (root_any (rootS s) _ hrs).mono ?_
    rintro e w5 ⟨rfl, hb5⟩
    rw [HR2.out.1, HR2.out.2]
    have hb6 := hb4.trans (hb5.mono hb4.size)
    go_wp2_with fail
    refine (awake_any _).mono ?_
    rintro e w7 ⟨rfl, hb7⟩
    have hb8 := hb6.trans (hb7.mono hb6.size)
    go_wp2_with fail
    go_ret
    exact ⟨rfl, hb8⟩
  · have HR2 := Lib.hid (root_root (show 0 < (cutS s0 200).size by omega))
    clear h0
    go_enter Try.func14, Try.ntmps14
    go_wp2_with fail
    refine (cut_any _ _ _ (by omega) (by omega)).mono ?_
    rintro e w2 ⟨rfl, rfl⟩
    rw [show (200 : Int).toNat = 200 from rfl]
    generalize cutS s0 200 = s at *
    go_wp2_with fail
    refine (root_any s _ (by omega)).mono ?_
    rintro e w2 ⟨rfl, hb⟩
    go_wp2_with fail
    refine (rroot_any s _ (by omega)).mono ?_
    rintro e w3 ⟨rfl, hb3⟩
    have hb4 := hb.trans (hb3.mono hb.size)
    go_wp2_with fail
    refine (root_any (rootS s) _ hrs).mono ?_
    rintro e w5 ⟨rfl, hb5⟩
    rw [HR2.out.1, HR2.out.2]
    have hb6 := hb4.trans (hb5.mono hb4.size)
    go_wp2_with fail
    refine (awake_any _).mono ?_
    rintro e w7 ⟨rfl, hb7⟩
    have hb8 := hb6.trans (hb7.mono hb6.size)
    go_wp2_with fail
    go_ret
    exact ⟨rfl, hb8⟩
end Go.Proofs.Ytnhfagolmafonaa
