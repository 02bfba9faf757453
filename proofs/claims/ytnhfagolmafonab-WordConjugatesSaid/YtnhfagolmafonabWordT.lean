/- Contracts: word.Border and the reference's Border; the walk of the law on borders. -/
import Derived.Test.YtnhfagolmafonabWordX
import Derived.Test.YtnhfagolmafonabWordTM
namespace Go.Proofs.Ytnhfagolmafonab
open Go.RowKit Go.Sort
open WordM
set_option linter.unusedVariables false

theorem empty_iff (s : ByteArray) : (s.toList = [] ↔ s.size = 0) := by
  rw [Lib.toList_data, ← List.length_eq_zero_iff]
  exact Iff.rfl

set_option maxHeartbeats 400000 in
theorem border_empty (s : ByteArray) (w : World) (h : s.size = 0) :
    Calls Try.prog 17 #[.string s] w fun e w' => e = .returned (.int .i64 (bord s)) ∧ w = w' := by
  have HB := Lib.hid (bord_empty h)
  have he : s.toList.isEmpty = true := by rw [List.isEmpty_iff, empty_iff]; exact h
  have he2 := (empty_iff s).2 h
  clear h
  go_enter Try.func17, Try.ntmps17
  go_wp2_with fail
  go_ret
  exact ⟨by rw [HB.out]; rfl, rfl⟩

theorem border_row {f : Nat → UInt8} {i : Nat} {x : Int} (h : (bMax f (i + 1 + 1) : Int) = x) (t : Nat) :
    (if t = i + 1 then x else if t < i + 1 then (bMax f (t + 1) : Int) else 0) = if t < i + 1 + 1 then (bMax f (t + 1) : Int) else 0 := by
  by_cases e : t = i + 1
  · subst e; rw [if_pos rfl, if_pos (by omega), h]
  · rw [if_neg e]
    by_cases l : t < i + 1
    · rw [if_pos l, if_pos (by omega)]
    · rw [if_neg l, if_neg (by omega)]

set_option maxRecDepth 100000 in
set_option maxHeartbeats 1000000 in
theorem border_yes (s : ByteArray) (w : World) (hs0 : 0 < s.size) (hs : s.size ≤ 4096) :
    Calls Try.prog 17 #[.string s] w fun e w' => e = .returned (.int .i64 (bord s)) ∧ Below w.heap.size w w' := by
  obtain ⟨i0, hi, hz0, hz1, hz2⟩ := info_parts info3
  have he : s.toList.isEmpty = false := by
    rw [← Bool.not_eq_true, List.isEmpty_iff, empty_iff]; omega
  have he2 : ¬ s.toList = [] := by rw [empty_iff]; omega
  go_enter Try.func17, Try.ntmps17
  go_wp2_with (refine wpList_make_full _ rfl _ _ 38 rfl w.heap.size 3 i0 (.int .i64 0) 1 Try.underlying38 hi hz0 hz1 .i64 .i64 _ _ s.size rfl rfl rfl rfl ?c1 ?c2 ?c3 ?_)
  case c1 => rw [hz2]; omega
  case c2 => unfold maxLen; omega
  case c3 => exact Nat.le_refl _
  intro w1 hown0 hg1
  have hown : ownsF w1 w.heap.size w.heap.size s.size 3 (fun _ => 0) := by
    unfold ownsF
    rw [← rowF_made]
    simpa using hown0
  have hb : Below w.heap.size w w1 := (Below.refl _ w).grown hg1 (Nat.le_refl _) (by intro k hk; cases hk)
  clear hown0 hg1 he he2
  go_wp2_with fail
  go_loopw [4] (fun vi wr => ∃ i : Nat, vi = .int .i64 i ∧ 1 ≤ i ∧ i ≤ s.size ∧ ownsF wr w.heap.size w.heap.size s.size 3 (fun t => if t < i then (bMax (at' s) (t + 1) : Int) else 0) ∧ Below w.heap.size w wr) (fun vi _ => s.size - (intOf vi).toNat)
  case atStart =>
    refine ⟨1, rfl, Nat.le_refl _, by omega, ownsF_congr hown ?_, hb⟩
    intro t ht
    by_cases e : t < 1
    · obtain rfl : t = 0 := by omega
      rw [if_pos e, bMax_one]; rfl
    · rw [if_neg e]
  case round =>
    obtain ⟨i, rfl, hi0, hi1, how, hbw⟩ := hrel
    clear hown hb
    by_cases hlt : i < s.size
    · obtain ⟨i, rfl⟩ : ∃ q, i = q + 1 := ⟨i - 1, by omega⟩
      have hci := ownsF_cell how (show i < s.size by omega)
      rw [if_pos (by omega)] at hci
      have hbi := (bMax_is (at' s) (show 0 < i + 1 by omega)).1
      have HCA := Lib.hid (cand_start (at' s) (show 0 < i + 1 by omega))
      go_wp2_with fail
      obtain ⟨wo, rfl⟩ : ∃ wo : World, wo = wr := ⟨_, rfl⟩
      go_loopw [5] (fun vk wr => ∃ k : Nat, vk = .int .i64 k ∧ k ≤ i ∧ cand (at' s) (i + 1) k ∧ ownsF wr w.heap.size w.heap.size s.size 3 (fun t => if t < i + 1 then (bMax (at' s) (t + 1) : Int) else 0) ∧ Below w.heap.size w wr) (fun vk _ => (intOf vk).toNat)
      case atStart => exact ⟨bMax (at' s) (i + 1), rfl, by omega, HCA.out, how, hbw⟩
      case round =>
        obtain ⟨k, rfl, hk, hcand, how2, hb2⟩ := hrel
        clear how hbw hci
        have HC := Lib.hid hcand
        clear hcand
        have hkI : (k : Int) < (s.size : Int) := by omega
        have hk0 : (0 : Int) ≤ (k : Int) := by omega
        have hiI : ((i : Int) + 1) < (s.size : Int) := by omega
        have hi00 : (0 : Int) ≤ (i : Int) + 1 := by omega
        have hks : k < s.size := by omega
        have ek := at_eq hks
        have ei := at_eq hlt
        have HW2 := Lib.hid how2
        have hst := ownsF_cell HW2.out hlt
        have hfr := ownsF_free HW2.out (i + 1)
        by_cases he : s[k] = s[i + 1]
        · have HH := Lib.hid (cand_hit HC.out (by rw [ek, ei]; exact he))
          have hne : ((s[k].toNat : Int) != (s[i + 1].toNat : Int)) = false := by rw [he]; simp
          have heb : ((s[k].toNat : Int) == (s[i + 1].toNat : Int)) = true := by rw [he]; simp
          clear he ek ei how2
          by_cases hkp : 0 < k
          · go_wp2_with fail
            go_quiet (fail)
            go_wp2_with fail
            go_quiet (fail)
            go_wp2_with fail
            refine ⟨⟨i + 1 + 1, by go_num, by omega, by omega, ownsF_congr (ownsF_set (ownsF_drewN HW2.out) (i + 1) _) ?_, (below_drewN hb2 _).setCell (Nat.le_refl _) _⟩, by simp [intOf]; omega⟩
            exact fun t ht => border_row (by rw [HH.out]; rfl) t
          · obtain rfl : k = 0 := by omega
            have hd : decide ((0 : Int) < 0) = false := rfl
            go_wp2_with fail
            go_quiet (fail)
            go_wp2_with fail
            go_quiet (fail)
            go_wp2_with fail
            refine ⟨⟨i + 1 + 1, by go_num, by omega, by omega, ownsF_congr (ownsF_set (ownsF_drewN HW2.out) (i + 1) _) ?_, (below_drewN hb2 _).setCell (Nat.le_refl _) _⟩, by simp [intOf]; omega⟩
            exact fun t ht => border_row (by rw [HH.out]; rfl) t
        · have hne : ((s[k].toNat : Int) != (s[i + 1].toNat : Int)) = true := by
            rw [bne_iff_ne]; intro e; exact he (UInt8.toNat_inj.1 (by omega))
          have heb : ((s[k].toNat : Int) == (s[i + 1].toNat : Int)) = false := by
            rw [beq_eq_false_iff_ne]; intro e; exact he (UInt8.toNat_inj.1 (by omega))
          have hef : at' s k ≠ at' s (i + 1) := by rw [ek, ei]; exact he
          clear ek ei he
          by_cases hkp : 0 < k
          · obtain ⟨q, rfl⟩ : ∃ q, k = q + 1 := ⟨k - 1, by omega⟩
            have HN := Lib.hid (cand_next HC.out (by omega) hef)
            have hcq := ownsF_cell HW2.out (show q < s.size by omega)
            rw [if_pos (by omega)] at hcq
            have hbq := (bMax_is (at' s) (show 0 < q + 1 by omega)).1
            clear how2 hef hst hfr
            have hqI : (q : Int) + 1 < (s.size : Int) := by omega
            have hq0 : (0 : Int) ≤ (q : Int) + 1 := by omega
            have hq1 : (0 : Int) < (q : Int) + 1 := by omega
            go_wp2_with fail
            go_quiet (fail)
            go_wp2_with fail
            exact ⟨⟨bMax (at' s) (q + 1), rfl, by omega, HN.out, ownsF_drewN HW2.out, below_drewN hb2 _⟩, by simp [intOf]; omega⟩
          · obtain rfl : k = 0 := by omega
            have HH := Lib.hid (cand_miss HC.out hef)
            have hd : decide ((0 : Int) < 0) = false := rfl
            clear how2 hef
            go_wp2_with fail
            go_quiet (fail)
            go_wp2_with fail
            go_quiet (fail)
            go_wp2_with fail
            refine ⟨⟨i + 1 + 1, by go_num, by omega, by omega, ownsF_congr (ownsF_set (ownsF_drewN HW2.out) (i + 1) _) ?_, (below_drewN hb2 _).setCell (Nat.le_refl _) _⟩, by simp [intOf]; omega⟩
            exact fun t ht => border_row (by rw [HH.out]; rfl) t
    · obtain rfl : i = s.size := by omega
      have hce := ownsF_cell how (show s.size - 1 < s.size by omega)
      rw [if_pos (by omega), show s.size - 1 + 1 = s.size by omega] at hce
      have hn1 : (1 : Int) ≤ (s.size : Int) := by omega
      have HW2 := Lib.hid how
      clear how
      go_wp2_with fail
      go_ret
      exact ⟨rfl, hbw⟩
end Go.Proofs.Ytnhfagolmafonab
