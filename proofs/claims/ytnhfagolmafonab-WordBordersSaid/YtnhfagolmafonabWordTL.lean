/- Contracts: the reference's Border; the walk of the law on borders. -/
import Derived.Test.YtnhfagolmafonabWordT
import Derived.StillTailTactics
namespace Go.Proofs.Ytnhfagolmafonab
open Go.RowKit Go.Sort
open WordM
set_option linter.unusedVariables false

set_option maxRecDepth 100000 in
set_option maxHeartbeats 1000000 in
theorem rborder_any (s : ByteArray) (w : World) (hs : s.size ≤ 4096) :
    Calls Try.prog 18 #[.string s] w fun e w' => e = .returned (.int .i64 (bord s)) ∧ Below w.heap.size w w' := by
  go_enter Try.func18, Try.ntmps18
  go_wp2_with fail
  go_loopw [3] (fun vz wr => ∃ z : Int, vz = .int .i64 z ∧ -1 ≤ z ∧ z < s.size ∧ (∀ c, isB (at' s) s.size c → (c : Int) ≤ z ∨ c = 0) ∧ Below w.heap.size w wr) (fun vz _ => (intOf vz).toNat)
  case atStart =>
    refine ⟨_, rfl, by omega, by omega, fun c hc => ?_, Below.refl _ _⟩
    have := hc.1
    omega
  case round =>
    obtain ⟨z, rfl, hz0, hz1, hall, hb⟩ := hrel
    by_cases hz : 0 < z
    · obtain ⟨b, rfl⟩ := Int.eq_ofNat_of_zero_le (show 0 ≤ z by omega)
      have hbs : b < s.size := by omega
      have h1 : (0 : Int) ≤ (b : Int) := by omega
      have h2 : (b : Int) ≤ (s.size : Int) := by omega
      have h3 : IntKind.i64.wrap ((s.size : Int) - (b : Int)) = (s.size : Int) - (b : Int) := IntWalk.i64_in _ (by omega)
      have h4 : (0 : Int) ≤ (s.size : Int) - (b : Int) := by omega
      have h5 : ((s.size : Int) - (b : Int)).toNat = s.size - b := by omega
      have h6 : (s.size : Int) - (b : Int) ≤ (s.size : Int) := by omega
      have HALL := Lib.hid hall
      clear hall
      by_cases hB : isB (at' s) s.size b
      · have he : ((s.extract 0 b).toList == (s.extract (s.size - b) s.size).toList) = true := by
          rw [beq_iff_eq, Lib.toList_data, Lib.toList_data]; exact (border_same hbs).2 hB
        have HF := Lib.hid (show bord s = b from bMax_eq hB fun c hc => by have := HALL.out c hc; omega)
        clear hB
        go_wp2_with fail
        go_quiet (fail)
        go_wp2_with fail
        go_ret
        exact ⟨by rw [HF.out]; rfl, below_drewN hb _⟩
      · have he : ((s.extract 0 b).toList == (s.extract (s.size - b) s.size).toList) = false := by
          rw [beq_eq_false_iff_ne, Lib.toList_data, Lib.toList_data]; intro h; exact hB ((border_same hbs).1 h)
        have HN := Lib.hid hB
        clear hB
        go_wp2_with fail
        go_quiet (fail)
        go_wp2_with fail
        refine ⟨⟨_, rfl, by omega, by omega, fun c hc => ?_, below_drewN hb _⟩, by simp [intOf]; omega⟩
        have h7 := HALL.out c hc
        by_cases e : c = b
        · subst e; exact absurd hc HN.out
        · omega
    · have HF := Lib.hid (show bord s = 0 from by
        by_cases h0 : s.size = 0
        · exact bord_empty h0
        · exact bMax_eq (isB_zero (by omega)) fun c hc => by have := hall c hc; omega)
      clear hall
      go_wp2_with fail
      go_ret
      exact ⟨by rw [HF.out]; rfl, hb⟩

/-- word.Border, of at most 4096 bytes -/
theorem border_any (s : ByteArray) (w : World) (hs : s.size ≤ 4096) :
    Calls Try.prog 17 #[.string s] w fun e w' => e = .returned (.int .i64 (bord s)) ∧ Below w.heap.size w w' := by
  by_cases h : s.size = 0
  · refine (border_empty s w h).mono ?_
    rintro e w' ⟨rfl, rfl⟩
    exact ⟨rfl, Below.refl _ _⟩
  · exact border_yes s w (by omega) hs

set_option maxRecDepth 100000 in
set_option maxHeartbeats 1000000 in
theorem wWordBorders (s0 : ByteArray) (_ : s0.size ≤ maxLen) (w : World) :
    Calls Try.prog 8 #[.string s0] w fun e w' => e = .returned (.bool true) ∧ Below w.heap.size w w' := by
  have c1 := cutS_le s0 200
  go_enter Try.func8, Try.ntmps8
  go_wp2_with fail
  refine (cut_any _ _ _ (by omega) (by omega)).mono ?_
  rintro e w2 ⟨rfl, rfl⟩
  rw [show (200 : Int).toNat = 200 from rfl]
  generalize cutS s0 200 = s at *
  go_wp2_with fail
  refine (border_any _ _ (show s.size ≤ 4096 by omega)).mono ?_
  rintro e w2 ⟨rfl, hb⟩
  go_wp2_with fail
  refine (rborder_any _ _ (show s.size ≤ 4096 by omega)).mono ?_
  rintro e w3 ⟨rfl, hb3⟩
  have hb4 := hb.trans (hb3.mono hb.size)
  by_cases h0 : s.size = 0
  · have hb0 := bord_empty h0
    have he : ((s.extract 0 (bord s)).toList == (s.extract (s.size - bord s) s.size).toList) = true := by
      rw [beq_iff_eq, Lib.toList_data, Lib.toList_data, extract_same (by omega) (Nat.le_refl _) (by omega)]
      intro t ht; omega
    have he3 : ((s.extract 0 (bord s)).toList == s.toList) = true := by
      rw [beq_iff_eq, show bord s = s.size by omega, ByteArray.extract_zero_size]
    have he2 : s.toList.isEmpty = true := by rw [List.isEmpty_iff, empty_iff]; exact h0
    have hbl : bord s ≤ s.size := by omega
    have hge : s.size ≤ bord s := by omega
    clear hb0 h0
    generalize bord s = b at *
    have hd : decide ((b : Int) < (s.size : Int)) = false := decide_eq_false (by omega)
    have h0' : ¬ (b : Int) < (s.size : Int) := by omega
    have h1 : (0 : Int) ≤ (b : Int) := by omega
    have h2 : (b : Int) ≤ (s.size : Int) := by omega
    have h3 : IntKind.i64.wrap ((s.size : Int) - (b : Int)) = (s.size : Int) - (b : Int) := IntWalk.i64_in _ (by omega)
    have h4 : (0 : Int) ≤ (s.size : Int) - (b : Int) := by omega
    have h5 : ((s.size : Int) - (b : Int)).toNat = s.size - b := by omega
    have h6 : (s.size : Int) - (b : Int) ≤ (s.size : Int) := by omega
    clear hb hb3
    go_wp2_with fail
    go_still_tail 21, (by kernel_rfl)
    change wpList _ _ _ _ _ w3.drew
    have hb5 : Below w.heap.size w w3.drew := hb4.drew
    generalize w3.drew = w5 at *
    go_wp2_with fail
    refine (awake_any _).mono ?_
    rintro e w6 ⟨rfl, hb6⟩
    have hb7 := hb5.trans (hb6.mono hb5.size)
    go_wp2_with fail
    go_ret
    exact ⟨rfl, hb7⟩
  · have hlt := bord_lt (show 0 < s.size by omega)
    have he : ((s.extract 0 (bord s)).toList == (s.extract (s.size - bord s) s.size).toList) = true := by
      rw [beq_iff_eq, Lib.toList_data, Lib.toList_data]; exact (border_same hlt).2 (bMax_is (at' s) (by omega))
    generalize bord s = b at *
    have hd : decide ((b : Int) < (s.size : Int)) = true := decide_eq_true (by omega)
    have h0' : (b : Int) < (s.size : Int) := by omega
    have h1 : (0 : Int) ≤ (b : Int) := by omega
    have h2 : (b : Int) ≤ (s.size : Int) := by omega
    have h3 : IntKind.i64.wrap ((s.size : Int) - (b : Int)) = (s.size : Int) - (b : Int) := IntWalk.i64_in _ (by omega)
    have h4 : (0 : Int) ≤ (s.size : Int) - (b : Int) := by omega
    have h5 : ((s.size : Int) - (b : Int)).toNat = s.size - b := by omega
    have h6 : (s.size : Int) - (b : Int) ≤ (s.size : Int) := by omega
    clear hb hb3
    go_wp2_with fail
    go_still_tail 21, (by kernel_rfl)
    change wpList _ _ _ _ _ w3.drew
    have hb5 : Below w.heap.size w w3.drew := hb4.drew
    generalize w3.drew = w5 at *
    go_wp2_with fail
    refine (awake_any _).mono ?_
    rintro e w6 ⟨rfl, hb6⟩
    have hb7 := hb5.trans (hb6.mono hb5.size)
    go_wp2_with fail
    go_ret
    exact ⟨rfl, hb7⟩
end Go.Proofs.Ytnhfagolmafonab
