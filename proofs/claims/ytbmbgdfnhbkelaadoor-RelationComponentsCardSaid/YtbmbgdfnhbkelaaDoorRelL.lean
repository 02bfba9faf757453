/- Contract: Closure. -/
import Derived.Test.YtbmbgdfnhbkelaaDoorRelF
import Derived.Test.YtbmbgdfnhbkelaaDoorRelLM
import Derived.Deep.Onto
namespace Go.Proofs.YtbmbgdfnhbkelaaDoor
open Go Go.RowKit
set_option linter.unusedVariables false

theorem pair_id {n : Nat} {f : Nat → Nat} (hp : valB n f = true) : pairB n f n idF = true := by
  rw [pairB_iff]
  exact ⟨hp, valB_iff.2 ⟨(valB_iff.1 hp).1, fun j hj => Nat.pow_lt_pow_right (by decide) hj⟩, rfl⟩

set_option maxHeartbeats 1000000 in
theorem closure_ok (a : Option Addr) (n c : Nat) (f : Nat → Nat) (w : World) (hr : Row w a n f) (hp : valB n f = true) :
    Calls Tryd.prog 15 #[.slice a n c] w (Gives w n (clF n f)) := by
  have hn := (valB_iff.1 hp).1
  have HU := Lib.hid (fun k (h : k ≤ n) i (hi : i < n) => warF_u (f := fun i => f i ||| 2 ^ i) (n := n) (fun i hi => or_u (valB_u hp hi) (pow_lt64 (by omega))) h i hi)
  have H1 := Lib.hid hr
  have HP := Lib.hid hp
  have HQ := Lib.hid (pair_id hp)
  clear hr hp
  go_enter Tryd.func15, Tryd.ntmps15
  go_wp2_with fail
  refine (valid_any _ _ _ _ _ H1.out).mono ?_
  rintro e w' ⟨rfl, rfl⟩
  rw [HP.out]
  go_wp2_with fail
  refine (ident_ok n _ hn).mono ?_
  rintro e w1 ⟨r, cr, rfl, hri, hb1⟩
  have HK := Lib.hid (H1.out.keep hb1)
  have HI := Lib.hid hri
  have HB1 := Lib.hid hb1
  clear hri hb1
  go_wp2_with fail
  refine (union_own _ _ _ _ _ _ _ _ HK.out HI.out HQ.out).mono ?_
  rintro e w2 ⟨g, rfl, hg, ho, hb2⟩
  have HO : Hid (ownsC w2 w.heap.size g n n 37 (warF (fun i => f i ||| 2 ^ i) 0)) := Lib.hid (ho.mono HB1.out.size)
  have HB := Lib.hid (HB1.out.trans (hb2.mono HB1.out.size))
  have hg2 : w.heap.size ≤ g := Nat.le_trans HB1.out.size hg
  clear ho hb2
  go_wp2_with fail
  go_loopw [17] (fun vk wr => ∃ k : Nat, k ≤ n ∧ vk = .int .i64 k ∧ ownsC wr w.heap.size g n n 37 (warF (fun i => f i ||| 2 ^ i) k) ∧ Below w.heap.size w wr) (fun vk _ => n - (intOf vk).toNat)
  case atStart => exact ⟨0, Nat.zero_le _, rfl, HO.out, HB.out⟩
  case round =>
    obtain ⟨k, hk1, rfl, ho, hb⟩ := hrel
    have HO2 := Lib.hid ho
    have HB2 := Lib.hid hb
    clear ho hb
    by_cases hlt : k < n
    · have HF := Lib.hid (HU.out k hk1)
      have HW : Hid (warF (fun i => f i ||| 2 ^ i) (k + 1) = stF (warF (fun i => f i ||| 2 ^ i) k) k) := Lib.hid rfl
      generalize warF (fun i => f i ||| 2 ^ i) k = F at *
      go_wp2_with fail
      obtain ⟨wo, rfl⟩ : ∃ wo : World, wo = wr := ⟨_, rfl⟩
      go_loopw [21] (fun vi wr => ∃ i : Nat, i ≤ n ∧ vi = .int .i64 i ∧ ownsC wr w.heap.size g n n 37 (wsF F k i) ∧ Below w.heap.size w wr) (fun vi _ => n - (intOf vi).toNat)
      case atStart => exact ⟨0, Nat.zero_le _, rfl, ownsC_congr HO2.out (fun t _ => (wsF_zero F k t).symm), HB2.out⟩
      case round =>
        obtain ⟨i, hi1, rfl, ho, hb⟩ := hrel
        by_cases hlti : i < n
        · have hci := ownsC_cell ho hlti
          have hck := ownsC_cell ho hlt
          have hfi := ownsC_free ho i
          rw [wsF_at] at hci
          rw [wsF_mid] at hck
          have hFi := HF.out i hlti
          have HO3 := Lib.hid ho
          have HB3 := Lib.hid hb
          clear ho hb
          cases ht : (F i).testBit k
          · have HT := Lib.hid ht
            have HX := Lib.hid (show stF F k i = F i by simp [stF, ht])
            clear ht
            go_wp2_with fail
            refine (has_any _ k _ hFi (by omega)).mono ?_
            rintro e w' ⟨rfl, rfl⟩
            rw [HT.out]
            go_wp2_with fail
            exact ⟨⟨i + 1, by omega, by go_num, ownsC_pass HO3.out HX.out, HB3.out⟩, by simp [intOf]; omega⟩
          · have HT := Lib.hid ht
            obtain ⟨x, hx⟩ : ∃ x, x = F i ||| F k := ⟨_, rfl⟩
            have hS : bits .or .u64 (F i : Int) (F k : Int) = (x : Int) := by rw [hx]; exact u_or hFi (HF.out k hlt)
            have HX := Lib.hid (show x = stF F k i by simp [stF, ht, hx])
            clear ht hx
            have hj0 : (0 : Int) ≤ (k : Int) := by omega
            have hjn : (k : Int) < (n : Int) := by omega
            have hi0 : (0 : Int) ≤ (i : Int) := by omega
            have hin : (i : Int) < (n : Int) := by omega
            go_wp2_with fail
            refine (has_any _ k _ hFi (by omega)).mono ?_
            rintro e w' ⟨rfl, rfl⟩
            rw [HT.out]
            go_wp2_with fail
            go_region
            all_goals
              go_wp2_with fail
              exact ⟨⟨i + 1, by omega, by go_num, ownsC_ws (ownsC_drew HO3.out) HX.out, HB3.out.drew.setCell hg2 _⟩, by simp [intOf]; omega⟩
        · obtain rfl : n = i := by omega
          have HO3 := Lib.hid (ownsC_congr ho (f' := stF F k) (fun t ht => wsF_all ht))
          have HB3 := Lib.hid hb
          clear ho hb
          go_wp2_with fail
          exact ⟨⟨k + 1, by omega, by go_num, by rw [HW.out]; exact HO3.out, HB3.out⟩, by simp [intOf]; omega⟩
    · obtain rfl : n = k := by omega
      go_wp2_with fail
      go_ret
      exact ⟨_, _, rfl, Row.ownedC HO2.out (HU.out n (Nat.le_refl _)), HB2.out⟩

set_option maxHeartbeats 400000 in
theorem closure_no (a : Option Addr) (n c : Nat) (f : Nat → Nat) (w : World) (hr : Row w a n f) (hp : valB n f = false) (q : Nat → Nat) :
    Calls Tryd.prog 15 #[.slice a n c] w (Gives w 0 q) := by
  have H1 := Lib.hid hr
  have HP := Lib.hid hp
  clear hr hp
  go_enter Tryd.func15, Tryd.ntmps15
  go_wp2_with fail
  refine (valid_any _ _ _ _ _ H1.out).mono ?_
  rintro e w' ⟨rfl, rfl⟩
  rw [HP.out]
  go_wp2_with fail
  go_ret
  exact Gives.nil
end Go.Proofs.YtbmbgdfnhbkelaaDoor
