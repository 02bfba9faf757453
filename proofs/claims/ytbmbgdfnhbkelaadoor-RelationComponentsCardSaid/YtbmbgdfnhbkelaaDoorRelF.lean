/- Contracts: Union, Meet. -/
import Derived.Test.YtbmbgdfnhbkelaaDoorRelC
import Derived.Test.YtbmbgdfnhbkelaaDoorRelI
import Derived.RegionTactic
namespace Go.Proofs.YtbmbgdfnhbkelaaDoor
open Go Go.RowKit
set_option linter.unusedVariables false

set_option maxHeartbeats 1000000 in
theorem union_own (a : Option Addr) (n c : Nat) (f : Nat → Nat) (a' : Option Addr) (c' : Nat) (g : Nat → Nat) (w : World) (hr : Row w a n f) (hs : Row w a' n g) (hp : pairB n f n g = true) :
    Calls Tryd.prog 25 #[.slice a n c, .slice a' n c'] w (Fresh w n (unionF f g)) := by
  have hn := (valB_iff.1 (pairB_iff.1 hp).1).1
  have H1 := Lib.hid hr
  have H2 := Lib.hid hs
  have HP := Lib.hid hp
  clear hr hs hp
  obtain ⟨i0, hi, hz0, hz1, hz2⟩ := info_parts infoU
  go_enter Tryd.func25, Tryd.ntmps25
  go_wp2_with fail
  refine (validPair_any _ _ _ _ _ _ _ _ _ H1.out H2.out).mono ?_
  rintro e w' ⟨rfl, rfl⟩
  rw [HP.out]
  go_wp2_with (refine wpList_make_full _ rfl _ _ 22 rfl w.heap.size 37 i0 (.int .u64 0) 1 Tryd.underlying22 hi hz0 hz1 .i64 .i64 _ _ n rfl rfl (by simp) (by simp) ?c1 ?c2 ?c3 ?_)
  case c1 => rw [hz2]; omega
  case c2 => unfold maxLen; omega
  case c3 => exact Nat.le_refl _
  intro w1 hown0 hg1
  have hown : ownsU w1 w.heap.size w.heap.size n 37 (upF 0 (unionF f g)) := by
    refine ownsU_congr (f := fun _ => 0) ?_ fun t _ => (upF_zero _ _).symm
    unfold ownsU
    rw [← rowU_made]
    simpa using hown0
  have hb : Below w.heap.size w w1 := (Below.refl _ w).grown hg1 (Nat.le_refl _) (by intro k hk; cases hk)
  clear hown0 hg1
  have HO := Lib.hid hown
  have HB := Lib.hid hb
  clear hown hb
  go_wp2_with fail
  go_loopw [16] (fun i wr => ∃ j : Nat, j ≤ n ∧ i = .int .i64 j ∧ ownsU wr w.heap.size w.heap.size n 37 (upF j (unionF f g)) ∧ Below w.heap.size w wr) (fun i _ => n - (intOf i).toNat)
  case atStart => exact ⟨0, Nat.zero_le _, rfl, HO.out, HB.out⟩
  case round =>
    obtain ⟨j, hj, rfl, ho, hb⟩ := hrel
    by_cases hlt : j < n
    · have hcj := ownsU_cell ho hlt
      have hfj := ownsU_free ho j
      rw [upF_at] at hcj
      have HO2 := Lib.hid ho
      have HB2 := Lib.hid hb
      clear ho hb
      rcases H1.out.keep HB2.out with h0 | ⟨b, off, rfl, hbz, hc⟩
      · omega
      rcases H2.out.keep HB2.out with h0 | ⟨b', off', rfl, hbz', hc'⟩
      · omega
      have hcf := (hc j hlt).1
      have hcg := (hc' j hlt).1
      obtain ⟨x, hx⟩ : ∃ x, x = f j ||| g j := ⟨_, rfl⟩
      have hS : bits .or .u64 (f j : Int) (g j : Int) = (x : Int) := by rw [hx]; exact u_or (hc j hlt).2 (hc' j hlt).2
      have HX := Lib.hid hx
      clear hc hc' hx
      have hj0 : (0 : Int) ≤ (j : Int) := by omega
      have hjn : (j : Int) < (n : Int) := by omega
      go_wp2_with fail
      go_region
      all_goals
        go_wp2_with fail
        exact ⟨⟨j + 1, by omega, by go_num, ownsU_up (ownsU_drew HO2.out) HX.out, HB2.out.drew.setCell (Nat.le_refl _) _⟩, by simp [intOf]; omega⟩
    · obtain rfl : n = j := by omega
      have HO2 := Lib.hid ho
      have HB2 := Lib.hid hb
      clear ho hb
      go_wp2_with fail
      go_ret
      exact Fresh.own HO2.out HB2.out
theorem union_ok (a : Option Addr) (n c : Nat) (f : Nat → Nat) (a' : Option Addr) (c' : Nat) (g : Nat → Nat) (w : World) (hr : Row w a n f) (hs : Row w a' n g) (hp : pairB n f n g = true) :
    Calls Tryd.prog 25 #[.slice a n c, .slice a' n c'] w (Gives w n (unionF f g)) :=
  (union_own a n c f a' c' g w hr hs hp).mono fun _ _ h => h.gives fun i hi => or_u (hr.bound i hi) (hs.bound i hi)

set_option maxHeartbeats 400000 in
theorem union_no (a : Option Addr) (n c : Nat) (f : Nat → Nat) (a' : Option Addr) (m c' : Nat) (g : Nat → Nat) (w : World) (hr : Row w a n f) (hs : Row w a' m g) (hp : pairB n f m g = false) (q : Nat → Nat) :
    Calls Tryd.prog 25 #[.slice a n c, .slice a' m c'] w (Gives w 0 q) := by
  have H1 := Lib.hid hr
  have H2 := Lib.hid hs
  have HP := Lib.hid hp
  clear hr hs hp
  go_enter Tryd.func25, Tryd.ntmps25
  go_wp2_with fail
  refine (validPair_any _ _ _ _ _ _ _ _ _ H1.out H2.out).mono ?_
  rintro e w' ⟨rfl, rfl⟩
  rw [HP.out]
  go_wp2_with fail
  go_ret
  exact Gives.nil

set_option maxHeartbeats 1000000 in
theorem meet_own (a : Option Addr) (n c : Nat) (f : Nat → Nat) (a' : Option Addr) (c' : Nat) (g : Nat → Nat) (w : World) (hr : Row w a n f) (hs : Row w a' n g) (hp : pairB n f n g = true) :
    Calls Tryd.prog 16 #[.slice a n c, .slice a' n c'] w (Fresh w n (meetF f g)) := by
  have hn := (valB_iff.1 (pairB_iff.1 hp).1).1
  have H1 := Lib.hid hr
  have H2 := Lib.hid hs
  have HP := Lib.hid hp
  clear hr hs hp
  obtain ⟨i0, hi, hz0, hz1, hz2⟩ := info_parts infoU
  go_enter Tryd.func16, Tryd.ntmps16
  go_wp2_with fail
  refine (validPair_any _ _ _ _ _ _ _ _ _ H1.out H2.out).mono ?_
  rintro e w' ⟨rfl, rfl⟩
  rw [HP.out]
  go_wp2_with (refine wpList_make_full _ rfl _ _ 22 rfl w.heap.size 37 i0 (.int .u64 0) 1 Tryd.underlying22 hi hz0 hz1 .i64 .i64 _ _ n rfl rfl (by simp) (by simp) ?c1 ?c2 ?c3 ?_)
  case c1 => rw [hz2]; omega
  case c2 => unfold maxLen; omega
  case c3 => exact Nat.le_refl _
  intro w1 hown0 hg1
  have hown : ownsU w1 w.heap.size w.heap.size n 37 (upF 0 (meetF f g)) := by
    refine ownsU_congr (f := fun _ => 0) ?_ fun t _ => (upF_zero _ _).symm
    unfold ownsU
    rw [← rowU_made]
    simpa using hown0
  have hb : Below w.heap.size w w1 := (Below.refl _ w).grown hg1 (Nat.le_refl _) (by intro k hk; cases hk)
  clear hown0 hg1
  have HO := Lib.hid hown
  have HB := Lib.hid hb
  clear hown hb
  go_wp2_with fail
  go_loopw [16] (fun i wr => ∃ j : Nat, j ≤ n ∧ i = .int .i64 j ∧ ownsU wr w.heap.size w.heap.size n 37 (upF j (meetF f g)) ∧ Below w.heap.size w wr) (fun i _ => n - (intOf i).toNat)
  case atStart => exact ⟨0, Nat.zero_le _, rfl, HO.out, HB.out⟩
  case round =>
    obtain ⟨j, hj, rfl, ho, hb⟩ := hrel
    by_cases hlt : j < n
    · have hcj := ownsU_cell ho hlt
      have hfj := ownsU_free ho j
      rw [upF_at] at hcj
      have HO2 := Lib.hid ho
      have HB2 := Lib.hid hb
      clear ho hb
      rcases H1.out.keep HB2.out with h0 | ⟨b, off, rfl, hbz, hc⟩
      · omega
      rcases H2.out.keep HB2.out with h0 | ⟨b', off', rfl, hbz', hc'⟩
      · omega
      have hcf := (hc j hlt).1
      have hcg := (hc' j hlt).1
      obtain ⟨x, hx⟩ : ∃ x, x = f j &&& g j := ⟨_, rfl⟩
      have hS : bits .and .u64 (f j : Int) (g j : Int) = (x : Int) := by rw [hx]; exact u_and (hc j hlt).2 (hc' j hlt).2
      have HX := Lib.hid hx
      clear hc hc' hx
      have hj0 : (0 : Int) ≤ (j : Int) := by omega
      have hjn : (j : Int) < (n : Int) := by omega
      go_wp2_with fail
      go_region
      all_goals
        go_wp2_with fail
        exact ⟨⟨j + 1, by omega, by go_num, ownsU_up (ownsU_drew HO2.out) HX.out, HB2.out.drew.setCell (Nat.le_refl _) _⟩, by simp [intOf]; omega⟩
    · obtain rfl : n = j := by omega
      have HO2 := Lib.hid ho
      have HB2 := Lib.hid hb
      clear ho hb
      go_wp2_with fail
      go_ret
      exact Fresh.own HO2.out HB2.out
theorem meet_ok (a : Option Addr) (n c : Nat) (f : Nat → Nat) (a' : Option Addr) (c' : Nat) (g : Nat → Nat) (w : World) (hr : Row w a n f) (hs : Row w a' n g) (hp : pairB n f n g = true) :
    Calls Tryd.prog 16 #[.slice a n c, .slice a' n c'] w (Gives w n (meetF f g)) :=
  (meet_own a n c f a' c' g w hr hs hp).mono fun _ _ h => h.gives fun i hi => and_u (hr.bound i hi)

set_option maxHeartbeats 400000 in
theorem meet_no (a : Option Addr) (n c : Nat) (f : Nat → Nat) (a' : Option Addr) (m c' : Nat) (g : Nat → Nat) (w : World) (hr : Row w a n f) (hs : Row w a' m g) (hp : pairB n f m g = false) (q : Nat → Nat) :
    Calls Tryd.prog 16 #[.slice a n c, .slice a' m c'] w (Gives w 0 q) := by
  have H1 := Lib.hid hr
  have H2 := Lib.hid hs
  have HP := Lib.hid hp
  clear hr hs hp
  go_enter Tryd.func16, Tryd.ntmps16
  go_wp2_with fail
  refine (validPair_any _ _ _ _ _ _ _ _ _ H1.out H2.out).mono ?_
  rintro e w' ⟨rfl, rfl⟩
  rw [HP.out]
  go_wp2_with fail
  go_ret
  exact Gives.nil
end Go.Proofs.YtbmbgdfnhbkelaaDoor
