/- Contracts: Compose, Union, Meet. -/
import Derived.Test.YtbmbgdfnhbkelaaRelC
import Derived.Test.YtbmbgdfnhbkelaaRelD
import Derived.Test.YtbmbgdfnhbkelaaRelI
import Derived.RegionTactic
namespace Go.Proofs.Ytbmbgdfnhbkelaa
open Go Go.RowKit
set_option linter.unusedVariables false

/-- the product's rows -/
def compF (n : Nat) (f g : Nat → Nat) (i : Nat) : Nat := imgN g (f i) n

set_option maxHeartbeats 1000000 in
theorem compose_ok (a : Option Addr) (n c : Nat) (f : Nat → Nat) (a' : Option Addr) (c' : Nat) (g : Nat → Nat) (w : World) (hr : Row w a n f) (hs : Row w a' n g) (hp : pairB n f n g = true) :
    Calls Try.prog 19 #[.slice a n c, .slice a' n c'] w (Gives w n (compF n f g)) := by
  have hn := (valB_iff.1 (pairB_iff.1 hp).1).1
  have H1 := Lib.hid hr
  have H2 := Lib.hid hs
  have HP := Lib.hid hp
  clear hr hs hp
  obtain ⟨i0, hi, hz0, hz1, hz2⟩ := info_parts infoU
  go_enter Try.func19, Try.ntmps19
  go_wp2_with fail
  refine (validPair_any _ _ _ _ _ _ _ _ _ H1.out H2.out).mono ?_
  rintro e w' ⟨rfl, rfl⟩
  rw [HP.out]
  go_wp2_with (refine wpList_make_full _ rfl _ _ 22 rfl w.heap.size 31 i0 (.int .u64 0) 1 Try.underlying22 hi hz0 hz1 .i64 .i64 _ _ n rfl rfl (by simp) (by simp) ?c1 ?c2 ?c3 ?_)
  case c1 => rw [hz2]; omega
  case c2 => unfold maxLen; omega
  case c3 => exact Nat.le_refl _
  intro w1 hown0 hg1
  have hown : ownsU w1 w.heap.size w.heap.size n 31 (upF 0 (compF n f g)) := by
    refine ownsU_congr (f := fun _ => 0) ?_ fun t _ => (upF_zero _ _).symm
    unfold ownsU
    rw [← rowU_made]
    simpa using hown0
  have hb : Below w.heap.size w w1 := (Below.refl _ w).grown hg1 (Nat.le_refl _) (by intro k hk; cases hk)
  clear hown0 hg1
  have HO := Lib.hid hown
  have HB := Lib.hid hb
  clear hown hb
  go_wp2_with fail
  go_loopw [16] (fun i wr => ∃ j : Nat, j ≤ n ∧ i = .int .i64 j ∧ ownsU wr w.heap.size w.heap.size n 31 (upF j (compF n f g)) ∧ Below w.heap.size w wr) (fun i _ => n - (intOf i).toNat)
  case atStart => exact ⟨0, Nat.zero_le _, rfl, HO.out, HB.out⟩
  case round =>
    obtain ⟨j, hj, rfl, ho, hb⟩ := hrel
    by_cases hlt : j < n
    · have hcj := ownsU_cell ho hlt
      have hfj := ownsU_free ho j
      rw [upF_at] at hcj
      have HO2 := Lib.hid ho
      have HB2 := Lib.hid hb
      clear ho hb
      rcases H1.out.keep HB2.out with h0 | ⟨b, off, rfl, hbz, hc⟩
      · omega
      have HK := Lib.hid (H2.out.keep HB2.out)
      have hcf := (hc j hlt).1
      have hfu := (hc j hlt).2
      clear hc
      go_wp2_with fail
      refine (imageC_any _ _ _ _ _ _ HK.out hn hfu).mono ?_
      rintro e w' ⟨rfl, rfl⟩
      go_wp2_with fail
      exact ⟨⟨j + 1, by omega, by go_num, ownsU_up HO2.out rfl, HB2.out.setCell (Nat.le_refl _) _⟩, by simp [intOf]; omega⟩
    · obtain rfl : n = j := by omega
      have HO2 := Lib.hid ho
      have HB2 := Lib.hid hb
      clear ho hb
      go_wp2_with fail
      go_ret
      exact Gives.own HO2.out (fun i hi => imgN_u (Nat.le_refl _) fun i hi => H2.out.bound i hi) HB2.out

set_option maxHeartbeats 400000 in
theorem compose_no (a : Option Addr) (n c : Nat) (f : Nat → Nat) (a' : Option Addr) (m c' : Nat) (g : Nat → Nat) (w : World) (hr : Row w a n f) (hs : Row w a' m g) (hp : pairB n f m g = false) (q : Nat → Nat) :
    Calls Try.prog 19 #[.slice a n c, .slice a' m c'] w (Gives w 0 q) := by
  have H1 := Lib.hid hr
  have H2 := Lib.hid hs
  have HP := Lib.hid hp
  clear hr hs hp
  go_enter Try.func19, Try.ntmps19
  go_wp2_with fail
  refine (validPair_any _ _ _ _ _ _ _ _ _ H1.out H2.out).mono ?_
  rintro e w' ⟨rfl, rfl⟩
  rw [HP.out]
  go_wp2_with fail
  go_ret
  exact Gives.nil
end Go.Proofs.Ytbmbgdfnhbkelaa
