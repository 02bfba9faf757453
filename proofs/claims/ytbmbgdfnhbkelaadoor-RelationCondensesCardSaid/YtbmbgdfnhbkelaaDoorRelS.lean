/- Contract: Same. -/
import Derived.Test.YtbmbgdfnhbkelaaDoorRelB
namespace Go.Proofs.YtbmbgdfnhbkelaaDoor
open Go Go.RowKit
set_option linter.unusedVariables false
/-- the same n numbers -/
def sameB (n : Nat) (f : Nat → Nat) (m : Nat) (g : Nat → Nat) : Bool := decide (n = m) && (List.range n).all fun j => f j == g j
theorem sameB_iff {n m : Nat} {f g : Nat → Nat} : sameB n f m g = true ↔ n = m ∧ ∀ j, j < n → f j = g j := by
  simp [sameB, List.all_eq_true]
theorem sameB_true {n : Nat} {f g : Nat → Nat} (h : ∀ j, j < n → f j = g j) : sameB n f n g = true := sameB_iff.2 ⟨rfl, h⟩
set_option maxHeartbeats 1000000 in
theorem same_eq (a : Option Addr) (n c : Nat) (f : Nat → Nat) (a' : Option Addr) (c' : Nat) (g : Nat → Nat) (w : World) (hr : Row w a n f) (hs : Row w a' n g) (hn : n ≤ maxLen) :
    Calls Tryd.prog 12 #[.slice a n c, .slice a' n c'] w fun e w' => e = .returned (.bool (sameB n f n g)) ∧ Below w.heap.size w w' := by
  have H1 := Lib.hid hr
  have H2 := Lib.hid hs
  clear hr hs
  unfold maxLen at hn
  go_enter Tryd.func12, Tryd.ntmps12
  go_wp2_with fail
  go_loopw [13] (fun i wr => ∃ j : Nat, j ≤ n ∧ i = .int .i64 j ∧ (∀ t, t < j → f t = g t) ∧ Below w.heap.size w wr) (fun i _ => n - (intOf i).toNat)
  case atStart => exact ⟨0, Nat.zero_le _, rfl, fun t ht => by omega, Below.refl _ _⟩
  case round =>
    obtain ⟨j, hj, rfl, hall, hb⟩ := hrel
    have HA := Lib.hid hall
    have HB := Lib.hid hb
    clear hall hb
    by_cases hlt : j < n
    · rcases H1.out.keep HB.out with h0 | ⟨b, off, rfl, hbz, hc⟩
      · omega
      rcases H2.out.keep HB.out with h0 | ⟨b', off', rfl, hbz', hc'⟩
      · omega
      have hcj := (hc j hlt).1
      have hcj' := (hc' j hlt).1
      clear hc hc'
      have hj0 : (0 : Int) ≤ (j : Int) := by omega
      have hjn : (j : Int) < (n : Int) := by omega
      by_cases hf : f j = g j
      · have h1 : ((f j : Int) != (g j : Int)) = false := by rw [hf]; simp
        have HF := Lib.hid hf
        clear hf
        go_wp2_with fail
        go_quiet (fail)
        go_wp2_with fail
        exact ⟨⟨j + 1, by omega, by go_num, fun t ht => by
            by_cases et : t = j
            · subst et; exact HF.out
            · exact HA.out t (by omega), below_drewN HB.out _⟩, by simp [intOf]; omega⟩
      · have h1 : ((f j : Int) != (g j : Int)) = true := by rw [bne_iff_ne]; omega
        have HF := Lib.hid (show sameB n f n g = false by rw [← Bool.not_eq_true, sameB_iff]; exact fun h => hf (h.2 j hlt))
        clear hf
        go_wp2_with fail
        go_quiet (fail)
        go_wp2_with fail
        go_ret
        exact ⟨by rw [HF.out]; rfl, below_drewN HB.out _⟩
    · obtain rfl : n = j := by omega
      have HF := Lib.hid (sameB_true HA.out)
      go_wp2_with fail
      go_ret
      exact ⟨by rw [HF.out]; rfl, HB.out⟩
set_option maxHeartbeats 400000 in
/-- the reference's Same -/
theorem same_any (a : Option Addr) (n c : Nat) (f : Nat → Nat) (a' : Option Addr) (m c' : Nat) (g : Nat → Nat) (w : World) (hr : Row w a n f) (hs : Row w a' m g) (hn : n ≤ maxLen) :
    Calls Tryd.prog 12 #[.slice a n c, .slice a' m c'] w fun e w' => e = .returned (.bool (sameB n f m g)) ∧ Below w.heap.size w w' := by
  by_cases hnm : n = m
  · subst hnm; exact same_eq a n c f a' c' g w hr hs hn
  · have HF := Lib.hid (show sameB n f m g = false by simp [sameB, hnm])
    have h1 : ((n : Int) != (m : Int)) = true := by rw [bne_iff_ne]; omega
    clear hnm hr hs
    go_enter Tryd.func12, Tryd.ntmps12
    go_wp2_with fail
    go_ret
    exact ⟨by rw [HF.out]; rfl, Below.refl _ _⟩
end Go.Proofs.YtbmbgdfnhbkelaaDoor
