/- Contract: pair. -/
import Derived.Test.YtfgpjkkdgjhkfaaPartFE
namespace Go.Proofs.Ytfgpjkkdgjhkfaa
open Go Go.RowKit Go.Maps
set_option linter.unusedVariables false

set_option maxRecDepth 100000 in
set_option maxHeartbeats 4000000 in
theorem pair_len (a : Option Addr) (n c : Nat) (f : Nat → Int) (b : Option Addr) (m d : Nat) (g : Nat → Int) (w : World) (hr : RowI w a n f) (hs : RowI w b m g) (hn : n ≤ maxLen) (hm : m ≤ maxLen) (h1 : n ≠ m) :
    Calls Try.prog 35 #[.slice a n c, .slice b m d, .int .i64 60] w fun e w' => e = .returned (.bool (prB n f m g)) ∧ Below w.heap.size w w' := by
  have HA := Lib.hid hr
  have HR := Lib.hid hs
  have HP := Lib.hid (show prB n f m g = false by simp [prB, h1])
  have HN := Lib.hid hn
  unfold maxLen at hn hm
  have ht : ((n : Int) == (m : Int)) = false := by rw [beq_eq_false_iff_ne]; omega
  clear hr hs h1
  have HB := Lib.hid (Below.refl w.heap.size w)
  go_enter Try.func35, Try.ntmps35
  go_wp2_with fail
  go_ret
  exact ⟨by rw [HP.out]; rfl, HB.out⟩
set_option maxRecDepth 100000 in
set_option maxHeartbeats 4000000 in
theorem pair_big (a : Option Addr) (n c : Nat) (f : Nat → Int) (b : Option Addr) (d : Nat) (g : Nat → Int) (w : World) (hr : RowI w a n f) (hs : RowI w b n g) (hn : n ≤ maxLen) (h2 : 60 < n) :
    Calls Try.prog 35 #[.slice a n c, .slice b n d, .int .i64 60] w fun e w' => e = .returned (.bool (prB n f n g)) ∧ Below w.heap.size w w' := by
  have HA := Lib.hid hr
  have HR := Lib.hid hs
  have HP := Lib.hid (show prB n f n g = false by simp [prB]; omega)
  have HN := Lib.hid hn
  unfold maxLen at hn
  clear hr hs
  have HB := Lib.hid (Below.refl w.heap.size w)
  go_enter Try.func35, Try.ntmps35
  go_wp2_with fail
  go_ret
  exact ⟨by rw [HP.out]; rfl, HB.out⟩
set_option maxRecDepth 100000 in
set_option maxHeartbeats 4000000 in
theorem pair_p (a : Option Addr) (n c : Nat) (f : Nat → Int) (b : Option Addr) (d : Nat) (g : Nat → Int) (w : World) (hr : RowI w a n f) (hs : RowI w b n g) (hn : n ≤ maxLen) (h2 : n ≤ 60) (h3 : valP n f = false) :
    Calls Try.prog 35 #[.slice a n c, .slice b n d, .int .i64 60] w fun e w' => e = .returned (.bool (prB n f n g)) ∧ Below w.heap.size w w' := by
  have HA := Lib.hid hr
  have HR := Lib.hid hs
  have HP := Lib.hid (show prB n f n g = false by simp [prB, h3])
  have HN := Lib.hid hn
  have HV := Lib.hid h3
  unfold maxLen at hn
  clear hr hs h3
  have HB := Lib.hid (Below.refl w.heap.size w)
  go_enter Try.func35, Try.ntmps35
  go_wp2_with fail
  refine (validR_any _ _ _ _ _ HA.out HN.out).mono ?_
  rintro e w1 ⟨rfl, hB⟩
  rw [HV.out]
  have HA := Lib.hid (HA.out.keep hB)
  have HR := Lib.hid (HR.out.keep hB)
  have HB := Lib.hid (HB.out.trans (hB.mono HB.out.size))
  clear hB
  go_wp2_with fail
  go_ret
  exact ⟨by rw [HP.out]; rfl, HB.out⟩
set_option maxRecDepth 100000 in
set_option maxHeartbeats 4000000 in
theorem pair_q (a : Option Addr) (n c : Nat) (f : Nat → Int) (b : Option Addr) (d : Nat) (g : Nat → Int) (w : World) (hr : RowI w a n f) (hs : RowI w b n g) (hn : n ≤ maxLen) (h2 : n ≤ 60) (h3 : valP n f = true) (h4 : valP n g = false) :
    Calls Try.prog 35 #[.slice a n c, .slice b n d, .int .i64 60] w fun e w' => e = .returned (.bool (prB n f n g)) ∧ Below w.heap.size w w' := by
  have HA := Lib.hid hr
  have HR := Lib.hid hs
  have HP := Lib.hid (show prB n f n g = false by simp [prB, h4])
  have HN := Lib.hid hn
  have HV := Lib.hid h3
  have HU := Lib.hid h4
  unfold maxLen at hn
  clear hr hs h3 h4
  have HB := Lib.hid (Below.refl w.heap.size w)
  go_enter Try.func35, Try.ntmps35
  go_wp2_with fail
  refine (validR_any _ _ _ _ _ HA.out HN.out).mono ?_
  rintro e w1 ⟨rfl, hB⟩
  rw [HV.out]
  have HA := Lib.hid (HA.out.keep hB)
  have HR := Lib.hid (HR.out.keep hB)
  have HB := Lib.hid (HB.out.trans (hB.mono HB.out.size))
  clear hB
  go_wp2_with fail
  refine (validR_any _ _ _ _ _ HR.out HN.out).mono ?_
  rintro e w2 ⟨rfl, hB⟩
  rw [HU.out]
  have HA := Lib.hid (HA.out.keep hB)
  have HR := Lib.hid (HR.out.keep hB)
  have HB := Lib.hid (HB.out.trans (hB.mono HB.out.size))
  clear hB
  go_wp2_with fail
  go_ret
  exact ⟨by rw [HP.out]; rfl, HB.out⟩
set_option maxRecDepth 100000 in
set_option maxHeartbeats 4000000 in
theorem pair_yes (a : Option Addr) (n c : Nat) (f : Nat → Int) (b : Option Addr) (d : Nat) (g : Nat → Int) (w : World) (hr : RowI w a n f) (hs : RowI w b n g) (hn : n ≤ maxLen) (h2 : n ≤ 60) (h3 : valP n f = true) (h4 : valP n g = true) :
    Calls Try.prog 35 #[.slice a n c, .slice b n d, .int .i64 60] w fun e w' => e = .returned (.bool (prB n f n g)) ∧ Below w.heap.size w w' := by
  have HA := Lib.hid hr
  have HR := Lib.hid hs
  have HP := Lib.hid (show prB n f n g = true by simp [prB, h2, h3, h4])
  have HN := Lib.hid hn
  have HV := Lib.hid h3
  have HU := Lib.hid h4
  unfold maxLen at hn
  clear hr hs h3 h4
  have HB := Lib.hid (Below.refl w.heap.size w)
  go_enter Try.func35, Try.ntmps35
  go_wp2_with fail
  refine (validR_any _ _ _ _ _ HA.out HN.out).mono ?_
  rintro e w1 ⟨rfl, hB⟩
  rw [HV.out]
  have HA := Lib.hid (HA.out.keep hB)
  have HR := Lib.hid (HR.out.keep hB)
  have HB := Lib.hid (HB.out.trans (hB.mono HB.out.size))
  clear hB
  go_wp2_with fail
  refine (validR_any _ _ _ _ _ HR.out HN.out).mono ?_
  rintro e w2 ⟨rfl, hB⟩
  rw [HU.out]
  have HA := Lib.hid (HA.out.keep hB)
  have HR := Lib.hid (HR.out.keep hB)
  have HB := Lib.hid (HB.out.trans (hB.mono HB.out.size))
  clear hB
  go_wp2_with fail
  go_ret
  exact ⟨by rw [HP.out]; rfl, HB.out⟩
theorem pair_any (a : Option Addr) (n c : Nat) (f : Nat → Int) (b : Option Addr) (m d : Nat) (g : Nat → Int) (w : World) (hr : RowI w a n f) (hs : RowI w b m g) (hn : n ≤ maxLen) (hm : m ≤ maxLen) :
    Calls Try.prog 35 #[.slice a n c, .slice b m d, .int .i64 60] w fun e w' => e = .returned (.bool (prB n f m g)) ∧ Below w.heap.size w w' := by
  by_cases h1 : n = m
  · subst h1
    by_cases h2 : n ≤ 60
    · cases h3 : valP n f
      · exact pair_p a n c f b d g w hr hs hn h2 h3
      · cases h4 : valP n g
        · exact pair_q a n c f b d g w hr hs hn h2 h3 h4
        · exact pair_yes a n c f b d g w hr hs hn h2 h3 h4
    · exact pair_big a n c f b d g w hr hs hn (by omega)
  · exact pair_len a n c f b m d g w hr hs hn hm h1
theorem prB_iff {n m : Nat} {f g : Nat → Int} : prB n f m g = true ↔ n = m ∧ n ≤ 60 ∧ valP n f = true ∧ valP m g = true := by simp [prB]
end Go.Proofs.Ytfgpjkkdgjhkfaa
