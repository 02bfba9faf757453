/- Walks: PartitionBounds, PartitionExtremes, PartitionLattice. -/
import Derived.Test.YtfgpjkkdgjhkfaaPartFP
namespace Go.Proofs.Ytfgpjkkdgjhkfaa
open Go Go.RowKit Go.Maps
set_option linter.unusedVariables false

set_option maxRecDepth 100000 in
set_option maxHeartbeats 4000000 in
theorem cPartitionBounds_p (a : Option Addr) (n c : Nat) (f : Nat → Int) (b : Option Addr) (m d : Nat) (g : Nat → Int) (w : World) (hr : RowI w a n f) (hs : RowI w b m g) (hn : n ≤ maxLen) (hm : m ≤ maxLen) (hv : valP n f = false) :
    Calls Try.prog 7 #[.slice a n c, .slice b m d] w (Yes w) := by
  have HA := Lib.hid hr
  have HR := Lib.hid hs
  have HP := Lib.hid (show pairB n f m g = false by simp [pairB, hv])
  have HV := Lib.hid hv
  have HN := Lib.hid hn
  have HM := Lib.hid hm
  clear hv
  clear hr hs
  have HB := Lib.hid (Below.refl w.heap.size w)
  go_enter Try.func7, Try.ntmps7
  go_wp2_with fail
  refine (meet_no _ _ _ _ _ _ _ _ _ HA.out HR.out HN.out HM.out HP.out).mono ?_
  rintro e w' ⟨rfl, rfl⟩
  go_wp2_with fail
  refine (join_no _ _ _ _ _ _ _ _ _ HA.out HR.out HN.out HM.out HP.out).mono ?_
  rintro e w' ⟨rfl, rfl⟩
  go_wp2_with fail
  refine (validR_any _ _ _ _ _ HA.out HN.out).mono ?_
  rintro e w1 ⟨rfl, hB⟩
  rw [HV.out]
  have HA := Lib.hid (HA.out.keep hB)
  have HR := Lib.hid (HR.out.keep hB)
  have HB := Lib.hid (HB.out.trans (hB.mono HB.out.size))
  clear hB
  go_wp2_with fail
  refine (awake_any _).mono ?_
  rintro e w2 ⟨rfl, hB⟩
  have HA := Lib.hid (HA.out.keep hB)
  have HR := Lib.hid (HR.out.keep hB)
  have HB := Lib.hid (HB.out.trans (hB.mono HB.out.size))
  clear hB
  go_wp2_with fail
  go_ret
  exact ⟨rfl, HB.out⟩
set_option maxRecDepth 100000 in
set_option maxHeartbeats 4000000 in
theorem cPartitionBounds_q (a : Option Addr) (n c : Nat) (f : Nat → Int) (b : Option Addr) (m d : Nat) (g : Nat → Int) (w : World) (hr : RowI w a n f) (hs : RowI w b m g) (hn : n ≤ maxLen) (hm : m ≤ maxLen) (hv : valP n f = true) (hu : valP m g = false) :
    Calls Try.prog 7 #[.slice a n c, .slice b m d] w (Yes w) := by
  have HA := Lib.hid hr
  have HR := Lib.hid hs
  have HP := Lib.hid (show pairB n f m g = false by simp [pairB, hu])
  have HV := Lib.hid hv
  have HN := Lib.hid hn
  have HM := Lib.hid hm
  have HU := Lib.hid hu
  clear hv hu
  clear hr hs
  have HB := Lib.hid (Below.refl w.heap.size w)
  go_enter Try.func7, Try.ntmps7
  go_wp2_with fail
  refine (meet_no _ _ _ _ _ _ _ _ _ HA.out HR.out HN.out HM.out HP.out).mono ?_
  rintro e w' ⟨rfl, rfl⟩
  go_wp2_with fail
  refine (join_no _ _ _ _ _ _ _ _ _ HA.out HR.out HN.out HM.out HP.out).mono ?_
  rintro e w' ⟨rfl, rfl⟩
  go_wp2_with fail
  refine (validR_any _ _ _ _ _ HA.out HN.out).mono ?_
  rintro e w1 ⟨rfl, hB⟩
  rw [HV.out]
  have HA := Lib.hid (HA.out.keep hB)
  have HR := Lib.hid (HR.out.keep hB)
  have HB := Lib.hid (HB.out.trans (hB.mono HB.out.size))
  clear hB
  go_wp2_with fail
  refine (validR_any _ _ _ _ _ HR.out HM.out).mono ?_
  rintro e w2 ⟨rfl, hB⟩
  rw [HU.out]
  have HA := Lib.hid (HA.out.keep hB)
  have HR := Lib.hid (HR.out.keep hB)
  have HB := Lib.hid (HB.out.trans (hB.mono HB.out.size))
  clear hB
  go_wp2_with fail
  refine (awake_any _).mono ?_
  rintro e w3 ⟨rfl, hB⟩
  have HA := Lib.hid (HA.out.keep hB)
  have HR := Lib.hid (HR.out.keep hB)
  have HB := Lib.hid (HB.out.trans (hB.mono HB.out.size))
  clear hB
  go_wp2_with fail
  go_ret
  exact ⟨rfl, HB.out⟩
set_option maxRecDepth 100000 in
set_option maxHeartbeats 4000000 in
theorem cPartitionBounds_len (a : Option Addr) (n c : Nat) (f : Nat → Int) (b : Option Addr) (m d : Nat) (g : Nat → Int) (w : World) (hr : RowI w a n f) (hs : RowI w b m g) (hn : n ≤ maxLen) (hm : m ≤ maxLen) (hv : valP n f = true) (hu : valP m g = true) (hne : n ≠ m) :
    Calls Try.prog 7 #[.slice a n c, .slice b m d] w (Yes w) := by
  have HA := Lib.hid hr
  have HR := Lib.hid hs
  have HP := Lib.hid (show pairB n f m g = false by simp [pairB, hne])
  have HV := Lib.hid hv
  have HN := Lib.hid hn
  have HM := Lib.hid hm
  have HU := Lib.hid hu
  have hx : ((n : Int) != (m : Int)) = true := by rw [bne_iff_ne]; omega
  unfold maxLen at hn hm
  clear hv hu
  clear hr hs
  have HB := Lib.hid (Below.refl w.heap.size w)
  go_enter Try.func7, Try.ntmps7
  go_wp2_with fail
  refine (meet_no _ _ _ _ _ _ _ _ _ HA.out HR.out HN.out HM.out HP.out).mono ?_
  rintro e w' ⟨rfl, rfl⟩
  go_wp2_with fail
  refine (join_no _ _ _ _ _ _ _ _ _ HA.out HR.out HN.out HM.out HP.out).mono ?_
  rintro e w' ⟨rfl, rfl⟩
  go_wp2_with fail
  refine (validR_any _ _ _ _ _ HA.out HN.out).mono ?_
  rintro e w1 ⟨rfl, hB⟩
  rw [HV.out]
  have HA := Lib.hid (HA.out.keep hB)
  have HR := Lib.hid (HR.out.keep hB)
  have HB := Lib.hid (HB.out.trans (hB.mono HB.out.size))
  clear hB
  go_wp2_with fail
  refine (validR_any _ _ _ _ _ HR.out HM.out).mono ?_
  rintro e w2 ⟨rfl, hB⟩
  rw [HU.out]
  have HA := Lib.hid (HA.out.keep hB)
  have HR := Lib.hid (HR.out.keep hB)
  have HB := Lib.hid (HB.out.trans (hB.mono HB.out.size))
  clear hB
  go_wp2_with fail
  refine (awake_any _).mono ?_
  rintro e w3 ⟨rfl, hB⟩
  have HA := Lib.hid (HA.out.keep hB)
  have HR := Lib.hid (HR.out.keep hB)
  have HB := Lib.hid (HB.out.trans (hB.mono HB.out.size))
  clear hB
  go_wp2_with fail
  go_ret
  exact ⟨rfl, HB.out⟩
set_option maxRecDepth 100000 in
set_option maxHeartbeats 4000000 in
theorem cPartitionBounds_big (a : Option Addr) (n c : Nat) (f : Nat → Int) (b : Option Addr) (d : Nat) (g : Nat → Int) (w : World) (hr : RowI w a n f) (hs : RowI w b n g) (hp : pairB n f n g = true) (hb : 60 < n) :
    Calls Try.prog 7 #[.slice a n c, .slice b n d] w (Yes w) := by
  have HA := Lib.hid hr
  have HR := Lib.hid hs
  have HP := Lib.hid hp
  have hn := (valP_iff.1 (pairB_iff.1 hp).2.1).1
  have HV := Lib.hid (pairB_iff.1 hp).2.1
  have HU := Lib.hid (pairB_iff.1 hp).2.2
  have hm : n ≤ maxLen := by unfold maxLen; omega
  have HM := Lib.hid hm
  have hx : ((n : Int) != (n : Int)) = false := by simp
  clear hp hm
  clear hr hs
  have HB := Lib.hid (Below.refl w.heap.size w)
  go_enter Try.func7, Try.ntmps7
  go_wp2_with fail
  refine (meet_ok _ _ _ _ _ _ _ _ HA.out HR.out HP.out).mono ?_
  rintro e w1 ⟨r1, c1, rfl, hR, hB⟩
  have HA := Lib.hid (HA.out.keep hB)
  have HR := Lib.hid (HR.out.keep hB)
  have HB := Lib.hid (HB.out.trans (hB.mono HB.out.size))
  have HC := Lib.hid hR
  clear hR hB
  go_wp2_with fail
  refine (join_g _ _ _ _ _ _ _ _ HA.out HR.out HP.out).mono ?_
  rintro e w2 ⟨r2, c2, rfl, hR, hB⟩
  have HA := Lib.hid (HA.out.keep hB)
  have HR := Lib.hid (HR.out.keep hB)
  have HC := Lib.hid (HC.out.keep hB)
  have HB := Lib.hid (HB.out.trans (hB.mono HB.out.size))
  have HD := Lib.hid hR
  clear hR hB
  go_wp2_with fail
  refine (validR_any _ _ _ _ _ HA.out HM.out).mono ?_
  rintro e w3 ⟨rfl, hB⟩
  rw [HV.out]
  have HA := Lib.hid (HA.out.keep hB)
  have HR := Lib.hid (HR.out.keep hB)
  have HC := Lib.hid (HC.out.keep hB)
  have HD := Lib.hid (HD.out.keep hB)
  have HB := Lib.hid (HB.out.trans (hB.mono HB.out.size))
  clear hB
  go_wp2_with fail
  refine (validR_any _ _ _ _ _ HR.out HM.out).mono ?_
  rintro e w4 ⟨rfl, hB⟩
  rw [HU.out]
  have HA := Lib.hid (HA.out.keep hB)
  have HR := Lib.hid (HR.out.keep hB)
  have HC := Lib.hid (HC.out.keep hB)
  have HD := Lib.hid (HD.out.keep hB)
  have HB := Lib.hid (HB.out.trans (hB.mono HB.out.size))
  clear hB
  go_wp2_with fail
  refine (awake_any _).mono ?_
  rintro e w5 ⟨rfl, hB⟩
  have HA := Lib.hid (HA.out.keep hB)
  have HR := Lib.hid (HR.out.keep hB)
  have HC := Lib.hid (HC.out.keep hB)
  have HD := Lib.hid (HD.out.keep hB)
  have HB := Lib.hid (HB.out.trans (hB.mono HB.out.size))
  clear hB
  go_wp2_with fail
  go_ret
  exact ⟨rfl, HB.out⟩
set_option maxRecDepth 100000 in
set_option maxHeartbeats 4000000 in
theorem cPartitionBounds_ok (a : Option Addr) (n c : Nat) (f : Nat → Int) (b : Option Addr) (d : Nat) (g : Nat → Int) (w : World) (hr : RowI w a n f) (hs : RowI w b n g) (hp : pairB n f n g = true) (hb : n ≤ 60) (h0 : a = none → n = 0 ∧ c = 0) :
    Calls Try.prog 7 #[.slice a n c, .slice b n d] w (Yes w) := by
  have HA := Lib.hid hr
  have HR := Lib.hid hs
  have HP := Lib.hid hp
  have hn := (valP_iff.1 (pairB_iff.1 hp).2.1).1
  have HV := Lib.hid (pairB_iff.1 hp).2.1
  have HU := Lib.hid (pairB_iff.1 hp).2.2
  have hm : n ≤ maxLen := by unfold maxLen; omega
  have HM := Lib.hid hm
  have hx : ((n : Int) != (n : Int)) = false := by simp
  have H0 := Lib.hid h0
  have HS1 := Lib.hid (sameR_mt (n := n) f g)
  have HS2 := Lib.hid (sameR_jn (n := n) f g)
  clear hp hm h0
  clear hr hs
  have HB := Lib.hid (Below.refl w.heap.size w)
  go_enter Try.func7, Try.ntmps7
  go_wp2_with fail
  refine (meet_ok _ _ _ _ _ _ _ _ HA.out HR.out HP.out).mono ?_
  rintro e w1 ⟨r1, c1, rfl, hR, hB⟩
  have HA := Lib.hid (HA.out.keep hB)
  have HR := Lib.hid (HR.out.keep hB)
  have HB := Lib.hid (HB.out.trans (hB.mono HB.out.size))
  have HC := Lib.hid hR
  clear hR hB
  go_wp2_with fail
  refine (join_g _ _ _ _ _ _ _ _ HA.out HR.out HP.out).mono ?_
  rintro e w2 ⟨r2, c2, rfl, hR, hB⟩
  have HA := Lib.hid (HA.out.keep hB)
  have HR := Lib.hid (HR.out.keep hB)
  have HC := Lib.hid (HC.out.keep hB)
  have HB := Lib.hid (HB.out.trans (hB.mono HB.out.size))
  have HD := Lib.hid hR
  clear hR hB
  go_wp2_with fail
  refine (validR_any _ _ _ _ _ HA.out HM.out).mono ?_
  rintro e w3 ⟨rfl, hB⟩
  rw [HV.out]
  have HA := Lib.hid (HA.out.keep hB)
  have HR := Lib.hid (HR.out.keep hB)
  have HC := Lib.hid (HC.out.keep hB)
  have HD := Lib.hid (HD.out.keep hB)
  have HB := Lib.hid (HB.out.trans (hB.mono HB.out.size))
  clear hB
  go_wp2_with fail
  refine (validR_any _ _ _ _ _ HR.out HM.out).mono ?_
  rintro e w4 ⟨rfl, hB⟩
  rw [HU.out]
  have HA := Lib.hid (HA.out.keep hB)
  have HR := Lib.hid (HR.out.keep hB)
  have HC := Lib.hid (HC.out.keep hB)
  have HD := Lib.hid (HD.out.keep hB)
  have HB := Lib.hid (HB.out.trans (hB.mono HB.out.size))
  clear hB
  go_wp2_with fail
  refine (meetR_ok _ _ _ _ _ _ _ _ HA.out HR.out HP.out).mono ?_
  rintro e w5 ⟨r5, c5, rfl, hR, hB⟩
  have HA := Lib.hid (HA.out.keep hB)
  have HR := Lib.hid (HR.out.keep hB)
  have HC := Lib.hid (HC.out.keep hB)
  have HD := Lib.hid (HD.out.keep hB)
  have HB := Lib.hid (HB.out.trans (hB.mono HB.out.size))
  have HE := Lib.hid hR
  clear hR hB
  go_wp2_with fail
  refine (same_any _ _ _ _ _ _ _ _ _ HC.out HE.out HM.out).mono ?_
  rintro e w6 ⟨rfl, hB⟩
  rw [HS1.out]
  have HA := Lib.hid (HA.out.keep hB)
  have HR := Lib.hid (HR.out.keep hB)
  have HC := Lib.hid (HC.out.keep hB)
  have HD := Lib.hid (HD.out.keep hB)
  have HE := Lib.hid (HE.out.keep hB)
  have HB := Lib.hid (HB.out.trans (hB.mono HB.out.size))
  clear hB
  go_wp2_with fail
  refine (joinR_any _ _ _ _ _ _ _ _ HA.out HR.out hn H0.out).mono ?_
  rintro e w7 ⟨r7, c7, rfl, hR, hB⟩
  have HA := Lib.hid (HA.out.keep hB)
  have HR := Lib.hid (HR.out.keep hB)
  have HC := Lib.hid (HC.out.keep hB)
  have HD := Lib.hid (HD.out.keep hB)
  have HE := Lib.hid (HE.out.keep hB)
  have HB := Lib.hid (HB.out.trans (hB.mono HB.out.size))
  have HF := Lib.hid hR
  clear hR hB
  go_wp2_with fail
  refine (same_any _ _ _ _ _ _ _ _ _ HD.out HF.out HM.out).mono ?_
  rintro e w8 ⟨rfl, hB⟩
  rw [HS2.out]
  have HA := Lib.hid (HA.out.keep hB)
  have HR := Lib.hid (HR.out.keep hB)
  have HC := Lib.hid (HC.out.keep hB)
  have HD := Lib.hid (HD.out.keep hB)
  have HE := Lib.hid (HE.out.keep hB)
  have HF := Lib.hid (HF.out.keep hB)
  have HB := Lib.hid (HB.out.trans (hB.mono HB.out.size))
  clear hB
  go_wp2_with fail
  refine (awake_any _).mono ?_
  rintro e w9 ⟨rfl, hB⟩
  have HA := Lib.hid (HA.out.keep hB)
  have HR := Lib.hid (HR.out.keep hB)
  have HC := Lib.hid (HC.out.keep hB)
  have HD := Lib.hid (HD.out.keep hB)
  have HE := Lib.hid (HE.out.keep hB)
  have HF := Lib.hid (HF.out.keep hB)
  have HB := Lib.hid (HB.out.trans (hB.mono HB.out.size))
  clear hB
  go_wp2_with fail
  go_ret
  exact ⟨rfl, HB.out⟩
theorem wPartitionBounds {w : World} (a : Option Addr) (n c : Nat) (zs : List Int) (h : IntRow .i64 w a n c zs) (b : Option Addr) (m d : Nat) (ys : List Int) (k : IntRow .i64 w b m d ys) : Calls Try.prog 7 #[.slice a n c, .slice b m d] w (Yes w) := by
  obtain ⟨f, hr, hn, h0⟩ := row_in2 h
  obtain ⟨g, hs, hm⟩ := row_in k
  cases hv : valP n f
  · exact cPartitionBounds_p a n c f b m d g w hr hs hn hm hv
  cases hu : valP m g
  · exact cPartitionBounds_q a n c f b m d g w hr hs hn hm hv hu
  by_cases hne : n = m
  · subst hne
    have hp : pairB n f n g = true := pairB_iff.2 ⟨rfl, hv, hu⟩
    by_cases hb : 60 < n
    · exact cPartitionBounds_big a n c f b d g w hr hs hp hb
    · exact cPartitionBounds_ok a n c f b d g w hr hs hp (by omega) h0
  · exact cPartitionBounds_len a n c f b m d g w hr hs hn hm hv hu hne
set_option maxRecDepth 100000 in
set_option maxHeartbeats 4000000 in
theorem cPartitionExtremes_no1 (a : Option Addr) (n c : Nat) (f : Nat → Int) (b : Option Addr) (m d : Nat) (g : Nat → Int) (e : Option Addr) (l i : Nat) (h : Nat → Int) (w : World) (hr : RowI w a n f) (hs : RowI w b m g) (ht : RowI w e l h) (hn : n ≤ maxLen) (hm : m ≤ maxLen) (hl : l ≤ maxLen) (hp : prB n f m g = false) :
    Calls Try.prog 8 #[.slice a n c, .slice b m d, .slice e l i] w (Yes w) := by
  have HA := Lib.hid hr
  have HR := Lib.hid hs
  have HT := Lib.hid ht
  have HN := Lib.hid hn
  have HM := Lib.hid hm
  have HL := Lib.hid hl
  have HP := Lib.hid hp
  clear hn hm hl hp
  clear hr hs ht
  have HB := Lib.hid (Below.refl w.heap.size w)
  go_enter Try.func8, Try.ntmps8
  go_wp2_with fail
  refine (pair_any _ _ _ _ _ _ _ _ _ HA.out HR.out HN.out HM.out).mono ?_
  rintro e w1 ⟨rfl, hB⟩
  rw [HP.out]
  have HA := Lib.hid (HA.out.keep hB)
  have HR := Lib.hid (HR.out.keep hB)
  have HT := Lib.hid (HT.out.keep hB)
  have HB := Lib.hid (HB.out.trans (hB.mono HB.out.size))
  clear hB
  go_wp2_with fail
  refine (awake_any _).mono ?_
  rintro e w2 ⟨rfl, hB⟩
  have HA := Lib.hid (HA.out.keep hB)
  have HR := Lib.hid (HR.out.keep hB)
  have HT := Lib.hid (HT.out.keep hB)
  have HB := Lib.hid (HB.out.trans (hB.mono HB.out.size))
  clear hB
  go_wp2_with fail
  go_ret
  exact ⟨rfl, HB.out⟩
set_option maxRecDepth 100000 in
set_option maxHeartbeats 4000000 in
theorem cPartitionExtremes_no2 (a : Option Addr) (n c : Nat) (f : Nat → Int) (b : Option Addr) (m d : Nat) (g : Nat → Int) (e : Option Addr) (l i : Nat) (h : Nat → Int) (w : World) (hr : RowI w a n f) (hs : RowI w b m g) (ht : RowI w e l h) (hn : n ≤ maxLen) (hm : m ≤ maxLen) (hl : l ≤ maxLen) (hp : prB n f m g = true) (hq : prB m g l h = false) :
    Calls Try.prog 8 #[.slice a n c, .slice b m d, .slice e l i] w (Yes w) := by
  have HA := Lib.hid hr
  have HR := Lib.hid hs
  have HT := Lib.hid ht
  have HN := Lib.hid hn
  have HM := Lib.hid hm
  have HL := Lib.hid hl
  have HP := Lib.hid hp
  have HQ := Lib.hid hq
  clear hn hm hl hp hq
  clear hr hs ht
  have HB := Lib.hid (Below.refl w.heap.size w)
  go_enter Try.func8, Try.ntmps8
  go_wp2_with fail
  refine (pair_any _ _ _ _ _ _ _ _ _ HA.out HR.out HN.out HM.out).mono ?_
  rintro e w1 ⟨rfl, hB⟩
  rw [HP.out]
  have HA := Lib.hid (HA.out.keep hB)
  have HR := Lib.hid (HR.out.keep hB)
  have HT := Lib.hid (HT.out.keep hB)
  have HB := Lib.hid (HB.out.trans (hB.mono HB.out.size))
  clear hB
  go_wp2_with fail
  refine (pair_any _ _ _ _ _ _ _ _ _ HR.out HT.out HM.out HL.out).mono ?_
  rintro e w2 ⟨rfl, hB⟩
  rw [HQ.out]
  have HA := Lib.hid (HA.out.keep hB)
  have HR := Lib.hid (HR.out.keep hB)
  have HT := Lib.hid (HT.out.keep hB)
  have HB := Lib.hid (HB.out.trans (hB.mono HB.out.size))
  clear hB
  go_wp2_with fail
  refine (awake_any _).mono ?_
  rintro e w3 ⟨rfl, hB⟩
  have HA := Lib.hid (HA.out.keep hB)
  have HR := Lib.hid (HR.out.keep hB)
  have HT := Lib.hid (HT.out.keep hB)
  have HB := Lib.hid (HB.out.trans (hB.mono HB.out.size))
  clear hB
  go_wp2_with fail
  go_ret
  exact ⟨rfl, HB.out⟩
set_option maxRecDepth 100000 in
set_option maxHeartbeats 4000000 in
theorem cPartitionExtremes_0 (a : Option Addr) (n c : Nat) (f : Nat → Int) (b : Option Addr) (d : Nat) (g : Nat → Int) (e : Option Addr) (i : Nat) (h : Nat → Int) (w : World) (hr : RowI w a n f) (hs : RowI w b n g) (ht : RowI w e n h) (hn60 : n ≤ 60) (hvf : valP n f = true) (hvg : valP n g = true) (hvh : valP n h = true) (b1 : refB n h f = true) (b2 : refB n h g = true) (a1 : refB n f h = true) (a2 : refB n g h = true) :
    Calls Try.prog 8 #[.slice a n c, .slice b n d, .slice e n i] w (Yes w) := by
  have HA := Lib.hid hr
  have HR := Lib.hid hs
  have HT := Lib.hid ht
  have hn : n ≤ 4096 := by omega
  have HN := Lib.hid (show n ≤ maxLen by unfold maxLen; omega)
  have HP := Lib.hid (prB_iff.2 ⟨rfl, hn60, hvf, hvg⟩)
  have HQ := Lib.hid (prB_iff.2 ⟨rfl, hn60, hvg, hvh⟩)
  have Hpq := Lib.hid (pair_of hvf hvg)
  have Hqp := Lib.hid (pair_of hvg hvf)
  have Hqr := Lib.hid (pair_of hvg hvh)
  have Hrp := Lib.hid (pair_of hvh hvf)
  have Hrq := Lib.hid (pair_of hvh hvg)
  have Hpr := Lib.hid (pair_of hvf hvh)
  have Hmp := Lib.hid (pair_of (val_mt hn f g) hvf)
  have Hmq := Lib.hid (pair_of (val_mt hn f g) hvg)
  have Hpj := Lib.hid (pair_of hvf (val_jn hn f g))
  have Hqj := Lib.hid (pair_of hvg (val_jn hn f g))
  have Hrm := Lib.hid (pair_of hvh (val_mt hn f g))
  have Hjr := Lib.hid (pair_of (val_jn hn f g) hvh)
  have F1 := Lib.hid (ext_mt n f g).1
  have F2 := Lib.hid (ext_mt n f g).2
  have F3 := Lib.hid (ext_jn n f g).1
  have F4 := Lib.hid (ext_jn n f g).2
  have G1 := Lib.hid b1
  have G2 := Lib.hid b2
  have G3 := Lib.hid a1
  have G4 := Lib.hid a2
  have G5 := Lib.hid (show refB n h (meetF n f g) = true by rw [ext_below, b1, b2]; rfl)
  have G6 := Lib.hid (show refB n (jnF n f g) h = true by rw [ext_above, a1, a2]; rfl)
  clear hvf hvg hvh b1 a1 b2 a2
  clear hr hs ht
  have HB := Lib.hid (Below.refl w.heap.size w)
  go_enter Try.func8, Try.ntmps8
  go_wp2_with fail
  refine (pair_any _ _ _ _ _ _ _ _ _ HA.out HR.out HN.out HN.out).mono ?_
  rintro e w1 ⟨rfl, hB⟩
  rw [HP.out]
  have HA := Lib.hid (HA.out.keep hB)
  have HR := Lib.hid (HR.out.keep hB)
  have HT := Lib.hid (HT.out.keep hB)
  have HB := Lib.hid (HB.out.trans (hB.mono HB.out.size))
  clear hB
  go_wp2_with fail
  refine (pair_any _ _ _ _ _ _ _ _ _ HR.out HT.out HN.out HN.out).mono ?_
  rintro e w2 ⟨rfl, hB⟩
  rw [HQ.out]
  have HA := Lib.hid (HA.out.keep hB)
  have HR := Lib.hid (HR.out.keep hB)
  have HT := Lib.hid (HT.out.keep hB)
  have HB := Lib.hid (HB.out.trans (hB.mono HB.out.size))
  clear hB
  go_wp2_with fail
  refine (meet_ok _ _ _ _ _ _ _ _ HA.out HR.out Hpq.out).mono ?_
  rintro e w3 ⟨r3, c3, rfl, hR, hB⟩
  have HA := Lib.hid (HA.out.keep hB)
  have HR := Lib.hid (HR.out.keep hB)
  have HT := Lib.hid (HT.out.keep hB)
  have HB := Lib.hid (HB.out.trans (hB.mono HB.out.size))
  have HC := Lib.hid hR
  clear hR hB
  go_wp2_with fail
  refine (join_g _ _ _ _ _ _ _ _ HA.out HR.out Hpq.out).mono ?_
  rintro e w4 ⟨r4, c4, rfl, hR, hB⟩
  have HA := Lib.hid (HA.out.keep hB)
  have HR := Lib.hid (HR.out.keep hB)
  have HT := Lib.hid (HT.out.keep hB)
  have HC := Lib.hid (HC.out.keep hB)
  have HB := Lib.hid (HB.out.trans (hB.mono HB.out.size))
  have HD := Lib.hid hR
  clear hR hB
  go_wp2_with fail
  refine (refines_ok _ _ _ _ _ _ _ _ HC.out HA.out Hmp.out).mono ?_
  rintro e w5 ⟨rfl, hB⟩
  rw [F1.out]
  have HA := Lib.hid (HA.out.keep hB)
  have HR := Lib.hid (HR.out.keep hB)
  have HT := Lib.hid (HT.out.keep hB)
  have HC := Lib.hid (HC.out.keep hB)
  have HD := Lib.hid (HD.out.keep hB)
  have HB := Lib.hid (HB.out.trans (hB.mono HB.out.size))
  clear hB
  go_wp2_with fail
  refine (refines_ok _ _ _ _ _ _ _ _ HC.out HR.out Hmq.out).mono ?_
  rintro e w6 ⟨rfl, hB⟩
  rw [F2.out]
  have HA := Lib.hid (HA.out.keep hB)
  have HR := Lib.hid (HR.out.keep hB)
  have HT := Lib.hid (HT.out.keep hB)
  have HC := Lib.hid (HC.out.keep hB)
  have HD := Lib.hid (HD.out.keep hB)
  have HB := Lib.hid (HB.out.trans (hB.mono HB.out.size))
  clear hB
  go_wp2_with fail
  refine (refines_ok _ _ _ _ _ _ _ _ HA.out HD.out Hpj.out).mono ?_
  rintro e w7 ⟨rfl, hB⟩
  rw [F3.out]
  have HA := Lib.hid (HA.out.keep hB)
  have HR := Lib.hid (HR.out.keep hB)
  have HT := Lib.hid (HT.out.keep hB)
  have HC := Lib.hid (HC.out.keep hB)
  have HD := Lib.hid (HD.out.keep hB)
  have HB := Lib.hid (HB.out.trans (hB.mono HB.out.size))
  clear hB
  go_wp2_with fail
  refine (refines_ok _ _ _ _ _ _ _ _ HR.out HD.out Hqj.out).mono ?_
  rintro e w8 ⟨rfl, hB⟩
  rw [F4.out]
  have HA := Lib.hid (HA.out.keep hB)
  have HR := Lib.hid (HR.out.keep hB)
  have HT := Lib.hid (HT.out.keep hB)
  have HC := Lib.hid (HC.out.keep hB)
  have HD := Lib.hid (HD.out.keep hB)
  have HB := Lib.hid (HB.out.trans (hB.mono HB.out.size))
  clear hB
  go_wp2_with fail
  refine (refines_ok _ _ _ _ _ _ _ _ HT.out HA.out Hrp.out).mono ?_
  rintro e w9 ⟨rfl, hB⟩
  rw [G1.out]
  have HA := Lib.hid (HA.out.keep hB)
  have HR := Lib.hid (HR.out.keep hB)
  have HT := Lib.hid (HT.out.keep hB)
  have HC := Lib.hid (HC.out.keep hB)
  have HD := Lib.hid (HD.out.keep hB)
  have HB := Lib.hid (HB.out.trans (hB.mono HB.out.size))
  clear hB
  go_wp2_with fail
  refine (refines_ok _ _ _ _ _ _ _ _ HT.out HR.out Hrq.out).mono ?_
  rintro e w10 ⟨rfl, hB⟩
  rw [G2.out]
  have HA := Lib.hid (HA.out.keep hB)
  have HR := Lib.hid (HR.out.keep hB)
  have HT := Lib.hid (HT.out.keep hB)
  have HC := Lib.hid (HC.out.keep hB)
  have HD := Lib.hid (HD.out.keep hB)
  have HB := Lib.hid (HB.out.trans (hB.mono HB.out.size))
  clear hB
  go_wp2_with fail
  refine (refines_ok _ _ _ _ _ _ _ _ HA.out HT.out Hpr.out).mono ?_
  rintro e w11 ⟨rfl, hB⟩
  rw [G3.out]
  have HA := Lib.hid (HA.out.keep hB)
  have HR := Lib.hid (HR.out.keep hB)
  have HT := Lib.hid (HT.out.keep hB)
  have HC := Lib.hid (HC.out.keep hB)
  have HD := Lib.hid (HD.out.keep hB)
  have HB := Lib.hid (HB.out.trans (hB.mono HB.out.size))
  clear hB
  go_wp2_with fail
  refine (refines_ok _ _ _ _ _ _ _ _ HR.out HT.out Hqr.out).mono ?_
  rintro e w12 ⟨rfl, hB⟩
  rw [G4.out]
  have HA := Lib.hid (HA.out.keep hB)
  have HR := Lib.hid (HR.out.keep hB)
  have HT := Lib.hid (HT.out.keep hB)
  have HC := Lib.hid (HC.out.keep hB)
  have HD := Lib.hid (HD.out.keep hB)
  have HB := Lib.hid (HB.out.trans (hB.mono HB.out.size))
  clear hB
  go_wp2_with fail
  refine (refines_ok _ _ _ _ _ _ _ _ HT.out HC.out Hrm.out).mono ?_
  rintro e w13 ⟨rfl, hB⟩
  rw [G5.out]
  have HA := Lib.hid (HA.out.keep hB)
  have HR := Lib.hid (HR.out.keep hB)
  have HT := Lib.hid (HT.out.keep hB)
  have HC := Lib.hid (HC.out.keep hB)
  have HD := Lib.hid (HD.out.keep hB)
  have HB := Lib.hid (HB.out.trans (hB.mono HB.out.size))
  clear hB
  go_wp2_with fail
  refine (refines_ok _ _ _ _ _ _ _ _ HD.out HT.out Hjr.out).mono ?_
  rintro e w14 ⟨rfl, hB⟩
  rw [G6.out]
  have HA := Lib.hid (HA.out.keep hB)
  have HR := Lib.hid (HR.out.keep hB)
  have HT := Lib.hid (HT.out.keep hB)
  have HC := Lib.hid (HC.out.keep hB)
  have HD := Lib.hid (HD.out.keep hB)
  have HB := Lib.hid (HB.out.trans (hB.mono HB.out.size))
  clear hB
  go_wp2_with fail
  refine (awake_any _).mono ?_
  rintro e w15 ⟨rfl, hB⟩
  have HA := Lib.hid (HA.out.keep hB)
  have HR := Lib.hid (HR.out.keep hB)
  have HT := Lib.hid (HT.out.keep hB)
  have HC := Lib.hid (HC.out.keep hB)
  have HD := Lib.hid (HD.out.keep hB)
  have HB := Lib.hid (HB.out.trans (hB.mono HB.out.size))
  clear hB
  go_wp2_with fail
  go_ret
  exact ⟨rfl, HB.out⟩
set_option maxRecDepth 100000 in
set_option maxHeartbeats 4000000 in
theorem cPartitionExtremes_1 (a : Option Addr) (n c : Nat) (f : Nat → Int) (b : Option Addr) (d : Nat) (g : Nat → Int) (e : Option Addr) (i : Nat) (h : Nat → Int) (w : World) (hr : RowI w a n f) (hs : RowI w b n g) (ht : RowI w e n h) (hn60 : n ≤ 60) (hvf : valP n f = true) (hvg : valP n g = true) (hvh : valP n h = true) (b1 : refB n h f = true) (b2 : refB n h g = true) (a1 : refB n f h = true) (a2 : refB n g h = false) :
    Calls Try.prog 8 #[.slice a n c, .slice b n d, .slice e n i] w (Yes w) := by
  have HA := Lib.hid hr
  have HR := Lib.hid hs
  have HT := Lib.hid ht
  have hn : n ≤ 4096 := by omega
  have HN := Lib.hid (show n ≤ maxLen by unfold maxLen; omega)
  have HP := Lib.hid (prB_iff.2 ⟨rfl, hn60, hvf, hvg⟩)
  have HQ := Lib.hid (prB_iff.2 ⟨rfl, hn60, hvg, hvh⟩)
  have Hpq := Lib.hid (pair_of hvf hvg)
  have Hqp := Lib.hid (pair_of hvg hvf)
  have Hqr := Lib.hid (pair_of hvg hvh)
  have Hrp := Lib.hid (pair_of hvh hvf)
  have Hrq := Lib.hid (pair_of hvh hvg)
  have Hpr := Lib.hid (pair_of hvf hvh)
  have Hmp := Lib.hid (pair_of (val_mt hn f g) hvf)
  have Hmq := Lib.hid (pair_of (val_mt hn f g) hvg)
  have Hpj := Lib.hid (pair_of hvf (val_jn hn f g))
  have Hqj := Lib.hid (pair_of hvg (val_jn hn f g))
  have Hrm := Lib.hid (pair_of hvh (val_mt hn f g))
  have Hjr := Lib.hid (pair_of (val_jn hn f g) hvh)
  have F1 := Lib.hid (ext_mt n f g).1
  have F2 := Lib.hid (ext_mt n f g).2
  have F3 := Lib.hid (ext_jn n f g).1
  have F4 := Lib.hid (ext_jn n f g).2
  have G1 := Lib.hid b1
  have G2 := Lib.hid b2
  have G3 := Lib.hid a1
  have G4 := Lib.hid a2
  have G5 := Lib.hid (show refB n h (meetF n f g) = true by rw [ext_below, b1, b2]; rfl)
  have G6 := Lib.hid (show refB n (jnF n f g) h = false by rw [ext_above, a1, a2]; rfl)
  clear hvf hvg hvh b1 a1 b2 a2
  clear hr hs ht
  have HB := Lib.hid (Below.refl w.heap.size w)
  go_enter Try.func8, Try.ntmps8
  go_wp2_with fail
  refine (pair_any _ _ _ _ _ _ _ _ _ HA.out HR.out HN.out HN.out).mono ?_
  rintro e w1 ⟨rfl, hB⟩
  rw [HP.out]
  have HA := Lib.hid (HA.out.keep hB)
  have HR := Lib.hid (HR.out.keep hB)
  have HT := Lib.hid (HT.out.keep hB)
  have HB := Lib.hid (HB.out.trans (hB.mono HB.out.size))
  clear hB
  go_wp2_with fail
  refine (pair_any _ _ _ _ _ _ _ _ _ HR.out HT.out HN.out HN.out).mono ?_
  rintro e w2 ⟨rfl, hB⟩
  rw [HQ.out]
  have HA := Lib.hid (HA.out.keep hB)
  have HR := Lib.hid (HR.out.keep hB)
  have HT := Lib.hid (HT.out.keep hB)
  have HB := Lib.hid (HB.out.trans (hB.mono HB.out.size))
  clear hB
  go_wp2_with fail
  refine (meet_ok _ _ _ _ _ _ _ _ HA.out HR.out Hpq.out).mono ?_
  rintro e w3 ⟨r3, c3, rfl, hR, hB⟩
  have HA := Lib.hid (HA.out.keep hB)
  have HR := Lib.hid (HR.out.keep hB)
  have HT := Lib.hid (HT.out.keep hB)
  have HB := Lib.hid (HB.out.trans (hB.mono HB.out.size))
  have HC := Lib.hid hR
  clear hR hB
  go_wp2_with fail
  refine (join_g _ _ _ _ _ _ _ _ HA.out HR.out Hpq.out).mono ?_
  rintro e w4 ⟨r4, c4, rfl, hR, hB⟩
  have HA := Lib.hid (HA.out.keep hB)
  have HR := Lib.hid (HR.out.keep hB)
  have HT := Lib.hid (HT.out.keep hB)
  have HC := Lib.hid (HC.out.keep hB)
  have HB := Lib.hid (HB.out.trans (hB.mono HB.out.size))
  have HD := Lib.hid hR
  clear hR hB
  go_wp2_with fail
  refine (refines_ok _ _ _ _ _ _ _ _ HC.out HA.out Hmp.out).mono ?_
  rintro e w5 ⟨rfl, hB⟩
  rw [F1.out]
  have HA := Lib.hid (HA.out.keep hB)
  have HR := Lib.hid (HR.out.keep hB)
  have HT := Lib.hid (HT.out.keep hB)
  have HC := Lib.hid (HC.out.keep hB)
  have HD := Lib.hid (HD.out.keep hB)
  have HB := Lib.hid (HB.out.trans (hB.mono HB.out.size))
  clear hB
  go_wp2_with fail
  refine (refines_ok _ _ _ _ _ _ _ _ HC.out HR.out Hmq.out).mono ?_
  rintro e w6 ⟨rfl, hB⟩
  rw [F2.out]
  have HA := Lib.hid (HA.out.keep hB)
  have HR := Lib.hid (HR.out.keep hB)
  have HT := Lib.hid (HT.out.keep hB)
  have HC := Lib.hid (HC.out.keep hB)
  have HD := Lib.hid (HD.out.keep hB)
  have HB := Lib.hid (HB.out.trans (hB.mono HB.out.size))
  clear hB
  go_wp2_with fail
  refine (refines_ok _ _ _ _ _ _ _ _ HA.out HD.out Hpj.out).mono ?_
  rintro e w7 ⟨rfl, hB⟩
  rw [F3.out]
  have HA := Lib.hid (HA.out.keep hB)
  have HR := Lib.hid (HR.out.keep hB)
  have HT := Lib.hid (HT.out.keep hB)
  have HC := Lib.hid (HC.out.keep hB)
  have HD := Lib.hid (HD.out.keep hB)
  have HB := Lib.hid (HB.out.trans (hB.mono HB.out.size))
  clear hB
  go_wp2_with fail
  refine (refines_ok _ _ _ _ _ _ _ _ HR.out HD.out Hqj.out).mono ?_
  rintro e w8 ⟨rfl, hB⟩
  rw [F4.out]
  have HA := Lib.hid (HA.out.keep hB)
  have HR := Lib.hid (HR.out.keep hB)
  have HT := Lib.hid (HT.out.keep hB)
  have HC := Lib.hid (HC.out.keep hB)
  have HD := Lib.hid (HD.out.keep hB)
  have HB := Lib.hid (HB.out.trans (hB.mono HB.out.size))
  clear hB
  go_wp2_with fail
  refine (refines_ok _ _ _ _ _ _ _ _ HT.out HA.out Hrp.out).mono ?_
  rintro e w9 ⟨rfl, hB⟩
  rw [G1.out]
  have HA := Lib.hid (HA.out.keep hB)
  have HR := Lib.hid (HR.out.keep hB)
  have HT := Lib.hid (HT.out.keep hB)
  have HC := Lib.hid (HC.out.keep hB)
  have HD := Lib.hid (HD.out.keep hB)
  have HB := Lib.hid (HB.out.trans (hB.mono HB.out.size))
  clear hB
  go_wp2_with fail
  refine (refines_ok _ _ _ _ _ _ _ _ HT.out HR.out Hrq.out).mono ?_
  rintro e w10 ⟨rfl, hB⟩
  rw [G2.out]
  have HA := Lib.hid (HA.out.keep hB)
  have HR := Lib.hid (HR.out.keep hB)
  have HT := Lib.hid (HT.out.keep hB)
  have HC := Lib.hid (HC.out.keep hB)
  have HD := Lib.hid (HD.out.keep hB)
  have HB := Lib.hid (HB.out.trans (hB.mono HB.out.size))
  clear hB
  go_wp2_with fail
  refine (refines_ok _ _ _ _ _ _ _ _ HA.out HT.out Hpr.out).mono ?_
  rintro e w11 ⟨rfl, hB⟩
  rw [G3.out]
  have HA := Lib.hid (HA.out.keep hB)
  have HR := Lib.hid (HR.out.keep hB)
  have HT := Lib.hid (HT.out.keep hB)
  have HC := Lib.hid (HC.out.keep hB)
  have HD := Lib.hid (HD.out.keep hB)
  have HB := Lib.hid (HB.out.trans (hB.mono HB.out.size))
  clear hB
  go_wp2_with fail
  refine (refines_ok _ _ _ _ _ _ _ _ HR.out HT.out Hqr.out).mono ?_
  rintro e w12 ⟨rfl, hB⟩
  rw [G4.out]
  have HA := Lib.hid (HA.out.keep hB)
  have HR := Lib.hid (HR.out.keep hB)
  have HT := Lib.hid (HT.out.keep hB)
  have HC := Lib.hid (HC.out.keep hB)
  have HD := Lib.hid (HD.out.keep hB)
  have HB := Lib.hid (HB.out.trans (hB.mono HB.out.size))
  clear hB
  go_wp2_with fail
  refine (refines_ok _ _ _ _ _ _ _ _ HT.out HC.out Hrm.out).mono ?_
  rintro e w13 ⟨rfl, hB⟩
  rw [G5.out]
  have HA := Lib.hid (HA.out.keep hB)
  have HR := Lib.hid (HR.out.keep hB)
  have HT := Lib.hid (HT.out.keep hB)
  have HC := Lib.hid (HC.out.keep hB)
  have HD := Lib.hid (HD.out.keep hB)
  have HB := Lib.hid (HB.out.trans (hB.mono HB.out.size))
  clear hB
  go_wp2_with fail
  refine (refines_ok _ _ _ _ _ _ _ _ HD.out HT.out Hjr.out).mono ?_
  rintro e w14 ⟨rfl, hB⟩
  rw [G6.out]
  have HA := Lib.hid (HA.out.keep hB)
  have HR := Lib.hid (HR.out.keep hB)
  have HT := Lib.hid (HT.out.keep hB)
  have HC := Lib.hid (HC.out.keep hB)
  have HD := Lib.hid (HD.out.keep hB)
  have HB := Lib.hid (HB.out.trans (hB.mono HB.out.size))
  clear hB
  go_wp2_with fail
  refine (awake_any _).mono ?_
  rintro e w15 ⟨rfl, hB⟩
  have HA := Lib.hid (HA.out.keep hB)
  have HR := Lib.hid (HR.out.keep hB)
  have HT := Lib.hid (HT.out.keep hB)
  have HC := Lib.hid (HC.out.keep hB)
  have HD := Lib.hid (HD.out.keep hB)
  have HB := Lib.hid (HB.out.trans (hB.mono HB.out.size))
  clear hB
  go_wp2_with fail
  go_ret
  exact ⟨rfl, HB.out⟩
set_option maxRecDepth 100000 in
set_option maxHeartbeats 4000000 in
theorem cPartitionExtremes_2 (a : Option Addr) (n c : Nat) (f : Nat → Int) (b : Option Addr) (d : Nat) (g : Nat → Int) (e : Option Addr) (i : Nat) (h : Nat → Int) (w : World) (hr : RowI w a n f) (hs : RowI w b n g) (ht : RowI w e n h) (hn60 : n ≤ 60) (hvf : valP n f = true) (hvg : valP n g = true) (hvh : valP n h = true) (b1 : refB n h f = true) (b2 : refB n h g = true) (a1 : refB n f h = false) :
    Calls Try.prog 8 #[.slice a n c, .slice b n d, .slice e n i] w (Yes w) := by
  have HA := Lib.hid hr
  have HR := Lib.hid hs
  have HT := Lib.hid ht
  have hn : n ≤ 4096 := by omega
  have HN := Lib.hid (show n ≤ maxLen by unfold maxLen; omega)
  have HP := Lib.hid (prB_iff.2 ⟨rfl, hn60, hvf, hvg⟩)
  have HQ := Lib.hid (prB_iff.2 ⟨rfl, hn60, hvg, hvh⟩)
  have Hpq := Lib.hid (pair_of hvf hvg)
  have Hqp := Lib.hid (pair_of hvg hvf)
  have Hqr := Lib.hid (pair_of hvg hvh)
  have Hrp := Lib.hid (pair_of hvh hvf)
  have Hrq := Lib.hid (pair_of hvh hvg)
  have Hpr := Lib.hid (pair_of hvf hvh)
  have Hmp := Lib.hid (pair_of (val_mt hn f g) hvf)
  have Hmq := Lib.hid (pair_of (val_mt hn f g) hvg)
  have Hpj := Lib.hid (pair_of hvf (val_jn hn f g))
  have Hqj := Lib.hid (pair_of hvg (val_jn hn f g))
  have Hrm := Lib.hid (pair_of hvh (val_mt hn f g))
  have Hjr := Lib.hid (pair_of (val_jn hn f g) hvh)
  have F1 := Lib.hid (ext_mt n f g).1
  have F2 := Lib.hid (ext_mt n f g).2
  have F3 := Lib.hid (ext_jn n f g).1
  have F4 := Lib.hid (ext_jn n f g).2
  have G1 := Lib.hid b1
  have G2 := Lib.hid b2
  have G3 := Lib.hid a1
  have G5 := Lib.hid (show refB n h (meetF n f g) = true by rw [ext_below, b1, b2]; rfl)
  have G6 := Lib.hid (show refB n (jnF n f g) h = false by rw [ext_above, a1]; rfl)
  clear hvf hvg hvh b1 a1 b2
  clear hr hs ht
  have HB := Lib.hid (Below.refl w.heap.size w)
  go_enter Try.func8, Try.ntmps8
  go_wp2_with fail
  refine (pair_any _ _ _ _ _ _ _ _ _ HA.out HR.out HN.out HN.out).mono ?_
  rintro e w1 ⟨rfl, hB⟩
  rw [HP.out]
  have HA := Lib.hid (HA.out.keep hB)
  have HR := Lib.hid (HR.out.keep hB)
  have HT := Lib.hid (HT.out.keep hB)
  have HB := Lib.hid (HB.out.trans (hB.mono HB.out.size))
  clear hB
  go_wp2_with fail
  refine (pair_any _ _ _ _ _ _ _ _ _ HR.out HT.out HN.out HN.out).mono ?_
  rintro e w2 ⟨rfl, hB⟩
  rw [HQ.out]
  have HA := Lib.hid (HA.out.keep hB)
  have HR := Lib.hid (HR.out.keep hB)
  have HT := Lib.hid (HT.out.keep hB)
  have HB := Lib.hid (HB.out.trans (hB.mono HB.out.size))
  clear hB
  go_wp2_with fail
  refine (meet_ok _ _ _ _ _ _ _ _ HA.out HR.out Hpq.out).mono ?_
  rintro e w3 ⟨r3, c3, rfl, hR, hB⟩
  have HA := Lib.hid (HA.out.keep hB)
  have HR := Lib.hid (HR.out.keep hB)
  have HT := Lib.hid (HT.out.keep hB)
  have HB := Lib.hid (HB.out.trans (hB.mono HB.out.size))
  have HC := Lib.hid hR
  clear hR hB
  go_wp2_with fail
  refine (join_g _ _ _ _ _ _ _ _ HA.out HR.out Hpq.out).mono ?_
  rintro e w4 ⟨r4, c4, rfl, hR, hB⟩
  have HA := Lib.hid (HA.out.keep hB)
  have HR := Lib.hid (HR.out.keep hB)
  have HT := Lib.hid (HT.out.keep hB)
  have HC := Lib.hid (HC.out.keep hB)
  have HB := Lib.hid (HB.out.trans (hB.mono HB.out.size))
  have HD := Lib.hid hR
  clear hR hB
  go_wp2_with fail
  refine (refines_ok _ _ _ _ _ _ _ _ HC.out HA.out Hmp.out).mono ?_
  rintro e w5 ⟨rfl, hB⟩
  rw [F1.out]
  have HA := Lib.hid (HA.out.keep hB)
  have HR := Lib.hid (HR.out.keep hB)
  have HT := Lib.hid (HT.out.keep hB)
  have HC := Lib.hid (HC.out.keep hB)
  have HD := Lib.hid (HD.out.keep hB)
  have HB := Lib.hid (HB.out.trans (hB.mono HB.out.size))
  clear hB
  go_wp2_with fail
  refine (refines_ok _ _ _ _ _ _ _ _ HC.out HR.out Hmq.out).mono ?_
  rintro e w6 ⟨rfl, hB⟩
  rw [F2.out]
  have HA := Lib.hid (HA.out.keep hB)
  have HR := Lib.hid (HR.out.keep hB)
  have HT := Lib.hid (HT.out.keep hB)
  have HC := Lib.hid (HC.out.keep hB)
  have HD := Lib.hid (HD.out.keep hB)
  have HB := Lib.hid (HB.out.trans (hB.mono HB.out.size))
  clear hB
  go_wp2_with fail
  refine (refines_ok _ _ _ _ _ _ _ _ HA.out HD.out Hpj.out).mono ?_
  rintro e w7 ⟨rfl, hB⟩
  rw [F3.out]
  have HA := Lib.hid (HA.out.keep hB)
  have HR := Lib.hid (HR.out.keep hB)
  have HT := Lib.hid (HT.out.keep hB)
  have HC := Lib.hid (HC.out.keep hB)
  have HD := Lib.hid (HD.out.keep hB)
  have HB := Lib.hid (HB.out.trans (hB.mono HB.out.size))
  clear hB
  go_wp2_with fail
  refine (refines_ok _ _ _ _ _ _ _ _ HR.out HD.out Hqj.out).mono ?_
  rintro e w8 ⟨rfl, hB⟩
  rw [F4.out]
  have HA := Lib.hid (HA.out.keep hB)
  have HR := Lib.hid (HR.out.keep hB)
  have HT := Lib.hid (HT.out.keep hB)
  have HC := Lib.hid (HC.out.keep hB)
  have HD := Lib.hid (HD.out.keep hB)
  have HB := Lib.hid (HB.out.trans (hB.mono HB.out.size))
  clear hB
  go_wp2_with fail
  refine (refines_ok _ _ _ _ _ _ _ _ HT.out HA.out Hrp.out).mono ?_
  rintro e w9 ⟨rfl, hB⟩
  rw [G1.out]
  have HA := Lib.hid (HA.out.keep hB)
  have HR := Lib.hid (HR.out.keep hB)
  have HT := Lib.hid (HT.out.keep hB)
  have HC := Lib.hid (HC.out.keep hB)
  have HD := Lib.hid (HD.out.keep hB)
  have HB := Lib.hid (HB.out.trans (hB.mono HB.out.size))
  clear hB
  go_wp2_with fail
  refine (refines_ok _ _ _ _ _ _ _ _ HT.out HR.out Hrq.out).mono ?_
  rintro e w10 ⟨rfl, hB⟩
  rw [G2.out]
  have HA := Lib.hid (HA.out.keep hB)
  have HR := Lib.hid (HR.out.keep hB)
  have HT := Lib.hid (HT.out.keep hB)
  have HC := Lib.hid (HC.out.keep hB)
  have HD := Lib.hid (HD.out.keep hB)
  have HB := Lib.hid (HB.out.trans (hB.mono HB.out.size))
  clear hB
  go_wp2_with fail
  refine (refines_ok _ _ _ _ _ _ _ _ HA.out HT.out Hpr.out).mono ?_
  rintro e w11 ⟨rfl, hB⟩
  rw [G3.out]
  have HA := Lib.hid (HA.out.keep hB)
  have HR := Lib.hid (HR.out.keep hB)
  have HT := Lib.hid (HT.out.keep hB)
  have HC := Lib.hid (HC.out.keep hB)
  have HD := Lib.hid (HD.out.keep hB)
  have HB := Lib.hid (HB.out.trans (hB.mono HB.out.size))
  clear hB
  go_wp2_with fail
  refine (refines_ok _ _ _ _ _ _ _ _ HT.out HC.out Hrm.out).mono ?_
  rintro e w12 ⟨rfl, hB⟩
  rw [G5.out]
  have HA := Lib.hid (HA.out.keep hB)
  have HR := Lib.hid (HR.out.keep hB)
  have HT := Lib.hid (HT.out.keep hB)
  have HC := Lib.hid (HC.out.keep hB)
  have HD := Lib.hid (HD.out.keep hB)
  have HB := Lib.hid (HB.out.trans (hB.mono HB.out.size))
  clear hB
  go_wp2_with fail
  refine (refines_ok _ _ _ _ _ _ _ _ HD.out HT.out Hjr.out).mono ?_
  rintro e w13 ⟨rfl, hB⟩
  rw [G6.out]
  have HA := Lib.hid (HA.out.keep hB)
  have HR := Lib.hid (HR.out.keep hB)
  have HT := Lib.hid (HT.out.keep hB)
  have HC := Lib.hid (HC.out.keep hB)
  have HD := Lib.hid (HD.out.keep hB)
  have HB := Lib.hid (HB.out.trans (hB.mono HB.out.size))
  clear hB
  go_wp2_with fail
  refine (awake_any _).mono ?_
  rintro e w14 ⟨rfl, hB⟩
  have HA := Lib.hid (HA.out.keep hB)
  have HR := Lib.hid (HR.out.keep hB)
  have HT := Lib.hid (HT.out.keep hB)
  have HC := Lib.hid (HC.out.keep hB)
  have HD := Lib.hid (HD.out.keep hB)
  have HB := Lib.hid (HB.out.trans (hB.mono HB.out.size))
  clear hB
  go_wp2_with fail
  go_ret
  exact ⟨rfl, HB.out⟩
set_option maxRecDepth 100000 in
set_option maxHeartbeats 4000000 in
theorem cPartitionExtremes_3 (a : Option Addr) (n c : Nat) (f : Nat → Int) (b : Option Addr) (d : Nat) (g : Nat → Int) (e : Option Addr) (i : Nat) (h : Nat → Int) (w : World) (hr : RowI w a n f) (hs : RowI w b n g) (ht : RowI w e n h) (hn60 : n ≤ 60) (hvf : valP n f = true) (hvg : valP n g = true) (hvh : valP n h = true) (b1 : refB n h f = true) (b2 : refB n h g = false) (a1 : refB n f h = true) (a2 : refB n g h = true) :
    Calls Try.prog 8 #[.slice a n c, .slice b n d, .slice e n i] w (Yes w) := by
  have HA := Lib.hid hr
  have HR := Lib.hid hs
  have HT := Lib.hid ht
  have hn : n ≤ 4096 := by omega
  have HN := Lib.hid (show n ≤ maxLen by unfold maxLen; omega)
  have HP := Lib.hid (prB_iff.2 ⟨rfl, hn60, hvf, hvg⟩)
  have HQ := Lib.hid (prB_iff.2 ⟨rfl, hn60, hvg, hvh⟩)
  have Hpq := Lib.hid (pair_of hvf hvg)
  have Hqp := Lib.hid (pair_of hvg hvf)
  have Hqr := Lib.hid (pair_of hvg hvh)
  have Hrp := Lib.hid (pair_of hvh hvf)
  have Hrq := Lib.hid (pair_of hvh hvg)
  have Hpr := Lib.hid (pair_of hvf hvh)
  have Hmp := Lib.hid (pair_of (val_mt hn f g) hvf)
  have Hmq := Lib.hid (pair_of (val_mt hn f g) hvg)
  have Hpj := Lib.hid (pair_of hvf (val_jn hn f g))
  have Hqj := Lib.hid (pair_of hvg (val_jn hn f g))
  have Hrm := Lib.hid (pair_of hvh (val_mt hn f g))
  have Hjr := Lib.hid (pair_of (val_jn hn f g) hvh)
  have F1 := Lib.hid (ext_mt n f g).1
  have F2 := Lib.hid (ext_mt n f g).2
  have F3 := Lib.hid (ext_jn n f g).1
  have F4 := Lib.hid (ext_jn n f g).2
  have G1 := Lib.hid b1
  have G2 := Lib.hid b2
  have G3 := Lib.hid a1
  have G4 := Lib.hid a2
  have G5 := Lib.hid (show refB n h (meetF n f g) = false by rw [ext_below, b1, b2]; rfl)
  have G6 := Lib.hid (show refB n (jnF n f g) h = true by rw [ext_above, a1, a2]; rfl)
  clear hvf hvg hvh b1 a1 b2 a2
  clear hr hs ht
  have HB := Lib.hid (Below.refl w.heap.size w)
  go_enter Try.func8, Try.ntmps8
  go_wp2_with fail
  refine (pair_any _ _ _ _ _ _ _ _ _ HA.out HR.out HN.out HN.out).mono ?_
  rintro e w1 ⟨rfl, hB⟩
  rw [HP.out]
  have HA := Lib.hid (HA.out.keep hB)
  have HR := Lib.hid (HR.out.keep hB)
  have HT := Lib.hid (HT.out.keep hB)
  have HB := Lib.hid (HB.out.trans (hB.mono HB.out.size))
  clear hB
  go_wp2_with fail
  refine (pair_any _ _ _ _ _ _ _ _ _ HR.out HT.out HN.out HN.out).mono ?_
  rintro e w2 ⟨rfl, hB⟩
  rw [HQ.out]
  have HA := Lib.hid (HA.out.keep hB)
  have HR := Lib.hid (HR.out.keep hB)
  have HT := Lib.hid (HT.out.keep hB)
  have HB := Lib.hid (HB.out.trans (hB.mono HB.out.size))
  clear hB
  go_wp2_with fail
  refine (meet_ok _ _ _ _ _ _ _ _ HA.out HR.out Hpq.out).mono ?_
  rintro e w3 ⟨r3, c3, rfl, hR, hB⟩
  have HA := Lib.hid (HA.out.keep hB)
  have HR := Lib.hid (HR.out.keep hB)
  have HT := Lib.hid (HT.out.keep hB)
  have HB := Lib.hid (HB.out.trans (hB.mono HB.out.size))
  have HC := Lib.hid hR
  clear hR hB
  go_wp2_with fail
  refine (join_g _ _ _ _ _ _ _ _ HA.out HR.out Hpq.out).mono ?_
  rintro e w4 ⟨r4, c4, rfl, hR, hB⟩
  have HA := Lib.hid (HA.out.keep hB)
  have HR := Lib.hid (HR.out.keep hB)
  have HT := Lib.hid (HT.out.keep hB)
  have HC := Lib.hid (HC.out.keep hB)
  have HB := Lib.hid (HB.out.trans (hB.mono HB.out.size))
  have HD := Lib.hid hR
  clear hR hB
  go_wp2_with fail
  refine (refines_ok _ _ _ _ _ _ _ _ HC.out HA.out Hmp.out).mono ?_
  rintro e w5 ⟨rfl, hB⟩
  rw [F1.out]
  have HA := Lib.hid (HA.out.keep hB)
  have HR := Lib.hid (HR.out.keep hB)
  have HT := Lib.hid (HT.out.keep hB)
  have HC := Lib.hid (HC.out.keep hB)
  have HD := Lib.hid (HD.out.keep hB)
  have HB := Lib.hid (HB.out.trans (hB.mono HB.out.size))
  clear hB
  go_wp2_with fail
  refine (refines_ok _ _ _ _ _ _ _ _ HC.out HR.out Hmq.out).mono ?_
  rintro e w6 ⟨rfl, hB⟩
  rw [F2.out]
  have HA := Lib.hid (HA.out.keep hB)
  have HR := Lib.hid (HR.out.keep hB)
  have HT := Lib.hid (HT.out.keep hB)
  have HC := Lib.hid (HC.out.keep hB)
  have HD := Lib.hid (HD.out.keep hB)
  have HB := Lib.hid (HB.out.trans (hB.mono HB.out.size))
  clear hB
  go_wp2_with fail
  refine (refines_ok _ _ _ _ _ _ _ _ HA.out HD.out Hpj.out).mono ?_
  rintro e w7 ⟨rfl, hB⟩
  rw [F3.out]
  have HA := Lib.hid (HA.out.keep hB)
  have HR := Lib.hid (HR.out.keep hB)
  have HT := Lib.hid (HT.out.keep hB)
  have HC := Lib.hid (HC.out.keep hB)
  have HD := Lib.hid (HD.out.keep hB)
  have HB := Lib.hid (HB.out.trans (hB.mono HB.out.size))
  clear hB
  go_wp2_with fail
  refine (refines_ok _ _ _ _ _ _ _ _ HR.out HD.out Hqj.out).mono ?_
  rintro e w8 ⟨rfl, hB⟩
  rw [F4.out]
  have HA := Lib.hid (HA.out.keep hB)
  have HR := Lib.hid (HR.out.keep hB)
  have HT := Lib.hid (HT.out.keep hB)
  have HC := Lib.hid (HC.out.keep hB)
  have HD := Lib.hid (HD.out.keep hB)
  have HB := Lib.hid (HB.out.trans (hB.mono HB.out.size))
  clear hB
  go_wp2_with fail
  refine (refines_ok _ _ _ _ _ _ _ _ HT.out HA.out Hrp.out).mono ?_
  rintro e w9 ⟨rfl, hB⟩
  rw [G1.out]
  have HA := Lib.hid (HA.out.keep hB)
  have HR := Lib.hid (HR.out.keep hB)
  have HT := Lib.hid (HT.out.keep hB)
  have HC := Lib.hid (HC.out.keep hB)
  have HD := Lib.hid (HD.out.keep hB)
  have HB := Lib.hid (HB.out.trans (hB.mono HB.out.size))
  clear hB
  go_wp2_with fail
  refine (refines_ok _ _ _ _ _ _ _ _ HT.out HR.out Hrq.out).mono ?_
  rintro e w10 ⟨rfl, hB⟩
  rw [G2.out]
  have HA := Lib.hid (HA.out.keep hB)
  have HR := Lib.hid (HR.out.keep hB)
  have HT := Lib.hid (HT.out.keep hB)
  have HC := Lib.hid (HC.out.keep hB)
  have HD := Lib.hid (HD.out.keep hB)
  have HB := Lib.hid (HB.out.trans (hB.mono HB.out.size))
  clear hB
  go_wp2_with fail
  refine (refines_ok _ _ _ _ _ _ _ _ HA.out HT.out Hpr.out).mono ?_
  rintro e w11 ⟨rfl, hB⟩
  rw [G3.out]
  have HA := Lib.hid (HA.out.keep hB)
  have HR := Lib.hid (HR.out.keep hB)
  have HT := Lib.hid (HT.out.keep hB)
  have HC := Lib.hid (HC.out.keep hB)
  have HD := Lib.hid (HD.out.keep hB)
  have HB := Lib.hid (HB.out.trans (hB.mono HB.out.size))
  clear hB
  go_wp2_with fail
  refine (refines_ok _ _ _ _ _ _ _ _ HR.out HT.out Hqr.out).mono ?_
  rintro e w12 ⟨rfl, hB⟩
  rw [G4.out]
  have HA := Lib.hid (HA.out.keep hB)
  have HR := Lib.hid (HR.out.keep hB)
  have HT := Lib.hid (HT.out.keep hB)
  have HC := Lib.hid (HC.out.keep hB)
  have HD := Lib.hid (HD.out.keep hB)
  have HB := Lib.hid (HB.out.trans (hB.mono HB.out.size))
  clear hB
  go_wp2_with fail
  refine (refines_ok _ _ _ _ _ _ _ _ HT.out HC.out Hrm.out).mono ?_
  rintro e w13 ⟨rfl, hB⟩
  rw [G5.out]
  have HA := Lib.hid (HA.out.keep hB)
  have HR := Lib.hid (HR.out.keep hB)
  have HT := Lib.hid (HT.out.keep hB)
  have HC := Lib.hid (HC.out.keep hB)
  have HD := Lib.hid (HD.out.keep hB)
  have HB := Lib.hid (HB.out.trans (hB.mono HB.out.size))
  clear hB
  go_wp2_with fail
  refine (refines_ok _ _ _ _ _ _ _ _ HD.out HT.out Hjr.out).mono ?_
  rintro e w14 ⟨rfl, hB⟩
  rw [G6.out]
  have HA := Lib.hid (HA.out.keep hB)
  have HR := Lib.hid (HR.out.keep hB)
  have HT := Lib.hid (HT.out.keep hB)
  have HC := Lib.hid (HC.out.keep hB)
  have HD := Lib.hid (HD.out.keep hB)
  have HB := Lib.hid (HB.out.trans (hB.mono HB.out.size))
  clear hB
  go_wp2_with fail
  refine (awake_any _).mono ?_
  rintro e w15 ⟨rfl, hB⟩
  have HA := Lib.hid (HA.out.keep hB)
  have HR := Lib.hid (HR.out.keep hB)
  have HT := Lib.hid (HT.out.keep hB)
  have HC := Lib.hid (HC.out.keep hB)
  have HD := Lib.hid (HD.out.keep hB)
  have HB := Lib.hid (HB.out.trans (hB.mono HB.out.size))
  clear hB
  go_wp2_with fail
  go_ret
  exact ⟨rfl, HB.out⟩
set_option maxRecDepth 100000 in
set_option maxHeartbeats 4000000 in
theorem cPartitionExtremes_4 (a : Option Addr) (n c : Nat) (f : Nat → Int) (b : Option Addr) (d : Nat) (g : Nat → Int) (e : Option Addr) (i : Nat) (h : Nat → Int) (w : World) (hr : RowI w a n f) (hs : RowI w b n g) (ht : RowI w e n h) (hn60 : n ≤ 60) (hvf : valP n f = true) (hvg : valP n g = true) (hvh : valP n h = true) (b1 : refB n h f = true) (b2 : refB n h g = false) (a1 : refB n f h = true) (a2 : refB n g h = false) :
    Calls Try.prog 8 #[.slice a n c, .slice b n d, .slice e n i] w (Yes w) := by
  have HA := Lib.hid hr
  have HR := Lib.hid hs
  have HT := Lib.hid ht
  have hn : n ≤ 4096 := by omega
  have HN := Lib.hid (show n ≤ maxLen by unfold maxLen; omega)
  have HP := Lib.hid (prB_iff.2 ⟨rfl, hn60, hvf, hvg⟩)
  have HQ := Lib.hid (prB_iff.2 ⟨rfl, hn60, hvg, hvh⟩)
  have Hpq := Lib.hid (pair_of hvf hvg)
  have Hqp := Lib.hid (pair_of hvg hvf)
  have Hqr := Lib.hid (pair_of hvg hvh)
  have Hrp := Lib.hid (pair_of hvh hvf)
  have Hrq := Lib.hid (pair_of hvh hvg)
  have Hpr := Lib.hid (pair_of hvf hvh)
  have Hmp := Lib.hid (pair_of (val_mt hn f g) hvf)
  have Hmq := Lib.hid (pair_of (val_mt hn f g) hvg)
  have Hpj := Lib.hid (pair_of hvf (val_jn hn f g))
  have Hqj := Lib.hid (pair_of hvg (val_jn hn f g))
  have Hrm := Lib.hid (pair_of hvh (val_mt hn f g))
  have Hjr := Lib.hid (pair_of (val_jn hn f g) hvh)
  have F1 := Lib.hid (ext_mt n f g).1
  have F2 := Lib.hid (ext_mt n f g).2
  have F3 := Lib.hid (ext_jn n f g).1
  have F4 := Lib.hid (ext_jn n f g).2
  have G1 := Lib.hid b1
  have G2 := Lib.hid b2
  have G3 := Lib.hid a1
  have G4 := Lib.hid a2
  have G5 := Lib.hid (show refB n h (meetF n f g) = false by rw [ext_below, b1, b2]; rfl)
  have G6 := Lib.hid (show refB n (jnF n f g) h = false by rw [ext_above, a1, a2]; rfl)
  clear hvf hvg hvh b1 a1 b2 a2
  clear hr hs ht
  have HB := Lib.hid (Below.refl w.heap.size w)
  go_enter Try.func8, Try.ntmps8
  go_wp2_with fail
  refine (pair_any _ _ _ _ _ _ _ _ _ HA.out HR.out HN.out HN.out).mono ?_
  rintro e w1 ⟨rfl, hB⟩
  rw [HP.out]
  have HA := Lib.hid (HA.out.keep hB)
  have HR := Lib.hid (HR.out.keep hB)
  have HT := Lib.hid (HT.out.keep hB)
  have HB := Lib.hid (HB.out.trans (hB.mono HB.out.size))
  clear hB
  go_wp2_with fail
  refine (pair_any _ _ _ _ _ _ _ _ _ HR.out HT.out HN.out HN.out).mono ?_
  rintro e w2 ⟨rfl, hB⟩
  rw [HQ.out]
  have HA := Lib.hid (HA.out.keep hB)
  have HR := Lib.hid (HR.out.keep hB)
  have HT := Lib.hid (HT.out.keep hB)
  have HB := Lib.hid (HB.out.trans (hB.mono HB.out.size))
  clear hB
  go_wp2_with fail
  refine (meet_ok _ _ _ _ _ _ _ _ HA.out HR.out Hpq.out).mono ?_
  rintro e w3 ⟨r3, c3, rfl, hR, hB⟩
  have HA := Lib.hid (HA.out.keep hB)
  have HR := Lib.hid (HR.out.keep hB)
  have HT := Lib.hid (HT.out.keep hB)
  have HB := Lib.hid (HB.out.trans (hB.mono HB.out.size))
  have HC := Lib.hid hR
  clear hR hB
  go_wp2_with fail
  refine (join_g _ _ _ _ _ _ _ _ HA.out HR.out Hpq.out).mono ?_
  rintro e w4 ⟨r4, c4, rfl, hR, hB⟩
  have HA := Lib.hid (HA.out.keep hB)
  have HR := Lib.hid (HR.out.keep hB)
  have HT := Lib.hid (HT.out.keep hB)
  have HC := Lib.hid (HC.out.keep hB)
  have HB := Lib.hid (HB.out.trans (hB.mono HB.out.size))
  have HD := Lib.hid hR
  clear hR hB
  go_wp2_with fail
  refine (refines_ok _ _ _ _ _ _ _ _ HC.out HA.out Hmp.out).mono ?_
  rintro e w5 ⟨rfl, hB⟩
  rw [F1.out]
  have HA := Lib.hid (HA.out.keep hB)
  have HR := Lib.hid (HR.out.keep hB)
  have HT := Lib.hid (HT.out.keep hB)
  have HC := Lib.hid (HC.out.keep hB)
  have HD := Lib.hid (HD.out.keep hB)
  have HB := Lib.hid (HB.out.trans (hB.mono HB.out.size))
  clear hB
  go_wp2_with fail
  refine (refines_ok _ _ _ _ _ _ _ _ HC.out HR.out Hmq.out).mono ?_
  rintro e w6 ⟨rfl, hB⟩
  rw [F2.out]
  have HA := Lib.hid (HA.out.keep hB)
  have HR := Lib.hid (HR.out.keep hB)
  have HT := Lib.hid (HT.out.keep hB)
  have HC := Lib.hid (HC.out.keep hB)
  have HD := Lib.hid (HD.out.keep hB)
  have HB := Lib.hid (HB.out.trans (hB.mono HB.out.size))
  clear hB
  go_wp2_with fail
  refine (refines_ok _ _ _ _ _ _ _ _ HA.out HD.out Hpj.out).mono ?_
  rintro e w7 ⟨rfl, hB⟩
  rw [F3.out]
  have HA := Lib.hid (HA.out.keep hB)
  have HR := Lib.hid (HR.out.keep hB)
  have HT := Lib.hid (HT.out.keep hB)
  have HC := Lib.hid (HC.out.keep hB)
  have HD := Lib.hid (HD.out.keep hB)
  have HB := Lib.hid (HB.out.trans (hB.mono HB.out.size))
  clear hB
  go_wp2_with fail
  refine (refines_ok _ _ _ _ _ _ _ _ HR.out HD.out Hqj.out).mono ?_
  rintro e w8 ⟨rfl, hB⟩
  rw [F4.out]
  have HA := Lib.hid (HA.out.keep hB)
  have HR := Lib.hid (HR.out.keep hB)
  have HT := Lib.hid (HT.out.keep hB)
  have HC := Lib.hid (HC.out.keep hB)
  have HD := Lib.hid (HD.out.keep hB)
  have HB := Lib.hid (HB.out.trans (hB.mono HB.out.size))
  clear hB
  go_wp2_with fail
  refine (refines_ok _ _ _ _ _ _ _ _ HT.out HA.out Hrp.out).mono ?_
  rintro e w9 ⟨rfl, hB⟩
  rw [G1.out]
  have HA := Lib.hid (HA.out.keep hB)
  have HR := Lib.hid (HR.out.keep hB)
  have HT := Lib.hid (HT.out.keep hB)
  have HC := Lib.hid (HC.out.keep hB)
  have HD := Lib.hid (HD.out.keep hB)
  have HB := Lib.hid (HB.out.trans (hB.mono HB.out.size))
  clear hB
  go_wp2_with fail
  refine (refines_ok _ _ _ _ _ _ _ _ HT.out HR.out Hrq.out).mono ?_
  rintro e w10 ⟨rfl, hB⟩
  rw [G2.out]
  have HA := Lib.hid (HA.out.keep hB)
  have HR := Lib.hid (HR.out.keep hB)
  have HT := Lib.hid (HT.out.keep hB)
  have HC := Lib.hid (HC.out.keep hB)
  have HD := Lib.hid (HD.out.keep hB)
  have HB := Lib.hid (HB.out.trans (hB.mono HB.out.size))
  clear hB
  go_wp2_with fail
  refine (refines_ok _ _ _ _ _ _ _ _ HA.out HT.out Hpr.out).mono ?_
  rintro e w11 ⟨rfl, hB⟩
  rw [G3.out]
  have HA := Lib.hid (HA.out.keep hB)
  have HR := Lib.hid (HR.out.keep hB)
  have HT := Lib.hid (HT.out.keep hB)
  have HC := Lib.hid (HC.out.keep hB)
  have HD := Lib.hid (HD.out.keep hB)
  have HB := Lib.hid (HB.out.trans (hB.mono HB.out.size))
  clear hB
  go_wp2_with fail
  refine (refines_ok _ _ _ _ _ _ _ _ HR.out HT.out Hqr.out).mono ?_
  rintro e w12 ⟨rfl, hB⟩
  rw [G4.out]
  have HA := Lib.hid (HA.out.keep hB)
  have HR := Lib.hid (HR.out.keep hB)
  have HT := Lib.hid (HT.out.keep hB)
  have HC := Lib.hid (HC.out.keep hB)
  have HD := Lib.hid (HD.out.keep hB)
  have HB := Lib.hid (HB.out.trans (hB.mono HB.out.size))
  clear hB
  go_wp2_with fail
  refine (refines_ok _ _ _ _ _ _ _ _ HT.out HC.out Hrm.out).mono ?_
  rintro e w13 ⟨rfl, hB⟩
  rw [G5.out]
  have HA := Lib.hid (HA.out.keep hB)
  have HR := Lib.hid (HR.out.keep hB)
  have HT := Lib.hid (HT.out.keep hB)
  have HC := Lib.hid (HC.out.keep hB)
  have HD := Lib.hid (HD.out.keep hB)
  have HB := Lib.hid (HB.out.trans (hB.mono HB.out.size))
  clear hB
  go_wp2_with fail
  refine (refines_ok _ _ _ _ _ _ _ _ HD.out HT.out Hjr.out).mono ?_
  rintro e w14 ⟨rfl, hB⟩
  rw [G6.out]
  have HA := Lib.hid (HA.out.keep hB)
  have HR := Lib.hid (HR.out.keep hB)
  have HT := Lib.hid (HT.out.keep hB)
  have HC := Lib.hid (HC.out.keep hB)
  have HD := Lib.hid (HD.out.keep hB)
  have HB := Lib.hid (HB.out.trans (hB.mono HB.out.size))
  clear hB
  go_wp2_with fail
  refine (awake_any _).mono ?_
  rintro e w15 ⟨rfl, hB⟩
  have HA := Lib.hid (HA.out.keep hB)
  have HR := Lib.hid (HR.out.keep hB)
  have HT := Lib.hid (HT.out.keep hB)
  have HC := Lib.hid (HC.out.keep hB)
  have HD := Lib.hid (HD.out.keep hB)
  have HB := Lib.hid (HB.out.trans (hB.mono HB.out.size))
  clear hB
  go_wp2_with fail
  go_ret
  exact ⟨rfl, HB.out⟩
set_option maxRecDepth 100000 in
set_option maxHeartbeats 4000000 in
theorem cPartitionExtremes_5 (a : Option Addr) (n c : Nat) (f : Nat → Int) (b : Option Addr) (d : Nat) (g : Nat → Int) (e : Option Addr) (i : Nat) (h : Nat → Int) (w : World) (hr : RowI w a n f) (hs : RowI w b n g) (ht : RowI w e n h) (hn60 : n ≤ 60) (hvf : valP n f = true) (hvg : valP n g = true) (hvh : valP n h = true) (b1 : refB n h f = true) (b2 : refB n h g = false) (a1 : refB n f h = false) :
    Calls Try.prog 8 #[.slice a n c, .slice b n d, .slice e n i] w (Yes w) := by
  have HA := Lib.hid hr
  have HR := Lib.hid hs
  have HT := Lib.hid ht
  have hn : n ≤ 4096 := by omega
  have HN := Lib.hid (show n ≤ maxLen by unfold maxLen; omega)
  have HP := Lib.hid (prB_iff.2 ⟨rfl, hn60, hvf, hvg⟩)
  have HQ := Lib.hid (prB_iff.2 ⟨rfl, hn60, hvg, hvh⟩)
  have Hpq := Lib.hid (pair_of hvf hvg)
  have Hqp := Lib.hid (pair_of hvg hvf)
  have Hqr := Lib.hid (pair_of hvg hvh)
  have Hrp := Lib.hid (pair_of hvh hvf)
  have Hrq := Lib.hid (pair_of hvh hvg)
  have Hpr := Lib.hid (pair_of hvf hvh)
  have Hmp := Lib.hid (pair_of (val_mt hn f g) hvf)
  have Hmq := Lib.hid (pair_of (val_mt hn f g) hvg)
  have Hpj := Lib.hid (pair_of hvf (val_jn hn f g))
  have Hqj := Lib.hid (pair_of hvg (val_jn hn f g))
  have Hrm := Lib.hid (pair_of hvh (val_mt hn f g))
  have Hjr := Lib.hid (pair_of (val_jn hn f g) hvh)
  have F1 := Lib.hid (ext_mt n f g).1
  have F2 := Lib.hid (ext_mt n f g).2
  have F3 := Lib.hid (ext_jn n f g).1
  have F4 := Lib.hid (ext_jn n f g).2
  have G1 := Lib.hid b1
  have G2 := Lib.hid b2
  have G3 := Lib.hid a1
  have G5 := Lib.hid (show refB n h (meetF n f g) = false by rw [ext_below, b1, b2]; rfl)
  have G6 := Lib.hid (show refB n (jnF n f g) h = false by rw [ext_above, a1]; rfl)
  clear hvf hvg hvh b1 a1 b2
  clear hr hs ht
  have HB := Lib.hid (Below.refl w.heap.size w)
  go_enter Try.func8, Try.ntmps8
  go_wp2_with fail
  refine (pair_any _ _ _ _ _ _ _ _ _ HA.out HR.out HN.out HN.out).mono ?_
  rintro e w1 ⟨rfl, hB⟩
  rw [HP.out]
  have HA := Lib.hid (HA.out.keep hB)
  have HR := Lib.hid (HR.out.keep hB)
  have HT := Lib.hid (HT.out.keep hB)
  have HB := Lib.hid (HB.out.trans (hB.mono HB.out.size))
  clear hB
  go_wp2_with fail
  refine (pair_any _ _ _ _ _ _ _ _ _ HR.out HT.out HN.out HN.out).mono ?_
  rintro e w2 ⟨rfl, hB⟩
  rw [HQ.out]
  have HA := Lib.hid (HA.out.keep hB)
  have HR := Lib.hid (HR.out.keep hB)
  have HT := Lib.hid (HT.out.keep hB)
  have HB := Lib.hid (HB.out.trans (hB.mono HB.out.size))
  clear hB
  go_wp2_with fail
  refine (meet_ok _ _ _ _ _ _ _ _ HA.out HR.out Hpq.out).mono ?_
  rintro e w3 ⟨r3, c3, rfl, hR, hB⟩
  have HA := Lib.hid (HA.out.keep hB)
  have HR := Lib.hid (HR.out.keep hB)
  have HT := Lib.hid (HT.out.keep hB)
  have HB := Lib.hid (HB.out.trans (hB.mono HB.out.size))
  have HC := Lib.hid hR
  clear hR hB
  go_wp2_with fail
  refine (join_g _ _ _ _ _ _ _ _ HA.out HR.out Hpq.out).mono ?_
  rintro e w4 ⟨r4, c4, rfl, hR, hB⟩
  have HA := Lib.hid (HA.out.keep hB)
  have HR := Lib.hid (HR.out.keep hB)
  have HT := Lib.hid (HT.out.keep hB)
  have HC := Lib.hid (HC.out.keep hB)
  have HB := Lib.hid (HB.out.trans (hB.mono HB.out.size))
  have HD := Lib.hid hR
  clear hR hB
  go_wp2_with fail
  refine (refines_ok _ _ _ _ _ _ _ _ HC.out HA.out Hmp.out).mono ?_
  rintro e w5 ⟨rfl, hB⟩
  rw [F1.out]
  have HA := Lib.hid (HA.out.keep hB)
  have HR := Lib.hid (HR.out.keep hB)
  have HT := Lib.hid (HT.out.keep hB)
  have HC := Lib.hid (HC.out.keep hB)
  have HD := Lib.hid (HD.out.keep hB)
  have HB := Lib.hid (HB.out.trans (hB.mono HB.out.size))
  clear hB
  go_wp2_with fail
  refine (refines_ok _ _ _ _ _ _ _ _ HC.out HR.out Hmq.out).mono ?_
  rintro e w6 ⟨rfl, hB⟩
  rw [F2.out]
  have HA := Lib.hid (HA.out.keep hB)
  have HR := Lib.hid (HR.out.keep hB)
  have HT := Lib.hid (HT.out.keep hB)
  have HC := Lib.hid (HC.out.keep hB)
  have HD := Lib.hid (HD.out.keep hB)
  have HB := Lib.hid (HB.out.trans (hB.mono HB.out.size))
  clear hB
  go_wp2_with fail
  refine (refines_ok _ _ _ _ _ _ _ _ HA.out HD.out Hpj.out).mono ?_
  rintro e w7 ⟨rfl, hB⟩
  rw [F3.out]
  have HA := Lib.hid (HA.out.keep hB)
  have HR := Lib.hid (HR.out.keep hB)
  have HT := Lib.hid (HT.out.keep hB)
  have HC := Lib.hid (HC.out.keep hB)
  have HD := Lib.hid (HD.out.keep hB)
  have HB := Lib.hid (HB.out.trans (hB.mono HB.out.size))
  clear hB
  go_wp2_with fail
  refine (refines_ok _ _ _ _ _ _ _ _ HR.out HD.out Hqj.out).mono ?_
  rintro e w8 ⟨rfl, hB⟩
  rw [F4.out]
  have HA := Lib.hid (HA.out.keep hB)
  have HR := Lib.hid (HR.out.keep hB)
  have HT := Lib.hid (HT.out.keep hB)
  have HC := Lib.hid (HC.out.keep hB)
  have HD := Lib.hid (HD.out.keep hB)
  have HB := Lib.hid (HB.out.trans (hB.mono HB.out.size))
  clear hB
  go_wp2_with fail
  refine (refines_ok _ _ _ _ _ _ _ _ HT.out HA.out Hrp.out).mono ?_
  rintro e w9 ⟨rfl, hB⟩
  rw [G1.out]
  have HA := Lib.hid (HA.out.keep hB)
  have HR := Lib.hid (HR.out.keep hB)
  have HT := Lib.hid (HT.out.keep hB)
  have HC := Lib.hid (HC.out.keep hB)
  have HD := Lib.hid (HD.out.keep hB)
  have HB := Lib.hid (HB.out.trans (hB.mono HB.out.size))
  clear hB
  go_wp2_with fail
  refine (refines_ok _ _ _ _ _ _ _ _ HT.out HR.out Hrq.out).mono ?_
  rintro e w10 ⟨rfl, hB⟩
  rw [G2.out]
  have HA := Lib.hid (HA.out.keep hB)
  have HR := Lib.hid (HR.out.keep hB)
  have HT := Lib.hid (HT.out.keep hB)
  have HC := Lib.hid (HC.out.keep hB)
  have HD := Lib.hid (HD.out.keep hB)
  have HB := Lib.hid (HB.out.trans (hB.mono HB.out.size))
  clear hB
  go_wp2_with fail
  refine (refines_ok _ _ _ _ _ _ _ _ HA.out HT.out Hpr.out).mono ?_
  rintro e w11 ⟨rfl, hB⟩
  rw [G3.out]
  have HA := Lib.hid (HA.out.keep hB)
  have HR := Lib.hid (HR.out.keep hB)
  have HT := Lib.hid (HT.out.keep hB)
  have HC := Lib.hid (HC.out.keep hB)
  have HD := Lib.hid (HD.out.keep hB)
  have HB := Lib.hid (HB.out.trans (hB.mono HB.out.size))
  clear hB
  go_wp2_with fail
  refine (refines_ok _ _ _ _ _ _ _ _ HT.out HC.out Hrm.out).mono ?_
  rintro e w12 ⟨rfl, hB⟩
  rw [G5.out]
  have HA := Lib.hid (HA.out.keep hB)
  have HR := Lib.hid (HR.out.keep hB)
  have HT := Lib.hid (HT.out.keep hB)
  have HC := Lib.hid (HC.out.keep hB)
  have HD := Lib.hid (HD.out.keep hB)
  have HB := Lib.hid (HB.out.trans (hB.mono HB.out.size))
  clear hB
  go_wp2_with fail
  refine (refines_ok _ _ _ _ _ _ _ _ HD.out HT.out Hjr.out).mono ?_
  rintro e w13 ⟨rfl, hB⟩
  rw [G6.out]
  have HA := Lib.hid (HA.out.keep hB)
  have HR := Lib.hid (HR.out.keep hB)
  have HT := Lib.hid (HT.out.keep hB)
  have HC := Lib.hid (HC.out.keep hB)
  have HD := Lib.hid (HD.out.keep hB)
  have HB := Lib.hid (HB.out.trans (hB.mono HB.out.size))
  clear hB
  go_wp2_with fail
  refine (awake_any _).mono ?_
  rintro e w14 ⟨rfl, hB⟩
  have HA := Lib.hid (HA.out.keep hB)
  have HR := Lib.hid (HR.out.keep hB)
  have HT := Lib.hid (HT.out.keep hB)
  have HC := Lib.hid (HC.out.keep hB)
  have HD := Lib.hid (HD.out.keep hB)
  have HB := Lib.hid (HB.out.trans (hB.mono HB.out.size))
  clear hB
  go_wp2_with fail
  go_ret
  exact ⟨rfl, HB.out⟩
set_option maxRecDepth 100000 in
set_option maxHeartbeats 4000000 in
theorem cPartitionExtremes_6 (a : Option Addr) (n c : Nat) (f : Nat → Int) (b : Option Addr) (d : Nat) (g : Nat → Int) (e : Option Addr) (i : Nat) (h : Nat → Int) (w : World) (hr : RowI w a n f) (hs : RowI w b n g) (ht : RowI w e n h) (hn60 : n ≤ 60) (hvf : valP n f = true) (hvg : valP n g = true) (hvh : valP n h = true) (b1 : refB n h f = false) (a1 : refB n f h = true) (a2 : refB n g h = true) :
    Calls Try.prog 8 #[.slice a n c, .slice b n d, .slice e n i] w (Yes w) := by
  have HA := Lib.hid hr
  have HR := Lib.hid hs
  have HT := Lib.hid ht
  have hn : n ≤ 4096 := by omega
  have HN := Lib.hid (show n ≤ maxLen by unfold maxLen; omega)
  have HP := Lib.hid (prB_iff.2 ⟨rfl, hn60, hvf, hvg⟩)
  have HQ := Lib.hid (prB_iff.2 ⟨rfl, hn60, hvg, hvh⟩)
  have Hpq := Lib.hid (pair_of hvf hvg)
  have Hqp := Lib.hid (pair_of hvg hvf)
  have Hqr := Lib.hid (pair_of hvg hvh)
  have Hrp := Lib.hid (pair_of hvh hvf)
  have Hrq := Lib.hid (pair_of hvh hvg)
  have Hpr := Lib.hid (pair_of hvf hvh)
  have Hmp := Lib.hid (pair_of (val_mt hn f g) hvf)
  have Hmq := Lib.hid (pair_of (val_mt hn f g) hvg)
  have Hpj := Lib.hid (pair_of hvf (val_jn hn f g))
  have Hqj := Lib.hid (pair_of hvg (val_jn hn f g))
  have Hrm := Lib.hid (pair_of hvh (val_mt hn f g))
  have Hjr := Lib.hid (pair_of (val_jn hn f g) hvh)
  have F1 := Lib.hid (ext_mt n f g).1
  have F2 := Lib.hid (ext_mt n f g).2
  have F3 := Lib.hid (ext_jn n f g).1
  have F4 := Lib.hid (ext_jn n f g).2
  have G1 := Lib.hid b1
  have G3 := Lib.hid a1
  have G4 := Lib.hid a2
  have G5 := Lib.hid (show refB n h (meetF n f g) = false by rw [ext_below, b1]; rfl)
  have G6 := Lib.hid (show refB n (jnF n f g) h = true by rw [ext_above, a1, a2]; rfl)
  clear hvf hvg hvh b1 a1 a2
  clear hr hs ht
  have HB := Lib.hid (Below.refl w.heap.size w)
  go_enter Try.func8, Try.ntmps8
  go_wp2_with fail
  refine (pair_any _ _ _ _ _ _ _ _ _ HA.out HR.out HN.out HN.out).mono ?_
  rintro e w1 ⟨rfl, hB⟩
  rw [HP.out]
  have HA := Lib.hid (HA.out.keep hB)
  have HR := Lib.hid (HR.out.keep hB)
  have HT := Lib.hid (HT.out.keep hB)
  have HB := Lib.hid (HB.out.trans (hB.mono HB.out.size))
  clear hB
  go_wp2_with fail
  refine (pair_any _ _ _ _ _ _ _ _ _ HR.out HT.out HN.out HN.out).mono ?_
  rintro e w2 ⟨rfl, hB⟩
  rw [HQ.out]
  have HA := Lib.hid (HA.out.keep hB)
  have HR := Lib.hid (HR.out.keep hB)
  have HT := Lib.hid (HT.out.keep hB)
  have HB := Lib.hid (HB.out.trans (hB.mono HB.out.size))
  clear hB
  go_wp2_with fail
  refine (meet_ok _ _ _ _ _ _ _ _ HA.out HR.out Hpq.out).mono ?_
  rintro e w3 ⟨r3, c3, rfl, hR, hB⟩
  have HA := Lib.hid (HA.out.keep hB)
  have HR := Lib.hid (HR.out.keep hB)
  have HT := Lib.hid (HT.out.keep hB)
  have HB := Lib.hid (HB.out.trans (hB.mono HB.out.size))
  have HC := Lib.hid hR
  clear hR hB
  go_wp2_with fail
  refine (join_g _ _ _ _ _ _ _ _ HA.out HR.out Hpq.out).mono ?_
  rintro e w4 ⟨r4, c4, rfl, hR, hB⟩
  have HA := Lib.hid (HA.out.keep hB)
  have HR := Lib.hid (HR.out.keep hB)
  have HT := Lib.hid (HT.out.keep hB)
  have HC := Lib.hid (HC.out.keep hB)
  have HB := Lib.hid (HB.out.trans (hB.mono HB.out.size))
  have HD := Lib.hid hR
  clear hR hB
  go_wp2_with fail
  refine (refines_ok _ _ _ _ _ _ _ _ HC.out HA.out Hmp.out).mono ?_
  rintro e w5 ⟨rfl, hB⟩
  rw [F1.out]
  have HA := Lib.hid (HA.out.keep hB)
  have HR := Lib.hid (HR.out.keep hB)
  have HT := Lib.hid (HT.out.keep hB)
  have HC := Lib.hid (HC.out.keep hB)
  have HD := Lib.hid (HD.out.keep hB)
  have HB := Lib.hid (HB.out.trans (hB.mono HB.out.size))
  clear hB
  go_wp2_with fail
  refine (refines_ok _ _ _ _ _ _ _ _ HC.out HR.out Hmq.out).mono ?_
  rintro e w6 ⟨rfl, hB⟩
  rw [F2.out]
  have HA := Lib.hid (HA.out.keep hB)
  have HR := Lib.hid (HR.out.keep hB)
  have HT := Lib.hid (HT.out.keep hB)
  have HC := Lib.hid (HC.out.keep hB)
  have HD := Lib.hid (HD.out.keep hB)
  have HB := Lib.hid (HB.out.trans (hB.mono HB.out.size))
  clear hB
  go_wp2_with fail
  refine (refines_ok _ _ _ _ _ _ _ _ HA.out HD.out Hpj.out).mono ?_
  rintro e w7 ⟨rfl, hB⟩
  rw [F3.out]
  have HA := Lib.hid (HA.out.keep hB)
  have HR := Lib.hid (HR.out.keep hB)
  have HT := Lib.hid (HT.out.keep hB)
  have HC := Lib.hid (HC.out.keep hB)
  have HD := Lib.hid (HD.out.keep hB)
  have HB := Lib.hid (HB.out.trans (hB.mono HB.out.size))
  clear hB
  go_wp2_with fail
  refine (refines_ok _ _ _ _ _ _ _ _ HR.out HD.out Hqj.out).mono ?_
  rintro e w8 ⟨rfl, hB⟩
  rw [F4.out]
  have HA := Lib.hid (HA.out.keep hB)
  have HR := Lib.hid (HR.out.keep hB)
  have HT := Lib.hid (HT.out.keep hB)
  have HC := Lib.hid (HC.out.keep hB)
  have HD := Lib.hid (HD.out.keep hB)
  have HB := Lib.hid (HB.out.trans (hB.mono HB.out.size))
  clear hB
  go_wp2_with fail
  refine (refines_ok _ _ _ _ _ _ _ _ HT.out HA.out Hrp.out).mono ?_
  rintro e w9 ⟨rfl, hB⟩
  rw [G1.out]
  have HA := Lib.hid (HA.out.keep hB)
  have HR := Lib.hid (HR.out.keep hB)
  have HT := Lib.hid (HT.out.keep hB)
  have HC := Lib.hid (HC.out.keep hB)
  have HD := Lib.hid (HD.out.keep hB)
  have HB := Lib.hid (HB.out.trans (hB.mono HB.out.size))
  clear hB
  go_wp2_with fail
  refine (refines_ok _ _ _ _ _ _ _ _ HA.out HT.out Hpr.out).mono ?_
  rintro e w10 ⟨rfl, hB⟩
  rw [G3.out]
  have HA := Lib.hid (HA.out.keep hB)
  have HR := Lib.hid (HR.out.keep hB)
  have HT := Lib.hid (HT.out.keep hB)
  have HC := Lib.hid (HC.out.keep hB)
  have HD := Lib.hid (HD.out.keep hB)
  have HB := Lib.hid (HB.out.trans (hB.mono HB.out.size))
  clear hB
  go_wp2_with fail
  refine (refines_ok _ _ _ _ _ _ _ _ HR.out HT.out Hqr.out).mono ?_
  rintro e w11 ⟨rfl, hB⟩
  rw [G4.out]
  have HA := Lib.hid (HA.out.keep hB)
  have HR := Lib.hid (HR.out.keep hB)
  have HT := Lib.hid (HT.out.keep hB)
  have HC := Lib.hid (HC.out.keep hB)
  have HD := Lib.hid (HD.out.keep hB)
  have HB := Lib.hid (HB.out.trans (hB.mono HB.out.size))
  clear hB
  go_wp2_with fail
  refine (refines_ok _ _ _ _ _ _ _ _ HT.out HC.out Hrm.out).mono ?_
  rintro e w12 ⟨rfl, hB⟩
  rw [G5.out]
  have HA := Lib.hid (HA.out.keep hB)
  have HR := Lib.hid (HR.out.keep hB)
  have HT := Lib.hid (HT.out.keep hB)
  have HC := Lib.hid (HC.out.keep hB)
  have HD := Lib.hid (HD.out.keep hB)
  have HB := Lib.hid (HB.out.trans (hB.mono HB.out.size))
  clear hB
  go_wp2_with fail
  refine (refines_ok _ _ _ _ _ _ _ _ HD.out HT.out Hjr.out).mono ?_
  rintro e w13 ⟨rfl, hB⟩
  rw [G6.out]
  have HA := Lib.hid (HA.out.keep hB)
  have HR := Lib.hid (HR.out.keep hB)
  have HT := Lib.hid (HT.out.keep hB)
  have HC := Lib.hid (HC.out.keep hB)
  have HD := Lib.hid (HD.out.keep hB)
  have HB := Lib.hid (HB.out.trans (hB.mono HB.out.size))
  clear hB
  go_wp2_with fail
  refine (awake_any _).mono ?_
  rintro e w14 ⟨rfl, hB⟩
  have HA := Lib.hid (HA.out.keep hB)
  have HR := Lib.hid (HR.out.keep hB)
  have HT := Lib.hid (HT.out.keep hB)
  have HC := Lib.hid (HC.out.keep hB)
  have HD := Lib.hid (HD.out.keep hB)
  have HB := Lib.hid (HB.out.trans (hB.mono HB.out.size))
  clear hB
  go_wp2_with fail
  go_ret
  exact ⟨rfl, HB.out⟩
set_option maxRecDepth 100000 in
set_option maxHeartbeats 4000000 in
theorem cPartitionExtremes_7 (a : Option Addr) (n c : Nat) (f : Nat → Int) (b : Option Addr) (d : Nat) (g : Nat → Int) (e : Option Addr) (i : Nat) (h : Nat → Int) (w : World) (hr : RowI w a n f) (hs : RowI w b n g) (ht : RowI w e n h) (hn60 : n ≤ 60) (hvf : valP n f = true) (hvg : valP n g = true) (hvh : valP n h = true) (b1 : refB n h f = false) (a1 : refB n f h = true) (a2 : refB n g h = false) :
    Calls Try.prog 8 #[.slice a n c, .slice b n d, .slice e n i] w (Yes w) := by
  have HA := Lib.hid hr
  have HR := Lib.hid hs
  have HT := Lib.hid ht
  have hn : n ≤ 4096 := by omega
  have HN := Lib.hid (show n ≤ maxLen by unfold maxLen; omega)
  have HP := Lib.hid (prB_iff.2 ⟨rfl, hn60, hvf, hvg⟩)
  have HQ := Lib.hid (prB_iff.2 ⟨rfl, hn60, hvg, hvh⟩)
  have Hpq := Lib.hid (pair_of hvf hvg)
  have Hqp := Lib.hid (pair_of hvg hvf)
  have Hqr := Lib.hid (pair_of hvg hvh)
  have Hrp := Lib.hid (pair_of hvh hvf)
  have Hrq := Lib.hid (pair_of hvh hvg)
  have Hpr := Lib.hid (pair_of hvf hvh)
  have Hmp := Lib.hid (pair_of (val_mt hn f g) hvf)
  have Hmq := Lib.hid (pair_of (val_mt hn f g) hvg)
  have Hpj := Lib.hid (pair_of hvf (val_jn hn f g))
  have Hqj := Lib.hid (pair_of hvg (val_jn hn f g))
  have Hrm := Lib.hid (pair_of hvh (val_mt hn f g))
  have Hjr := Lib.hid (pair_of (val_jn hn f g) hvh)
  have F1 := Lib.hid (ext_mt n f g).1
  have F2 := Lib.hid (ext_mt n f g).2
  have F3 := Lib.hid (ext_jn n f g).1
  have F4 := Lib.hid (ext_jn n f g).2
  have G1 := Lib.hid b1
  have G3 := Lib.hid a1
  have G4 := Lib.hid a2
  have G5 := Lib.hid (show refB n h (meetF n f g) = false by rw [ext_below, b1]; rfl)
  have G6 := Lib.hid (show refB n (jnF n f g) h = false by rw [ext_above, a1, a2]; rfl)
  clear hvf hvg hvh b1 a1 a2
  clear hr hs ht
  have HB := Lib.hid (Below.refl w.heap.size w)
  go_enter Try.func8, Try.ntmps8
  go_wp2_with fail
  refine (pair_any _ _ _ _ _ _ _ _ _ HA.out HR.out HN.out HN.out).mono ?_
  rintro e w1 ⟨rfl, hB⟩
  rw [HP.out]
  have HA := Lib.hid (HA.out.keep hB)
  have HR := Lib.hid (HR.out.keep hB)
  have HT := Lib.hid (HT.out.keep hB)
  have HB := Lib.hid (HB.out.trans (hB.mono HB.out.size))
  clear hB
  go_wp2_with fail
  refine (pair_any _ _ _ _ _ _ _ _ _ HR.out HT.out HN.out HN.out).mono ?_
  rintro e w2 ⟨rfl, hB⟩
  rw [HQ.out]
  have HA := Lib.hid (HA.out.keep hB)
  have HR := Lib.hid (HR.out.keep hB)
  have HT := Lib.hid (HT.out.keep hB)
  have HB := Lib.hid (HB.out.trans (hB.mono HB.out.size))
  clear hB
  go_wp2_with fail
  refine (meet_ok _ _ _ _ _ _ _ _ HA.out HR.out Hpq.out).mono ?_
  rintro e w3 ⟨r3, c3, rfl, hR, hB⟩
  have HA := Lib.hid (HA.out.keep hB)
  have HR := Lib.hid (HR.out.keep hB)
  have HT := Lib.hid (HT.out.keep hB)
  have HB := Lib.hid (HB.out.trans (hB.mono HB.out.size))
  have HC := Lib.hid hR
  clear hR hB
  go_wp2_with fail
  refine (join_g _ _ _ _ _ _ _ _ HA.out HR.out Hpq.out).mono ?_
  rintro e w4 ⟨r4, c4, rfl, hR, hB⟩
  have HA := Lib.hid (HA.out.keep hB)
  have HR := Lib.hid (HR.out.keep hB)
  have HT := Lib.hid (HT.out.keep hB)
  have HC := Lib.hid (HC.out.keep hB)
  have HB := Lib.hid (HB.out.trans (hB.mono HB.out.size))
  have HD := Lib.hid hR
  clear hR hB
  go_wp2_with fail
  refine (refines_ok _ _ _ _ _ _ _ _ HC.out HA.out Hmp.out).mono ?_
  rintro e w5 ⟨rfl, hB⟩
  rw [F1.out]
  have HA := Lib.hid (HA.out.keep hB)
  have HR := Lib.hid (HR.out.keep hB)
  have HT := Lib.hid (HT.out.keep hB)
  have HC := Lib.hid (HC.out.keep hB)
  have HD := Lib.hid (HD.out.keep hB)
  have HB := Lib.hid (HB.out.trans (hB.mono HB.out.size))
  clear hB
  go_wp2_with fail
  refine (refines_ok _ _ _ _ _ _ _ _ HC.out HR.out Hmq.out).mono ?_
  rintro e w6 ⟨rfl, hB⟩
  rw [F2.out]
  have HA := Lib.hid (HA.out.keep hB)
  have HR := Lib.hid (HR.out.keep hB)
  have HT := Lib.hid (HT.out.keep hB)
  have HC := Lib.hid (HC.out.keep hB)
  have HD := Lib.hid (HD.out.keep hB)
  have HB := Lib.hid (HB.out.trans (hB.mono HB.out.size))
  clear hB
  go_wp2_with fail
  refine (refines_ok _ _ _ _ _ _ _ _ HA.out HD.out Hpj.out).mono ?_
  rintro e w7 ⟨rfl, hB⟩
  rw [F3.out]
  have HA := Lib.hid (HA.out.keep hB)
  have HR := Lib.hid (HR.out.keep hB)
  have HT := Lib.hid (HT.out.keep hB)
  have HC := Lib.hid (HC.out.keep hB)
  have HD := Lib.hid (HD.out.keep hB)
  have HB := Lib.hid (HB.out.trans (hB.mono HB.out.size))
  clear hB
  go_wp2_with fail
  refine (refines_ok _ _ _ _ _ _ _ _ HR.out HD.out Hqj.out).mono ?_
  rintro e w8 ⟨rfl, hB⟩
  rw [F4.out]
  have HA := Lib.hid (HA.out.keep hB)
  have HR := Lib.hid (HR.out.keep hB)
  have HT := Lib.hid (HT.out.keep hB)
  have HC := Lib.hid (HC.out.keep hB)
  have HD := Lib.hid (HD.out.keep hB)
  have HB := Lib.hid (HB.out.trans (hB.mono HB.out.size))
  clear hB
  go_wp2_with fail
  refine (refines_ok _ _ _ _ _ _ _ _ HT.out HA.out Hrp.out).mono ?_
  rintro e w9 ⟨rfl, hB⟩
  rw [G1.out]
  have HA := Lib.hid (HA.out.keep hB)
  have HR := Lib.hid (HR.out.keep hB)
  have HT := Lib.hid (HT.out.keep hB)
  have HC := Lib.hid (HC.out.keep hB)
  have HD := Lib.hid (HD.out.keep hB)
  have HB := Lib.hid (HB.out.trans (hB.mono HB.out.size))
  clear hB
  go_wp2_with fail
  refine (refines_ok _ _ _ _ _ _ _ _ HA.out HT.out Hpr.out).mono ?_
  rintro e w10 ⟨rfl, hB⟩
  rw [G3.out]
  have HA := Lib.hid (HA.out.keep hB)
  have HR := Lib.hid (HR.out.keep hB)
  have HT := Lib.hid (HT.out.keep hB)
  have HC := Lib.hid (HC.out.keep hB)
  have HD := Lib.hid (HD.out.keep hB)
  have HB := Lib.hid (HB.out.trans (hB.mono HB.out.size))
  clear hB
  go_wp2_with fail
  refine (refines_ok _ _ _ _ _ _ _ _ HR.out HT.out Hqr.out).mono ?_
  rintro e w11 ⟨rfl, hB⟩
  rw [G4.out]
  have HA := Lib.hid (HA.out.keep hB)
  have HR := Lib.hid (HR.out.keep hB)
  have HT := Lib.hid (HT.out.keep hB)
  have HC := Lib.hid (HC.out.keep hB)
  have HD := Lib.hid (HD.out.keep hB)
  have HB := Lib.hid (HB.out.trans (hB.mono HB.out.size))
  clear hB
  go_wp2_with fail
  refine (refines_ok _ _ _ _ _ _ _ _ HT.out HC.out Hrm.out).mono ?_
  rintro e w12 ⟨rfl, hB⟩
  rw [G5.out]
  have HA := Lib.hid (HA.out.keep hB)
  have HR := Lib.hid (HR.out.keep hB)
  have HT := Lib.hid (HT.out.keep hB)
  have HC := Lib.hid (HC.out.keep hB)
  have HD := Lib.hid (HD.out.keep hB)
  have HB := Lib.hid (HB.out.trans (hB.mono HB.out.size))
  clear hB
  go_wp2_with fail
  refine (refines_ok _ _ _ _ _ _ _ _ HD.out HT.out Hjr.out).mono ?_
  rintro e w13 ⟨rfl, hB⟩
  rw [G6.out]
  have HA := Lib.hid (HA.out.keep hB)
  have HR := Lib.hid (HR.out.keep hB)
  have HT := Lib.hid (HT.out.keep hB)
  have HC := Lib.hid (HC.out.keep hB)
  have HD := Lib.hid (HD.out.keep hB)
  have HB := Lib.hid (HB.out.trans (hB.mono HB.out.size))
  clear hB
  go_wp2_with fail
  refine (awake_any _).mono ?_
  rintro e w14 ⟨rfl, hB⟩
  have HA := Lib.hid (HA.out.keep hB)
  have HR := Lib.hid (HR.out.keep hB)
  have HT := Lib.hid (HT.out.keep hB)
  have HC := Lib.hid (HC.out.keep hB)
  have HD := Lib.hid (HD.out.keep hB)
  have HB := Lib.hid (HB.out.trans (hB.mono HB.out.size))
  clear hB
  go_wp2_with fail
  go_ret
  exact ⟨rfl, HB.out⟩
set_option maxRecDepth 100000 in
set_option maxHeartbeats 4000000 in
theorem cPartitionExtremes_8 (a : Option Addr) (n c : Nat) (f : Nat → Int) (b : Option Addr) (d : Nat) (g : Nat → Int) (e : Option Addr) (i : Nat) (h : Nat → Int) (w : World) (hr : RowI w a n f) (hs : RowI w b n g) (ht : RowI w e n h) (hn60 : n ≤ 60) (hvf : valP n f = true) (hvg : valP n g = true) (hvh : valP n h = true) (b1 : refB n h f = false) (a1 : refB n f h = false) :
    Calls Try.prog 8 #[.slice a n c, .slice b n d, .slice e n i] w (Yes w) := by
  have HA := Lib.hid hr
  have HR := Lib.hid hs
  have HT := Lib.hid ht
  have hn : n ≤ 4096 := by omega
  have HN := Lib.hid (show n ≤ maxLen by unfold maxLen; omega)
  have HP := Lib.hid (prB_iff.2 ⟨rfl, hn60, hvf, hvg⟩)
  have HQ := Lib.hid (prB_iff.2 ⟨rfl, hn60, hvg, hvh⟩)
  have Hpq := Lib.hid (pair_of hvf hvg)
  have Hqp := Lib.hid (pair_of hvg hvf)
  have Hqr := Lib.hid (pair_of hvg hvh)
  have Hrp := Lib.hid (pair_of hvh hvf)
  have Hrq := Lib.hid (pair_of hvh hvg)
  have Hpr := Lib.hid (pair_of hvf hvh)
  have Hmp := Lib.hid (pair_of (val_mt hn f g) hvf)
  have Hmq := Lib.hid (pair_of (val_mt hn f g) hvg)
  have Hpj := Lib.hid (pair_of hvf (val_jn hn f g))
  have Hqj := Lib.hid (pair_of hvg (val_jn hn f g))
  have Hrm := Lib.hid (pair_of hvh (val_mt hn f g))
  have Hjr := Lib.hid (pair_of (val_jn hn f g) hvh)
  have F1 := Lib.hid (ext_mt n f g).1
  have F2 := Lib.hid (ext_mt n f g).2
  have F3 := Lib.hid (ext_jn n f g).1
  have F4 := Lib.hid (ext_jn n f g).2
  have G1 := Lib.hid b1
  have G3 := Lib.hid a1
  have G5 := Lib.hid (show refB n h (meetF n f g) = false by rw [ext_below, b1]; rfl)
  have G6 := Lib.hid (show refB n (jnF n f g) h = false by rw [ext_above, a1]; rfl)
  clear hvf hvg hvh b1 a1
  clear hr hs ht
  have HB := Lib.hid (Below.refl w.heap.size w)
  go_enter Try.func8, Try.ntmps8
  go_wp2_with fail
  refine (pair_any _ _ _ _ _ _ _ _ _ HA.out HR.out HN.out HN.out).mono ?_
  rintro e w1 ⟨rfl, hB⟩
  rw [HP.out]
  have HA := Lib.hid (HA.out.keep hB)
  have HR := Lib.hid (HR.out.keep hB)
  have HT := Lib.hid (HT.out.keep hB)
  have HB := Lib.hid (HB.out.trans (hB.mono HB.out.size))
  clear hB
  go_wp2_with fail
  refine (pair_any _ _ _ _ _ _ _ _ _ HR.out HT.out HN.out HN.out).mono ?_
  rintro e w2 ⟨rfl, hB⟩
  rw [HQ.out]
  have HA := Lib.hid (HA.out.keep hB)
  have HR := Lib.hid (HR.out.keep hB)
  have HT := Lib.hid (HT.out.keep hB)
  have HB := Lib.hid (HB.out.trans (hB.mono HB.out.size))
  clear hB
  go_wp2_with fail
  refine (meet_ok _ _ _ _ _ _ _ _ HA.out HR.out Hpq.out).mono ?_
  rintro e w3 ⟨r3, c3, rfl, hR, hB⟩
  have HA := Lib.hid (HA.out.keep hB)
  have HR := Lib.hid (HR.out.keep hB)
  have HT := Lib.hid (HT.out.keep hB)
  have HB := Lib.hid (HB.out.trans (hB.mono HB.out.size))
  have HC := Lib.hid hR
  clear hR hB
  go_wp2_with fail
  refine (join_g _ _ _ _ _ _ _ _ HA.out HR.out Hpq.out).mono ?_
  rintro e w4 ⟨r4, c4, rfl, hR, hB⟩
  have HA := Lib.hid (HA.out.keep hB)
  have HR := Lib.hid (HR.out.keep hB)
  have HT := Lib.hid (HT.out.keep hB)
  have HC := Lib.hid (HC.out.keep hB)
  have HB := Lib.hid (HB.out.trans (hB.mono HB.out.size))
  have HD := Lib.hid hR
  clear hR hB
  go_wp2_with fail
  refine (refines_ok _ _ _ _ _ _ _ _ HC.out HA.out Hmp.out).mono ?_
  rintro e w5 ⟨rfl, hB⟩
  rw [F1.out]
  have HA := Lib.hid (HA.out.keep hB)
  have HR := Lib.hid (HR.out.keep hB)
  have HT := Lib.hid (HT.out.keep hB)
  have HC := Lib.hid (HC.out.keep hB)
  have HD := Lib.hid (HD.out.keep hB)
  have HB := Lib.hid (HB.out.trans (hB.mono HB.out.size))
  clear hB
  go_wp2_with fail
  refine (refines_ok _ _ _ _ _ _ _ _ HC.out HR.out Hmq.out).mono ?_
  rintro e w6 ⟨rfl, hB⟩
  rw [F2.out]
  have HA := Lib.hid (HA.out.keep hB)
  have HR := Lib.hid (HR.out.keep hB)
  have HT := Lib.hid (HT.out.keep hB)
  have HC := Lib.hid (HC.out.keep hB)
  have HD := Lib.hid (HD.out.keep hB)
  have HB := Lib.hid (HB.out.trans (hB.mono HB.out.size))
  clear hB
  go_wp2_with fail
  refine (refines_ok _ _ _ _ _ _ _ _ HA.out HD.out Hpj.out).mono ?_
  rintro e w7 ⟨rfl, hB⟩
  rw [F3.out]
  have HA := Lib.hid (HA.out.keep hB)
  have HR := Lib.hid (HR.out.keep hB)
  have HT := Lib.hid (HT.out.keep hB)
  have HC := Lib.hid (HC.out.keep hB)
  have HD := Lib.hid (HD.out.keep hB)
  have HB := Lib.hid (HB.out.trans (hB.mono HB.out.size))
  clear hB
  go_wp2_with fail
  refine (refines_ok _ _ _ _ _ _ _ _ HR.out HD.out Hqj.out).mono ?_
  rintro e w8 ⟨rfl, hB⟩
  rw [F4.out]
  have HA := Lib.hid (HA.out.keep hB)
  have HR := Lib.hid (HR.out.keep hB)
  have HT := Lib.hid (HT.out.keep hB)
  have HC := Lib.hid (HC.out.keep hB)
  have HD := Lib.hid (HD.out.keep hB)
  have HB := Lib.hid (HB.out.trans (hB.mono HB.out.size))
  clear hB
  go_wp2_with fail
  refine (refines_ok _ _ _ _ _ _ _ _ HT.out HA.out Hrp.out).mono ?_
  rintro e w9 ⟨rfl, hB⟩
  rw [G1.out]
  have HA := Lib.hid (HA.out.keep hB)
  have HR := Lib.hid (HR.out.keep hB)
  have HT := Lib.hid (HT.out.keep hB)
  have HC := Lib.hid (HC.out.keep hB)
  have HD := Lib.hid (HD.out.keep hB)
  have HB := Lib.hid (HB.out.trans (hB.mono HB.out.size))
  clear hB
  go_wp2_with fail
  refine (refines_ok _ _ _ _ _ _ _ _ HA.out HT.out Hpr.out).mono ?_
  rintro e w10 ⟨rfl, hB⟩
  rw [G3.out]
  have HA := Lib.hid (HA.out.keep hB)
  have HR := Lib.hid (HR.out.keep hB)
  have HT := Lib.hid (HT.out.keep hB)
  have HC := Lib.hid (HC.out.keep hB)
  have HD := Lib.hid (HD.out.keep hB)
  have HB := Lib.hid (HB.out.trans (hB.mono HB.out.size))
  clear hB
  go_wp2_with fail
  refine (refines_ok _ _ _ _ _ _ _ _ HT.out HC.out Hrm.out).mono ?_
  rintro e w11 ⟨rfl, hB⟩
  rw [G5.out]
  have HA := Lib.hid (HA.out.keep hB)
  have HR := Lib.hid (HR.out.keep hB)
  have HT := Lib.hid (HT.out.keep hB)
  have HC := Lib.hid (HC.out.keep hB)
  have HD := Lib.hid (HD.out.keep hB)
  have HB := Lib.hid (HB.out.trans (hB.mono HB.out.size))
  clear hB
  go_wp2_with fail
  refine (refines_ok _ _ _ _ _ _ _ _ HD.out HT.out Hjr.out).mono ?_
  rintro e w12 ⟨rfl, hB⟩
  rw [G6.out]
  have HA := Lib.hid (HA.out.keep hB)
  have HR := Lib.hid (HR.out.keep hB)
  have HT := Lib.hid (HT.out.keep hB)
  have HC := Lib.hid (HC.out.keep hB)
  have HD := Lib.hid (HD.out.keep hB)
  have HB := Lib.hid (HB.out.trans (hB.mono HB.out.size))
  clear hB
  go_wp2_with fail
  refine (awake_any _).mono ?_
  rintro e w13 ⟨rfl, hB⟩
  have HA := Lib.hid (HA.out.keep hB)
  have HR := Lib.hid (HR.out.keep hB)
  have HT := Lib.hid (HT.out.keep hB)
  have HC := Lib.hid (HC.out.keep hB)
  have HD := Lib.hid (HD.out.keep hB)
  have HB := Lib.hid (HB.out.trans (hB.mono HB.out.size))
  clear hB
  go_wp2_with fail
  go_ret
  exact ⟨rfl, HB.out⟩
theorem wPartitionExtremes {w : World} (a : Option Addr) (n c : Nat) (zs : List Int) (x : IntRow .i64 w a n c zs) (b : Option Addr) (m d : Nat) (ys : List Int) (y : IntRow .i64 w b m d ys) (e : Option Addr) (l i : Nat) (us : List Int) (z : IntRow .i64 w e l i us) : Calls Try.prog 8 #[.slice a n c, .slice b m d, .slice e l i] w (Yes w) := by
  obtain ⟨f, hr, hn⟩ := row_in x
  obtain ⟨g, hs, hm⟩ := row_in y
  obtain ⟨h, ht, hl⟩ := row_in z
  cases hp : prB n f m g
  · exact cPartitionExtremes_no1 a n c f b m d g e l i h w hr hs ht hn hm hl hp
  cases hq : prB m g l h
  · exact cPartitionExtremes_no2 a n c f b m d g e l i h w hr hs ht hn hm hl hp hq
  obtain ⟨rfl, h60, hvf, hvg⟩ := prB_iff.1 hp
  obtain ⟨rfl, _, _, hvh⟩ := prB_iff.1 hq
  cases b1 : refB n h f
  · cases a1 : refB n f h
    · exact cPartitionExtremes_8 a n c f b d g e i h w hr hs ht h60 hvf hvg hvh b1 a1
    · cases a2 : refB n g h
      · exact cPartitionExtremes_7 a n c f b d g e i h w hr hs ht h60 hvf hvg hvh b1 a1 a2
      · exact cPartitionExtremes_6 a n c f b d g e i h w hr hs ht h60 hvf hvg hvh b1 a1 a2
  · cases b2 : refB n h g
    · cases a1 : refB n f h
      · exact cPartitionExtremes_5 a n c f b d g e i h w hr hs ht h60 hvf hvg hvh b1 b2 a1
      · cases a2 : refB n g h
        · exact cPartitionExtremes_4 a n c f b d g e i h w hr hs ht h60 hvf hvg hvh b1 b2 a1 a2
        · exact cPartitionExtremes_3 a n c f b d g e i h w hr hs ht h60 hvf hvg hvh b1 b2 a1 a2
    · cases a1 : refB n f h
      · exact cPartitionExtremes_2 a n c f b d g e i h w hr hs ht h60 hvf hvg hvh b1 b2 a1
      · cases a2 : refB n g h
        · exact cPartitionExtremes_1 a n c f b d g e i h w hr hs ht h60 hvf hvg hvh b1 b2 a1 a2
        · exact cPartitionExtremes_0 a n c f b d g e i h w hr hs ht h60 hvf hvg hvh b1 b2 a1 a2
set_option maxRecDepth 100000 in
set_option maxHeartbeats 4000000 in
theorem cPartitionLattice_no1 (a : Option Addr) (n c : Nat) (f : Nat → Int) (b : Option Addr) (m d : Nat) (g : Nat → Int) (e : Option Addr) (l i : Nat) (h : Nat → Int) (w : World) (hr : RowI w a n f) (hs : RowI w b m g) (ht : RowI w e l h) (hn : n ≤ maxLen) (hm : m ≤ maxLen) (hl : l ≤ maxLen) (hp : prB n f m g = false) :
    Calls Try.prog 9 #[.slice a n c, .slice b m d, .slice e l i] w (Yes w) := by
  have HA := Lib.hid hr
  have HR := Lib.hid hs
  have HT := Lib.hid ht
  have HN := Lib.hid hn
  have HM := Lib.hid hm
  have HL := Lib.hid hl
  have HP := Lib.hid hp
  clear hn hm hl hp
  clear hr hs ht
  have HB := Lib.hid (Below.refl w.heap.size w)
  go_enter Try.func9, Try.ntmps9
  go_wp2_with fail
  refine (pair_any _ _ _ _ _ _ _ _ _ HA.out HR.out HN.out HM.out).mono ?_
  rintro e w1 ⟨rfl, hB⟩
  rw [HP.out]
  have HA := Lib.hid (HA.out.keep hB)
  have HR := Lib.hid (HR.out.keep hB)
  have HT := Lib.hid (HT.out.keep hB)
  have HB := Lib.hid (HB.out.trans (hB.mono HB.out.size))
  clear hB
  go_wp2_with fail
  refine (awake_any _).mono ?_
  rintro e w2 ⟨rfl, hB⟩
  have HA := Lib.hid (HA.out.keep hB)
  have HR := Lib.hid (HR.out.keep hB)
  have HT := Lib.hid (HT.out.keep hB)
  have HB := Lib.hid (HB.out.trans (hB.mono HB.out.size))
  clear hB
  go_wp2_with fail
  go_ret
  exact ⟨rfl, HB.out⟩
set_option maxRecDepth 100000 in
set_option maxHeartbeats 4000000 in
theorem cPartitionLattice_no2 (a : Option Addr) (n c : Nat) (f : Nat → Int) (b : Option Addr) (m d : Nat) (g : Nat → Int) (e : Option Addr) (l i : Nat) (h : Nat → Int) (w : World) (hr : RowI w a n f) (hs : RowI w b m g) (ht : RowI w e l h) (hn : n ≤ maxLen) (hm : m ≤ maxLen) (hl : l ≤ maxLen) (hp : prB n f m g = true) (hq : prB m g l h = false) :
    Calls Try.prog 9 #[.slice a n c, .slice b m d, .slice e l i] w (Yes w) := by
  have HA := Lib.hid hr
  have HR := Lib.hid hs
  have HT := Lib.hid ht
  have HN := Lib.hid hn
  have HM := Lib.hid hm
  have HL := Lib.hid hl
  have HP := Lib.hid hp
  have HQ := Lib.hid hq
  clear hn hm hl hp hq
  clear hr hs ht
  have HB := Lib.hid (Below.refl w.heap.size w)
  go_enter Try.func9, Try.ntmps9
  go_wp2_with fail
  refine (pair_any _ _ _ _ _ _ _ _ _ HA.out HR.out HN.out HM.out).mono ?_
  rintro e w1 ⟨rfl, hB⟩
  rw [HP.out]
  have HA := Lib.hid (HA.out.keep hB)
  have HR := Lib.hid (HR.out.keep hB)
  have HT := Lib.hid (HT.out.keep hB)
  have HB := Lib.hid (HB.out.trans (hB.mono HB.out.size))
  clear hB
  go_wp2_with fail
  refine (pair_any _ _ _ _ _ _ _ _ _ HR.out HT.out HM.out HL.out).mono ?_
  rintro e w2 ⟨rfl, hB⟩
  rw [HQ.out]
  have HA := Lib.hid (HA.out.keep hB)
  have HR := Lib.hid (HR.out.keep hB)
  have HT := Lib.hid (HT.out.keep hB)
  have HB := Lib.hid (HB.out.trans (hB.mono HB.out.size))
  clear hB
  go_wp2_with fail
  refine (awake_any _).mono ?_
  rintro e w3 ⟨rfl, hB⟩
  have HA := Lib.hid (HA.out.keep hB)
  have HR := Lib.hid (HR.out.keep hB)
  have HT := Lib.hid (HT.out.keep hB)
  have HB := Lib.hid (HB.out.trans (hB.mono HB.out.size))
  clear hB
  go_wp2_with fail
  go_ret
  exact ⟨rfl, HB.out⟩
set_option maxRecDepth 100000 in
set_option maxHeartbeats 4000000 in
theorem cPartitionLattice_yes (a : Option Addr) (n c : Nat) (f : Nat → Int) (b : Option Addr) (d : Nat) (g : Nat → Int) (e : Option Addr) (i : Nat) (h : Nat → Int) (w : World) (hr : RowI w a n f) (hs : RowI w b n g) (ht : RowI w e n h) (hn60 : n ≤ 60) (hvf : valP n f = true) (hvg : valP n g = true) (hvh : valP n h = true) :
    Calls Try.prog 9 #[.slice a n c, .slice b n d, .slice e n i] w (Yes w) := by
  have HA := Lib.hid hr
  have HR := Lib.hid hs
  have HT := Lib.hid ht
  have hn : n ≤ 4096 := by omega
  have HN := Lib.hid (show n ≤ maxLen by unfold maxLen; omega)
  have HP := Lib.hid (prB_iff.2 ⟨rfl, hn60, hvf, hvg⟩)
  have HQ := Lib.hid (prB_iff.2 ⟨rfl, hn60, hvg, hvh⟩)
  have Hpq := Lib.hid (pair_of hvf hvg)
  have Hqp := Lib.hid (pair_of hvg hvf)
  have Hqr := Lib.hid (pair_of hvg hvh)
  have Hrp := Lib.hid (pair_of hvh hvf)
  have Hrq := Lib.hid (pair_of hvh hvg)
  have Hpr := Lib.hid (pair_of hvf hvh)
  have VM := val_mt hn f g
  have VJ := val_jn hn f g
  have Hmr := Lib.hid (pair_of VM hvh)
  have Hp_qr := Lib.hid (pair_of hvf (val_mt hn g h))
  have Hjr := Lib.hid (pair_of VJ hvh)
  have Hp_jqr := Lib.hid (pair_of hvf (val_jn hn g h))
  have Hpm := Lib.hid (pair_of hvf VM)
  have Hpj := Lib.hid (pair_of hvf VJ)
  have F1 := Lib.hid (mt_comm hn f g)
  have F2 := Lib.hid (jn_comm hn f g)
  have F3 := Lib.hid (mt_assoc hn f g h)
  have F4 := Lib.hid (jn_assoc hn f g h)
  have F5 := Lib.hid (jn_mt hvf g)
  have F6 := Lib.hid (mt_jn hvf g)
  have hx : ((n : Int) != (n : Int)) = false := by simp
  clear hvf hvg hvh VM VJ
  clear hr hs ht
  have HB := Lib.hid (Below.refl w.heap.size w)
  go_enter Try.func9, Try.ntmps9
  go_wp2_with fail
  refine (pair_any _ _ _ _ _ _ _ _ _ HA.out HR.out HN.out HN.out).mono ?_
  rintro e w1 ⟨rfl, hB⟩
  rw [HP.out]
  have HA := Lib.hid (HA.out.keep hB)
  have HR := Lib.hid (HR.out.keep hB)
  have HT := Lib.hid (HT.out.keep hB)
  have HB := Lib.hid (HB.out.trans (hB.mono HB.out.size))
  clear hB
  go_wp2_with fail
  refine (pair_any _ _ _ _ _ _ _ _ _ HR.out HT.out HN.out HN.out).mono ?_
  rintro e w2 ⟨rfl, hB⟩
  rw [HQ.out]
  have HA := Lib.hid (HA.out.keep hB)
  have HR := Lib.hid (HR.out.keep hB)
  have HT := Lib.hid (HT.out.keep hB)
  have HB := Lib.hid (HB.out.trans (hB.mono HB.out.size))
  clear hB
  go_wp2_with fail
  refine (meet_ok _ _ _ _ _ _ _ _ HA.out HR.out Hpq.out).mono ?_
  rintro e w3 ⟨r3, c3, rfl, hR, hB⟩
  have HA := Lib.hid (HA.out.keep hB)
  have HR := Lib.hid (HR.out.keep hB)
  have HT := Lib.hid (HT.out.keep hB)
  have HB := Lib.hid (HB.out.trans (hB.mono HB.out.size))
  have HC := Lib.hid hR
  clear hR hB
  go_wp2_with fail
  refine (join_g _ _ _ _ _ _ _ _ HA.out HR.out Hpq.out).mono ?_
  rintro e w4 ⟨r4, c4, rfl, hR, hB⟩
  have HA := Lib.hid (HA.out.keep hB)
  have HR := Lib.hid (HR.out.keep hB)
  have HT := Lib.hid (HT.out.keep hB)
  have HC := Lib.hid (HC.out.keep hB)
  have HB := Lib.hid (HB.out.trans (hB.mono HB.out.size))
  have HD := Lib.hid hR
  clear hR hB
  go_wp2_with fail
  refine (meet_ok _ _ _ _ _ _ _ _ HR.out HA.out Hqp.out).mono ?_
  rintro e w5 ⟨r5, c5, rfl, hR, hB⟩
  have HA := Lib.hid (HA.out.keep hB)
  have HR := Lib.hid (HR.out.keep hB)
  have HT := Lib.hid (HT.out.keep hB)
  have HC := Lib.hid (HC.out.keep hB)
  have HD := Lib.hid (HD.out.keep hB)
  have HB := Lib.hid (HB.out.trans (hB.mono HB.out.size))
  have HE := Lib.hid hR
  clear hR hB
  go_wp2_with fail
  refine (same_any _ _ _ _ _ _ _ _ _ HC.out HE.out HN.out).mono ?_
  rintro e w6 ⟨rfl, hB⟩
  rw [F1.out]
  have HA := Lib.hid (HA.out.keep hB)
  have HR := Lib.hid (HR.out.keep hB)
  have HT := Lib.hid (HT.out.keep hB)
  have HC := Lib.hid (HC.out.keep hB)
  have HD := Lib.hid (HD.out.keep hB)
  have HE := Lib.hid (HE.out.keep hB)
  have HB := Lib.hid (HB.out.trans (hB.mono HB.out.size))
  clear hB
  go_wp2_with fail
  refine (join_g _ _ _ _ _ _ _ _ HR.out HA.out Hqp.out).mono ?_
  rintro e w7 ⟨r7, c7, rfl, hR, hB⟩
  have HA := Lib.hid (HA.out.keep hB)
  have HR := Lib.hid (HR.out.keep hB)
  have HT := Lib.hid (HT.out.keep hB)
  have HC := Lib.hid (HC.out.keep hB)
  have HD := Lib.hid (HD.out.keep hB)
  have HE := Lib.hid (HE.out.keep hB)
  have HB := Lib.hid (HB.out.trans (hB.mono HB.out.size))
  have HG := Lib.hid hR
  clear hR hB
  go_wp2_with fail
  refine (same_any _ _ _ _ _ _ _ _ _ HD.out HG.out HN.out).mono ?_
  rintro e w8 ⟨rfl, hB⟩
  rw [F2.out]
  have HA := Lib.hid (HA.out.keep hB)
  have HR := Lib.hid (HR.out.keep hB)
  have HT := Lib.hid (HT.out.keep hB)
  have HC := Lib.hid (HC.out.keep hB)
  have HD := Lib.hid (HD.out.keep hB)
  have HE := Lib.hid (HE.out.keep hB)
  have HG := Lib.hid (HG.out.keep hB)
  have HB := Lib.hid (HB.out.trans (hB.mono HB.out.size))
  clear hB
  go_wp2_with fail
  refine (meet_ok _ _ _ _ _ _ _ _ HC.out HT.out Hmr.out).mono ?_
  rintro e w9 ⟨r9, c9, rfl, hR, hB⟩
  have HA := Lib.hid (HA.out.keep hB)
  have HR := Lib.hid (HR.out.keep hB)
  have HT := Lib.hid (HT.out.keep hB)
  have HC := Lib.hid (HC.out.keep hB)
  have HD := Lib.hid (HD.out.keep hB)
  have HE := Lib.hid (HE.out.keep hB)
  have HG := Lib.hid (HG.out.keep hB)
  have HB := Lib.hid (HB.out.trans (hB.mono HB.out.size))
  have HI := Lib.hid hR
  clear hR hB
  go_wp2_with fail
  refine (meet_ok _ _ _ _ _ _ _ _ HR.out HT.out Hqr.out).mono ?_
  rintro e w10 ⟨r10, c10, rfl, hR, hB⟩
  have HA := Lib.hid (HA.out.keep hB)
  have HR := Lib.hid (HR.out.keep hB)
  have HT := Lib.hid (HT.out.keep hB)
  have HC := Lib.hid (HC.out.keep hB)
  have HD := Lib.hid (HD.out.keep hB)
  have HE := Lib.hid (HE.out.keep hB)
  have HG := Lib.hid (HG.out.keep hB)
  have HI := Lib.hid (HI.out.keep hB)
  have HB := Lib.hid (HB.out.trans (hB.mono HB.out.size))
  have HK := Lib.hid hR
  clear hR hB
  go_wp2_with fail
  refine (meet_ok _ _ _ _ _ _ _ _ HA.out HK.out Hp_qr.out).mono ?_
  rintro e w11 ⟨r11, c11, rfl, hR, hB⟩
  have HA := Lib.hid (HA.out.keep hB)
  have HR := Lib.hid (HR.out.keep hB)
  have HT := Lib.hid (HT.out.keep hB)
  have HC := Lib.hid (HC.out.keep hB)
  have HD := Lib.hid (HD.out.keep hB)
  have HE := Lib.hid (HE.out.keep hB)
  have HG := Lib.hid (HG.out.keep hB)
  have HI := Lib.hid (HI.out.keep hB)
  have HK := Lib.hid (HK.out.keep hB)
  have HB := Lib.hid (HB.out.trans (hB.mono HB.out.size))
  have HO := Lib.hid hR
  clear hR hB
  go_wp2_with fail
  refine (same_any _ _ _ _ _ _ _ _ _ HI.out HO.out HN.out).mono ?_
  rintro e w12 ⟨rfl, hB⟩
  rw [F3.out]
  have HA := Lib.hid (HA.out.keep hB)
  have HR := Lib.hid (HR.out.keep hB)
  have HT := Lib.hid (HT.out.keep hB)
  have HC := Lib.hid (HC.out.keep hB)
  have HD := Lib.hid (HD.out.keep hB)
  have HE := Lib.hid (HE.out.keep hB)
  have HG := Lib.hid (HG.out.keep hB)
  have HI := Lib.hid (HI.out.keep hB)
  have HK := Lib.hid (HK.out.keep hB)
  have HO := Lib.hid (HO.out.keep hB)
  have HB := Lib.hid (HB.out.trans (hB.mono HB.out.size))
  clear hB
  go_wp2_with fail
  refine (join_g _ _ _ _ _ _ _ _ HD.out HT.out Hjr.out).mono ?_
  rintro e w13 ⟨r13, c13, rfl, hR, hB⟩
  have HA := Lib.hid (HA.out.keep hB)
  have HR := Lib.hid (HR.out.keep hB)
  have HT := Lib.hid (HT.out.keep hB)
  have HC := Lib.hid (HC.out.keep hB)
  have HD := Lib.hid (HD.out.keep hB)
  have HE := Lib.hid (HE.out.keep hB)
  have HG := Lib.hid (HG.out.keep hB)
  have HI := Lib.hid (HI.out.keep hB)
  have HK := Lib.hid (HK.out.keep hB)
  have HO := Lib.hid (HO.out.keep hB)
  have HB := Lib.hid (HB.out.trans (hB.mono HB.out.size))
  have HU := Lib.hid hR
  clear hR hB
  go_wp2_with fail
  refine (join_g _ _ _ _ _ _ _ _ HR.out HT.out Hqr.out).mono ?_
  rintro e w14 ⟨r14, c14, rfl, hR, hB⟩
  have HA := Lib.hid (HA.out.keep hB)
  have HR := Lib.hid (HR.out.keep hB)
  have HT := Lib.hid (HT.out.keep hB)
  have HC := Lib.hid (HC.out.keep hB)
  have HD := Lib.hid (HD.out.keep hB)
  have HE := Lib.hid (HE.out.keep hB)
  have HG := Lib.hid (HG.out.keep hB)
  have HI := Lib.hid (HI.out.keep hB)
  have HK := Lib.hid (HK.out.keep hB)
  have HO := Lib.hid (HO.out.keep hB)
  have HU := Lib.hid (HU.out.keep hB)
  have HB := Lib.hid (HB.out.trans (hB.mono HB.out.size))
  have HV := Lib.hid hR
  clear hR hB
  go_wp2_with fail
  refine (join_g _ _ _ _ _ _ _ _ HA.out HV.out Hp_jqr.out).mono ?_
  rintro e w15 ⟨r15, c15, rfl, hR, hB⟩
  have HA := Lib.hid (HA.out.keep hB)
  have HR := Lib.hid (HR.out.keep hB)
  have HT := Lib.hid (HT.out.keep hB)
  have HC := Lib.hid (HC.out.keep hB)
  have HD := Lib.hid (HD.out.keep hB)
  have HE := Lib.hid (HE.out.keep hB)
  have HG := Lib.hid (HG.out.keep hB)
  have HI := Lib.hid (HI.out.keep hB)
  have HK := Lib.hid (HK.out.keep hB)
  have HO := Lib.hid (HO.out.keep hB)
  have HU := Lib.hid (HU.out.keep hB)
  have HV := Lib.hid (HV.out.keep hB)
  have HB := Lib.hid (HB.out.trans (hB.mono HB.out.size))
  have HX := Lib.hid hR
  clear hR hB
  go_wp2_with fail
  refine (same_any _ _ _ _ _ _ _ _ _ HU.out HX.out HN.out).mono ?_
  rintro e w16 ⟨rfl, hB⟩
  rw [F4.out]
  have HA := Lib.hid (HA.out.keep hB)
  have HR := Lib.hid (HR.out.keep hB)
  have HT := Lib.hid (HT.out.keep hB)
  have HC := Lib.hid (HC.out.keep hB)
  have HD := Lib.hid (HD.out.keep hB)
  have HE := Lib.hid (HE.out.keep hB)
  have HG := Lib.hid (HG.out.keep hB)
  have HI := Lib.hid (HI.out.keep hB)
  have HK := Lib.hid (HK.out.keep hB)
  have HO := Lib.hid (HO.out.keep hB)
  have HU := Lib.hid (HU.out.keep hB)
  have HV := Lib.hid (HV.out.keep hB)
  have HX := Lib.hid (HX.out.keep hB)
  have HB := Lib.hid (HB.out.trans (hB.mono HB.out.size))
  clear hB
  go_wp2_with fail
  refine (join_g _ _ _ _ _ _ _ _ HA.out HC.out Hpm.out).mono ?_
  rintro e w17 ⟨r17, c17, rfl, hR, hB⟩
  have HA := Lib.hid (HA.out.keep hB)
  have HR := Lib.hid (HR.out.keep hB)
  have HT := Lib.hid (HT.out.keep hB)
  have HC := Lib.hid (HC.out.keep hB)
  have HD := Lib.hid (HD.out.keep hB)
  have HE := Lib.hid (HE.out.keep hB)
  have HG := Lib.hid (HG.out.keep hB)
  have HI := Lib.hid (HI.out.keep hB)
  have HK := Lib.hid (HK.out.keep hB)
  have HO := Lib.hid (HO.out.keep hB)
  have HU := Lib.hid (HU.out.keep hB)
  have HV := Lib.hid (HV.out.keep hB)
  have HX := Lib.hid (HX.out.keep hB)
  have HB := Lib.hid (HB.out.trans (hB.mono HB.out.size))
  have HY := Lib.hid hR
  clear hR hB
  go_wp2_with fail
  refine (same_any _ _ _ _ _ _ _ _ _ HY.out HA.out HN.out).mono ?_
  rintro e w18 ⟨rfl, hB⟩
  rw [F5.out]
  have HA := Lib.hid (HA.out.keep hB)
  have HR := Lib.hid (HR.out.keep hB)
  have HT := Lib.hid (HT.out.keep hB)
  have HC := Lib.hid (HC.out.keep hB)
  have HD := Lib.hid (HD.out.keep hB)
  have HE := Lib.hid (HE.out.keep hB)
  have HG := Lib.hid (HG.out.keep hB)
  have HI := Lib.hid (HI.out.keep hB)
  have HK := Lib.hid (HK.out.keep hB)
  have HO := Lib.hid (HO.out.keep hB)
  have HU := Lib.hid (HU.out.keep hB)
  have HV := Lib.hid (HV.out.keep hB)
  have HX := Lib.hid (HX.out.keep hB)
  have HY := Lib.hid (HY.out.keep hB)
  have HB := Lib.hid (HB.out.trans (hB.mono HB.out.size))
  clear hB
  go_wp2_with fail
  refine (meet_ok _ _ _ _ _ _ _ _ HA.out HD.out Hpj.out).mono ?_
  rintro e w19 ⟨r19, c19, rfl, hR, hB⟩
  have HA := Lib.hid (HA.out.keep hB)
  have HR := Lib.hid (HR.out.keep hB)
  have HT := Lib.hid (HT.out.keep hB)
  have HC := Lib.hid (HC.out.keep hB)
  have HD := Lib.hid (HD.out.keep hB)
  have HE := Lib.hid (HE.out.keep hB)
  have HG := Lib.hid (HG.out.keep hB)
  have HI := Lib.hid (HI.out.keep hB)
  have HK := Lib.hid (HK.out.keep hB)
  have HO := Lib.hid (HO.out.keep hB)
  have HU := Lib.hid (HU.out.keep hB)
  have HV := Lib.hid (HV.out.keep hB)
  have HX := Lib.hid (HX.out.keep hB)
  have HY := Lib.hid (HY.out.keep hB)
  have HB := Lib.hid (HB.out.trans (hB.mono HB.out.size))
  have HZ := Lib.hid hR
  clear hR hB
  go_wp2_with fail
  refine (same_any _ _ _ _ _ _ _ _ _ HZ.out HA.out HN.out).mono ?_
  rintro e w20 ⟨rfl, hB⟩
  rw [F6.out]
  have HA := Lib.hid (HA.out.keep hB)
  have HR := Lib.hid (HR.out.keep hB)
  have HT := Lib.hid (HT.out.keep hB)
  have HC := Lib.hid (HC.out.keep hB)
  have HD := Lib.hid (HD.out.keep hB)
  have HE := Lib.hid (HE.out.keep hB)
  have HG := Lib.hid (HG.out.keep hB)
  have HI := Lib.hid (HI.out.keep hB)
  have HK := Lib.hid (HK.out.keep hB)
  have HO := Lib.hid (HO.out.keep hB)
  have HU := Lib.hid (HU.out.keep hB)
  have HV := Lib.hid (HV.out.keep hB)
  have HX := Lib.hid (HX.out.keep hB)
  have HY := Lib.hid (HY.out.keep hB)
  have HZ := Lib.hid (HZ.out.keep hB)
  have HB := Lib.hid (HB.out.trans (hB.mono HB.out.size))
  clear hB
  go_wp2_with fail
  refine (awake_any _).mono ?_
  rintro e w21 ⟨rfl, hB⟩
  have HA := Lib.hid (HA.out.keep hB)
  have HR := Lib.hid (HR.out.keep hB)
  have HT := Lib.hid (HT.out.keep hB)
  have HC := Lib.hid (HC.out.keep hB)
  have HD := Lib.hid (HD.out.keep hB)
  have HE := Lib.hid (HE.out.keep hB)
  have HG := Lib.hid (HG.out.keep hB)
  have HI := Lib.hid (HI.out.keep hB)
  have HK := Lib.hid (HK.out.keep hB)
  have HO := Lib.hid (HO.out.keep hB)
  have HU := Lib.hid (HU.out.keep hB)
  have HV := Lib.hid (HV.out.keep hB)
  have HX := Lib.hid (HX.out.keep hB)
  have HY := Lib.hid (HY.out.keep hB)
  have HZ := Lib.hid (HZ.out.keep hB)
  have HB := Lib.hid (HB.out.trans (hB.mono HB.out.size))
  clear hB
  go_wp2_with fail
  go_ret
  exact ⟨rfl, HB.out⟩
theorem wPartitionLattice {w : World} (a : Option Addr) (n c : Nat) (zs : List Int) (x : IntRow .i64 w a n c zs) (b : Option Addr) (m d : Nat) (ys : List Int) (y : IntRow .i64 w b m d ys) (e : Option Addr) (l i : Nat) (us : List Int) (z : IntRow .i64 w e l i us) : Calls Try.prog 9 #[.slice a n c, .slice b m d, .slice e l i] w (Yes w) := by
  obtain ⟨f, hr, hn⟩ := row_in x
  obtain ⟨g, hs, hm⟩ := row_in y
  obtain ⟨h, ht, hl⟩ := row_in z
  cases hp : prB n f m g
  · exact cPartitionLattice_no1 a n c f b m d g e l i h w hr hs ht hn hm hl hp
  cases hq : prB m g l h
  · exact cPartitionLattice_no2 a n c f b m d g e l i h w hr hs ht hn hm hl hp hq
  obtain ⟨rfl, h60, hvf, hvg⟩ := prB_iff.1 hp
  obtain ⟨rfl, _, _, hvh⟩ := prB_iff.1 hq
  exact cPartitionLattice_yes a n c f b d g e i h w hr hs ht h60 hvf hvg hvh
end Go.Proofs.Ytfgpjkkdgjhkfaa
