/- Walk: PartitionPairs. -/
import Derived.Test.YtfgpjkkdgjhkfaaPartGA
import Derived.Test.YtfgpjkkdgjhkfaaPartG0
import Derived.Test.YtfgpjkkdgjhkfaaPartW
namespace Go.Proofs.Ytfgpjkkdgjhkfaa
open Go Go.RowKit Go.Maps
set_option linter.unusedVariables false


theorem row_inP {w : World} {a : Option Addr} {len cap : Nat} {A B : Nat → Int} (h : PairRow w a len cap A B) : RowP w a len A B ∧ len ≤ maxLen ∧ (a = none → len = 0 ∧ cap = 0) := by
  rcases h with ⟨rfl, rfl, rfl⟩ | ⟨x, rfl, hl, hm, hc⟩
  · exact ⟨.inl rfl, Nat.zero_le _, fun _ => ⟨rfl, rfl⟩⟩
  · refine ⟨?_, by omega, fun e => by cases e⟩
    by_cases h0 : len = 0
    · exact .inl h0
    · obtain ⟨b, off, spot⟩ := x
      have hc0 := (hc 0 (by omega)).1.1
      have hspot : spot = none := by simpa [Addr.add] using World.cell?_spot hc0
      subst hspot
      have ha : ∀ i, (⟨b, off, none⟩ : Addr).add i = ⟨b, off + i, none⟩ := fun i => by unfold Addr.add; split <;> simp_all
      refine .inr ⟨b, off, rfl, cell_lt (s := none) (by rw [ha] at hc0; exact hc0), fun i hi => ?_⟩
      obtain ⟨⟨h1, h2⟩, h3, h4⟩ := hc i hi
      rw [ha] at h1 h2
      exact ⟨⟨h1, by rw [Nat.add_assoc]; exact h2⟩, bounds_i64 h3, bounds_i64 h4⟩
theorem frF_same {n m : Nat} {A B : Nat → Int} (h : mayB n m A B = true) : sameB n (frF m A B) n (can (mP (ptN A) (ptN B) m)) = true :=
  sameB_true fun i hi => (pairR_eq (pt_in h) hi).symm
set_option maxRecDepth 100000 in
set_option maxHeartbeats 4000000 in
theorem cPartitionPairs_no (n : Int) (a : Option Addr) (m c : Nat) (A B : Nat → Int) (w : World) (hr : RowP w a m A B) (hm : m ≤ maxLen) (hp : mayB n m A B = false) :
    Calls Try.prog 10 #[.int .i64 n, .slice a m c] w (Yes w) := by
  have HA := Lib.hid hr
  have HM := Lib.hid hm
  have HP := Lib.hid hp
  clear hr hm hp
  have HB := Lib.hid (Below.refl w.heap.size w)
  go_enter Try.func10, Try.ntmps10
  go_wp2_with fail
  refine (fromPairs_no _ _ _ _ _ _ _ HA.out HM.out HP.out).mono ?_
  rintro e w1 ⟨rfl, hB⟩
  have HA := Lib.hid (HA.out.keep hB)
  have HB := Lib.hid (HB.out.trans (hB.mono HB.out.size))
  clear hB
  go_wp2_with fail
  refine (may_any _ _ _ _ _ _ _ HA.out HM.out).mono ?_
  rintro e w2 ⟨rfl, hB⟩
  rw [HP.out]
  have HA := Lib.hid (HA.out.keep hB)
  have HB := Lib.hid (HB.out.trans (hB.mono HB.out.size))
  clear hB
  go_wp2_with fail
  refine (awake_any _).mono ?_
  rintro e w3 ⟨rfl, hB⟩
  have HA := Lib.hid (HA.out.keep hB)
  have HB := Lib.hid (HB.out.trans (hB.mono HB.out.size))
  clear hB
  go_wp2_with fail
  go_ret
  exact ⟨rfl, HB.out⟩
set_option maxRecDepth 100000 in
set_option maxHeartbeats 4000000 in
theorem cPartitionPairs_n (n : Nat) (a : Option Addr) (m c : Nat) (A B : Nat → Int) (w : World) (hr : RowP w a m A B) (hm : m ≤ maxLen) (hp : mayB n m A B = true) (h1 : 100 < n) :
    Calls Try.prog 10 #[.int .i64 n, .slice a m c] w (Yes w) := by
  have HA := Lib.hid hr
  have HM := Lib.hid hm
  have HP := Lib.hid hp
  have HN := Lib.hid (show n ≤ maxLen by have := (mayB_iff.1 hp).1; unfold maxLen; omega)
  have hn : n ≤ 4096 := by have := (mayB_iff.1 hp).1; omega
  have HS := Lib.hid (frF_same hp)
  unfold maxLen at hm
  clear hr hp
  have HB := Lib.hid (Below.refl w.heap.size w)
  go_enter Try.func10, Try.ntmps10
  go_wp2_with fail
  refine (fromPairs_ok _ _ _ _ _ _ _ HA.out HM.out HP.out).mono ?_
  rintro e w1 ⟨r1, c1, rfl, hR, hB⟩
  have HA := Lib.hid (HA.out.keep hB)
  have HB := Lib.hid (HB.out.trans (hB.mono HB.out.size))
  have HC := Lib.hid hR
  clear hR hB
  go_wp2_with fail
  refine (may_any _ _ _ _ _ _ _ HA.out HM.out).mono ?_
  rintro e w2 ⟨rfl, hB⟩
  rw [HP.out]
  have HA := Lib.hid (HA.out.keep hB)
  have HC := Lib.hid (HC.out.keep hB)
  have HB := Lib.hid (HB.out.trans (hB.mono HB.out.size))
  clear hB
  go_wp2_with fail
  refine (awake_any _).mono ?_
  rintro e w3 ⟨rfl, hB⟩
  have HA := Lib.hid (HA.out.keep hB)
  have HC := Lib.hid (HC.out.keep hB)
  have HB := Lib.hid (HB.out.trans (hB.mono HB.out.size))
  clear hB
  go_wp2_with fail
  go_ret
  exact ⟨rfl, HB.out⟩
set_option maxRecDepth 100000 in
set_option maxHeartbeats 4000000 in
theorem cPartitionPairs_m (n : Nat) (a : Option Addr) (m c : Nat) (A B : Nat → Int) (w : World) (hr : RowP w a m A B) (hm : m ≤ maxLen) (hp : mayB n m A B = true) (h1 : n ≤ 100) (h2 : 200 < m) :
    Calls Try.prog 10 #[.int .i64 n, .slice a m c] w (Yes w) := by
  have HA := Lib.hid hr
  have HM := Lib.hid hm
  have HP := Lib.hid hp
  have HN := Lib.hid (show n ≤ maxLen by have := (mayB_iff.1 hp).1; unfold maxLen; omega)
  have hn : n ≤ 4096 := by have := (mayB_iff.1 hp).1; omega
  have HS := Lib.hid (frF_same hp)
  unfold maxLen at hm
  clear hr hp
  have HB := Lib.hid (Below.refl w.heap.size w)
  go_enter Try.func10, Try.ntmps10
  go_wp2_with fail
  refine (fromPairs_ok _ _ _ _ _ _ _ HA.out HM.out HP.out).mono ?_
  rintro e w1 ⟨r1, c1, rfl, hR, hB⟩
  have HA := Lib.hid (HA.out.keep hB)
  have HB := Lib.hid (HB.out.trans (hB.mono HB.out.size))
  have HC := Lib.hid hR
  clear hR hB
  go_wp2_with fail
  refine (may_any _ _ _ _ _ _ _ HA.out HM.out).mono ?_
  rintro e w2 ⟨rfl, hB⟩
  rw [HP.out]
  have HA := Lib.hid (HA.out.keep hB)
  have HC := Lib.hid (HC.out.keep hB)
  have HB := Lib.hid (HB.out.trans (hB.mono HB.out.size))
  clear hB
  go_wp2_with fail
  refine (awake_any _).mono ?_
  rintro e w3 ⟨rfl, hB⟩
  have HA := Lib.hid (HA.out.keep hB)
  have HC := Lib.hid (HC.out.keep hB)
  have HB := Lib.hid (HB.out.trans (hB.mono HB.out.size))
  clear hB
  go_wp2_with fail
  go_ret
  exact ⟨rfl, HB.out⟩
set_option maxRecDepth 100000 in
set_option maxHeartbeats 4000000 in
theorem cPartitionPairs_ok (n : Nat) (a : Option Addr) (m c : Nat) (A B : Nat → Int) (w : World) (hr : RowP w a m A B) (hm : m ≤ maxLen) (hp : mayB n m A B = true) (h1 : n ≤ 100) (h2 : m ≤ 200) :
    Calls Try.prog 10 #[.int .i64 n, .slice a m c] w (Yes w) := by
  have HA := Lib.hid hr
  have HM := Lib.hid hm
  have HP := Lib.hid hp
  have HN := Lib.hid (show n ≤ maxLen by have := (mayB_iff.1 hp).1; unfold maxLen; omega)
  have hn : n ≤ 4096 := by have := (mayB_iff.1 hp).1; omega
  have HS := Lib.hid (frF_same hp)
  unfold maxLen at hm
  clear hr hp
  have HB := Lib.hid (Below.refl w.heap.size w)
  go_enter Try.func10, Try.ntmps10
  go_wp2_with fail
  refine (fromPairs_ok _ _ _ _ _ _ _ HA.out HM.out HP.out).mono ?_
  rintro e w1 ⟨r1, c1, rfl, hR, hB⟩
  have HA := Lib.hid (HA.out.keep hB)
  have HB := Lib.hid (HB.out.trans (hB.mono HB.out.size))
  have HC := Lib.hid hR
  clear hR hB
  go_wp2_with fail
  refine (may_any _ _ _ _ _ _ _ HA.out HM.out).mono ?_
  rintro e w2 ⟨rfl, hB⟩
  rw [HP.out]
  have HA := Lib.hid (HA.out.keep hB)
  have HC := Lib.hid (HC.out.keep hB)
  have HB := Lib.hid (HB.out.trans (hB.mono HB.out.size))
  clear hB
  go_wp2_with fail
  refine (fromPairsR_ok _ _ _ _ _ _ _ HA.out HM.out HP.out).mono ?_
  rintro e w3 ⟨r3, c3, rfl, hR, hB⟩
  have HA := Lib.hid (HA.out.keep hB)
  have HC := Lib.hid (HC.out.keep hB)
  have HB := Lib.hid (HB.out.trans (hB.mono HB.out.size))
  have HD := Lib.hid hR
  clear hR hB
  go_wp2_with fail
  refine (same_any _ _ _ _ _ _ _ _ _ HC.out HD.out HN.out).mono ?_
  rintro e w4 ⟨rfl, hB⟩
  rw [HS.out]
  have HA := Lib.hid (HA.out.keep hB)
  have HC := Lib.hid (HC.out.keep hB)
  have HD := Lib.hid (HD.out.keep hB)
  have HB := Lib.hid (HB.out.trans (hB.mono HB.out.size))
  clear hB
  go_wp2_with fail
  refine (awake_any _).mono ?_
  rintro e w5 ⟨rfl, hB⟩
  have HA := Lib.hid (HA.out.keep hB)
  have HC := Lib.hid (HC.out.keep hB)
  have HD := Lib.hid (HD.out.keep hB)
  have HB := Lib.hid (HB.out.trans (hB.mono HB.out.size))
  clear hB
  go_wp2_with fail
  go_ret
  exact ⟨rfl, HB.out⟩
theorem wPartitionPairs {w : World} (n : Int) (hwf : (Lit.int .i64 n).wf = true) (a : Option Addr) (m c : Nat) (A B : Nat → Int) (h : PairRow w a m c A B) : Calls Try.prog 10 #[.int .i64 n, .slice a m c] w (Yes w) := by
  obtain ⟨hr, hm, _⟩ := row_inP h
  cases hp : mayB n m A B
  · exact cPartitionPairs_no n a m c A B w hr hm hp
  · obtain ⟨k, rfl⟩ : ∃ k : Nat, n = k := ⟨n.toNat, by have := (mayB_iff.1 hp).1; omega⟩
    by_cases h1 : 100 < k
    · exact cPartitionPairs_n k a m c A B w hr hm hp h1
    · by_cases h2 : 200 < m
      · exact cPartitionPairs_m k a m c A B w hr hm hp (by omega) h2
      · exact cPartitionPairs_ok k a m c A B w hr hm hp (by omega) (by omega)
end Go.Proofs.Ytfgpjkkdgjhkfaa
