/- Walks: PartitionAll, PartitionListed. -/
import Derived.Test.YtfgpjkkdgjhkfaaPartID
import Derived.Test.YtfgpjkkdgjhkfaaPartW
namespace Go.Proofs.Ytfgpjkkdgjhkfaa
open Go Go.RowKit Go.Maps
set_option linter.unusedVariables false


theorem atL_good {n i : Nat} (h : i < (allN n).length) : Good n (atL (allN n) i) := by
  have h1 := List.getElem?_eq_getElem h
  rw [atL_get h1]
  exact allN_good (List.mem_of_getElem? h1)
theorem atL_less {n i : Nat} (h : i + 1 < (allN n).length) : lessB n (getN (atL (allN n) i)) (getN (atL (allN n) (i + 1))) = true := by
  have h1 := List.getElem?_eq_getElem h
  have h2 := List.getElem?_eq_getElem (show i < (allN n).length by omega)
  rw [atL_get h1, atL_get h2]
  exact List.pairwise_iff_getElem.1 (allN_sorted n) i (i + 1) (by omega) h (by omega)
/-- how often p is among the first i -/
def occN (p : List Nat) (n i : Nat) : Nat := if p ∈ (allN n).take i then 1 else 0
theorem occN_zero (p : List Nat) (n : Nat) : occN p n 0 = 0 := by simp [occN]
theorem occN_all {p : List Nat} {n : Nat} (h : p ∈ allN n) : occN p n (allN n).length = 1 := by simp [occN, List.take_length, h]
theorem occN_le (p : List Nat) (n i : Nat) : occN p n i ≤ 1 := by unfold occN; split <;> omega
theorem occN_yes {p : List Nat} {n i : Nat} (h : i < (allN n).length) (e : atL (allN n) i = p) : occN p n (i + 1) = occN p n i + 1 := by
  have h1 := List.getElem?_eq_getElem h
  rw [atL_get h1] at e
  have hno : p ∉ (allN n).take i := fun hm => once h1 hm e
  have ht : (allN n).take (i + 1) = (allN n).take i ++ [(allN n)[i]] := by rw [List.take_add_one, h1]; rfl
  unfold occN
  rw [if_neg hno, ht, if_pos (List.mem_append.2 (.inr (List.mem_singleton.2 e.symm)))]
theorem occN_no {p : List Nat} {n i : Nat} (h : i < (allN n).length) (e : atL (allN n) i ≠ p) : occN p n (i + 1) = occN p n i := by
  have h1 := List.getElem?_eq_getElem h
  rw [atL_get h1] at e
  have ht : (allN n).take (i + 1) = (allN n).take i ++ [(allN n)[i]] := by rw [List.take_add_one, h1]; rfl
  have hm : p ∈ (allN n).take i ++ [(allN n)[i]] ↔ p ∈ (allN n).take i := by
    rw [List.mem_append, List.mem_singleton]
    exact ⟨fun h => h.resolve_right (Ne.symm e), .inl⟩
  unfold occN
  rw [ht]
  by_cases h2 : p ∈ (allN n).take i
  · rw [if_pos h2, if_pos (hm.2 h2)]
  · rw [if_neg h2, if_neg (fun h3 => h2 (hm.1 h3))]
set_option maxRecDepth 100000 in
set_option maxHeartbeats 4000000 in
theorem cPartitionAll_yes (n : Nat) (w : World) (hn : n ≤ 7) :
    Calls Try.prog 13 #[.int .i64 n] w (Yes w) := by
  have hlen := allN_le (i := n) hn
  have HLM := Lib.hid (show (allN n).length ≤ maxLen by unfold maxLen; omega)
  have HLL := Lib.hid (fun j (hj : j < (allN n).length) => (show (atL (allN n) j).length ≤ maxLen by rw [(atL_good hj).1]; unfold maxLen; omega))
  have HS := Lib.hid (sameRB_refl (allN n).length (atL (allN n)))
  have HB := Lib.hid (Below.refl w.heap.size w)
  go_enter Try.func13, Try.ntmps13
  go_wp2_with fail
  refine (all_ok _ _ hn).mono ?_
  rintro e w1 ⟨r1, c1, rfl, hR, hB⟩
  have HB := Lib.hid (HB.out.trans (hB.mono HB.out.size))
  have HC := Lib.hid hR
  clear hR hB
  go_wp2_with fail
  refine (allR_ok _ _ hn).mono ?_
  rintro e w2 ⟨r2, c2, rfl, hR, hB⟩
  have HC := Lib.hid (HC.out.keep hB)
  have HB := Lib.hid (HB.out.trans (hB.mono HB.out.size))
  have HD := Lib.hid hR
  clear hR hB
  go_wp2_with fail
  refine (sameRows_eq _ _ _ _ _ _ _ _ HC.out.rows HD.out.rows HLM.out HLL.out).mono ?_
  rintro e w3 ⟨rfl, hB⟩
  rw [HS.out]
  have HC := Lib.hid (HC.out.keep hB)
  have HD := Lib.hid (HD.out.keep hB)
  have HB := Lib.hid (HB.out.trans (hB.mono HB.out.size))
  clear hB
  go_wp2_with fail
  refine (awake_any _).mono ?_
  rintro e w4 ⟨rfl, hB⟩
  have HC := Lib.hid (HC.out.keep hB)
  have HD := Lib.hid (HD.out.keep hB)
  have HB := Lib.hid (HB.out.trans (hB.mono HB.out.size))
  clear hB
  go_wp2_with fail
  go_ret
  exact ⟨rfl, HB.out⟩
set_option maxRecDepth 100000 in
set_option maxHeartbeats 4000000 in
theorem cPartitionAll_neg (n : Int) (w : World) (hn : n < 0) :
    Calls Try.prog 13 #[.int .i64 n] w (Yes w) := by
  have hno : ¬ (0 ≤ n ∧ n ≤ 7) := by omega
  have HB := Lib.hid (Below.refl w.heap.size w)
  go_enter Try.func13, Try.ntmps13
  go_wp2_with fail
  refine (all_no _ _ hno).mono ?_
  rintro e w' ⟨rfl, rfl⟩
  go_wp2_with fail
  refine (awake_any _).mono ?_
  rintro e w1 ⟨rfl, hB⟩
  have HB := Lib.hid (HB.out.trans (hB.mono HB.out.size))
  clear hB
  go_wp2_with fail
  go_ret
  exact ⟨rfl, HB.out⟩
set_option maxRecDepth 100000 in
set_option maxHeartbeats 4000000 in
theorem cPartitionAll_big (n : Int) (w : World) (hn : 7 < n) :
    Calls Try.prog 13 #[.int .i64 n] w (Yes w) := by
  have hno : ¬ (0 ≤ n ∧ n ≤ 7) := by omega
  have h0 : 0 ≤ n := by omega
  have HB := Lib.hid (Below.refl w.heap.size w)
  go_enter Try.func13, Try.ntmps13
  go_wp2_with fail
  refine (all_no _ _ hno).mono ?_
  rintro e w' ⟨rfl, rfl⟩
  go_wp2_with fail
  refine (awake_any _).mono ?_
  rintro e w1 ⟨rfl, hB⟩
  have HB := Lib.hid (HB.out.trans (hB.mono HB.out.size))
  clear hB
  go_wp2_with fail
  go_ret
  exact ⟨rfl, HB.out⟩
theorem wPartitionAll {w : World} (n : Int) (hwf : (Lit.int .i64 n).wf = true) : Calls Try.prog 13 #[.int .i64 n] w (Yes w) := by
  by_cases h0 : n < 0
  · exact cPartitionAll_neg n w h0
  by_cases h1 : 7 < n
  · exact cPartitionAll_big n w h1
  · obtain ⟨m, rfl⟩ : ∃ m : Nat, n = m := ⟨n.toNat, by omega⟩
    exact cPartitionAll_yes m w (by omega)
set_option maxRecDepth 100000 in
set_option maxHeartbeats 4000000 in
theorem cPartitionListed_no (a : Option Addr) (n c : Nat) (f : Nat → Int) (w : World) (hr : RowI w a n f) (hn : n ≤ maxLen) (hv : valP n f = false) :
    Calls Try.prog 14 #[.slice a n c] w (Yes w) := by
  have HA := Lib.hid hr
  have HV := Lib.hid hv
  have HN := Lib.hid hn
  unfold maxLen at hn
  clear hr hv
  have HB := Lib.hid (Below.refl w.heap.size w)
  go_enter Try.func14, Try.ntmps14
  go_wp2_with fail
  refine (validR_any _ _ _ _ _ HA.out HN.out).mono ?_
  rintro e w1 ⟨rfl, hB⟩
  rw [HV.out]
  have HA := Lib.hid (HA.out.keep hB)
  have HB := Lib.hid (HB.out.trans (hB.mono HB.out.size))
  clear hB
  go_wp2_with fail
  refine (awake_any _).mono ?_
  rintro e w2 ⟨rfl, hB⟩
  have HA := Lib.hid (HA.out.keep hB)
  have HB := Lib.hid (HB.out.trans (hB.mono HB.out.size))
  clear hB
  go_wp2_with fail
  go_ret
  exact ⟨rfl, HB.out⟩
set_option maxRecDepth 100000 in
set_option maxHeartbeats 4000000 in
theorem cPartitionListed_big (a : Option Addr) (n c : Nat) (f : Nat → Int) (w : World) (hr : RowI w a n f) (hn : n ≤ maxLen) (hv : valP n f = true) (hb : 6 < n) :
    Calls Try.prog 14 #[.slice a n c] w (Yes w) := by
  have HA := Lib.hid hr
  have HV := Lib.hid hv
  have HN := Lib.hid hn
  unfold maxLen at hn
  clear hr hv
  have HB := Lib.hid (Below.refl w.heap.size w)
  go_enter Try.func14, Try.ntmps14
  go_wp2_with fail
  refine (validR_any _ _ _ _ _ HA.out HN.out).mono ?_
  rintro e w1 ⟨rfl, hB⟩
  rw [HV.out]
  have HA := Lib.hid (HA.out.keep hB)
  have HB := Lib.hid (HB.out.trans (hB.mono HB.out.size))
  clear hB
  go_wp2_with fail
  refine (awake_any _).mono ?_
  rintro e w2 ⟨rfl, hB⟩
  have HA := Lib.hid (HA.out.keep hB)
  have HB := Lib.hid (HB.out.trans (hB.mono HB.out.size))
  clear hB
  go_wp2_with fail
  go_ret
  exact ⟨rfl, HB.out⟩
set_option maxRecDepth 100000 in
set_option maxHeartbeats 4000000 in
theorem cPartitionListed_ok (a : Option Addr) (n c : Nat) (f : Nat → Int) (w : World) (hr : RowI w a n f) (hv : valP n f = true) (hn : n ≤ 6) :
    Calls Try.prog 14 #[.slice a n c] w (Yes w) := by
  have HA := Lib.hid hr
  have HV := Lib.hid hv
  have HN := Lib.hid (show n ≤ maxLen by unfold maxLen; omega)
  have hlen := allN_le (i := n) (by omega)
  have HMEM := Lib.hid (occN_all (canL_mem f n))
  obtain ⟨P, hP⟩ : ∃ P, P = canL f n := ⟨_, rfl⟩
  have HSC := Lib.hid (fun q (hq : q.length = n) => same_canL (q := q) hv hq)
  rw [← hP] at HMEM HSC
  have HAL := Lib.hid (all_ok n)
  obtain ⟨M, hM⟩ : ∃ M, M = (allN n).length := ⟨_, rfl⟩
  have HM := Lib.hid hM
  rw [← hM] at hlen HMEM
  have HAL := Lib.hid (fun W => show Calls Try.prog 40 #[.int .i64 n] W (fun e w' => ∃ (r : Option Addr) (c : Nat), e = .returned (.slice r M c) ∧ RowsS w' r M (atL (allN n)) ∧ Below W.heap.size W w') from by rw [hM]; exact all_ok n W (by omega))
  clear hr hv hP hM
  have HB := Lib.hid (Below.refl w.heap.size w)
  go_enter Try.func14, Try.ntmps14
  go_wp2_with fail
  refine (validR_any _ _ _ _ _ HA.out HN.out).mono ?_
  rintro e w1 ⟨rfl, hB⟩
  rw [HV.out]
  have HA := Lib.hid (HA.out.keep hB)
  have HB := Lib.hid (HB.out.trans (hB.mono HB.out.size))
  clear hB
  go_wp2_with fail
  refine (HAL.out _).mono ?_
  rintro e w2 ⟨r2, c2, rfl, hR, hB⟩
  have HA := Lib.hid (HA.out.keep hB)
  have HB := Lib.hid (HB.out.trans (hB.mono HB.out.size))
  have HC := Lib.hid hR
  clear hR hB
  go_wp2_with fail
  go_loopw [3, 21] (fun vm vi wr => ∃ i : Nat, i ≤ M ∧ vi = .int .i64 i ∧ vm = .int .i64 (occN P n i : Int) ∧ Below w2.heap.size w2 wr) (fun _ vi _ => M - (intOf vi).toNat)
  case atStart => exact ⟨0, Nat.zero_le _, rfl, by rw [occN_zero]; rfl, Below.refl _ _⟩
  case round =>
    obtain ⟨i, hi, rfl, rfl, hb⟩ := hrel
    have HB2 := Lib.hid hb
    clear hb
    by_cases hlt : i < M
    · rcases HC.out.keep HB2.out with h0 | ⟨b, off, rfl, hbz, hc⟩
      · omega
      obtain ⟨p, pc, hcell, hrow⟩ := hc i hlt
      have HAW := Lib.hid (HA.out.keep HB2.out)
      obtain ⟨l, hl⟩ : ∃ l, l = atL (allN n) i := ⟨_, rfl⟩
      have hgd := atL_good (n := n) (i := i) (by rw [← HM.out]; exact hlt)
      rw [← hl] at hcell hrow hgd
      have hll := hgd.1
      rw [hll] at hcell hrow
      have HRW := Lib.hid hrow
      have HGV := Lib.hid (good_val hgd (by omega))
      have HYES := Lib.hid (show sameB n f n (getN l) = true → occN P n (i + 1) = occN P n i + 1 from fun hs => occN_yes (by rw [← HM.out]; exact hlt) (by rw [← hl]; rw [HSC.out l hll] at hs; exact of_decide_eq_true hs))
      have HNO := Lib.hid (show sameB n f n (getN l) = false → occN P n (i + 1) = occN P n i from fun hs => occN_no (by rw [← HM.out]; exact hlt) (by rw [← hl]; rw [HSC.out l hll] at hs; exact of_decide_eq_false hs))
      have hoc := occN_le P n i
      have hx : ((n : Int) != (n : Int)) = false := by simp
      have HL := Lib.hid hl
      clear hrow hgd hll hl
      rcases Nat.eq_zero_or_pos i with e | e
      · subst e
        rw [Nat.add_zero] at hcell
        go_wp2_with fail
        refine (valid_any _ _ _ _ _ HRW.out HN.out).mono ?_
        rintro e w' ⟨rfl, rfl⟩
        rw [HGV.out]
        go_wp2_with fail
        refine (same_any _ _ _ _ _ _ _ _ _ HAW.out HRW.out HN.out).mono ?_
        rintro e w6 ⟨rfl, hB⟩
        have HB6 := Lib.hid (HB2.out.trans (hB.mono HB2.out.size))
        clear hB
        cases hs : sameB n f n (getN l)
        · have HX := Lib.hid (HNO.out hs)
          clear hs
          go_wp2_with fail
          exact ⟨⟨0 + 1, by omega, by go_num, by rw [HX.out], HB6.out⟩, by simp [intOf]; omega⟩
        · have HX := Lib.hid (HYES.out hs)
          clear hs
          go_wp2_with fail
          exact ⟨⟨0 + 1, by omega, by go_num, by rw [HX.out]; go_num, HB6.out⟩, by simp [intOf]; omega⟩
      · obtain ⟨t, rfl⟩ : ∃ t, i = t + 1 := ⟨i - 1, by omega⟩
        obtain ⟨p0, pc0, hcell0, hrow0⟩ := hc t (by omega)
        have hl0 := (atL_good (n := n) (i := t) (by rw [← HM.out]; omega)).1
        have hls := atL_less (n := n) (i := t) (by rw [← HM.out]; exact hlt)
        rw [← HL.out] at hls
        obtain ⟨l0, hle⟩ : ∃ l0, l0 = atL (allN n) t := ⟨_, rfl⟩
        rw [← hle] at hcell0 hrow0 hl0 hls
        rw [hl0] at hcell0 hrow0
        have HPR := Lib.hid hrow0
        have HLS := Lib.hid hls
        clear hrow0 hl0 hls hle hc e
        go_wp2_with fail
        refine (less_ok _ _ _ _ _ _ _ _ HPR.out HRW.out (by omega)).mono ?_
        rintro e w5 ⟨rfl, hB⟩
        rw [HLS.out]
        have HRW := Lib.hid (HRW.out.keep hB)
        have HAW := Lib.hid (HAW.out.keep hB)
        have HB2 := Lib.hid (HB2.out.trans (hB.mono HB2.out.size))
        clear hB
        go_wp2_with fail
        refine (valid_any _ _ _ _ _ HRW.out HN.out).mono ?_
        rintro e w' ⟨rfl, rfl⟩
        rw [HGV.out]
        go_wp2_with fail
        refine (same_any _ _ _ _ _ _ _ _ _ HAW.out HRW.out HN.out).mono ?_
        rintro e w6 ⟨rfl, hB⟩
        have HB6 := Lib.hid (HB2.out.trans (hB.mono HB2.out.size))
        clear hB
        cases hs : sameB n f n (getN l)
        · have HX := Lib.hid (HNO.out hs)
          clear hs
          go_wp2_with fail
          exact ⟨⟨(t + 1) + 1, by omega, by go_num, by rw [HX.out], HB6.out⟩, by simp [intOf]; omega⟩
        · have HX := Lib.hid (HYES.out hs)
          clear hs
          go_wp2_with fail
          exact ⟨⟨(t + 1) + 1, by omega, by go_num, by rw [HX.out]; go_num, HB6.out⟩, by simp [intOf]; omega⟩
    · obtain rfl : M = i := by omega
      have HE := Lib.hid (show (occN P n M : Int) = 1 by rw [HMEM.out]; rfl)
      rw [HE.out]
      have HB := Lib.hid (HB.out.trans (HB2.out.mono HB.out.size))
      go_wp2_with fail
      refine (awake_any _).mono ?_
      rintro e w5 ⟨rfl, hB⟩
      have HB := Lib.hid (HB.out.trans (hB.mono HB.out.size))
      clear hB
      go_wp2_with fail
      go_ret
      exact ⟨rfl, HB.out⟩
theorem wPartitionListed {w : World} (a : Option Addr) (n c : Nat) (zs : List Int) (h : IntRow .i64 w a n c zs) : Calls Try.prog 14 #[.slice a n c] w (Yes w) := by
  obtain ⟨f, hr, hn⟩ := row_in h
  cases hv : valP n f
  · exact cPartitionListed_no a n c f w hr hn hv
  · by_cases hb : 6 < n
    · exact cPartitionListed_big a n c f w hr hn hv hb
    · exact cPartitionListed_ok a n c f w hr hv (by omega)
end Go.Proofs.Ytfgpjkkdgjhkfaa
