/- Walks: PartitionLists, PartitionSaturates. -/
import Derived.Test.YtfgpjkkdgjhkfaaPartHC
import Derived.Test.YtfgpjkkdgjhkfaaPartW
namespace Go.Proofs.Ytfgpjkkdgjhkfaa
open Go Go.RowKit Go.Maps
set_option linter.unusedVariables false


theorem row_inB {w : World} {a : Option Addr} {len cap : Nat} {B : Nat → Bool} (h : BoolRow w a len cap B) : RowB w a len B ∧ len ≤ maxLen := by
  rcases h with ⟨rfl, rfl, rfl⟩ | ⟨x, rfl, hl, hm, hc⟩
  · exact ⟨.inl rfl, Nat.zero_le _⟩
  · refine ⟨?_, by omega⟩
    by_cases h0 : len = 0
    · exact .inl h0
    · obtain ⟨b, off, spot⟩ := x
      have hc0 := hc 0 (by omega)
      have hspot : spot = none := by simpa [Addr.add] using World.cell?_spot hc0
      subst hspot
      have key : ∀ i, i < len → w.cell? ⟨b, off + i, none⟩ = some (.bool (B i)) := by
        intro i hi
        have h1 := hc i (by omega)
        have h2 : (⟨b, off, none⟩ : Addr).add i = ⟨b, off + i, none⟩ := by unfold Addr.add; split <;> simp_all
        rw [h2] at h1
        exact h1
      exact .inr ⟨b, off, rfl, cell_lt (s := none) (key 0 (by omega)), key⟩
set_option maxRecDepth 100000 in
set_option maxHeartbeats 4000000 in
theorem cPartitionLists_false (a : Option Addr) (n c : Nat) (f : Nat → Int) (w : World) (hr : RowI w a n f) (hn : n ≤ maxLen) (hv : valP n f = false) :
    Calls Try.prog 4 #[.slice a n c] w (Yes w) := by
  have HA := Lib.hid hr
  have HV := Lib.hid hv
  have HN := Lib.hid hn
  have HC0 := Lib.hid (cntV_no hv)
  clear hr hv
  have HB := Lib.hid (Below.refl w.heap.size w)
  go_enter Try.func4, Try.ntmps4
  go_wp2_with fail
  refine (countP_any _ _ _ _ _ HA.out HN.out).mono ?_
  rintro e w' ⟨rfl, rfl⟩
  rw [HC0.out]
  go_wp2_with fail
  refine (classes_no _ _ _ _ _ HA.out HN.out HV.out).mono ?_
  rintro e w' ⟨rfl, rfl⟩
  go_wp2_with fail
  refine (validR_any _ _ _ _ _ HA.out HN.out).mono ?_
  rintro e w1 ⟨rfl, hB⟩
  rw [HV.out]
  have HA := Lib.hid (HA.out.keep hB)
  have HB := Lib.hid (HB.out.trans (hB.mono HB.out.size))
  clear hB
  go_wp2_with fail
  refine (awake_any _).mono ?_
  rintro e w2 ⟨rfl, hB⟩
  have HA := Lib.hid (HA.out.keep hB)
  have HB := Lib.hid (HB.out.trans (hB.mono HB.out.size))
  clear hB
  go_wp2_with fail
  go_ret
  exact ⟨rfl, HB.out⟩
set_option maxRecDepth 100000 in
set_option maxHeartbeats 4000000 in
theorem cPartitionLists_true (a : Option Addr) (n c : Nat) (f : Nat → Int) (w : World) (hr : RowI w a n f) (hv : valP n f = true) :
    Calls Try.prog 4 #[.slice a n c] w (Yes w) := by
  have HA := Lib.hid hr
  have HV := Lib.hid hv
  have hn := (valP_iff.1 hv).1
  have HN := Lib.hid (show n ≤ maxLen by unfold maxLen; omega)
  have HC0 := Lib.hid (cntV_yes hv)
  have hcn := cls_le f n
  have HCM := Lib.hid (show cls f n ≤ maxLen by unfold maxLen; omega)
  have HLL := Lib.hid (fun j (_ : j < cls f n) => (show (clL f n j).length ≤ maxLen by have := clL_len f n j; unfold maxLen; omega))
  have HS := Lib.hid (sameRB_refl (cls f n) (clL f n))
  have hx : ((cls f n : Int) == (cls f n : Int)) = true := by simp
  clear hr hv
  have HB := Lib.hid (Below.refl w.heap.size w)
  go_enter Try.func4, Try.ntmps4
  go_wp2_with fail
  refine (countP_any _ _ _ _ _ HA.out HN.out).mono ?_
  rintro e w' ⟨rfl, rfl⟩
  rw [HC0.out]
  go_wp2_with fail
  refine (classes_ok _ _ _ _ _ HA.out HV.out).mono ?_
  rintro e w1 ⟨r1, c1, rfl, hR, hB⟩
  have HA := Lib.hid (HA.out.keep hB)
  have HB := Lib.hid (HB.out.trans (hB.mono HB.out.size))
  have HC := Lib.hid hR
  clear hR hB
  go_wp2_with fail
  refine (validR_any _ _ _ _ _ HA.out HN.out).mono ?_
  rintro e w2 ⟨rfl, hB⟩
  rw [HV.out]
  have HA := Lib.hid (HA.out.keep hB)
  have HC := Lib.hid (HC.out.keep hB)
  have HB := Lib.hid (HB.out.trans (hB.mono HB.out.size))
  clear hB
  go_wp2_with fail
  refine (countR_ok _ _ _ _ _ HA.out HV.out).mono ?_
  rintro e w' ⟨rfl, rfl⟩
  go_wp2_with fail
  refine (classesR_ok _ _ _ _ _ HA.out HV.out).mono ?_
  rintro e w3 ⟨r3, c3, rfl, hR, hB⟩
  have HA := Lib.hid (HA.out.keep hB)
  have HC := Lib.hid (HC.out.keep hB)
  have HB := Lib.hid (HB.out.trans (hB.mono HB.out.size))
  have HD := Lib.hid hR
  clear hR hB
  go_wp2_with fail
  refine (sameRows_eq _ _ _ _ _ _ _ _ HC.out HD.out HCM.out HLL.out).mono ?_
  rintro e w4 ⟨rfl, hB⟩
  rw [HS.out]
  have HA := Lib.hid (HA.out.keep hB)
  have HC := Lib.hid (HC.out.keep hB)
  have HD := Lib.hid (HD.out.keep hB)
  have HB := Lib.hid (HB.out.trans (hB.mono HB.out.size))
  clear hB
  go_wp2_with fail
  refine (awake_any _).mono ?_
  rintro e w5 ⟨rfl, hB⟩
  have HA := Lib.hid (HA.out.keep hB)
  have HC := Lib.hid (HC.out.keep hB)
  have HD := Lib.hid (HD.out.keep hB)
  have HB := Lib.hid (HB.out.trans (hB.mono HB.out.size))
  clear hB
  go_wp2_with fail
  go_ret
  exact ⟨rfl, HB.out⟩
theorem wPartitionLists {w : World} (a : Option Addr) (n c : Nat) (zs : List Int) (h : IntRow .i64 w a n c zs) : Calls Try.prog 4 #[.slice a n c] w (Yes w) := by
  obtain ⟨f, hr, hn⟩ := row_in h
  cases hv : valP n f
  · exact cPartitionLists_false a n c f w hr hn hv
  · exact cPartitionLists_true a n c f w hr hv
set_option maxRecDepth 100000 in
set_option maxHeartbeats 4000000 in
theorem cPartitionSaturates_p (a : Option Addr) (n c : Nat) (f : Nat → Int) (b : Option Addr) (m d : Nat) (B : Nat → Bool) (w : World) (hr : RowI w a n f) (hs : RowB w b m B) (hn : n ≤ maxLen) (hm : m ≤ maxLen) (hv : valP n f = false) :
    Calls Try.prog 12 #[.slice a n c, .slice b m d] w (Yes w) := by
  have HA := Lib.hid hr
  have HR := Lib.hid hs
  have HN := Lib.hid hn
  have HM := Lib.hid hm
  have HV := Lib.hid hv
  have HO := Lib.hid (show valP n f = false ∨ n ≠ m from .inl hv)
  clear hr hs hv
  have HB := Lib.hid (Below.refl w.heap.size w)
  go_enter Try.func12, Try.ntmps12
  go_wp2_with fail
  refine (saturates_no _ _ _ _ _ _ _ _ HA.out HN.out HM.out HO.out).mono ?_
  rintro e w' ⟨rfl, rfl⟩
  go_wp2_with fail
  refine (validR_any _ _ _ _ _ HA.out HN.out).mono ?_
  rintro e w1 ⟨rfl, hB⟩
  rw [HV.out]
  have HA := Lib.hid (HA.out.keep hB)
  have HR := Lib.hid (HR.out.keep hB)
  have HB := Lib.hid (HB.out.trans (hB.mono HB.out.size))
  clear hB
  go_wp2_with fail
  refine (awake_any _).mono ?_
  rintro e w2 ⟨rfl, hB⟩
  have HA := Lib.hid (HA.out.keep hB)
  have HR := Lib.hid (HR.out.keep hB)
  have HB := Lib.hid (HB.out.trans (hB.mono HB.out.size))
  clear hB
  go_wp2_with fail
  go_ret
  exact ⟨rfl, HB.out⟩
set_option maxRecDepth 100000 in
set_option maxHeartbeats 4000000 in
theorem cPartitionSaturates_len (a : Option Addr) (n c : Nat) (f : Nat → Int) (b : Option Addr) (m d : Nat) (B : Nat → Bool) (w : World) (hr : RowI w a n f) (hs : RowB w b m B) (hn : n ≤ maxLen) (hm : m ≤ maxLen) (hv : valP n f = true) (hne : n ≠ m) :
    Calls Try.prog 12 #[.slice a n c, .slice b m d] w (Yes w) := by
  have HA := Lib.hid hr
  have HR := Lib.hid hs
  have HN := Lib.hid hn
  have HM := Lib.hid hm
  have HV := Lib.hid hv
  have HO := Lib.hid (show valP n f = false ∨ n ≠ m from .inr hne)
  have hx : ((n : Int) != (m : Int)) = true := by rw [bne_iff_ne]; omega
  unfold maxLen at hn hm
  clear hne
  clear hr hs hv
  have HB := Lib.hid (Below.refl w.heap.size w)
  go_enter Try.func12, Try.ntmps12
  go_wp2_with fail
  refine (saturates_no _ _ _ _ _ _ _ _ HA.out HN.out HM.out HO.out).mono ?_
  rintro e w' ⟨rfl, rfl⟩
  go_wp2_with fail
  refine (validR_any _ _ _ _ _ HA.out HN.out).mono ?_
  rintro e w1 ⟨rfl, hB⟩
  rw [HV.out]
  have HA := Lib.hid (HA.out.keep hB)
  have HR := Lib.hid (HR.out.keep hB)
  have HB := Lib.hid (HB.out.trans (hB.mono HB.out.size))
  clear hB
  go_wp2_with fail
  refine (awake_any _).mono ?_
  rintro e w2 ⟨rfl, hB⟩
  have HA := Lib.hid (HA.out.keep hB)
  have HR := Lib.hid (HR.out.keep hB)
  have HB := Lib.hid (HB.out.trans (hB.mono HB.out.size))
  clear hB
  go_wp2_with fail
  go_ret
  exact ⟨rfl, HB.out⟩
set_option maxRecDepth 100000 in
set_option maxHeartbeats 4000000 in
theorem cPartitionSaturates_ok (a : Option Addr) (n c : Nat) (f : Nat → Int) (b : Option Addr) (d : Nat) (B : Nat → Bool) (w : World) (hr : RowI w a n f) (hs : RowB w b n B) (hv : valP n f = true) :
    Calls Try.prog 12 #[.slice a n c, .slice b n d] w (Yes w) := by
  have HA := Lib.hid hr
  have HR := Lib.hid hs
  have HV := Lib.hid hv
  have hn := (valP_iff.1 hv).1
  have HN := Lib.hid (show n ≤ maxLen by unfold maxLen; omega)
  have hcn := cls_le f n
  have HSAT := Lib.hid (chkA_sat f n B)
  have hx : ((n : Int) != (n : Int)) = false := by simp
  obtain ⟨S, hS⟩ : ∃ S, S = satB n f B := ⟨_, rfl⟩
  have HST := Lib.hid (saturates_ok a n c f b d B w HA.out HR.out HV.out)
  have HCL := Lib.hid (fun W (h : RowI W a n f) => classesR_ok a n c f W h HV.out)
  obtain ⟨M, hM⟩ : ∃ M, M = cls f n := ⟨_, rfl⟩
  rw [← hS] at HSAT HST
  rw [← hM] at HSAT HCL hcn
  have HMM := Lib.hid hM
  clear hr hs hv hS hM
  have HB := Lib.hid (Below.refl w.heap.size w)
  go_enter Try.func12, Try.ntmps12
  go_wp2_with fail
  refine (HST.out).mono ?_
  rintro e w1 ⟨rfl, hB⟩
  have HA := Lib.hid (HA.out.keep hB)
  have HR := Lib.hid (HR.out.keep hB)
  have HB := Lib.hid (HB.out.trans (hB.mono HB.out.size))
  clear hB
  go_wp2_with fail
  refine (validR_any _ _ _ _ _ HA.out HN.out).mono ?_
  rintro e w2 ⟨rfl, hB⟩
  rw [HV.out]
  have HA := Lib.hid (HA.out.keep hB)
  have HR := Lib.hid (HR.out.keep hB)
  have HB := Lib.hid (HB.out.trans (hB.mono HB.out.size))
  clear hB
  go_wp2_with fail
  refine (HCL.out _ HA.out).mono ?_
  rintro e w3 ⟨r3, c3, rfl, hR, hB⟩
  have HA := Lib.hid (HA.out.keep hB)
  have HR := Lib.hid (HR.out.keep hB)
  have HB := Lib.hid (HB.out.trans (hB.mono HB.out.size))
  have HC := Lib.hid hR
  clear hR hB
  go_wp2_with fail
  go_loopw [6, 32] (fun vw vi wr => ∃ k : Nat, k ≤ M ∧ vi = .int .i64 k ∧ vw = .bool (chkA f n B k) ∧ Below w3.heap.size w3 wr) (fun _ vi _ => M - (intOf vi).toNat)
  case atStart => exact ⟨0, Nat.zero_le _, rfl, rfl, Below.refl _ _⟩
  case round =>
    obtain ⟨k, hk, rfl, rfl, hb⟩ := hrel
    have HB2 := Lib.hid hb
    clear hb
    by_cases hlt : k < M
    · rcases HC.out.keep HB2.out with h0 | ⟨b1, off1, rfl, hbz1, hc1⟩
      · omega
      obtain ⟨r, rc, hcell, hrow⟩ := hc1 k hlt
      have HROW := Lib.hid hrow
      have hlen := clL_len f n k
      have HMEM := Lib.hid (fun i x (h : (clL f n k)[i]? = some x) => clL_lt (List.mem_of_getElem? h))
      have HAS := Lib.hid (chkA_succ f n B k)
      have HZ := Lib.hid (chkC_zero f n B k)
      obtain ⟨q, hq⟩ : ∃ q, q = (clL f n k).length := ⟨_, rfl⟩
      have HQ := Lib.hid hq
      rw [← hq] at hcell hlen
      clear hc1 hrow hq
      go_wp2_with fail
      go_loopw [6, 38] (fun vw vj wq => ∃ j : Nat, j ≤ q ∧ vj = .int .i64 j ∧ vw = .bool (chkA f n B k && chkC f n B k j) ∧ Below wr.heap.size wr wq) (fun _ vj _ => q - (intOf vj).toNat)
      case atStart => exact ⟨0, Nat.zero_le _, rfl, by rw [HZ.out, Bool.and_true], Below.refl _ _⟩
      case round =>
        obtain ⟨j, hj, rfl, rfl, hb⟩ := hrel
        have HB3 := Lib.hid hb
        have HB23 := Lib.hid (HB2.out.trans (hb.mono HB2.out.size))
        clear hb
        by_cases hjq : j < q
        · have hx1 := List.getElem?_eq_getElem (l := clL f n k) (i := j) (by rw [← HQ.out]; exact hjq)
          have hx0 := List.getElem?_eq_getElem (l := clL f n k) (i := 0) (by rw [← HQ.out]; omega)
          obtain ⟨x, hxe⟩ : ∃ x, x = (clL f n k)[j]'(by rw [← HQ.out]; exact hjq) := ⟨_, rfl⟩
          obtain ⟨y, hye⟩ : ∃ y, y = (clL f n k)[0]'(by rw [← HQ.out]; omega) := ⟨_, rfl⟩
          rw [← hxe] at hx1
          rw [← hye] at hx0
          have hhd : hdL f n k = y := by unfold hdL; rw [List.getD_eq_getElem?_getD, hx0]; rfl
          have HSU := Lib.hid (chkC_succ (B := B) hx1)
          rw [hhd] at HSU
          have hxn := HMEM.out _ _ hx1
          have hyn := HMEM.out _ _ hx0
          have HX1 := Lib.hid (getN_at hx1)
          have HX0 := Lib.hid (getN_at hx0)
          have HRK := Lib.hid (HROW.out.keep HB3.out)
          rcases HRK.out with h0 | ⟨b2, off2, rfl, hbz2, hc2⟩
          · rw [← HQ.out] at h0; omega
          have hcx := (hc2 j (by rw [← HQ.out]; exact hjq)).1
          have hcy := (hc2 0 (by rw [← HQ.out]; omega)).1
          rw [HX1.out] at hcx
          rw [HX0.out, Nat.add_zero] at hcy
          rcases HR.out.keep HB23.out with h0 | ⟨b3, off3, rfl, hbz3, hc3⟩
          · omega
          have hsx := hc3 x hxn
          have hsy := hc3 y hyn
          clear hxe hye hhd hx1 hx0 hc2 hc3
          have hx00 : (0 : Int) ≤ (x : Int) := by omega
          have hxnn : (x : Int) < (n : Int) := by omega
          have hy00 : (0 : Int) ≤ (y : Int) := by omega
          have hynn : (y : Int) < (n : Int) := by omega
          have hj00 : (0 : Int) ≤ (j : Int) := by omega
          have hjqq : (j : Int) < (q : Int) := by omega
          have hq0 : (0 : Int) < (q : Int) := by omega
          cases hw : (chkA f n B k && chkC f n B k j)
          · have HW := Lib.hid (show (chkA f n B k && chkC f n B k (j + 1)) = false by rw [HSU.out, ← Bool.and_assoc, hw]; rfl)
            clear hw
            go_wp2_with fail
            go_quiet (fail)
            go_wp2_with fail
            exact ⟨⟨j + 1, by omega, by go_num, by rw [HW.out], below_drewN HB3.out _⟩, by simp [intOf]; omega⟩
          · cases he : (B x == B y)
            · have HW := Lib.hid (show (chkA f n B k && chkC f n B k (j + 1)) = false by rw [HSU.out, ← Bool.and_assoc, hw, he]; rfl)
              clear hw
              go_wp2_with fail
              go_quiet (fail)
              go_wp2_with fail
              exact ⟨⟨j + 1, by omega, by go_num, by rw [HW.out], below_drewN HB3.out _⟩, by simp [intOf]; omega⟩
            · have HW := Lib.hid (show (chkA f n B k && chkC f n B k (j + 1)) = true by rw [HSU.out, ← Bool.and_assoc, hw, he]; rfl)
              clear hw
              go_wp2_with fail
              go_quiet (fail)
              go_wp2_with fail
              exact ⟨⟨j + 1, by omega, by go_num, by rw [HW.out], below_drewN HB3.out _⟩, by simp [intOf]; omega⟩
        · obtain rfl : q = j := by omega
          have HW := Lib.hid (show (chkA f n B k && chkC f n B k q) = chkA f n B (k + 1) by rw [HAS.out, ← HQ.out])
          go_wp2_with fail
          exact ⟨⟨k + 1, by omega, by go_num, by rw [HW.out], HB23.out⟩, by simp [intOf]; omega⟩
    · obtain rfl : M = k := by omega
      have HE := Lib.hid (show (chkA f n B M) = S from HSAT.out)
      rw [HE.out]
      have hss : (S == S) = true := by simp
      have HB := Lib.hid (HB.out.trans (HB2.out.mono HB.out.size))
      go_wp2_with fail
      refine (awake_any _).mono ?_
      rintro e w5 ⟨rfl, hB⟩
      have HB := Lib.hid (HB.out.trans (hB.mono HB.out.size))
      clear hB
      go_wp2_with fail
      go_ret
      exact ⟨rfl, HB.out⟩
theorem wPartitionSaturates {w : World} (a : Option Addr) (n c : Nat) (zs : List Int) (h : IntRow .i64 w a n c zs) (b : Option Addr) (m d : Nat) (B : Nat → Bool) (k : BoolRow w b m d B) : Calls Try.prog 12 #[.slice a n c, .slice b m d] w (Yes w) := by
  obtain ⟨f, hr, hn⟩ := row_in h
  obtain ⟨hs, hm⟩ := row_inB k
  cases hv : valP n f
  · exact cPartitionSaturates_p a n c f b m d B w hr hs hn hm hv
  by_cases hne : n = m
  · subst hne
    exact cPartitionSaturates_ok a n c f b d B w hr hs hv
  · exact cPartitionSaturates_len a n c f b m d B w hr hs hn hm hv hne
end Go.Proofs.Ytfgpjkkdgjhkfaa
