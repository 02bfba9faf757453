/- Contracts: the reference's Validate; the law's valid. -/
import Derived.Test.YtohoiebofkmjeacDfaB
import Derived.Test.YtohoiebofkmjeacWordB
namespace Go.Proofs.Ytohoiebofkmjeac
open Go Go.RowKit
set_option linter.unusedVariables false
theorem may_hd (d : DF) : wrd.WordM.mayB d.L = hdB d := by
  rw [Bool.eq_iff_iff, wrd.WordM.mayB_iff, hdB_iff]
theorem errD_next {d : DF} (h : hdB d = true) (h2 : ¬ 512 < d.n) (h3 : ¬ d.m = d.n) : errD d = 4 := by
  cases h4 : inB d.S d.n
  · exact errD_start h h2 h4
  · exact errD_rows h h2 (by rw [← Bool.not_eq_true, rowsB_iff]; exact fun h => h3 h.1)
set_option maxRecDepth 100000 in
set_option maxHeartbeats 4000000 in
theorem rvalidate_any (d : DF) (af : Option Addr) (cf : Nat) (an : Option Addr) (cn : Nat) (w : World) (hin : InD w d af an) :
    Calls Try.prog 29 #[dV d af cf an cn] w fun e w' => e = .returned (.int .i64 (errD d)) ∧ Below w.heap.size w w' := by
  have HI := Lib.hid hin
  have hmm := hin.mm
  have hnm := hin.nm
  have HB0 := Lib.hid ((Below.refl w.heap.size w).alloc (Nat.le_refl _) (dO d af cf an cn))
  have HM := Lib.hid (may_hd d)
  clear hin
  cases h1 : hdB d
  · have HF := Lib.hid (errD_head h1)
    have H1 := Lib.hid h1
    clear h1
    go_enter Try.func29, Try.ntmps29
    go_wp2_with fail
    refine (wrd.mayLetters_any _ _).mono ?_
    rintro e w' ⟨rfl, rfl⟩
    rw [HM.out, H1.out]
    go_wp2_with fail
    go_ret
    exact ⟨by rw [HF.out]; rfl, HB0.out⟩
  have H1 := Lib.hid h1
  clear h1
  by_cases h2 : 512 < d.n
  · have HF := Lib.hid (errD_many H1.out h2)
    have t2 : (512 : Int) < (d.n : Int) := by omega
    clear h2
    go_enter Try.func29, Try.ntmps29
    go_wp2_with fail
    refine (wrd.mayLetters_any _ _).mono ?_
    rintro e w' ⟨rfl, rfl⟩
    rw [HM.out, H1.out]
    go_wp2_with fail
    go_ret
    exact ⟨by rw [HF.out]; rfl, HB0.out⟩
  have t2 : ¬ (512 : Int) < (d.n : Int) := by omega
  have H2 := Lib.hid h2
  clear h2
  by_cases hn0 : d.n = 0
  · have HF := Lib.hid (errD_start H1.out H2.out (by rw [← Bool.not_eq_true, inB_iff]; omega))
    have tn : ((d.n : Int) == 0) = true := by simp; omega
    clear hn0
    go_enter Try.func29, Try.ntmps29
    go_wp2_with fail
    refine (wrd.mayLetters_any _ _).mono ?_
    rintro e w' ⟨rfl, rfl⟩
    rw [HM.out, H1.out]
    go_wp2_with fail
    go_ret
    exact ⟨by rw [HF.out]; rfl, HB0.out⟩
  have tn : ((d.n : Int) == 0) = false := by simp; omega
  by_cases hmn : d.m = d.n
  case neg =>
    have HF := Lib.hid (errD_next H1.out H2.out hmn)
    have tm : ((d.m : Int) != (d.n : Int)) = true := by simp; omega
    clear hmn hn0
    go_enter Try.func29, Try.ntmps29
    go_wp2_with fail
    refine (wrd.mayLetters_any _ _).mono ?_
    rintro e w' ⟨rfl, rfl⟩
    rw [HM.out, H1.out]
    go_wp2_with fail
    go_ret
    exact ⟨by rw [HF.out]; rfl, HB0.out⟩
  have hmn' : (d.m : Int) = (d.n : Int) := by omega
  have tm : ((d.m : Int) != (d.n : Int)) = false := by rw [hmn']; simp
  have HMN := Lib.hid hmn
  clear hmn hmn' hn0
  cases h3 : inB d.S d.n
  · have HF := Lib.hid (errD_start H1.out H2.out h3)
    by_cases hs0 : d.S < 0
    · clear h3
      go_enter Try.func29, Try.ntmps29
      go_wp2_with fail
      refine (wrd.mayLetters_any _ _).mono ?_
      rintro e w' ⟨rfl, rfl⟩
      rw [HM.out, H1.out]
      go_wp2_with fail
      go_ret
      exact ⟨by rw [HF.out]; rfl, HB0.out⟩
    · have hsn : (d.n : Int) ≤ d.S := by
        apply Int.not_lt.1; intro h; rw [inB_iff.2 ⟨by omega, h⟩] at h3; cases h3
      clear h3
      go_enter Try.func29, Try.ntmps29
      go_wp2_with fail
      refine (wrd.mayLetters_any _ _).mono ?_
      rintro e w' ⟨rfl, rfl⟩
      rw [HM.out, H1.out]
      go_wp2_with fail
      go_ret
      exact ⟨by rw [HF.out]; rfl, HB0.out⟩
  obtain ⟨hs0, hsn⟩ := inB_iff.1 h3
  have H3 := Lib.hid h3
  have HERR := Lib.hid (fun h => errD_rows H1.out H2.out h)
  clear h3
  go_enter Try.func29, Try.ntmps29
  go_wp2_with fail
  refine (wrd.mayLetters_any _ _).mono ?_
  rintro e w' ⟨rfl, rfl⟩
  rw [HM.out, H1.out]
  go_wp2_with fail
  go_loopw [40] (fun vi wr => ∃ i : Nat, i ≤ d.m ∧ vi = .int .i64 i ∧ (∀ j, j < i → rowB d.L d.n (d.ln j) (d.N j) = true) ∧ wr = w.alloc (dO d af cf an cn)) (fun vi _ => d.m - (intOf vi).toNat)
  case atStart => exact ⟨0, Nat.zero_le _, rfl, fun j hj => by omega, rfl⟩
  case round =>
    rename World => wA
    obtain ⟨i, hi, rfl, hall, hwa⟩ := hrel
    have HA := Lib.hid hall
    have HB := Lib.hid (show Below (w.heap.size + 1) (w.alloc (dO d af cf an cn)) wA by rw [hwa]; exact Below.refl _ _)
    have HWA := Lib.hid hwa
    obtain ⟨z0, z1, z2, z3⟩ := dbox_cells HB.out
    clear hall hwa
    by_cases hlt : i < d.m
    · have hle : i < d.m := hlt
      have HIN := Lib.hid ((HI.out.box (dO d af cf an cn)).keep (HB.out.mono (by simp)))
      obtain ⟨b, off, r, c, rfl, hbz, hcell, hrow⟩ := HIN.out.nxt.at hle
      have hlm := HIN.out.lm i hle
      have HR := Lib.hid hrow
      obtain ⟨k, hk⟩ : ∃ k, k = d.ln i := ⟨_, rfl⟩
      have HNO := Lib.hid (fun h => HERR.out (rowsB_no (d := d) hle h))
      have HRB := Lib.hid (@rowB_iff d.L d.n (d.ln i) (d.N i))
      have HRN := Lib.hid (fun x (hx : x < d.ln i) h => rowB_no (L := d.L) (n := d.n) (f := d.N i) hx h)
      rw [← hk] at hcell hlm HR HRB HNO HRN
      obtain ⟨f, hf⟩ : ∃ f, f = d.N i := ⟨_, rfl⟩
      rw [show rowsV d.N i = intsV (d.N i) from rfl, ← hf] at HR
      rw [← hf] at HRB HNO HRN
      have HLN := Lib.hid hk
      have HF := Lib.hid hf
      have hi0 : (0 : Int) ≤ (i : Int) := by omega
      have hin2 : (i : Int) < (d.m : Int) := by omega
      have hwi : IntKind.i64.wrap (i : Int) = (i : Int) := IntWalk.i64_in _ (by omega)
      clear hrow hk hf hle
      by_cases hkL : (k : Int) = d.L
      · have t1 : ((k : Int) != d.L) = false := by rw [hkL]; simp
        have HKL := Lib.hid hkL
        clear hkL
        go_wp2_with fail
        go_loopw [51] (fun vj wq => ∃ j : Nat, j ≤ k ∧ vj = .int .i64 j ∧ (∀ x, x < j → inB (f x) d.n = true) ∧ wq = wA) (fun vj _ => k - (intOf vj).toNat)
        case atStart => exact ⟨0, Nat.zero_le _, rfl, fun j hj => by omega, rfl⟩
        case round =>
          rename World => wB
          obtain ⟨j, hj, rfl, hin3, rfl⟩ := hrel
          have HX := Lib.hid hin3
          clear hin3
          by_cases hjk : j < k
          · obtain ⟨b2, off2, rfl, hb2, hc2⟩ := HR.out.at hjk
            rw [show intsV f j = .int .i64 (f j) from rfl] at hc2
            have hj0 : (0 : Int) ≤ (j : Int) := by omega
            have hjn : (j : Int) < (k : Int) := by omega
            have hwj : IntKind.i64.wrap (j : Int) = (j : Int) := IntWalk.i64_in _ (by omega)
            cases hbl : inB (f j) d.n
            · have HF2 := Lib.hid (HNO.out (HRN.out j hjk hbl))
              by_cases hf0 : f j < 0
              · clear hbl
                go_wp2_with fail
                go_ret
                exact ⟨by rw [HF2.out]; rfl, below_dbox HB.out⟩
              · have hfn : (d.n : Int) ≤ f j := by
                  apply Int.not_lt.1; intro h; rw [inB_iff.2 ⟨by omega, h⟩] at hbl; cases hbl
                clear hbl
                go_wp2_with fail
                go_ret
                exact ⟨by rw [HF2.out]; rfl, below_dbox HB.out⟩
            · obtain ⟨hf0, hfn⟩ := inB_iff.1 hbl
              have HBL := Lib.hid hbl
              clear hbl
              go_wp2_with fail
              exact ⟨⟨j + 1, by omega, by go_num, fun x hx => by
                by_cases e : x = j
                · rw [e]; exact HBL.out
                · exact HX.out x (by omega), trivial⟩, by simp [intOf]; omega⟩
          · obtain rfl : j = k := by omega
            have HN := Lib.hid (HRB.out.2 ⟨HKL.out, HX.out⟩)
            go_wp2_with fail
            exact ⟨⟨i + 1, by omega, by go_num, fun t ht => by
              by_cases e : t = i
              · rw [e, ← HLN.out, ← HF.out]; exact HN.out
              · exact HA.out t (by omega), HWA.out⟩, by simp [intOf]; omega⟩
      · have HF2 := Lib.hid (HNO.out (by rw [← Bool.not_eq_true, HRB.out]; exact fun h => hkL h.1))
        have t1 : ((k : Int) != d.L) = true := by simpa using hkL
        clear hkL
        go_wp2_with fail
        go_ret
        exact ⟨by rw [HF2.out]; rfl, below_dbox HB.out⟩
    · obtain rfl : i = d.m := by omega
      have HF := Lib.hid (errD_good H1.out H2.out H3.out (rowsB_iff.2 ⟨HMN.out, HA.out⟩))
      go_wp2_with fail
      go_ret
      exact ⟨by rw [HF.out]; rfl, below_dbox HB.out⟩
set_option maxHeartbeats 1000000 in
theorem lvalid_any (d : DF) (af : Option Addr) (cf : Nat) (an : Option Addr) (cn : Nat) (w : World) (hin : InD w d af an) :
    Calls Try.prog 13 #[dV d af cf an cn] w fun e w' => e = .returned (.bool (valD d)) ∧ Below w.heap.size w w' := by
  have HI := Lib.hid hin
  have HQ := Lib.hid (fun W (h : InD W d af an) => rvalidate_any d af cf an cn W h)
  have HE := Lib.hid (errD_eq0 d)
  have HB0 := Lib.hid ((Below.refl w.heap.size w).alloc (Nat.le_refl _) (dO d af cf an cn))
  have HI0 := Lib.hid (HI.out.box (dO d af cf an cn))
  obtain ⟨r, hr⟩ : ∃ r, r = errD d := ⟨_, rfl⟩
  rw [← hr] at HE HQ
  clear hin hr
  go_enter Try.func13, Try.ntmps13
  go_wp2_with fail
  refine (HQ.out _ HI0.out).mono ?_
  rintro e w2 ⟨rfl, hB⟩
  have HB2 := Lib.hid (HB0.out.trans (hB.mono (by simp)))
  clear hB
  go_wp2_with fail
  go_ret
  exact ⟨by rw [← HE.out]; rfl, HB2.out⟩
end Go.Proofs.Ytohoiebofkmjeac
