/- Contracts: below, validRows, Validate, valid. -/
import Derived.Test.YtohoiebofkmjeacDfaA
import Derived.Deep.QuietTactic
import Derived.Lib.QuietBelow
import Derived.BigQuiet
import Derived.LoopTactic
namespace Go.Proofs.Ytohoiebofkmjeac
open Go Go.RowKit
set_option linter.unusedVariables false
theorem below_any (x : Int) (n : Nat) (w : World) :
    Calls Try.prog 43 #[.int .i64 x, .int .i64 n] w fun e w' => e = .returned (.bool (inB x n)) ∧ w = w' := by
  cases h : inB x n
  · have H := Lib.hid h
    by_cases h0 : 0 ≤ x
    · have h1 : ¬ x < (n : Int) := by intro h1; rw [inB_iff.2 ⟨h0, h1⟩] at h; cases h
      clear h
      go_enter Try.func43, Try.ntmps43
      go_wp2_with fail
      go_ret
      exact ⟨rfl, rfl⟩
    · clear h
      go_enter Try.func43, Try.ntmps43
      go_wp2_with fail
      go_ret
      exact ⟨rfl, rfl⟩
  · obtain ⟨h0, h1⟩ := inB_iff.1 h
    clear h
    go_enter Try.func43, Try.ntmps43
    go_wp2_with fail
    go_ret
    exact ⟨rfl, rfl⟩
theorem rowsB_no {d : DF} {i : Nat} (hi : i < d.m) (h : rowB d.L d.n (d.ln i) (d.N i) = false) : rowsB d = false := by
  rw [← Bool.not_eq_true, rowsB_iff]
  intro h2; rw [h2.2 i hi] at h; cases h
theorem rowB_no {L : Int} {n k i : Nat} {f : Nat → Int} (hi : i < k) (h : inB (f i) n = false) : rowB L n k f = false := by
  rw [← Bool.not_eq_true, rowB_iff]
  intro h2; rw [h2.2 i hi] at h; cases h
set_option maxRecDepth 100000 in
set_option maxHeartbeats 4000000 in
theorem vrows_any (d : DF) (af : Option Addr) (cf : Nat) (an : Option Addr) (cn : Nat) (w : World) (hin : InD w d af an) :
    Calls Try.prog 46 #[dV d af cf an cn] w fun e w' => e = .returned (.bool (rowsB d)) ∧ Below w.heap.size w w' := by
  have HI := Lib.hid hin
  have hmm := hin.mm
  have HB0 := Lib.hid ((Below.refl w.heap.size w).alloc (Nat.le_refl _) (dO d af cf an cn))
  clear hin
  by_cases hmn : d.m = d.n
  · have hmn' : (d.m : Int) = (d.n : Int) := by omega
    have HMN := Lib.hid hmn
    have t0 : ((d.m : Int) != (d.n : Int)) = false := by rw [hmn']; simp
    clear hmn'
    clear hmn
    go_enter Try.func46, Try.ntmps46
    go_wp2_with fail
    go_loopw [17] (fun vi wr => ∃ i : Nat, i ≤ d.m ∧ vi = .int .i64 i ∧ (∀ j, j < i → rowB d.L d.n (d.ln j) (d.N j) = true) ∧ Below (w.heap.size + 1) (w.alloc (.cells #[.int .i64 d.L, .int .i64 d.S, .slice af d.n cf, .slice an d.m cn] 25)) wr) (fun vi _ => d.m - (intOf vi).toNat)
    case atStart => exact ⟨0, Nat.zero_le _, rfl, fun j hj => by omega, Below.refl _ _⟩
    case round =>
      rename World => wA
      obtain ⟨i, hi, rfl, hall, hb⟩ := hrel
      have HA := Lib.hid hall
      have HB := Lib.hid hb
      obtain ⟨z0, z1, z2, z3⟩ := dbox_cells hb
      clear hall hb
      by_cases hlt : i < d.m
      · have hle : i < d.m := hlt
        have HIN := Lib.hid ((HI.out.box (.cells #[.int .i64 d.L, .int .i64 d.S, .slice af d.n cf, .slice an d.m cn] 25)).keep (HB.out.mono (by simp)))
        obtain ⟨b, off, r, c, rfl, hbz, hcell, hrow⟩ := HIN.out.nxt.at hle
        have hlm := HIN.out.lm i hle
        have HR := Lib.hid hrow
        obtain ⟨k, hk⟩ : ∃ k, k = d.ln i := ⟨_, rfl⟩
        have HNO := Lib.hid (fun h => rowsB_no (d := d) hle h)
        have HRB := Lib.hid (@rowB_iff d.L d.n (d.ln i) (d.N i))
        have HRN := Lib.hid (fun x (hx : x < d.ln i) h => rowB_no (L := d.L) (n := d.n) (f := d.N i) hx h)
        have HBN := Lib.hid (fun x => HIN.out.bN i x hle)
        rw [← hk] at hcell hlm HR HRB HNO HRN HBN
        obtain ⟨f, hf⟩ : ∃ f, f = d.N i := ⟨_, rfl⟩
        rw [show rowsV d.N i = intsV (d.N i) from rfl, ← hf] at HR
        rw [← hf] at HRB HNO HRN HBN
        have HLN := Lib.hid hk
        have HF := Lib.hid hf
        have hi0 : (0 : Int) ≤ (i : Int) := by omega
        have hin2 : (i : Int) < (d.m : Int) := by omega
        have hwi : IntKind.i64.wrap (i : Int) = (i : Int) := IntWalk.i64_in _ (by omega)
        clear hrow hk hf hle
        by_cases hkL : (k : Int) = d.L
        · have t1 : ((k : Int) != d.L) = false := by rw [hkL]; simp
          have HKL := Lib.hid hkL
          clear hkL
          go_wp2_with fail
          go_loopw [28] (fun vj wq => ∃ j : Nat, j ≤ k ∧ vj = .int .i64 j ∧ (∀ x, x < j → inB (f x) d.n = true) ∧ wq = wA) (fun vj _ => k - (intOf vj).toNat)
          case atStart => exact ⟨0, Nat.zero_le _, rfl, fun j hj => by omega, rfl⟩
          case round =>
            rename World => wB
            obtain ⟨j, hj, rfl, hin3, rfl⟩ := hrel
            have HX := Lib.hid hin3
            clear hin3
            by_cases hjk : j < k
            · obtain ⟨b2, off2, rfl, hb2, hc2⟩ := HR.out.at hjk
              have hc2 : _ = some (Value.int .i64 (f j)) := hc2
              have hj0 : (0 : Int) ≤ (j : Int) := by omega
              have hjn : (j : Int) < (k : Int) := by omega
              have hwj : IntKind.i64.wrap (j : Int) = (j : Int) := IntWalk.i64_in _ (by omega)
              cases hbl : inB (f j) d.n
              · have HBL := Lib.hid hbl
                have HF2 := Lib.hid (HNO.out (HRN.out j hjk hbl))
                clear hbl
                go_wp2_with fail
                refine (below_any _ _ _).mono ?_
                rintro e w' ⟨rfl, rfl⟩
                rw [HBL.out]
                go_wp2_with fail
                go_ret
                exact ⟨by rw [HF2.out]; rfl, below_dbox HB.out⟩
              · have HBL := Lib.hid hbl
                clear hbl
                go_wp2_with fail
                refine (below_any _ _ _).mono ?_
                rintro e w' ⟨rfl, rfl⟩
                rw [HBL.out]
                go_wp2_with fail
                exact ⟨⟨j + 1, by omega, by go_num, fun x hx => by
                  by_cases e : x = j
                  · rw [e]; exact HBL.out
                  · exact HX.out x (by omega), trivial⟩, by simp [intOf]; omega⟩
            · obtain rfl : j = k := by omega
              have HN := Lib.hid (HRB.out.2 ⟨HKL.out, HX.out⟩)
              go_wp2_with fail
              exact ⟨⟨i + 1, by omega, by go_num, fun t ht => by
                by_cases e : t = i
                · rw [e, ← HLN.out, ← HF.out]; exact HN.out
                · exact HA.out t (by omega), HB.out⟩, by simp [intOf]; omega⟩
        · have HF2 := Lib.hid (HNO.out (by rw [← Bool.not_eq_true, HRB.out]; exact fun h => hkL h.1))
          have t1 : ((k : Int) != d.L) = true := by simpa using hkL
          clear hkL
          go_wp2_with fail
          go_ret
          exact ⟨by rw [HF2.out]; rfl, below_dbox HB.out⟩
      · obtain rfl : i = d.m := by omega
        have HF := Lib.hid (show rowsB d = true from rowsB_iff.2 ⟨HMN.out, HA.out⟩)
        go_wp2_with fail
        go_ret
        exact ⟨by rw [HF.out]; rfl, below_dbox HB.out⟩
  · have HF := Lib.hid (show rowsB d = false by rw [← Bool.not_eq_true, rowsB_iff]; exact fun h => hmn h.1)
    have t0 : ((d.m : Int) != (d.n : Int)) = true := by simp; omega
    clear hmn
    go_enter Try.func46, Try.ntmps46
    go_wp2_with fail
    go_ret
    exact ⟨by rw [HF.out]; rfl, HB0.out⟩
theorem hdB_cases {d : DF} (h : hdB d = false) : d.L < 1 ∨ (1 ≤ d.L ∧ 6 < d.L) := by
  rw [← Bool.not_eq_true, hdB_iff] at h; omega
set_option maxRecDepth 100000 in
set_option maxHeartbeats 4000000 in
theorem dvalidate_any (d : DF) (af : Option Addr) (cf : Nat) (an : Option Addr) (cn : Nat) (w : World) (hin : InD w d af an) :
    Calls Try.prog 32 #[dV d af cf an cn] w fun e w' => e = .returned (.int .i64 (errD d)) ∧ Below w.heap.size w w' := by
  have HI := Lib.hid hin
  have HQ := Lib.hid (fun W (h : InD W d af an) => vrows_any d af cf an cn W h)
  have HB0 := Lib.hid ((Below.refl w.heap.size w).alloc (Nat.le_refl _) (dO d af cf an cn))
  have HI0 := Lib.hid (HI.out.box (dO d af cf an cn))
  have hnm := hin.nm
  clear hin
  cases h1 : hdB d
  · have HF := Lib.hid (errD_head h1)
    have hc := hdB_cases h1
    clear h1
    rcases hc with h | ⟨h, h2⟩
    all_goals
      go_enter Try.func32, Try.ntmps32
      go_wp2_with fail
      go_ret
      exact ⟨by rw [HF.out]; rfl, HB0.out⟩
  obtain ⟨b1, b2⟩ := hdB_iff.1 h1
  have H1 := Lib.hid h1
  clear h1
  by_cases h2 : 512 < d.n
  · have HF := Lib.hid (errD_many H1.out h2)
    have t2 : (512 : Int) < (d.n : Int) := by omega
    clear h2
    go_enter Try.func32, Try.ntmps32
    go_wp2_with fail
    go_ret
    exact ⟨by rw [HF.out]; rfl, HB0.out⟩
  have t2 : ¬ (512 : Int) < (d.n : Int) := by omega
  have H2 := Lib.hid h2
  clear h2
  cases h3 : inB d.S d.n
  · have HF := Lib.hid (errD_start H1.out H2.out h3)
    have H3 := Lib.hid h3
    clear h3
    go_enter Try.func32, Try.ntmps32
    go_wp2_with fail
    refine (below_any _ _ _).mono ?_
    rintro e w' ⟨rfl, rfl⟩
    rw [H3.out]
    go_wp2_with fail
    go_ret
    exact ⟨by rw [HF.out]; rfl, HB0.out⟩
  have H3 := Lib.hid h3
  clear h3
  cases h4 : rowsB d
  · have HF := Lib.hid (errD_rows H1.out H2.out h4)
    have H4 := Lib.hid h4
    clear h4
    go_enter Try.func32, Try.ntmps32
    go_wp2_with fail
    refine (below_any _ _ _).mono ?_
    rintro e w' ⟨rfl, rfl⟩
    rw [H3.out]
    go_wp2_with fail
    refine (HQ.out _ HI0.out).mono ?_
    rintro e w2 ⟨rfl, hB⟩
    rw [H4.out]
    have HB2 := Lib.hid (HB0.out.trans (hB.mono (by simp)))
    clear hB
    go_wp2_with fail
    go_ret
    exact ⟨by rw [HF.out]; rfl, HB2.out⟩
  · have HF := Lib.hid (errD_good H1.out H2.out H3.out h4)
    have H4 := Lib.hid h4
    clear h4
    go_enter Try.func32, Try.ntmps32
    go_wp2_with fail
    refine (below_any _ _ _).mono ?_
    rintro e w' ⟨rfl, rfl⟩
    rw [H3.out]
    go_wp2_with fail
    refine (HQ.out _ HI0.out).mono ?_
    rintro e w2 ⟨rfl, hB⟩
    rw [H4.out]
    have HB2 := Lib.hid (HB0.out.trans (hB.mono (by simp)))
    clear hB
    go_wp2_with fail
    go_ret
    exact ⟨by rw [HF.out]; rfl, HB2.out⟩
set_option maxHeartbeats 1000000 in
theorem dvalid_any (d : DF) (af : Option Addr) (cf : Nat) (an : Option Addr) (cn : Nat) (w : World) (hin : InD w d af an) :
    Calls Try.prog 23 #[dV d af cf an cn] w fun e w' => e = .returned (.bool (valD d)) ∧ Below w.heap.size w w' := by
  have HI := Lib.hid hin
  have HQ := Lib.hid (fun W (h : InD W d af an) => dvalidate_any d af cf an cn W h)
  have HE := Lib.hid (errD_eq0 d)
  have HB0 := Lib.hid ((Below.refl w.heap.size w).alloc (Nat.le_refl _) (dO d af cf an cn))
  have HI0 := Lib.hid (HI.out.box (dO d af cf an cn))
  obtain ⟨r, hr⟩ : ∃ r, r = errD d := ⟨_, rfl⟩
  rw [← hr] at HE HQ
  clear hin hr
  go_enter Try.func23, Try.ntmps23
  go_wp2_with fail
  refine (HQ.out _ HI0.out).mono ?_
  rintro e w2 ⟨rfl, hB⟩
  have HB2 := Lib.hid (HB0.out.trans (hB.mono (by simp)))
  clear hB
  go_wp2_with fail
  go_ret
  exact ⟨by rw [← HE.out]; rfl, HB2.out⟩
end Go.Proofs.Ytohoiebofkmjeac
