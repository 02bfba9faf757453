/- Contracts: Accepts; Run, Accepts of an automaton that is not valid; the reference's Run, Accepts. -/
import Derived.Test.YtohoiebofkmjeaaDfaR
namespace Go.Proofs.Ytohoiebofkmjeaa
open Go Go.RowKit
open Go.Proofs.Ytohoiebofkmjeaa.wrd.WordM (wordB letB mayB)
set_option linter.unusedVariables false
theorem DF.accV_no {d : DF} {s : ByteArray} (h : wordB d.L s.data.toList = false) : d.accV s = false := by simp [DF.accV, h]
theorem DF.accV_yes {d : DF} {s : ByteArray} (h : wordB d.L s.data.toList = true) : d.accV s = d.F (d.run d.S.toNat (letsD s)) := by simp [DF.accV, h]
set_option maxRecDepth 100000 in
set_option maxHeartbeats 2000000 in
theorem accepts_ok (d : DF) (af : Option Addr) (cf : Nat) (an : Option Addr) (cn : Nat) (s : ByteArray) (w : World) (hin : InD w d af an) (hv : OkD d) :
    Calls Try.prog 13 #[dV d af cf an cn, .string s] w fun e w' => e = .returned (.bool (d.accV s)) ∧ Below w.heap.size w w' := by
  obtain ⟨W0, HW⟩ : ∃ W0, BoxD w W0 d af cf an cn := ⟨_, ⟨rfl⟩⟩
  have HI := Lib.hid (HW.in hin)
  have HZ := Lib.hid (fun w' hb => @BoxD.cells w W0 d af cf an cn HW w' hb)
  have HOUT := Lib.hid (fun w' hb => @BoxD.out w W0 d af cf an cn HW w' hb)
  have HSZ := Lib.hid HW.size
  have HB0 := Lib.hid (show Below (w.heap.size + 1) W0 W0 from Below.refl _ _)
  have HWE := Lib.hid HW.eq
  have HQ := Lib.hid (fun W (h : InD W d af an) => run_ok d af cf an cn d.S s W h hv)
  have hS : inB d.S d.n = true := inB_iff.2 ⟨hv.s1, hv.s2⟩
  have hnm := hv.n2
  clear hin HW
  cases hw : wordB d.L s.data.toList
  · rw [DF.runV_no hw] at HQ
    have HF := Lib.hid (DF.accV_no hw)
    clear hw hv hS
    go_enter Try.func13, Try.ntmps13
    go_wp2_with fail
    rw [← HWE.out]
    refine (HQ.out _ HI.out).mono ?_
    rintro e w2 ⟨rfl, hB⟩
    have HB1 := Lib.hid (HB0.out.trans (hB.mono (by rw [HSZ.out]; exact Nat.le_refl _)))
    clear hB
    go_wp2_with fail
    go_ret
    exact ⟨by rw [HF.out]; rfl, HOUT.out _ HB1.out⟩
  · rw [DF.runV_yes hS hw] at HQ
    have hlt := hv.runVlt hS hw
    have HF := Lib.hid (DF.accV_yes hw)
    obtain ⟨t, ht⟩ : ∃ t, t = d.run d.S.toNat (letsD s) := ⟨_, rfl⟩
    rw [← ht] at HQ hlt HF
    obtain ⟨b, off, rfl, hbz, hcell0⟩ := HI.out.fin.at hlt
    rw [show boolsV d.F t = .bool (d.F t) from rfl] at hcell0
    have HC := Lib.hid hcell0
    have HBZ := Lib.hid (show b < w.heap.size + 1 by rw [← HSZ.out]; exact hbz)
    obtain ⟨v, hvv⟩ : ∃ v, v = d.F t := ⟨_, rfl⟩
    rw [← hvv] at HC HF
    have ht0 : (0 : Int) ≤ (t : Int) := by omega
    have htn : (t : Int) < (d.n : Int) := by omega
    clear hw hv hS ht hvv hcell0 hbz
    go_enter Try.func13, Try.ntmps13
    go_wp2_with fail
    rw [← HWE.out]
    refine (HQ.out _ HI.out).mono ?_
    rintro e w2 ⟨rfl, hB⟩
    have HB1 := Lib.hid (HB0.out.trans (hB.mono (by rw [HSZ.out]; exact Nat.le_refl _)))
    obtain ⟨z0, z1, z2, z3⟩ := HZ.out _ HB1.out
    have hcell := (HB1.out.cell (p := ⟨b, off + t, none⟩) HBZ.out).trans HC.out
    clear hB
    go_wp2_with fail
    go_ret
    exact ⟨by rw [HF.out]; rfl, HOUT.out _ HB1.out⟩
set_option maxHeartbeats 1000000 in
theorem run_bad (d : DF) (af : Option Addr) (cf : Nat) (an : Option Addr) (cn : Nat) (q : Int) (s : ByteArray) (w : World) (hin : InD w d af an) (hv : valD d = false) :
    Calls Try.prog 12 #[dV d af cf an cn, .int .i64 q, .string s] w fun e w' => e = .returned (.int .i64 (-1)) ∧ Below w.heap.size w w' := by
  have HI := Lib.hid (hin.box (dO d af cf an cn))
  have HB0 := Lib.hid ((Below.refl w.heap.size w).alloc (Nat.le_refl _) (dO d af cf an cn))
  have HQ := Lib.hid (fun W (h : InD W d af an) => dvalid_any d af cf an cn W h)
  rw [hv] at HQ
  clear hin hv
  go_enter Try.func12, Try.ntmps12
  go_wp2_with fail
  refine (HQ.out _ HI.out).mono ?_
  rintro e w2 ⟨rfl, hB⟩
  have HB1 := Lib.hid (HB0.out.trans (hB.mono (by simp)))
  clear hB
  go_wp2_with fail
  go_ret
  exact ⟨rfl, HB1.out⟩
set_option maxHeartbeats 1000000 in
theorem accepts_bad (d : DF) (af : Option Addr) (cf : Nat) (an : Option Addr) (cn : Nat) (s : ByteArray) (w : World) (hin : InD w d af an) (hv : valD d = false) :
    Calls Try.prog 13 #[dV d af cf an cn, .string s] w fun e w' => e = .returned (.bool false) ∧ Below w.heap.size w w' := by
  have HI := Lib.hid (hin.box (dO d af cf an cn))
  have HB0 := Lib.hid ((Below.refl w.heap.size w).alloc (Nat.le_refl _) (dO d af cf an cn))
  have HQ := Lib.hid (fun W (h : InD W d af an) => run_bad d af cf an cn d.S s W h hv)
  clear hin hv
  go_enter Try.func13, Try.ntmps13
  go_wp2_with fail
  refine (HQ.out _ HI.out).mono ?_
  rintro e w2 ⟨rfl, hB⟩
  have HB1 := Lib.hid (HB0.out.trans (hB.mono (by simp)))
  clear hB
  go_wp2_with fail
  go_ret
  exact ⟨rfl, HB1.out⟩
set_option maxRecDepth 100000 in
set_option maxHeartbeats 4000000 in
/-- the reference's Run -/
theorem rrun_ok (d : DF) (af : Option Addr) (cf : Nat) (an : Option Addr) (cn : Nat) (q : Int) (s : ByteArray) (w : World) (hin : InD w d af an) (hv : OkD d) :
    Calls Try.prog 15 #[dV d af cf an cn, .int .i64 q, .string s] w fun e w' => e = .returned (.int .i64 (d.runV q s)) ∧ Below w.heap.size w w' := by
  obtain ⟨W0, HW⟩ : ∃ W0, BoxD w W0 d af cf an cn := ⟨_, ⟨rfl⟩⟩
  have HI := Lib.hid (HW.in hin)
  have HZ := Lib.hid (fun w' hb => @BoxD.cells w W0 d af cf an cn HW w' hb)
  have HOUT := Lib.hid (fun w' hb => @BoxD.out w W0 d af cf an cn HW w' hb)
  have HSZ := Lib.hid HW.size
  have HB0 := Lib.hid (show Below (w.heap.size + 1) W0 W0 from Below.refl _ _)
  have HWE := Lib.hid HW.eq
  have HV := Lib.hid hv
  have hnm := hv.n2
  have hmn := hv.mn
  have HMN := Lib.hid hmn
  clear hin hv HW hmn
  cases hq : inB q d.n
  · have HF := Lib.hid (DF.runV_out (s := s) hq)
    by_cases hq0 : q < 0
    · clear hq
      go_enter Try.func15, Try.ntmps15
      go_wp2_with fail
      rw [← HWE.out]
      go_ret
      exact ⟨by rw [HF.out]; rfl, HOUT.out _ HB0.out⟩
    · have hqn : (d.n : Int) ≤ q := by
        apply Int.not_lt.1; intro h; rw [inB_iff.2 ⟨by omega, h⟩] at hq; cases hq
      clear hq
      go_enter Try.func15, Try.ntmps15
      go_wp2_with fail
      rw [← HWE.out]
      go_ret
      exact ⟨by rw [HF.out]; rfl, HOUT.out _ HB0.out⟩
  cases hw : wordB d.L s.data.toList
  · have HF := Lib.hid (DF.runV_no (q := q) hw)
    obtain ⟨hq1, hq2⟩ := inB_iff.1 hq
    have H2 := Lib.hid hw
    clear hq hw
    go_enter Try.func15, Try.ntmps15
    go_wp2_with fail
    rw [← HWE.out]
    refine (wrd.rvalid_any _ _ _).mono ?_
    rintro e w' ⟨rfl, rfl⟩
    rw [H2.out]
    go_wp2_with fail
    go_ret
    exact ⟨by rw [HF.out]; rfl, HOUT.out _ HB0.out⟩
  · have HF := Lib.hid (DF.runV_yes hq hw)
    have H2 := Lib.hid hw
    have hq2 := inB_iff.1 hq
    have hsz := word_size hw
    have HL := Lib.hid (fun i hi => @word_letter d.L s hw i hi)
    obtain ⟨q0, hq0⟩ : ∃ q0, q0 = q.toNat := ⟨_, rfl⟩
    have HRT := Lib.hid (fun i => HV.out.runTake (q := q0) (by omega) hw i)
    rw [← hq0] at HF
    obtain rfl : q = (q0 : Int) := by omega
    have hqq : (0 : Int) ≤ (q0 : Int) := by omega
    have hqn : (q0 : Int) < (d.n : Int) := by omega
    clear hq hw hq0 hq2
    go_enter Try.func15, Try.ntmps15
    go_wp2_with fail
    rw [← HWE.out]
    refine (wrd.rvalid_any _ _ _).mono ?_
    rintro e w' ⟨rfl, rfl⟩
    rw [H2.out]
    go_wp2_with fail
    go_loopw [1, 7] (fun vs vi wr => ∃ i : Nat, i ≤ s.size ∧ vi = .int .i64 i ∧ vs = .int .i64 (d.run q0 ((letsD s).take i) : Nat) ∧ Below (w.heap.size + 1) W0 wr) (fun _ vi _ => s.size - (intOf vi).toNat)
    case atStart => exact ⟨0, Nat.zero_le _, rfl, rfl, HB0.out⟩
    case round =>
      rename World => wA
      obtain ⟨i, hi, rfl, rfl, hb⟩ := hrel
      have HB := Lib.hid hb
      obtain ⟨z0, z1, z2, z3⟩ := HZ.out _ hb
      clear hb
      by_cases hlt : i < s.size
      · obtain ⟨l1, l2⟩ := HL.out i hlt
        have hb8 := (s[i]'hlt).toNat_lt
        obtain ⟨x, hx⟩ : ∃ x, x = (s[i]'hlt).toNat - 97 := ⟨_, rfl⟩
        have HT := Lib.hid (show d.run q0 ((letsD s).take (i + 1)) = d.nx (d.run q0 ((letsD s).take i)) x by rw [letsD_take hlt, DF.run_snoc, hx])
        have hcu := HRT.out i
        obtain ⟨cur, hc⟩ : ∃ t, t = d.run q0 ((letsD s).take i) := ⟨_, rfl⟩
        rw [← hc] at hcu HT ⊢
        have hxL : (x : Int) < d.L := by omega
        have hlnq := HV.out.ln cur hcu
        have hne := HV.out.nxeq hcu hxL
        have hxk : x < d.ln cur := by omega
        obtain ⟨b, off, r, c', rfl, hbz, hcell0, hrow⟩ := HI.out.nxt.at (i := cur) (by rw [HMN.out]; exact hcu)
        have hcell := (HB.out.cell (p := ⟨b, off + cur, none⟩) (by rw [← HSZ.out]; exact hbz)).trans hcell0
        obtain ⟨b2, off2, rfl, hb2, hc2⟩ := (hrow.keep (by rw [HSZ.out]; exact HB.out)).at hxk
        rw [show rowsV d.N cur x = .int .i64 (d.N cur x) from rfl, hne] at hc2
        obtain ⟨k, hk⟩ : ∃ k, k = d.ln cur := ⟨_, rfl⟩
        rw [← hk] at hcell hxk
        obtain ⟨t, ht⟩ : ∃ t, t = d.nx cur x := ⟨_, rfl⟩
        rw [← ht] at hc2 HT
        have hw8 : IntKind.u8.wrap (((s[i]'hlt).toNat : Int) - 97) = (x : Int) := by
          have := wrd.WordM.w8sub l1; simp [IntKind.wrap, IntKind.bits, IntKind.signed]; omega
        have hi0 : (0 : Int) ≤ (i : Int) := by omega
        have hin2 : (i : Int) < (s.size : Int) := by omega
        have hwi : IntKind.i64.wrap (i : Int) = (i : Int) := IntWalk.i64_in _ (by omega)
        have hc0 : (0 : Int) ≤ (cur : Int) := by omega
        have hcn : (cur : Int) < (d.m : Int) := by rw [HMN.out]; omega
        have hx0 : (0 : Int) ≤ (x : Int) := by omega
        have hxk2 : (x : Int) < (k : Int) := by omega
        have hwx : IntKind.i64.wrap (x : Int) = (x : Int) := IntWalk.i64_in _ (by omega)
        clear hc hx hne hlnq hcell0 hrow hk ht hxk hxL
        go_wp2_with fail
        go_quiet (fail)
        have HB2 := Lib.hid (below_drewN HB.out nq)
        go_wp2_with fail
        exact ⟨⟨i + 1, by omega, by go_num, by rw [HT.out], HB2.out⟩, by simp [intOf]; omega⟩
      · obtain rfl : i = s.size := by omega
        have HE := Lib.hid (show (letsD s).take s.size = letsD s by rw [← letsD_len, List.take_length])
        rw [HE.out]
        go_wp2_with fail
        go_ret
        exact ⟨by rw [HF.out]; rfl, HOUT.out _ HB.out⟩
set_option maxRecDepth 100000 in
set_option maxHeartbeats 2000000 in
theorem raccepts_ok (d : DF) (af : Option Addr) (cf : Nat) (an : Option Addr) (cn : Nat) (s : ByteArray) (w : World) (hin : InD w d af an) (hv : OkD d) :
    Calls Try.prog 16 #[dV d af cf an cn, .string s] w fun e w' => e = .returned (.bool (d.accV s)) ∧ Below w.heap.size w w' := by
  obtain ⟨W0, HW⟩ : ∃ W0, BoxD w W0 d af cf an cn := ⟨_, ⟨rfl⟩⟩
  have HI := Lib.hid (HW.in hin)
  have HZ := Lib.hid (fun w' hb => @BoxD.cells w W0 d af cf an cn HW w' hb)
  have HOUT := Lib.hid (fun w' hb => @BoxD.out w W0 d af cf an cn HW w' hb)
  have HSZ := Lib.hid HW.size
  have HB0 := Lib.hid (show Below (w.heap.size + 1) W0 W0 from Below.refl _ _)
  have HWE := Lib.hid HW.eq
  have HQ := Lib.hid (fun W (h : InD W d af an) => rrun_ok d af cf an cn d.S s W h hv)
  have hS : inB d.S d.n = true := inB_iff.2 ⟨hv.s1, hv.s2⟩
  have hnm := hv.n2
  clear hin HW
  cases hw : wordB d.L s.data.toList
  · rw [DF.runV_no hw] at HQ
    have HF := Lib.hid (DF.accV_no hw)
    clear hw hv hS
    go_enter Try.func16, Try.ntmps16
    go_wp2_with fail
    rw [← HWE.out]
    refine (HQ.out _ HI.out).mono ?_
    rintro e w2 ⟨rfl, hB⟩
    have HB1 := Lib.hid (HB0.out.trans (hB.mono (by rw [HSZ.out]; exact Nat.le_refl _)))
    clear hB
    go_wp2_with fail
    go_ret
    exact ⟨by rw [HF.out]; rfl, HOUT.out _ HB1.out⟩
  · rw [DF.runV_yes hS hw] at HQ
    have hlt := hv.runVlt hS hw
    have HF := Lib.hid (DF.accV_yes hw)
    obtain ⟨t, ht⟩ : ∃ t, t = d.run d.S.toNat (letsD s) := ⟨_, rfl⟩
    rw [← ht] at HQ hlt HF
    obtain ⟨b, off, rfl, hbz, hcell0⟩ := HI.out.fin.at hlt
    rw [show boolsV d.F t = .bool (d.F t) from rfl] at hcell0
    have HC := Lib.hid hcell0
    have HBZ := Lib.hid (show b < w.heap.size + 1 by rw [← HSZ.out]; exact hbz)
    obtain ⟨v, hvv⟩ : ∃ v, v = d.F t := ⟨_, rfl⟩
    rw [← hvv] at HC HF
    have ht0 : (0 : Int) ≤ (t : Int) := by omega
    have htn : (t : Int) < (d.n : Int) := by omega
    clear hw hv hS ht hvv hcell0 hbz
    go_enter Try.func16, Try.ntmps16
    go_wp2_with fail
    rw [← HWE.out]
    refine (HQ.out _ HI.out).mono ?_
    rintro e w2 ⟨rfl, hB⟩
    have HB1 := Lib.hid (HB0.out.trans (hB.mono (by rw [HSZ.out]; exact Nat.le_refl _)))
    obtain ⟨z0, z1, z2, z3⟩ := HZ.out _ HB1.out
    have hcell := (HB1.out.cell (p := ⟨b, off + t, none⟩) HBZ.out).trans HC.out
    clear hB
    go_wp2_with fail
    go_ret
    exact ⟨by rw [HF.out]; rfl, HOUT.out _ HB1.out⟩
end Go.Proofs.Ytohoiebofkmjeaa
