/- Contracts: Accepts; Run, Accepts of an automaton that is not valid; the reference's Run, Accepts. -/
import Derived.Test.YtohoiebofkmjeacDfaR
namespace Go.Proofs.Ytohoiebofkmjeac
open Go Go.RowKit
open Go.Proofs.Ytohoiebofkmjeac.wrd.WordM (wordB letB mayB)
set_option linter.unusedVariables false
theorem DF.accV_no {d : DF} {s : ByteArray} (h : wordB d.L s.data.toList = false) : d.accV s = false := by simp [DF.accV, h]
theorem DF.accV_yes {d : DF} {s : ByteArray} (h : wordB d.L s.data.toList = true) : d.accV s = d.F (d.run d.S.toNat (letsD s)) := by simp [DF.accV, h]
set_option maxRecDepth 100000 in
set_option maxHeartbeats 2000000 in
theorem accepts_ok (d : DF) (af : Option Addr) (cf : Nat) (an : Option Addr) (cn : Nat) (s : ByteArray) (w : World) (hin : InD w d af an) (hv : OkD d) :
    Calls Try.prog 9 #[dV d af cf an cn, .string s] w fun e w' => e = .returned (.bool (d.accV s)) ∧ Below w.heap.size w w' := by
  obtain ⟨W0, HW⟩ : ∃ W0, BoxD w W0 d af cf an cn := ⟨_, ⟨rfl⟩⟩
  have HI := Lib.hid (HW.in hin)
  have HZ := Lib.hid (fun w' hb => @BoxD.cells w W0 d af cf an cn HW w' hb)
  have HOUT := Lib.hid (fun w' hb => @BoxD.out w W0 d af cf an cn HW w' hb)
  have HSZ := Lib.hid HW.size
  have HB0 := Lib.hid (show Below (w.heap.size + 1) W0 W0 from Below.refl _ _)
  have HWE := Lib.hid HW.eq
  have HQ := Lib.hid (fun W (h : InD W d af an) => run_ok d af cf an cn d.S s W h hv)
  have hS : inB d.S d.n = true := inB_iff.2 ⟨hv.s1, hv.s2⟩
  have hnm := hv.n2
  clear hin HW
  cases hw : wordB d.L s.data.toList
  · rw [DF.runV_no hw] at HQ
    have HF := Lib.hid (DF.accV_no hw)
    clear hw hv hS
    go_enter Try.func9, Try.ntmps9
    go_wp2_with fail
    rw [← HWE.out]
    refine (HQ.out _ HI.out).mono ?_
    rintro e w2 ⟨rfl, hB⟩
    have HB1 := Lib.hid (HB0.out.trans (hB.mono (by rw [HSZ.out]; exact Nat.le_refl _)))
    clear hB
    go_wp2_with fail
    go_ret
    exact ⟨by rw [HF.out]; rfl, HOUT.out _ HB1.out⟩
  · rw [DF.runV_yes hS hw] at HQ
    have hlt := hv.runVlt hS hw
    have HF := Lib.hid (DF.accV_yes hw)
    obtain ⟨t, ht⟩ : ∃ t, t = d.run d.S.toNat (letsD s) := ⟨_, rfl⟩
    rw [← ht] at HQ hlt HF
    obtain ⟨b, off, rfl, hbz, hcell0⟩ := HI.out.fin.at hlt
    rw [show boolsV d.F t = .bool (d.F t) from rfl] at hcell0
    have HC := Lib.hid hcell0
    have HBZ := Lib.hid (show b < w.heap.size + 1 by rw [← HSZ.out]; exact hbz)
    obtain ⟨v, hvv⟩ : ∃ v, v = d.F t := ⟨_, rfl⟩
    rw [← hvv] at HC HF
    have ht0 : (0 : Int) ≤ (t : Int) := by omega
    have htn : (t : Int) < (d.n : Int) := by omega
    clear hw hv hS ht hvv hcell0 hbz
    go_enter Try.func9, Try.ntmps9
    go_wp2_with fail
    rw [← HWE.out]
    refine (HQ.out _ HI.out).mono ?_
    rintro e w2 ⟨rfl, hB⟩
    have HB1 := Lib.hid (HB0.out.trans (hB.mono (by rw [HSZ.out]; exact Nat.le_refl _)))
    obtain ⟨z0, z1, z2, z3⟩ := HZ.out _ HB1.out
    have hcell := (HB1.out.cell (p := ⟨b, off + t, none⟩) HBZ.out).trans HC.out
    clear hB
    go_wp2_with fail
    go_ret
    exact ⟨by rw [HF.out]; rfl, HOUT.out _ HB1.out⟩
set_option maxHeartbeats 1000000 in
theorem run_bad (d : DF) (af : Option Addr) (cf : Nat) (an : Option Addr) (cn : Nat) (q : Int) (s : ByteArray) (w : World) (hin : InD w d af an) (hv : valD d = false) :
    Calls Try.prog 26 #[dV d af cf an cn, .int .i64 q, .string s] w fun e w' => e = .returned (.int .i64 (-1)) ∧ Below w.heap.size w w' := by
  have HI := Lib.hid (hin.box (dO d af cf an cn))
  have HB0 := Lib.hid ((Below.refl w.heap.size w).alloc (Nat.le_refl _) (dO d af cf an cn))
  have HQ := Lib.hid (fun W (h : InD W d af an) => dvalid_any d af cf an cn W h)
  rw [hv] at HQ
  clear hin hv
  go_enter Try.func26, Try.ntmps26
  go_wp2_with fail
  refine (HQ.out _ HI.out).mono ?_
  rintro e w2 ⟨rfl, hB⟩
  have HB1 := Lib.hid (HB0.out.trans (hB.mono (by simp)))
  clear hB
  go_wp2_with fail
  go_ret
  exact ⟨rfl, HB1.out⟩
set_option maxHeartbeats 1000000 in
theorem accepts_bad (d : DF) (af : Option Addr) (cf : Nat) (an : Option Addr) (cn : Nat) (s : ByteArray) (w : World) (hin : InD w d af an) (hv : valD d = false) :
    Calls Try.prog 9 #[dV d af cf an cn, .string s] w fun e w' => e = .returned (.bool false) ∧ Below w.heap.size w w' := by
  have HI := Lib.hid (hin.box (dO d af cf an cn))
  have HB0 := Lib.hid ((Below.refl w.heap.size w).alloc (Nat.le_refl _) (dO d af cf an cn))
  have HQ := Lib.hid (fun W (h : InD W d af an) => run_bad d af cf an cn d.S s W h hv)
  clear hin hv
  go_enter Try.func9, Try.ntmps9
  go_wp2_with fail
  refine (HQ.out _ HI.out).mono ?_
  rintro e w2 ⟨rfl, hB⟩
  have HB1 := Lib.hid (HB0.out.trans (hB.mono (by simp)))
  clear hB
  go_wp2_with fail
  go_ret
  exact ⟨rfl, HB1.out⟩
end Go.Proofs.Ytohoiebofkmjeac
