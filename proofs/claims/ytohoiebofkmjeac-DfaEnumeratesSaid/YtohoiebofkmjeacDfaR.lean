/- Contracts: Run, Accepts, the reference's Run, Accepts. -/
import Derived.Test.YtohoiebofkmjeacDfaB
import Derived.Test.YtohoiebofkmjeacWordA
import Derived.Test.YtohoiebofkmjeacWordB
import Derived.StillTailTactics
namespace Go.Proofs.Ytohoiebofkmjeac
open Go Go.RowKit
open Go.Proofs.Ytohoiebofkmjeac.wrd.WordM (wordB letB mayB)
set_option linter.unusedVariables false
theorem word_letter {L : Int} {s : ByteArray} (h : wordB L s.data.toList = true) {i : Nat} (hi : i < s.size) : 97 ≤ ((s[i]'hi).toNat : Int) ∧ ((s[i]'hi).toNat : Int) < 97 + L := by
  simp only [wordB, Bool.and_eq_true, List.all_eq_true] at h
  exact wrd.WordM.letB_iff.1 (h.2 _ (by simp; exact Array.getElem_mem _))
theorem word_size {L : Int} {s : ByteArray} (h : wordB L s.data.toList = true) : s.size ≤ 2048 := by
  simp only [wordB, Bool.and_eq_true, decide_eq_true_eq] at h
  have := h.1.2
  simpa using this
theorem lets_lt {L : Int} {s : ByteArray} (h : wordB L s.data.toList = true) : ∀ x, x ∈ letsD s → (x : Int) < L := by
  intro x hx
  simp only [letsD, List.mem_map] at hx
  obtain ⟨b, hb, rfl⟩ := hx
  simp only [wordB, Bool.and_eq_true, List.all_eq_true] at h
  have := wrd.WordM.letB_iff.1 (h.2 b hb)
  omega
/-- to which state a word leads, in a valid automaton -/
def DF.runV (d : DF) (q : Int) (s : ByteArray) : Int := if inB q d.n = true ∧ wordB d.L s.data.toList = true then (d.run q.toNat (letsD s) : Int) else -1
theorem DF.runV_out {d : DF} {q : Int} {s : ByteArray} (h : inB q d.n = false) : d.runV q s = -1 := by simp [DF.runV, h]
theorem DF.runV_no {d : DF} {q : Int} {s : ByteArray} (h : wordB d.L s.data.toList = false) : d.runV q s = -1 := by simp [DF.runV, h]
theorem DF.runV_yes {d : DF} {q : Int} {s : ByteArray} (h : inB q d.n = true) (h2 : wordB d.L s.data.toList = true) : d.runV q s = (d.run q.toNat (letsD s) : Nat) := by simp [DF.runV, h, h2]
/-- .. and whether it is accepted -/
def DF.accV (d : DF) (s : ByteArray) : Bool := wordB d.L s.data.toList && d.F (d.run d.S.toNat (letsD s))
theorem OkD.runVlt {d : DF} (h : OkD d) {q : Int} {s : ByteArray} (hq : inB q d.n = true) (hw : wordB d.L s.data.toList = true) : d.run q.toNat (letsD s) < d.n :=
  h.runlt _ _ (by have := inB_iff.1 hq; omega) (lets_lt hw)
theorem OkD.runTake {d : DF} (h : OkD d) {q : Nat} {s : ByteArray} (hq : q < d.n) (hw : wordB d.L s.data.toList = true) (i : Nat) : d.run q ((letsD s).take i) < d.n :=
  h.runlt _ _ hq fun x hx => lets_lt hw x (List.mem_of_mem_take hx)
set_option maxRecDepth 100000 in
set_option maxHeartbeats 4000000 in
/-- Run -/
theorem run_ok (d : DF) (af : Option Addr) (cf : Nat) (an : Option Addr) (cn : Nat) (q : Int) (s : ByteArray) (w : World) (hin : InD w d af an) (hv : OkD d) :
    Calls Try.prog 26 #[dV d af cf an cn, .int .i64 q, .string s] w fun e w' => e = .returned (.int .i64 (d.runV q s)) ∧ Below w.heap.size w w' := by
  obtain ⟨W0, HW⟩ : ∃ W0, BoxD w W0 d af cf an cn := ⟨_, ⟨rfl⟩⟩
  have HI := Lib.hid (HW.in hin)
  have HZ := Lib.hid (fun w' hb => @BoxD.cells w W0 d af cf an cn HW w' hb)
  have HOUT := Lib.hid (fun w' hb => @BoxD.out w W0 d af cf an cn HW w' hb)
  have HSZ := Lib.hid HW.size
  have HB0 := Lib.hid (show Below (w.heap.size + 1) W0 W0 from Below.refl _ _)
  have HWE := Lib.hid HW.eq
  have HQ := Lib.hid (fun W (h : InD W d af an) => dvalid_any d af cf an cn W h)
  rw [valD_iff.2 hv] at HQ
  have HV := Lib.hid hv
  have hnm := hv.n2
  have hmn := hv.mn
  have HMN := Lib.hid hmn
  clear hin hv HW hmn
  cases hq : inB q d.n
  · have HF := Lib.hid (DF.runV_out (s := s) hq)
    have H1 := Lib.hid hq
    clear hq
    go_enter Try.func26, Try.ntmps26
    go_wp2_with fail
    rw [← HWE.out]
    refine (HQ.out _ HI.out).mono ?_
    rintro e w2 ⟨rfl, hB⟩
    have HB1 := Lib.hid (HB0.out.trans (hB.mono (by rw [HSZ.out]; exact Nat.le_refl _)))
    obtain ⟨z0, z1, z2, z3⟩ := HZ.out _ HB1.out
    clear hB
    go_wp2_with fail
    refine (below_any _ _ _).mono ?_
    rintro e w' ⟨rfl, rfl⟩
    rw [H1.out]
    go_wp2_with fail
    go_ret
    exact ⟨by rw [HF.out]; rfl, HOUT.out _ HB1.out⟩
  cases hw : wordB d.L s.data.toList
  · have HF := Lib.hid (DF.runV_no (q := q) hw)
    have H1 := Lib.hid hq
    have H2 := Lib.hid hw
    clear hq hw
    go_enter Try.func26, Try.ntmps26
    go_wp2_with fail
    rw [← HWE.out]
    refine (HQ.out _ HI.out).mono ?_
    rintro e w2 ⟨rfl, hB⟩
    have HB1 := Lib.hid (HB0.out.trans (hB.mono (by rw [HSZ.out]; exact Nat.le_refl _)))
    obtain ⟨z0, z1, z2, z3⟩ := HZ.out _ HB1.out
    clear hB
    go_wp2_with fail
    refine (below_any _ _ _).mono ?_
    rintro e w' ⟨rfl, rfl⟩
    rw [H1.out]
    go_wp2_with fail
    refine (wrd.valid_any _ _ _).mono ?_
    rintro e w' ⟨rfl, rfl⟩
    rw [H2.out]
    go_wp2_with fail
    go_ret
    exact ⟨by rw [HF.out]; rfl, HOUT.out _ HB1.out⟩
  · have HF := Lib.hid (DF.runV_yes hq hw)
    have H1 := Lib.hid hq
    have H2 := Lib.hid hw
    have hq2 := inB_iff.1 hq
    have hsz := word_size hw
    have HL := Lib.hid (fun i hi => @word_letter d.L s hw i hi)
    obtain ⟨q0, hq0⟩ : ∃ q0, q0 = q.toNat := ⟨_, rfl⟩
    have HRT := Lib.hid (fun i => HV.out.runTake (q := q0) (by omega) hw i)
    rw [← hq0] at HF
    obtain rfl : q = (q0 : Int) := by omega
    clear hq hw hq0 hq2
    go_enter Try.func26, Try.ntmps26
    go_wp2_with fail
    rw [← HWE.out]
    refine (HQ.out _ HI.out).mono ?_
    rintro e w2 ⟨rfl, hB⟩
    have HB1 := Lib.hid (HB0.out.trans (hB.mono (by rw [HSZ.out]; exact Nat.le_refl _)))
    obtain ⟨z0, z1, z2, z3⟩ := HZ.out _ HB1.out
    clear hB
    go_wp2_with fail
    refine (below_any _ _ _).mono ?_
    rintro e w' ⟨rfl, rfl⟩
    rw [H1.out]
    go_wp2_with fail
    refine (wrd.valid_any _ _ _).mono ?_
    rintro e w' ⟨rfl, rfl⟩
    rw [H2.out]
    go_wp2_with fail
    go_loopw [1, 28] (fun vs vi wr => ∃ i : Nat, i ≤ s.size ∧ vi = .int .i64 i ∧ vs = .int .i64 (d.run q0 ((letsD s).take i) : Nat) ∧ Below (w.heap.size + 1) W0 wr) (fun _ vi _ => s.size - (intOf vi).toNat)
    case atStart => exact ⟨0, Nat.zero_le _, rfl, rfl, HB1.out⟩
    case round =>
      rename World => wA
      obtain ⟨i, hi, rfl, rfl, hb⟩ := hrel
      have HB := Lib.hid hb
      obtain ⟨z0, z1, z2, z3⟩ := HZ.out _ hb
      clear hb
      by_cases hlt : i < s.size
      · obtain ⟨l1, l2⟩ := HL.out i hlt
        have hb8 := (s[i]'hlt).toNat_lt
        obtain ⟨x, hx⟩ : ∃ x, x = (s[i]'hlt).toNat - 97 := ⟨_, rfl⟩
        have HT := Lib.hid (show d.run q0 ((letsD s).take (i + 1)) = d.nx (d.run q0 ((letsD s).take i)) x by rw [letsD_take hlt, DF.run_snoc, hx])
        have hcu := HRT.out i
        obtain ⟨cur, hc⟩ : ∃ t, t = d.run q0 ((letsD s).take i) := ⟨_, rfl⟩
        rw [← hc] at hcu HT ⊢
        have hxL : (x : Int) < d.L := by omega
        have hlnq := HV.out.ln cur hcu
        have hne := HV.out.nxeq hcu hxL
        have hxk : x < d.ln cur := by omega
        obtain ⟨b, off, r, c', rfl, hbz, hcell0, hrow⟩ := HI.out.nxt.at (i := cur) (by rw [HMN.out]; exact hcu)
        have hcell := (HB.out.cell (p := ⟨b, off + cur, none⟩) (by rw [← HSZ.out]; exact hbz)).trans hcell0
        obtain ⟨b2, off2, rfl, hb2, hc2⟩ := (hrow.keep (by rw [HSZ.out]; exact HB.out)).at hxk
        rw [show rowsV d.N cur x = .int .i64 (d.N cur x) from rfl, hne] at hc2
        obtain ⟨k, hk⟩ : ∃ k, k = d.ln cur := ⟨_, rfl⟩
        rw [← hk] at hcell hxk
        obtain ⟨t, ht⟩ : ∃ t, t = d.nx cur x := ⟨_, rfl⟩
        rw [← ht] at hc2 HT
        have hw8 : IntKind.u8.wrap (((s[i]'hlt).toNat : Int) - 97) = (x : Int) := by
          have := wrd.WordM.w8sub l1; simp [IntKind.wrap, IntKind.bits, IntKind.signed]; omega
        have hi0 : (0 : Int) ≤ (i : Int) := by omega
        have hin2 : (i : Int) < (s.size : Int) := by omega
        have hwi : IntKind.i64.wrap (i : Int) = (i : Int) := IntWalk.i64_in _ (by omega)
        have hc0 : (0 : Int) ≤ (cur : Int) := by omega
        have hcn : (cur : Int) < (d.m : Int) := by rw [HMN.out]; omega
        have hx0 : (0 : Int) ≤ (x : Int) := by omega
        have hxk2 : (x : Int) < (k : Int) := by omega
        have hwx : IntKind.i64.wrap (x : Int) = (x : Int) := IntWalk.i64_in _ (by omega)
        clear hc hx hne hlnq hcell0 hrow hk ht hxk hxL
        go_wp2_with fail
        go_quiet (fail)
        have HB2 := Lib.hid (below_drewN HB.out nq)
        go_wp2_with fail
        exact ⟨⟨i + 1, by omega, by go_num, by rw [HT.out], HB2.out⟩, by simp [intOf]; omega⟩
      · obtain rfl : i = s.size := by omega
        have HE := Lib.hid (show (letsD s).take s.size = letsD s by rw [← letsD_len, List.take_length])
        rw [HE.out]
        go_wp2_with fail
        go_ret
        exact ⟨by rw [HF.out]; rfl, HOUT.out _ HB.out⟩
end Go.Proofs.Ytohoiebofkmjeac
