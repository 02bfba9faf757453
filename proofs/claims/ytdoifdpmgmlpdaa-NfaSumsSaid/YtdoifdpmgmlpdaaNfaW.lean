/- Contracts: Accepts, the reference's Accepts. -/
import Derived.Test.YtdoifdpmgmlpdaaNfaSA
import Derived.Test.YtdoifdpmgmlpdaaWordA
import Derived.Test.YtdoifdpmgmlpdaaWordB
import Derived.StillTailTactics
namespace Go.Proofs.Ytdoifdpmgmlpdaa
open Go Go.RowKit
open Go.Proofs.Ytdoifdpmgmlpdaa.rel (u_and)
open Go.Proofs.Ytdoifdpmgmlpdaa.wrd.WordM (wordB letB mayB)
set_option linter.unusedVariables false
/-- the letters of a word as numbers -/
def wdL (s : ByteArray) : List Int := s.data.toList.map fun b => (b.toNat : Int) - 97
theorem wdL_len (s : ByteArray) : (wdL s).length = s.size := by unfold wdL; rw [List.length_map, Array.length_toList]; rfl
theorem wdL_take {s : ByteArray} {i : Nat} (h : i < s.size) : (wdL s).take (i + 1) = (wdL s).take i ++ [((s[i]'h).toNat : Int) - 97] := by
  have h2 : i < (wdL s).length := by rw [wdL_len]; exact h
  rw [List.take_succ_eq_append_getElem h2]
  simp [wdL]
  rfl
theorem word_letter {L : Int} {s : ByteArray} (h : wordB L s.data.toList = true) {i : Nat} (hi : i < s.size) : 97 ≤ ((s[i]'hi).toNat : Int) ∧ ((s[i]'hi).toNat : Int) < 97 + L := by
  simp only [wordB, Bool.and_eq_true, List.all_eq_true] at h
  exact wrd.WordM.letB_iff.1 (h.2 _ (by simp; exact Array.getElem_mem _))
theorem word_size {L : Int} {s : ByteArray} (h : wordB L s.data.toList = true) : s.size ≤ 2048 := by
  simp only [wordB, Bool.and_eq_true, decide_eq_true_eq] at h
  have := h.1.2
  simpa using this
theorem ToB.uW {n : Nat} {es : List Ed} (h : ToB n es) (hn : n ≤ 64) (w : List Int) {st : Nat} (hs : st < 2 ^ n) : stepW es w st < 18446744073709551616 :=
  Nat.lt_of_lt_of_le (stepW_lt h w st hs) (rel.pow_le64 hn)
/-- accepted, in a valid automaton -/
def accB (L : Int) (st fi : Nat) (es : List Ed) (s : ByteArray) : Bool := wordB L s.data.toList && decide (stepW es (wdL s) st &&& fi ≠ 0)
set_option maxRecDepth 100000 in
set_option maxHeartbeats 4000000 in
/-- Accepts -/
theorem accepts_any (L S : Int) (st fi : Nat) (es : List Ed) (a : Option Addr) (c : Nat) (s : ByteArray) (w : World) (hin : InN w L S st fi a es) (hv : valN L S st fi es = true) :
    Calls Try.prog 16 #[.agg #[.int .i64 L, .int .i64 S, .int .u64 st, .int .u64 fi, .slice a es.length c], .string s] w fun e w' => e = .returned (.bool (accB L st fi es s)) ∧ Below w.heap.size w w' := by
  have HI := Lib.hid hin
  have HV := Lib.hid (fun W (h : InN W L S st fi a es) => nvalid_any L S st fi es a c W h)
  have hv' := valN_iff.1 hv
  have hto := valN_to hv
  have HTO := Lib.hid hto
  have h64 : S.toNat ≤ 64 := by omega
  have HST := Lib.hid (fun q x W (hq : q < 18446744073709551616) (h : InN W L S st fi a es) => step_any L S st fi es a c q x S.toNat W h hto h64 hq)
  have HU := Lib.hid (fun i => hto.uW h64 ((wdL s).take i) hv'.2.1.1)
  have hfi : fi < 18446744073709551616 := hin.2.2.2.2.1
  have HFI := Lib.hid hfi
  obtain ⟨n, hn⟩ : ∃ n, n = es.length := ⟨_, rfl⟩
  rw [← hn] at HST ⊢
  rw [← hn] at HV
  have HVV := Lib.hid hv
  have HB0 := Lib.hid ((Below.refl w.heap.size w).alloc (Nat.le_refl _) (.cells #[.int .i64 L, .int .i64 S, .int .u64 st, .int .u64 fi, .slice a n c] 25))
  have HI0 := Lib.hid (HI.out.box (.cells #[.int .i64 L, .int .i64 S, .int .u64 st, .int .u64 fi, .slice a n c] 25))
  have HZ0 := Lib.hid (nbox_cells (Below.refl (w.heap.size + 1) (w.alloc (.cells #[.int .i64 L, .int .i64 S, .int .u64 st, .int .u64 fi, .slice a n c] 25))))
  clear hin hv hn hto hv' hfi
  cases hw : wordB L s.data.toList
  · have HW := Lib.hid hw
    have HF := Lib.hid (show accB L st fi es s = false by simp [accB, hw])
    clear hw
    go_enter Try.func16, Try.ntmps16
    go_wp2_with fail
    refine (HV.out _ HI0.out).mono ?_
    rintro e w2 ⟨rfl, hB⟩
    rw [HVV.out]
    have HB1 := Lib.hid (show Below (w.heap.size + 1) _ _ from hB.mono (by simp))
    obtain ⟨z0, z1, z2, z3, z4⟩ := nbox_cells HB1.out
    clear hB
    go_wp2_with fail
    refine (wrd.valid_any s L _).mono ?_
    rintro r w' ⟨rfl, rfl⟩
    rw [HW.out]
    go_wp2_with fail
    go_ret
    exact ⟨by rw [HF.out]; rfl, below_nbox HB1.out⟩
  · have HW := Lib.hid hw
    have hsz := word_size hw
    have HL := Lib.hid (fun i hi => @word_letter L s hw i hi)
    have HF := Lib.hid (show accB L st fi es s = decide (stepW es (wdL s) st &&& fi ≠ 0) by simp [accB, hw])
    clear hw
    go_enter Try.func16, Try.ntmps16
    go_wp2_with fail
    refine (HV.out _ HI0.out).mono ?_
    rintro e w2 ⟨rfl, hB⟩
    rw [HVV.out]
    have HB1 := Lib.hid (show Below (w.heap.size + 1) _ _ from hB.mono (by simp))
    obtain ⟨z0, z1, z2, z3, z4⟩ := nbox_cells HB1.out
    clear hB
    go_wp2_with fail
    refine (wrd.valid_any s L _).mono ?_
    rintro r w' ⟨rfl, rfl⟩
    rw [HW.out]
    go_wp2_with fail
    go_loopw [5, 21] (fun vs vi wr => ∃ i : Nat, i ≤ s.size ∧ vi = .int .i64 i ∧ vs = .int .u64 (stepW es ((wdL s).take i) st : Nat) ∧ Below (w.heap.size + 1) (w.alloc (.cells #[.int .i64 L, .int .i64 S, .int .u64 st, .int .u64 fi, .slice a n c] 25)) wr) (fun _ vi _ => s.size - (intOf vi).toNat)
    case atStart => exact ⟨0, Nat.zero_le _, rfl, rfl, HB1.out⟩
    case round =>
      rename World => wA
      obtain ⟨i, hi, rfl, rfl, hb⟩ := hrel
      have HB := Lib.hid hb
      obtain ⟨z0, z1, z2, z3, z4⟩ := nbox_cells hb
      have HIN := Lib.hid (HI0.out.keep (hb.mono (by simp)))
      clear hb
      by_cases hlt : i < s.size
      · obtain ⟨l1, l2⟩ := HL.out i hlt
        have hb8 := (s[i]'hlt).toNat_lt
        have HT := Lib.hid (show stepW es ((wdL s).take (i + 1)) st = stepL es (stepW es ((wdL s).take i) st) (((s[i]'hlt).toNat : Int) - 97) by rw [wdL_take hlt, stepW_append]; rfl)
        obtain ⟨cur, hc⟩ : ∃ q, q = stepW es ((wdL s).take i) st := ⟨_, rfl⟩
        have hcu := HU.out i
        rw [← hc] at hcu HT ⊢
        have hw8 := wrd.WordM.w8sub l1
        have hu8 : IntKind.u8.wrap (((s[i]'hlt).toNat : Int) - 97) = ((s[i]'hlt).toNat : Int) - 97 := by simp [IntKind.wrap, IntKind.bits, IntKind.signed]; omega
        have hwx : IntKind.i64.wrap (((s[i]'hlt).toNat : Int) - 97) = ((s[i]'hlt).toNat : Int) - 97 := IntWalk.i64_in _ (by omega)
        have HQ := Lib.hid (HST.out cur (((s[i]'hlt).toNat : Int) - 97) wA.drew hcu (HIN.out.keep (Below.refl _ _).drew))
        have hi0 : (0 : Int) ≤ (i : Int) := by omega
        have hin2 : (i : Int) < (s.size : Int) := by omega
        clear hc
        go_wp2_with fail
        refine wp_region_still_tail 7 (by kernel_rfl) (by kernel_rfl) ?_
        simp only [List.take_succ_cons, List.take_zero, List.drop_succ_cons, List.drop_zero]
        repeat still_step
        refine wpStill_nil ?_
        change wpList _ _ _ _ _ wA.drew
        go_wp2_with fail
        refine HQ.out.mono ?_
        rintro e w3 ⟨rfl, hB⟩
        rw [← HT.out]
        have HB2 := Lib.hid (HB.out.drew.trans (hB.mono (by have := HB.out.size; simp at this ⊢; omega)))
        clear hB
        go_wp2_with fail
        exact ⟨⟨i + 1, by omega, by go_num, rfl, HB2.out⟩, by simp [intOf]; omega⟩
      · obtain rfl : i = s.size := by omega
        have hE : (wdL s).take s.size = wdL s := by rw [← wdL_len, List.take_length]
        have hcu := HU.out s.size
        rw [hE] at hcu ⊢
        have hand := u_and (y := fi) hcu HFI.out
        obtain ⟨q, hq⟩ : ∃ q, q = stepW es (wdL s) st &&& fi := ⟨_, rfl⟩
        have HFF := Lib.hid (show accB L st fi es s = decide (q ≠ 0) by rw [HF.out, hq])
        rw [← hq] at hand
        clear hq
        by_cases h0 : q = 0
        · subst h0
          have HF2 := Lib.hid (show accB L st fi es s = false by rw [HFF.out]; rfl)
          go_wp2_with fail
          go_ret
          exact ⟨by rw [HF2.out]; rfl, below_nbox HB.out⟩
        · have HF2 := Lib.hid (show accB L st fi es s = true by rw [HFF.out]; simpa using h0)
          have t0 : ((q : Int) != 0) = true := by simpa using h0
          clear h0
          go_wp2_with fail
          go_ret
          exact ⟨by rw [HF2.out]; rfl, below_nbox HB.out⟩
set_option maxRecDepth 100000 in
set_option maxHeartbeats 4000000 in
/-- the reference's Accepts -/
theorem raccepts_any (L S : Int) (st fi : Nat) (es : List Ed) (a : Option Addr) (c : Nat) (s : ByteArray) (w : World) (hin : InN w L S st fi a es) (hv : valN L S st fi es = true) :
    Calls Try.prog 18 #[.agg #[.int .i64 L, .int .i64 S, .int .u64 st, .int .u64 fi, .slice a es.length c], .string s] w fun e w' => e = .returned (.bool (accB L st fi es s)) ∧ Below w.heap.size w w' := by
  have HI := Lib.hid hin
  have hv' := valN_iff.1 hv
  have hto := valN_to hv
  have HTO := Lib.hid hto
  have h64 : S.toNat ≤ 64 := by omega
  have HST := Lib.hid (fun q x W (hq : q < 18446744073709551616) (h : InN W L S st fi a es) => rstep_any L S st fi es a c q x S.toNat W h hto h64 hq)
  have HU := Lib.hid (fun i => hto.uW h64 ((wdL s).take i) hv'.2.1.1)
  have hfi : fi < 18446744073709551616 := hin.2.2.2.2.1
  have HFI := Lib.hid hfi
  obtain ⟨n, hn⟩ : ∃ n, n = es.length := ⟨_, rfl⟩
  rw [← hn] at HST ⊢
  obtain ⟨y0, y1, y2, y3, y4⟩ := (nbox_cells (Below.refl (w.heap.size + 1) (w.alloc (.cells #[.int .i64 L, .int .i64 S, .int .u64 st, .int .u64 fi, .slice a n c] 25))))
  have HVV := Lib.hid hv
  have HB0 := Lib.hid ((Below.refl w.heap.size w).alloc (Nat.le_refl _) (.cells #[.int .i64 L, .int .i64 S, .int .u64 st, .int .u64 fi, .slice a n c] 25))
  have HI0 := Lib.hid (HI.out.box (.cells #[.int .i64 L, .int .i64 S, .int .u64 st, .int .u64 fi, .slice a n c] 25))
  have HZ0 := Lib.hid (nbox_cells (Below.refl (w.heap.size + 1) (w.alloc (.cells #[.int .i64 L, .int .i64 S, .int .u64 st, .int .u64 fi, .slice a n c] 25))))
  clear hin hv hn hto hv' hfi
  cases hw : wordB L s.data.toList
  · have HW := Lib.hid hw
    have HF := Lib.hid (show accB L st fi es s = false by simp [accB, hw])
    clear hw
    go_enter Try.func18, Try.ntmps18
    go_wp2_with fail
    refine (wrd.rvalid_any s L _).mono ?_
    rintro r w' ⟨rfl, rfl⟩
    rw [HW.out]
    go_wp2_with fail
    go_ret
    exact ⟨by rw [HF.out]; rfl, HB0.out⟩
  · have HW := Lib.hid hw
    have hsz := word_size hw
    have HL := Lib.hid (fun i hi => @word_letter L s hw i hi)
    have HF := Lib.hid (show accB L st fi es s = decide (stepW es (wdL s) st &&& fi ≠ 0) by simp [accB, hw])
    clear hw
    go_enter Try.func18, Try.ntmps18
    go_wp2_with fail
    refine (wrd.rvalid_any s L _).mono ?_
    rintro r w' ⟨rfl, rfl⟩
    rw [HW.out]
    go_wp2_with fail
    go_loopw [5, 6] (fun vs vi wr => ∃ i : Nat, i ≤ s.size ∧ vi = .int .i64 i ∧ vs = .int .u64 (stepW es ((wdL s).take i) st : Nat) ∧ Below (w.heap.size + 1) (w.alloc (.cells #[.int .i64 L, .int .i64 S, .int .u64 st, .int .u64 fi, .slice a n c] 25)) wr) (fun _ vi _ => s.size - (intOf vi).toNat)
    case atStart => exact ⟨0, Nat.zero_le _, rfl, rfl, Below.refl _ _⟩
    case round =>
      rename World => wA
      obtain ⟨i, hi, rfl, rfl, hb⟩ := hrel
      have HB := Lib.hid hb
      obtain ⟨z0, z1, z2, z3, z4⟩ := nbox_cells hb
      have HIN := Lib.hid (HI0.out.keep (hb.mono (by simp)))
      clear hb
      by_cases hlt : i < s.size
      · obtain ⟨l1, l2⟩ := HL.out i hlt
        have hb8 := (s[i]'hlt).toNat_lt
        have HT := Lib.hid (show stepW es ((wdL s).take (i + 1)) st = stepL es (stepW es ((wdL s).take i) st) (((s[i]'hlt).toNat : Int) - 97) by rw [wdL_take hlt, stepW_append]; rfl)
        obtain ⟨cur, hc⟩ : ∃ q, q = stepW es ((wdL s).take i) st := ⟨_, rfl⟩
        have hcu := HU.out i
        rw [← hc] at hcu HT ⊢
        have hw8 := wrd.WordM.w8sub l1
        have hu8 : IntKind.u8.wrap (((s[i]'hlt).toNat : Int) - 97) = ((s[i]'hlt).toNat : Int) - 97 := by simp [IntKind.wrap, IntKind.bits, IntKind.signed]; omega
        have hwx : IntKind.i64.wrap (((s[i]'hlt).toNat : Int) - 97) = ((s[i]'hlt).toNat : Int) - 97 := IntWalk.i64_in _ (by omega)
        have HQ := Lib.hid (HST.out cur (((s[i]'hlt).toNat : Int) - 97) wA.drew hcu (HIN.out.keep (Below.refl _ _).drew))
        have hi0 : (0 : Int) ≤ (i : Int) := by omega
        have hin2 : (i : Int) < (s.size : Int) := by omega
        clear hc
        go_wp2_with fail
        refine wp_region_still_tail 7 (by kernel_rfl) (by kernel_rfl) ?_
        simp only [List.take_succ_cons, List.take_zero, List.drop_succ_cons, List.drop_zero]
        repeat still_step
        refine wpStill_nil ?_
        change wpList _ _ _ _ _ wA.drew
        go_wp2_with fail
        refine HQ.out.mono ?_
        rintro e w3 ⟨rfl, hB⟩
        rw [← HT.out]
        have HB2 := Lib.hid (HB.out.drew.trans (hB.mono (by have := HB.out.size; simp at this ⊢; omega)))
        clear hB
        go_wp2_with fail
        exact ⟨⟨i + 1, by omega, by go_num, rfl, HB2.out⟩, by simp [intOf]; omega⟩
      · obtain rfl : i = s.size := by omega
        have hE : (wdL s).take s.size = wdL s := by rw [← wdL_len, List.take_length]
        have hcu := HU.out s.size
        rw [hE] at hcu ⊢
        have hand := u_and (y := fi) hcu HFI.out
        obtain ⟨q, hq⟩ : ∃ q, q = stepW es (wdL s) st &&& fi := ⟨_, rfl⟩
        have HFF := Lib.hid (show accB L st fi es s = decide (q ≠ 0) by rw [HF.out, hq])
        rw [← hq] at hand
        clear hq
        by_cases h0 : q = 0
        · subst h0
          have HF2 := Lib.hid (show accB L st fi es s = false by rw [HFF.out]; rfl)
          go_wp2_with fail
          go_ret
          exact ⟨by rw [HF2.out]; rfl, below_nbox HB.out⟩
        · have HF2 := Lib.hid (show accB L st fi es s = true by rw [HFF.out]; simpa using h0)
          have t0 : ((q : Int) != 0) = true := by simpa using h0
          clear h0
          go_wp2_with fail
          go_ret
          exact ⟨by rw [HF2.out]; rfl, below_nbox HB.out⟩
end Go.Proofs.Ytdoifdpmgmlpdaa
