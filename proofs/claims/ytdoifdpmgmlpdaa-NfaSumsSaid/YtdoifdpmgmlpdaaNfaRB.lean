/- Contract: Runs. -/
import Derived.Test.YtdoifdpmgmlpdaaNfaRA
import Derived.Test.YtdoifdpmgmlpdaaRelN
namespace Go.Proofs.Ytdoifdpmgmlpdaa
open Go Go.RowKit
open Go.Proofs.Ytdoifdpmgmlpdaa.rel (mem mem_yes mem_no mem_len RowL GivesM members_own)
open Go.Proofs.Ytdoifdpmgmlpdaa.wrd.WordM (wordB)
set_option linter.unusedVariables false
def totF (c : Nat → Nat) (xs : List Nat) : Nat := xs.foldl (fun t q => satR (t + c q)) 0
theorem totF_snoc (c : Nat → Nat) (xs : List Nat) (q : Nat) : totF c (xs ++ [q]) = satR (totF c xs + c q) := by simp [totF, List.foldl_append]
theorem totF_le (c : Nat → Nat) : ∀ xs : List Nat, totF c xs ≤ 2147483648 := by
  suffices ∀ (xs : List Nat) (t : Nat), t ≤ 2147483648 → xs.foldl (fun t q => satR (t + c q)) t ≤ 2147483648 from fun xs => this xs 0 (by omega)
  intro xs
  induction xs with
  | nil => intro t h; exact h
  | cons x xs ih => intro t _; exact ih _ (satR_le _)
theorem totF_mem (fi : Nat) (c : Nat → Nat) : ∀ k, totF c (mem fi k) = sumF fi c k
  | 0 => rfl
  | k + 1 => by
    have ih := totF_mem fi c k
    cases h : fi.testBit k
    · rw [mem_no h, ih]; simp [sumF, h]
    · rw [mem_yes h, totF_snoc, ih]; simp [sumF, h]
theorem sumF_above {fi n : Nat} (h : fi < 2 ^ n) (c : Nat → Nat) : ∀ k, sumF fi c (n + k) = sumF fi c n
  | 0 => rfl
  | k + 1 => by
    have ih := sumF_above h c k
    rw [← Nat.add_assoc]
    have : fi.testBit (n + k) = false := Nat.testBit_lt_two_pow (Nat.lt_of_lt_of_le h (Nat.pow_le_pow_right (by decide) (by omega)))
    show (if fi.testBit (n + k) then satR (sumF fi c (n + k) + c (n + k)) else sumF fi c (n + k)) = sumF fi c n
    rw [this]; simpa using ih
theorem totF_all {fi n : Nat} (h : fi < 2 ^ n) (hn : n ≤ 64) (c : Nat → Nat) : totF c (mem fi 64) = sumF fi c n := by
  rw [totF_mem]
  have := sumF_above h c (64 - n)
  rw [show n + (64 - n) = 64 by omega] at this
  exact this
/-- 1 at the states taken so far -/
def hitC (xs : List Nat) (q : Nat) : Nat := if q ∈ xs then 1 else 0
theorem hitC_all (st q : Nat) (h : q < 64) : hitC (mem st 64) q = cntS st q := by
  unfold hitC cntS
  by_cases hb : st.testBit q = true
  · rw [if_pos (mem_testBit.2 ⟨h, hb⟩), if_pos hb]
  · rw [if_neg (fun hm => hb (mem_testBit.1 hm).2), if_neg hb]
/-- the runs of a text -/
def runsW (L : Int) (m st fi : Nat) (es : List Ed) (s : ByteArray) : Nat := if wordB L s.data.toList then runsN es m st fi (wdL s) else 0
theorem runsW_le (L : Int) (m st fi : Nat) (es : List Ed) (s : ByteArray) : runsW L m st fi es s ≤ 2147483648 := by
  unfold runsW; split
  · exact sumF_le _ _ _
  · omega
set_option maxRecDepth 100000 in
set_option maxHeartbeats 8000000 in
theorem runs_any (L : Int) (m st fi : Nat) (es : List Ed) (a : Option Addr) (c : Nat) (s : ByteArray) (w : World) (hin : InN w L (m : Int) st fi a es) (hv : valN L (m : Int) st fi es = true) :
    Calls Try.prog 17 #[.agg #[.int .i64 L, .int .i64 (m : Int), .int .u64 st, .int .u64 fi, .slice a es.length c], .string s] w fun e w' => e = .returned (.int .i64 (runsW L m st fi es s : Nat)) ∧ Below w.heap.size w w' := by
  obtain ⟨i0, hi0, hz0, hz1, hz2⟩ := info_parts infoInt
  have HI := Lib.hid hin
  have HV := Lib.hid (fun W (h : InN W L (m : Int) st fi a es) => nvalid_any L (m : Int) st fi es a c W h)
  have hv' := valN_iff.1 hv
  have hto := valN_to hv
  rw [Int.toNat_natCast] at hto hv'
  have h64 : m ≤ 64 := by omega
  have HLG := Lib.hid (fun a2 cc x W (h : InN W L (m : Int) st fi a es) (h2 : RowC W a2 m cc) => longer_any L m st fi es a c a2 cc x W h hto h64 h2)
  have HM1 := Lib.hid (fun W => members_own st W hin.2.2.2.1)
  have HM2 := Lib.hid (fun W => members_own fi W hin.2.2.2.2.1)
  have HL1 := Lib.hid (show ∀ (i k : Nat), (mem st 64)[i]? = some k → k < m ∧ k < 64 from fun i k h => mem_lt h hv'.2.1.1)
  have HL2 := Lib.hid (show ∀ (i k : Nat), (mem fi 64)[i]? = some k → k < m ∧ k < 64 from fun i k h => mem_lt h hv'.2.1.2)
  have HTOT := Lib.hid (fun cc => totF_all hv'.2.1.2 h64 cc)
  have HHIT := Lib.hid (hitC_all st)
  obtain ⟨M1, hM1⟩ : ∃ M, M = mem st 64 := ⟨_, rfl⟩
  obtain ⟨M2, hM2⟩ : ∃ M, M = mem fi 64 := ⟨_, rfl⟩
  have hml1 : M1.length ≤ 64 := by rw [hM1]; exact mem_len st 64
  have hml2 : M2.length ≤ 64 := by rw [hM2]; exact mem_len fi 64
  rw [← hM1] at HM1 HL1 HHIT
  rw [← hM2] at HM2 HL2 HTOT
  obtain ⟨n1, hn1⟩ : ∃ n, n = M1.length := ⟨_, rfl⟩
  obtain ⟨n2, hn2⟩ : ∃ n, n = M2.length := ⟨_, rfl⟩
  unfold GivesM at HM1 HM2
  rw [← hn1] at HM1 hml1
  rw [← hn2] at HM2 hml2
  have HN1 := Lib.hid hn1
  have HN2 := Lib.hid hn2
  obtain ⟨n, hn⟩ : ∃ n, n = es.length := ⟨_, rfl⟩
  rw [← hn] at HV HLG ⊢
  have HVV := Lib.hid hv
  have HB0 := Lib.hid ((Below.refl w.heap.size w).alloc (Nat.le_refl _) (.cells #[.int .i64 L, .int .i64 (m : Int), .int .u64 st, .int .u64 fi, .slice a n c] 25))
  have HI0 := Lib.hid (HI.out.box (.cells #[.int .i64 L, .int .i64 (m : Int), .int .u64 st, .int .u64 fi, .slice a n c] 25))
  clear hin hv hn hto hv' hM1 hM2 hn1 hn2
  cases hw : wordB L s.data.toList
  · have HW := Lib.hid hw
    have HF := Lib.hid (show runsW L m st fi es s = 0 by simp [runsW, hw])
    rw [HF.out]
    clear hw
    go_enter Try.func17, Try.ntmps17
    go_wp2_with fail
    refine (HV.out _ HI0.out).mono ?_
    rintro e w2 ⟨rfl, hB⟩
    rw [HVV.out]
    have HB1 := Lib.hid (show Below (w.heap.size + 1) _ _ from hB.mono (by simp))
    obtain ⟨z0, z1, z2, z3, z4⟩ := nbox_cells HB1.out
    clear hB
    go_wp2_with fail
    refine (wrd.valid_any s L _).mono ?_
    rintro r w' ⟨rfl, rfl⟩
    rw [HW.out]
    go_wp2_with fail
    go_ret
    exact ⟨rfl, below_nbox HB1.out⟩
  · have HW := Lib.hid hw
    have hsz := word_size hw
    have HL := Lib.hid (fun i hi => @word_letter L s hw i hi)
    have HF := Lib.hid (show runsW L m st fi es s = totF (longW es (wdL s) (cntS st)) M2 by rw [HTOT.out]; simp [runsW, hw, runsN])
    rw [HF.out]
    clear hw
    go_enter Try.func17, Try.ntmps17
    go_wp2_with fail
    refine (HV.out _ HI0.out).mono ?_
    rintro e w2 ⟨rfl, hB⟩
    rw [HVV.out]
    have HB1 := Lib.hid (show Below (w.heap.size + 1) _ _ from hB.mono (by simp))
    obtain ⟨z0, z1, z2, z3, z4⟩ := nbox_cells HB1.out
    have HSZ := Lib.hid (show w.heap.size + 1 ≤ w2.heap.size by have := hB.size; simp at this; omega)
    clear hB
    go_wp2_with fail
    refine (wrd.valid_any s L _).mono ?_
    rintro r w' ⟨rfl, rfl⟩
    rw [HW.out]
    go_wp2_with (refine wpList_make_full _ rfl _ _ 54 rfl w.heap.size 3 i0 (.int .i64 0) 1 Try.underlying54 hi0 hz0 hz1 .i64 .i64 _ _ m rfl rfl (by simp) (by simp) ?c1 ?c2 ?c3 ?_)
    case c1 => rw [hz2]; omega
    case c2 => unfold maxLen; omega
    case c3 => have := HSZ.out; omega
    intro w3 hown0 hg1
    have HO := Lib.hid (ownsC.made hown0)
    have hgw : Below w2.heap.size w2 w3 := (Below.refl _ w2).grown hg1 (Nat.le_refl _) (by intro k hk; cases hk)
    have HB3 := Lib.hid (HB1.out.trans (hgw.mono HSZ.out))
    clear z0 z1 z2 z3 z4
    obtain ⟨z0, z1, z2, z3, z4⟩ := nbox_cells HB3.out
    have HS3 := Lib.hid (show w.heap.size + 1 ≤ w3.heap.size from Nat.le_trans HSZ.out hgw.size)
    clear hown0 hg1 hgw
    go_wp2_with fail
    refine (HM1.out _).mono ?_
    rintro e w4 ⟨r1, c1, rfl, hr1, hB, hnw1⟩
    have HO4 := Lib.hid (HO.out.keep hB)
    have HB4 := Lib.hid (HB3.out.trans (hB.mono HS3.out))
    have HR4 := Lib.hid hr1
    have HNW := Lib.hid (show ∀ p, r1 = some p → p.block ≠ w2.heap.size from fun p hp e => by have := hnw1 p hp; have := HO.out.lt.2; omega)
    clear hr1 hB hnw1 z0 z1 z2 z3 z4
    go_wp2_with fail
    go_loopw [29] (fun vi wr => ∃ i : Nat, i ≤ n1 ∧ vi = .int .i64 i ∧ ownsC wr w.heap.size w2.heap.size m (hitC (M1.take i)) ∧ RowL wr r1 M1 ∧ Below (w.heap.size + 1) (w.alloc (.cells #[.int .i64 L, .int .i64 (m : Int), .int .u64 st, .int .u64 fi, .slice a n c] 25)) wr) (fun vi _ => n1 - (intOf vi).toNat)
    case atStart => exact ⟨0, Nat.zero_le _, rfl, HO4.out, HR4.out, HB4.out⟩
    case round =>
      rename World => wA
      obtain ⟨i, hi, rfl, ho, hrl, hb⟩ := hrel
      have HOA := Lib.hid ho
      have HRL := Lib.hid hrl
      have HB := Lib.hid hb
      by_cases hlt : i < n1
      · have hiM : i < M1.length := by rw [← HN1.out]; exact hlt
        rcases hrl with h0 | ⟨b, off, rfl, hbz, hc⟩
        · rw [h0] at hiM; simp at hiM
        obtain ⟨k, hk⟩ : ∃ k, k = M1[i] := ⟨_, rfl⟩
        have hkk : M1[i]? = some k := by rw [hk, List.getElem?_eq_getElem hiM]
        have hck := hc i k hkk
        obtain ⟨hk1, hk2⟩ := HL1.out i k hkk
        have HT := Lib.hid (show M1.take (i + 1) = M1.take i ++ [k] by rw [List.take_succ_eq_append_getElem hiM, hk])
        have hcj := ho.cell hk1
        have hfj := ho.free k
        have HX := Lib.hid (show ∀ t, t < m → (if t = k then 1 else hitC (M1.take i) t) = hitC (M1.take (i + 1)) t from fun t _ => by
          unfold hitC
          rw [HT.out]
          by_cases e1 : t = k
          · subst e1; simp
          · simp [e1])
        have hi0' : (0 : Int) ≤ (i : Int) := by omega
        have hin2 : (i : Int) < (n1 : Int) := by omega
        have hwi : IntKind.i64.wrap (i : Int) = (i : Int) := IntWalk.i64_in _ (by omega)
        have hk0 : (0 : Int) ≤ (k : Int) := by omega
        have hkn : (k : Int) < (m : Int) := by omega
        have hwk : IntKind.i64.wrap (k : Int) = (k : Int) := IntWalk.i64_in _ (by omega)
        have HS := Lib.hid (show w.heap.size + 1 ≤ w2.heap.size from HSZ.out)
        clear ho hb hc hk hkk hiM
        go_wp2_with fail
        exact ⟨⟨i + 1, by omega, by go_num, (ownsC.set HOA.out k 1).congr HX.out, HRL.out.setCell _ _ (fun p hp => HNW.out p hp), HB.out.setCell HS.out _⟩, by simp [intOf]; omega⟩
      · obtain rfl : i = n1 := by omega
        have hE : M1.take i = M1 := by rw [HN1.out, List.take_length]
        rw [hE] at HOA
        have HRC := Lib.hid ((HOA.out.congr (f' := cntS st) (fun t ht => HHIT.out t (by omega))).row fun j _ => cntS_le st j)
        clear ho hrl hb hE
        go_wp2_with fail
        go_loopw [5, 39] (fun v5 vi wr => ∃ (i : Nat) (a' : Option Addr), i ≤ s.size ∧ vi = .int .i64 i ∧ v5 = .slice a' m m ∧ RowC wr a' m (longW es ((wdL s).take i) (cntS st)) ∧ Below (w.heap.size + 1) (w.alloc (.cells #[.int .i64 L, .int .i64 (m : Int), .int .u64 st, .int .u64 fi, .slice a n c] 25)) wr) (fun _ vi _ => s.size - (intOf vi).toNat)
        case atStart => exact ⟨0, _, Nat.zero_le _, rfl, rfl, HRC.out, HB.out⟩
        case round =>
          rename World => wC
          obtain ⟨j, a', hj, rfl, rfl, hrc, hb⟩ := hrel
          have HRC2 := Lib.hid hrc
          have HBC := Lib.hid hb
          obtain ⟨z0, z1, z2, z3, z4⟩ := nbox_cells hb
          have HIN := Lib.hid (HI0.out.keep (hb.mono (by simp)))
          by_cases hjl : j < s.size
          · obtain ⟨l1, l2⟩ := HL.out j hjl
            have hb8 := (s[j]'hjl).toNat_lt
            have HT := Lib.hid (show longW es ((wdL s).take (j + 1)) (cntS st) = longL es (longW es ((wdL s).take j) (cntS st)) (((s[j]'hjl).toNat : Int) - 97) by rw [wdL_take hjl, longW_append]; rfl)
            have hw8 := wrd.WordM.w8sub l1
            have hu8 : IntKind.u8.wrap (((s[j]'hjl).toNat : Int) - 97) = ((s[j]'hjl).toNat : Int) - 97 := by simp [IntKind.wrap, IntKind.bits, IntKind.signed]; omega
            have hwx : IntKind.i64.wrap (((s[j]'hjl).toNat : Int) - 97) = ((s[j]'hjl).toNat : Int) - 97 := IntWalk.i64_in _ (by omega)
            have HQ := Lib.hid (HLG.out a' _ (((s[j]'hjl).toNat : Int) - 97) wC.drew (HIN.out.keep (Below.refl _ _).drew) (HRC2.out.keep (Below.refl _ _).drew))
            rw [← HT.out] at HQ
            have hj0 : (0 : Int) ≤ (j : Int) := by omega
            have hjn : (j : Int) < (s.size : Int) := by omega
            clear hrc hb
            go_wp2_with fail
            refine wp_region_still_tail 7 (by kernel_rfl) (by kernel_rfl) ?_
            simp only [List.take_succ_cons, List.take_zero, List.drop_succ_cons, List.drop_zero]
            repeat still_step
            refine wpStill_nil ?_
            change wpList _ _ _ _ _ wC.drew
            go_wp2_with fail
            refine HQ.out.mono ?_
            rintro e w5 ⟨a5, rfl, hrow5, hB⟩
            have HR5 := Lib.hid hrow5
            have HB5 := Lib.hid (HBC.out.drew.trans (hB.mono (by have := HBC.out.size; simp at this ⊢; omega)))
            clear hB hrow5
            go_wp2_with fail
            exact ⟨⟨j + 1, a5, by omega, by go_num, rfl, HR5.out, HB5.out⟩, by simp [intOf]; omega⟩
          · obtain rfl : j = s.size := by omega
            have hE : (wdL s).take s.size = wdL s := by rw [← wdL_len, List.take_length]
            rw [hE] at HRC2
            obtain ⟨CC, hCC⟩ : ∃ CC, CC = longW es (wdL s) (cntS st) := ⟨_, rfl⟩
            rw [← hCC] at HRC2
            have HCC := Lib.hid hCC
            clear hrc hb hE hCC
            go_wp2_with fail
            refine (HM2.out _).mono ?_
            rintro e w6 ⟨r2, c2, rfl, hr2, hB, _⟩
            have HR6 := Lib.hid hr2
            have HRC6 := Lib.hid (HRC2.out.keep hB)
            have HB6 := Lib.hid (HBC.out.trans (hB.mono (by have := HBC.out.size; simp at this; omega)))
            clear hr2 hB z0 z1 z2 z3 z4
            go_wp2_with fail
            go_loopw [9, 55] (fun v9 vi wr => ∃ i : Nat, i ≤ n2 ∧ vi = .int .i64 i ∧ v9 = .int .i64 (totF CC (M2.take i) : Nat) ∧ w6 = wr) (fun _ vi _ => n2 - (intOf vi).toNat)
            case atStart => exact ⟨0, Nat.zero_le _, rfl, rfl, rfl⟩
            case round =>
              obtain ⟨i2, hi2, rfl, rfl, rfl⟩ := hrel
              by_cases hlt2 : i2 < n2
              · have hiM : i2 < M2.length := by rw [← HN2.out]; exact hlt2
                rcases HR6.out with h0 | ⟨b, off, rfl, hbz, hc⟩
                · rw [h0] at hiM; simp at hiM
                obtain ⟨k, hk⟩ : ∃ k, k = M2[i2] := ⟨_, rfl⟩
                have hkk : M2[i2]? = some k := by rw [hk, List.getElem?_eq_getElem hiM]
                have hck := hc i2 k hkk
                obtain ⟨hk1, hk2⟩ := HL2.out i2 k hkk
                have HT := Lib.hid (show totF CC (M2.take (i2 + 1)) = satR (totF CC (M2.take i2) + CC k) by rw [List.take_succ_eq_append_getElem hiM, ← hk, totF_snoc])
                rcases HRC6.out with h0 | ⟨b3, rfl, hb3, hc3⟩
                · omega
                have hcq := (hc3 k hk1).1
                have hq31 := (hc3 k hk1).2
                have ht31 := totF_le CC (M2.take i2)
                obtain ⟨tt, htt⟩ : ∃ tt, tt = totF CC (M2.take i2) := ⟨_, rfl⟩
                rw [← htt] at HT ht31 ⊢
                have HADD := Lib.hid (fun W => add_any tt (CC k) W ht31 hq31)
                rw [← HT.out] at HADD
                obtain ⟨u2, hu2⟩ : ∃ u, u = CC k := ⟨_, rfl⟩
                rw [← hu2] at hcq HADD
                have hi0' : (0 : Int) ≤ (i2 : Int) := by omega
                have hin2 : (i2 : Int) < (n2 : Int) := by omega
                have hwi : IntKind.i64.wrap (i2 : Int) = (i2 : Int) := IntWalk.i64_in _ (by omega)
                have hk0 : (0 : Int) ≤ (k : Int) := by omega
                have hkn : (k : Int) < (m : Int) := by omega
                have hwk : IntKind.i64.wrap (k : Int) = (k : Int) := IntWalk.i64_in _ (by omega)
                clear hc hk hkk hiM hc3 hu2 htt ht31 hq31
                go_wp2_with fail
                refine (HADD.out _).mono ?_
                rintro e w' ⟨rfl, rfl⟩
                go_wp2_with fail
                exact ⟨⟨i2 + 1, by omega, by go_num, rfl, trivial⟩, by simp [intOf]; omega⟩
              · obtain rfl : i2 = n2 := by omega
                have hE : M2.take i2 = M2 := by rw [HN2.out, List.take_length]
                rw [hE]
                rw [HCC.out]
                go_wp2_with fail
                go_ret
                exact ⟨rfl, below_nbox HB6.out⟩
end Go.Proofs.Ytdoifdpmgmlpdaa
