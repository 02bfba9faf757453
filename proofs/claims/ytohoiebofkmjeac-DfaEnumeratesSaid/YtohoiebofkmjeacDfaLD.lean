/- Walk of the law DfaEnumerates. -/
import Derived.Test.YtohoiebofkmjeacDfaLE
namespace Go.Proofs.Ytohoiebofkmjeac
open Go Go.RowKit Go.Lib Go.Sort
open Go.Proofs.Ytohoiebofkmjeac.wrd.WordM (cmpW ext_list)
set_option linter.unusedVariables false
set_option maxRecDepth 100000 in
set_option maxHeartbeats 8000000 in
theorem wDfaEnumerates {w : World} (d : DF) (af : Option Addr) (cf : Nat) (an : Option Addr) (cn : Nat) (hin : InD w d af an) (s : ByteArray) (hs : s.size ≤ maxLen) :
    Calls Try.prog 3 #[dV d af cf an cn, .string s] w fun e w' => e = .returned (.bool true) ∧ Below w.heap.size w w' := by
  obtain ⟨W0, HW⟩ : ∃ W0, BoxD w W0 d af cf an cn := ⟨_, ⟨rfl⟩⟩
  have HI := Lib.hid (HW.in hin)
  have HZ := Lib.hid (fun w' hb => @BoxD.cells w W0 d af cf an cn HW w' hb)
  have HOUT := Lib.hid (fun w' hb => @BoxD.out w W0 d af cf an cn HW w' hb)
  have HSZ := Lib.hid HW.size
  have HB0 := Lib.hid (show Below (w.heap.size + 1) W0 W0 from Below.refl _ _)
  have HWE := Lib.hid HW.eq
  have HSM := Lib.hid (fun W (h : InD W d af an) => small_any d af cf an cn 8 W h)
  have hsz := HW.size
  clear hin HW
  cases hsm : decide (d.n ≤ 8) && valD d
  · rw [hsm] at HSM
    clear hsm hsz hs
    go_enter Try.func3, Try.ntmps3
    go_wp2_with fail
    rw [← HWE.out]
    refine (HSM.out _ HI.out).mono ?_
    rintro e w2 ⟨rfl, hB⟩
    have HB1 := Lib.hid (HB0.out.trans (hB.mono (by rw [HSZ.out]; exact Nat.le_refl _)))
    clear hB
    go_wp2_with fail
    refine (awake_any _).mono ?_
    rintro e w3 ⟨rfl, hB⟩
    have HB2 := Lib.hid (HOUT.out _ (HB1.out.trans (hB.mono (by have := HB1.out.size; have := HSZ.out; omega))))
    clear hB
    go_wp2_with fail
    go_ret
    exact ⟨rfl, HB2.out⟩
  rw [hsm] at HSM
  rw [Bool.and_eq_true, decide_eq_true_eq] at hsm
  have hok := valD_iff.1 hsm.2
  have CW := Lib.hid (fun W (h : InD W d af an) => words_ok d af cf an cn 40 W h hok (by omega))
  have CA := Lib.hid (fun u W (h : InD W d af an) => accepts_ok d af cf an cn u W h hok)
  have CC := Lib.hid (fun k W (h : InD W d af an) (hk : k ≤ 10000) => count_ok d af cf an cn k W h hok hk)
  have W1 := Lib.hid (fun u (h : u ∈ d.words 40) => hok.w_acc h)
  have W2 := Lib.hid (fun i u v (h : (d.words 40)[i]? = some u) (h' : (d.words 40)[i + 1]? = some v) => hok.w_cmp h h')
  have W3 := Lib.hid (fun h1 h2 => hok.w_miss (n := 40) (u := s) (by omega) h1 h2)
  have W4 := Lib.hid (fun k h1 h2 => hok.w_cnt (n := 40) (k := k) h1 h2)
  have W5 := Lib.hid (fun u (hu : u ∈ d.words 40) => d.words_short hu)
  have hlen := d.words_len 40
  unfold GivesS at CW
  obtain ⟨l, hl⟩ : ∃ l, l = d.words 40 := ⟨_, rfl⟩
  rw [← hl] at CW W1 W2 W3 W4 W5 hlen
  obtain ⟨M, hM⟩ : ∃ M, M = l.length := ⟨_, rfl⟩
  rw [← hM] at hlen
  have HM := Lib.hid hM
  rw [← hM] at CW
  obtain ⟨i0, hi, hz0, hz1, hz2⟩ := info_parts infoI
  have HS := Lib.hid hs
  clear hsm hok hl hM hs
  go_enter Try.func3, Try.ntmps3
  go_wp2_with fail
  rw [← HWE.out]
  refine (HSM.out _ HI.out).mono ?_
  rintro e w2 ⟨rfl, hB⟩
  have HB1 := Lib.hid (HB0.out.trans (hB.mono (by rw [HSZ.out]; exact Nat.le_refl _)))
  have HI1 := Lib.hid (HI.out.keep hB)
  obtain ⟨z0, z1, z2, z3⟩ := HZ.out _ HB1.out
  clear hB hsz
  go_wp2_with fail
  refine (CW.out _ HI1.out).mono ?_
  rintro e w3 ⟨r, c, rfl, hr, hB⟩
  have HB2 := Lib.hid (HB1.out.trans (hB.mono (by have := HB1.out.size; have := HSZ.out; omega)))
  have HI2 := Lib.hid (HI1.out.keep hB)
  have HR := Lib.hid hr
  have HS3 := Lib.hid (show w.heap.size + 1 ≤ w3.heap.size by have := HB2.out.size; have := HSZ.out; omega)
  clear hB hr z0 z1 z2 z3
  go_wp2_with (refine wpList_make_full _ rfl _ _ 30 rfl w3.heap.size 3 i0 (.int .i64 0) 1 Try.underlying30 hi hz0 hz1 .i64 .i64 _ _ 9 rfl rfl (by simp) (by simp) ?c1 ?c2 ?c3 ?_)
  case c1 => rw [hz2]; omega
  case c2 => unfold maxLen; omega
  case c3 => exact Nat.le_refl _
  intro w4 hown0 hg4
  have HB4 := Lib.hid (show Below w3.heap.size w3 w4 from (Below.refl _ _).grown hg4 (Nat.le_refl _) (by intro k hk; cases hk))
  have HO4 := Lib.hid (show OwnV w4 w3.heap.size 3 w3.heap.size 9 (nsI (cntK (l.take 0))) from OwnV.made (z := .int .i64 0) rfl (by simpa using hown0))
  have HBT := Lib.hid (fun W (hW : Below w3.heap.size w3 W) => HB2.out.trans (hW.mono HS3.out))
  clear hown0 hg4
  go_wp2_with fail
  go_loopw [6, 20] (fun s6 vi wr => ∃ i : Nat, i ≤ M ∧ vi = .int .i64 i ∧ s6 = .bool (memS s (l.take i)) ∧ OwnV wr w3.heap.size 3 w3.heap.size 9 (nsI (cntK (l.take i))) ∧ Below w3.heap.size w3 wr) (fun _ vi _ => M - (intOf vi).toNat)
  case atStart => exact ⟨0, Nat.zero_le _, rfl, by rw [List.take_zero]; rfl, HO4.out, HB4.out⟩
  case round =>
    rename World => wA
    obtain ⟨i, hiM, rfl, rfl, ho, hb⟩ := hrel
    have HO := Lib.hid ho
    have HB := Lib.hid hb
    obtain ⟨z0, z1, z2, z3⟩ := HZ.out _ (HBT.out _ hb)
    clear ho hb
    by_cases hlt : i < M
    · have hil : i < l.length := by rw [← HM.out]; exact hlt
      obtain ⟨rb, roff, rfl, hrc⟩ := (HR.out.keep HB.out).getD hil
      have hmem : l[i] ∈ l := List.getElem_mem hil
      have hget : l[i]? = some l[i] := List.getElem?_eq_getElem hil
      have HTK := Lib.hid (mem_takeB s l hil)
      have HCN := Lib.hid (fun k => show cntK (l.take (i + 1)) k = if k = l[i].size then cntK (l.take i) k + 1 else cntK (l.take i) k by rw [take_snocL hil, cntK_snoc])
      have HCL := Lib.hid (show ∀ k, cntK (l.take i) k ≤ 40 from fun k => Nat.le_trans List.countP_le_length (by rw [List.length_take]; omega))
      obtain ⟨u, hu⟩ : ∃ u, u = l[i] := ⟨_, rfl⟩
      rw [← hu] at hrc hmem hget HTK HCN
      have HACC := Lib.hid (CA.out u wA (HI2.out.keep HB.out))
      rw [W1.out u hmem] at HACC
      have hsz := W5.out u hmem
      have HGET := Lib.hid hget
      have hi0 : (0 : Int) ≤ (i : Int) := by omega
      have hiM2 : (i : Int) < (M : Int) := by omega
      have hwi : IntKind.i64.wrap (i : Int) = (i : Int) := IntWalk.i64_in _ (by omega)
      obtain ⟨b0, hb0⟩ : ∃ b0, b0 = memS s (l.take i) := ⟨_, rfl⟩
      rw [← hb0] at HTK ⊢
      have hin : (b0 = true ∧ memS s (l.take (i + 1)) = true) ∨ (b0 = false ∧ (u.toList == s.toList) = true ∧ memS s (l.take (i + 1)) = true) ∨ (b0 = false ∧ (u.toList == s.toList) = false ∧ memS s (l.take (i + 1)) = false) := by
        rw [HTK.out]
        cases b0
        · right
          by_cases e : u = s
          · left; subst e; exact ⟨rfl, by simp, by simp⟩
          · right
            refine ⟨rfl, ?_, by simpa using e⟩
            rw [beq_eq_false_iff_ne, Lib.toList_data, Lib.toList_data]; exact fun e2 => e (ext_list e2)
        · exact .inl ⟨rfl, rfl⟩
      have hs9 : (u.size < 9 ∧ (u.size : Int) < 9) ∨ (¬ u.size < 9 ∧ ¬ (u.size : Int) < 9) := by omega
      have hu0 : (0 : Int) ≤ (u.size : Int) := by omega
      have hwu : IntKind.i64.wrap (u.size : Int) = (u.size : Int) := IntWalk.i64_in _ (by omega)
      have HGL := Lib.hid HO.out.lt
      have HPRE := Lib.hid (show ∀ p, i = p + 1 → ∃ v, l[p]? = some v ∧ cmpW v u = -1 ∧ v.size ≤ 2049 from fun p hp => by
        have hpl : p < l.length := by omega
        refine ⟨l[p], List.getElem?_eq_getElem hpl, W2.out p _ _ (List.getElem?_eq_getElem hpl) (by rw [← hp]; exact HGET.out), W5.out _ (List.getElem_mem hpl)⟩)
      clear hil hmem hget hu hb0
      go_wp2_with fail
      refine HACC.out.mono ?_
      rintro e w5 ⟨rfl, hB⟩
      have HB5 := Lib.hid (HB.out.trans (hB.mono HB.out.size))
      have HO5 := Lib.hid (HO.out.keep hB HGL.out.2)
      have hrow5 := HR.out.keep HB5.out
      clear hB z0 z1 z2 z3 hrc
      have HNO := Lib.hid (show ¬ u.size < 9 → OwnV w5 w3.heap.size 3 w3.heap.size 9 (nsI (cntK (l.take (i + 1)))) from fun h => HO5.out.congr fun t ht => by
        show Value.int .i64 ((cntK (l.take i) t : Nat) : Int) = Value.int .i64 ((cntK (l.take (i + 1)) t : Nat) : Int)
        rw [HCN.out t, if_neg (by omega)])
      have HYES := Lib.hid (show ∀ W, OwnV W w3.heap.size 3 w3.heap.size 9 (nsI (cntK (l.take i))) → OwnV (W.setCell ⟨w3.heap.size, u.size, none⟩ (.int .i64 ((cntK (l.take i) u.size + 1 : Nat) : Int))) w3.heap.size 3 w3.heap.size 9 (nsI (cntK (l.take (i + 1)))) from fun W hW => (hW.set u.size _).congr fun t ht => by
        show (if t = u.size then _ else Value.int .i64 ((cntK (l.take i) t : Nat) : Int)) = Value.int .i64 ((cntK (l.take (i + 1)) t : Nat) : Int)
        rw [HCN.out t]
        by_cases e : t = u.size
        · rw [if_pos e, if_pos e, e]
        · rw [if_neg e, if_neg e])
      have hcur : u.size < 9 → w5.cell? ⟨w3.heap.size, u.size, none⟩ = some (.int .i64 ((cntK (l.take i) u.size : Nat) : Int)) := fun h => HO5.out.cell h
      have hfr := HO5.out.free u.size
      have hcl := HCL.out u.size
      obtain ⟨q, hq⟩ : ∃ q, q = cntK (l.take i) u.size := ⟨_, rfl⟩
      rw [← hq] at hcur hcl HYES
      have hqw : IntKind.i64.wrap ((q : Int) + 1) = ((q + 1 : Nat) : Int) := by rw [IntWalk.i64_in _ (by omega)]; omega
      clear hq
      have HBX := Lib.hid (fun x => HB5.out.setCell (p := ⟨w3.heap.size, u.size, none⟩) (Nat.le_refl _) x)
      rcases Nat.eq_zero_or_pos i with h0 | hpos
      · subst h0
        rcases hin with ⟨rfl, HT⟩ | ⟨rfl, e1, HT⟩ | ⟨rfl, e1, HT⟩
        all_goals
          have HT2 := Lib.hid HT
          clear hrow5 HT
          rcases hs9 with ⟨h9, h9'⟩ | ⟨h9, h9'⟩
          · have hcur := hcur h9
            go_wp2_with fail
            exact ⟨⟨1, by omega, by go_num, by rw [HT2.out], HYES.out _ HO5.out, HBX.out _⟩, by simp [intOf]; omega⟩
          · clear hcur
            go_wp2_with fail
            exact ⟨⟨1, by omega, by go_num, by rw [HT2.out], HNO.out h9, HB5.out⟩, by simp [intOf]; omega⟩
      · obtain ⟨p, hp⟩ : ∃ p, i = p + 1 := ⟨i - 1, by omega⟩
        obtain ⟨v, hv, hcmp, hvs⟩ := HPRE.out p hp
        obtain ⟨hpl, hv2⟩ := List.getElem?_eq_some_iff.1 hv
        obtain ⟨pb, poff, hpa, hpc⟩ := hrow5.getD hpl
        injection hpa with hpa
        injection hpa with hpa1 hpa2
        subst hpa1 hpa2
        rw [hv2] at hpc
        have hi1 : (0 : Int) < (i : Int) := by omega
        have hi2 : (i : Int) - 1 = (p : Int) := by omega
        have hp0 : (0 : Int) ≤ (p : Int) := by omega
        have hpM : (p : Int) < (M : Int) := by omega
        have hwp : IntKind.i64.wrap (p : Int) = (p : Int) := IntWalk.i64_in _ (by omega)
        have HCMP := Lib.hid hcmp
        have hum : u.size ≤ maxLen := by unfold maxLen; omega
        have hvm : v.size ≤ maxLen := by unfold maxLen; omega
        have HRC := Lib.hid (rcompare_any v u hvm hum w5)
        clear hv hcmp hpl hv2 hp hrow5 hum hvm
        rcases hin with ⟨rfl, HT⟩ | ⟨rfl, e1, HT⟩ | ⟨rfl, e1, HT⟩
        all_goals
          have HT2 := Lib.hid HT
          clear HT
          rcases hs9 with ⟨h9, h9'⟩ | ⟨h9, h9'⟩
          · have hcur := hcur h9
            go_wp2_with fail
            refine HRC.out.mono ?_
            rintro e w' ⟨rfl, rfl⟩
            rw [HCMP.out]
            go_wp2_with fail
            exact ⟨⟨i + 1, by omega, by go_num, by rw [HT2.out], HYES.out _ HO5.out, HBX.out _⟩, by simp [intOf]; omega⟩
          · clear hcur
            go_wp2_with fail
            refine HRC.out.mono ?_
            rintro e w' ⟨rfl, rfl⟩
            rw [HCMP.out]
            go_wp2_with fail
            exact ⟨⟨i + 1, by omega, by go_num, by rw [HT2.out], HNO.out h9, HB5.out⟩, by simp [intOf]; omega⟩
    · obtain rfl : i = M := by omega
      have hT : l.take i = l := by rw [HM.out, List.take_length]
      rw [hT] at HO ⊢
      have HACC := Lib.hid (CA.out s wA (HI2.out.keep HB.out))
      have t40 : ¬ (40 : Int) < (i : Int) := by omega
      have HGL := Lib.hid HO.out.lt
      have hcase : (d.accV s = false) ∨ (d.accV s = true ∧ memS s l = true) ∨ (d.accV s = true ∧ memS s l = false ∧ i = 40 ∧ ∃ v, l[39]? = some v ∧ cmpW s v = 1) := by
        cases ha : d.accV s
        · exact .inl rfl
        · right
          cases hm : memS s l
          · right
            obtain ⟨h1, h2⟩ := W3.out ha (fun h => by rw [memS_iff.2 h] at hm; cases hm)
            have h3 : 39 < l.length := by omega
            exact ⟨rfl, rfl, by rw [HM.out]; exact h1, l[39], List.getElem?_eq_getElem h3, h2 _ (List.getElem?_eq_getElem h3)⟩
          · exact .inl ⟨rfl, rfl⟩
      have HSL := Lib.hid (show s.size ≤ maxLen from HS.out)
      clear hT
      have HLOOP := Lib.hid (show True from trivial)
      rcases hcase with ha | ⟨ha, hm⟩ | ⟨ha, hm, h40, v, hv, hcmp⟩
      case' inl =>
        rw [ha] at HACC
        clear ha
        go_wp2_with fail
        refine HACC.out.mono ?_
        rintro e w5 ⟨rfl, hB⟩
        have HB5 := Lib.hid (HB.out.trans (hB.mono HB.out.size))
        have HO5 := Lib.hid (HO.out.keep hB HGL.out.2)
        clear hB z0 z1 z2 z3
        go_wp2_with fail
      case' inr.inl =>
        rw [ha] at HACC
        clear ha
        go_wp2_with fail
        refine HACC.out.mono ?_
        rintro e w5 ⟨rfl, hB⟩
        have HB5 := Lib.hid (HB.out.trans (hB.mono HB.out.size))
        have HO5 := Lib.hid (HO.out.keep hB HGL.out.2)
        clear hB z0 z1 z2 z3
        go_wp2_with fail
      case' inr.inr =>
        rw [ha] at HACC
        have hvs := W5.out v (List.mem_of_getElem? hv)
        have HCMP := Lib.hid hcmp
        have HVV := Lib.hid hv
        have t403 : ¬ (i : Int) < 40 := by omega
        have hi39 : (i : Int) - 1 = 39 := by omega
        have hidx : (39 : Int) < (i : Int) := by omega
        clear ha hv hcmp h40
        go_wp2_with fail
        refine HACC.out.mono ?_
        rintro e w5 ⟨rfl, hB⟩
        have HB5 := Lib.hid (HB.out.trans (hB.mono HB.out.size))
        have HO5 := Lib.hid (HO.out.keep hB HGL.out.2)
        obtain ⟨pb, poff, rfl, hpc⟩ := (HR.out.keep HB5.out).getQ HVV.out
        clear hB z0 z1 z2 z3
        go_wp2_with fail
        refine (rcompare_any s v HSL.out (by unfold maxLen; omega) _).mono ?_
        rintro e w' ⟨rfl, rfl⟩
        rw [HCMP.out]
        clear hpc
        go_wp2_with fail
      all_goals
        go_loopw [97] (fun vi wr => ∃ k : Nat, k ≤ 9 ∧ vi = .int .i64 k ∧ Below w5.heap.size w5 wr) (fun vi _ => 9 - (intOf vi).toNat)
        case atStart => exact ⟨0, Nat.zero_le _, rfl, Below.refl _ _⟩
        case round =>
          rename World => wB
          obtain ⟨k, hk, rfl, hb⟩ := hrel
          have HBk := Lib.hid (HB5.out.trans (hb.mono HB5.out.size))
          have HOk := Lib.hid (HO5.out.keep hb HO5.out.lt.2)
          have HBB := Lib.hid hb
          clear hb
          by_cases hk9 : k < 9
          · obtain ⟨z0, z1, z2, z3⟩ := HZ.out _ (HBT.out _ HBk.out)
            have HIk := Lib.hid (HI2.out.keep HBk.out)
            have b0 := fun q os => cell_regrown z0 q os
            have b1 := fun q os => cell_regrown z1 q os
            have b2 := fun q os => cell_regrown z2 q os
            have b3 := fun q os => cell_regrown z3 q os
            have hmc := HOk.out.cell hk9
            rw [show nsI (cntK l) k = .int .i64 ((cntK l k : Nat) : Int) from rfl] at hmc
            have E1 := Lib.hid (fun q os => CC.out k (grow (redrawn wB q) os) (HIk.out.re q os) (by omega))
            have hk0 : (0 : Int) ≤ (k : Int) := by omega
            have hk92 : (k : Int) < 9 := by omega
            have hwk : IntKind.i64.wrap (k : Int) = (k : Int) := IntWalk.i64_in _ (by omega)
            have HBQ := Lib.hid (fun q os => HBB.out.trans ((below_regrown wB q os).mono HBB.out.size))
            clear z0 z1 z2 z3
            by_cases hlt40 : i < 40
            · have HCN := Lib.hid (W4.out k (by omega) (.inl (by rw [← HM.out]; exact hlt40)))
              rw [HCN.out] at E1
              obtain ⟨x, hx⟩ : ∃ x, x = cntK l k := ⟨_, rfl⟩
              rw [← hx] at E1 hmc
              have m1 := fun q os => cell_regrown hmc q os
              have tA : (i : Int) < 40 := by omega
              have tA' : decide ((i : Int) < 40) = true := by simpa using tA
              clear hlt40 hx hmc
              go_wp2_with fail
              refine wp_region_quiet_below (by kernel_rfl) (by kernel_rfl) ?_
              repeat (go_big_quiet_step (first | (with_reducible exact Calls.regrown_of (E1.out _ _))))
              refine wpQuiet_nil ?_
              intro _ hw'
              obtain ⟨⟨dq, osq⟩, hw''⟩ := hw'
              subst hw''
              have HBN := Lib.hid (HBQ.out dq osq)
              go_wp2_with fail
              exact ⟨⟨k + 1, by omega, by go_num, HBN.out⟩, by simp [intOf]; omega⟩
            · have hll : 39 < l.length := by rw [← HM.out]; omega
              obtain ⟨v9, hv9⟩ : ∃ v, l[39]? = some v := ⟨_, List.getElem?_eq_getElem hll⟩
              have HV9 := Lib.hid hv9
              have HM9 := Lib.hid (List.mem_of_getElem? hv9)
              have hvs9 := W5.out v9 HM9.out
              obtain ⟨lb, loff, hla, hlc⟩ := (HR.out.keep HBk.out).getQ hv9
              have hl1 := fun q os => cell_regrown hlc q os
              have tA : ¬ (i : Int) < 40 := by omega
              have tA' : decide ((i : Int) < 40) = false := by simp; omega
              have hi39' : (i : Int) - 1 = 39 := by omega
              have hidx' : (39 : Int) < (i : Int) := by omega
              have hsw9 : IntKind.i64.wrap (v9.size : Int) = (v9.size : Int) := IntWalk.i64_in _ (by omega)
              first
                | subst hla
                | (injection hla with hla; injection hla with hla1 hla2; subst hla1 hla2)
              clear hv9 hlc hll
              by_cases hks : k < v9.size
              · have HCN := Lib.hid (W4.out k (by omega) (.inr ⟨v9, HM9.out, hks⟩))
                rw [HCN.out] at E1
                obtain ⟨x, hx⟩ : ∃ x, x = cntK l k := ⟨_, rfl⟩
                rw [← hx] at E1 hmc
                have m1 := fun q os => cell_regrown hmc q os
                have tB : (k : Int) < (v9.size : Int) := by omega
                have tB' : decide ((k : Int) < (v9.size : Int)) = true := by simpa using tB
                clear hlt40 hx hmc
                go_wp2_with fail
                refine wp_region_quiet_below (by kernel_rfl) (by kernel_rfl) ?_
                repeat (go_big_quiet_step (first | (with_reducible exact Calls.regrown_of (E1.out _ _))))
                refine wpQuiet_nil ?_
                intro _ hw'
                obtain ⟨⟨dq, osq⟩, hw''⟩ := hw'
                subst hw''
                have HBN := Lib.hid (HBQ.out dq osq)
                go_wp2_with fail
                exact ⟨⟨k + 1, by omega, by go_num, HBN.out⟩, by simp [intOf]; omega⟩
              · have tB : ¬ (k : Int) < (v9.size : Int) := by omega
                have tB' : decide ((k : Int) < (v9.size : Int)) = false := by simp; omega
                clear hlt40 hmc
                go_wp2_with fail
                refine wp_region_quiet_below (by kernel_rfl) (by kernel_rfl) ?_
                repeat (go_big_quiet_step (fail))
                refine wpQuiet_nil ?_
                intro _ hw'
                obtain ⟨⟨dq, osq⟩, hw''⟩ := hw'
                subst hw''
                have HBN := Lib.hid (HBQ.out dq osq)
                go_wp2_with fail
                exact ⟨⟨k + 1, by omega, by go_num, HBN.out⟩, by simp [intOf]; omega⟩
          · obtain rfl : k = 9 := by omega
            go_wp2_with fail
            refine (awake_any _).mono ?_
            rintro e w6 ⟨rfl, hB⟩
            have HB9 := Lib.hid (HOUT.out _ (HBT.out _ (HBk.out.trans (hB.mono HBk.out.size))))
            clear hB
            go_wp2_with fail
            go_ret
            exact ⟨rfl, HB9.out⟩
end Go.Proofs.Ytohoiebofkmjeac
