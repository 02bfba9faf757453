/- Contract: the reference's Order. -/
import Derived.Test.YtbmbgdfnhbkelaaDoorRelCR
import Derived.StillTailTactics
namespace Go.Proofs.YtbmbgdfnhbkelaaDoor
open Go Go.RowKit
set_option linter.unusedVariables false

set_option maxRecDepth 100000 in
set_option maxHeartbeats 8000000 in
/-- the reference's Order -/
theorem rorder_ok (a : Option Addr) (n cc : Nat) (f : Nat → Nat) (w : World) (hr : Row w a n f) (hv : valB n f = true) (hnil : a = none → n = 0 ∧ cc = 0) :
    Calls Tryd.prog 13 #[.slice a n cc] w (Gives w (cntN n (clF n f) n) (ordF n (clF n f))) := by
  have HA := Lib.hid hr
  have HV := Lib.hid hv
  have HP := Lib.hid (clF_pre hv)
  have hn := (valB_iff.1 hv).1
  have HN := Lib.hid hnil
  clear hr hv hnil
  obtain ⟨c, hcl⟩ : ∃ c, c = clF n f := ⟨_, rfl⟩
  rw [← hcl] at HP ⊢
  have HCL := Lib.hid hcl
  clear hcl
  obtain ⟨K, hK⟩ : ∃ K, K = cntN n c n := ⟨_, rfl⟩
  have hKn : K ≤ n := by rw [hK]; exact cnt_le
  have HNK := Lib.hid (show ∀ i, i < n → numF n c i < K from fun i hi => by rw [hK]; exact num_lt HP.out hi hi)
  rw [← hK]
  have HKE := Lib.hid hK
  clear hK
  have HNU := Lib.hid (fun j (hj : j < n) => num_lt64 HP.out hj)
  have HOU := Lib.hid (fun k y => ordI_u (n := n) (c := c) (num := numF n c) HNU.out k y)
  obtain ⟨i0, hi, hz0, hz1, hz2⟩ := info_parts infoU
  go_enter Tryd.func13, Tryd.ntmps13
  go_wp2_with fail
  refine (rclosure_ok _ _ _ _ _ HA.out hn HN.out).mono ?_
  rintro e w1 ⟨r1, c1, rfl, hR, hB⟩
  rw [← HCL.out] at hR
  have HC := Lib.hid hR
  have HB1 := Lib.hid hB
  have HA1 := Lib.hid (HA.out.keep hB)
  clear hR hB
  go_wp2_with fail
  refine (rcomponents_ok _ _ _ _ _ HA1.out HV.out HN.out).mono ?_
  rintro e w2 ⟨r2, c2, rfl, hR, hB⟩
  rw [← HCL.out] at hR
  rw [← HCL.out, numL_len]
  have HL := Lib.hid hR
  have HC2 := Lib.hid (HC.out.keep hB)
  have HB2 := Lib.hid (HB1.out.trans (hB.mono HB1.out.size))
  clear hR hB
  go_wp2_with fail
  go_loop [5, 17] (fun vm vi => ∃ i : Nat, i ≤ n ∧ vi = .int .i64 i ∧ vm = .int .i64 (cntN n c i : Int)) (fun _ vi => n - (intOf vi).toNat)
  case atStart => exact ⟨0, Nat.zero_le _, rfl, rfl⟩
  case round =>
    obtain ⟨i, hi1, rfl, rfl⟩ := hrel
    by_cases hlt : i < n
    · obtain ⟨b2, o2, rfl, hbz2, hnum⟩ := HL.out.num hlt
      have hni := hnum i hlt
      clear hnum
      have hn64 := HNU.out i hlt
      have hcnt := cnt_le (n := n) (c := c) (k := i)
      have HM := Lib.hid (cnt_max HP.out hlt)
      generalize numF n c i = x at *
      generalize cntN n c i = m at *
      have hmx : max (m : Int) ((x : Int) + 1) = ((max m (x + 1) : Nat) : Int) := by omega
      have HMX := Lib.hid hmx
      clear hmx
      go_wp2_with fail
      exact ⟨⟨i + 1, by omega, by go_num, by rw [← HM.out, ← HMX.out]; congr 1; split <;> omega⟩, by simp [intOf]; omega⟩
    · obtain rfl : n = i := by omega
      rw [← HKE.out]
      go_wp2_with (refine wpList_make_full _ rfl _ _ 22 rfl w.heap.size 37 i0 (.int .u64 0) 1 Tryd.underlying22 hi hz0 hz1 .i64 .i64 _ _ K rfl rfl (by simp) (by simp) ?c1 ?c2 ?c3 ?_)
      case c1 => first | omega | (rw [hz2]; omega)
      case c2 => unfold maxLen; omega
      case c3 => exact HB2.out.size
      intro w3 hown0 hg1
      have hb3 : Below w2.heap.size w2 w3 := (Below.refl _ w2).grown hg1 (Nat.le_refl _) (by intro k hk; cases hk)
      have hown : ownsU w3 w.heap.size w2.heap.size K 37 (ordI n c (numF n c) 0) := by
        refine ownsU_congr (f := fun _ => 0) ?_ fun t _ => rfl
        unfold ownsU
        rw [← rowU_made]
        simpa using hown0
      have HO := Lib.hid hown
      have HB3 := Lib.hid hb3
      clear hown hown0 hg1 hb3
      go_wp2_with fail
      go_loopw [30] (fun vi wr => ∃ i : Nat, i ≤ n ∧ vi = .int .i64 i ∧ ownsU wr w.heap.size w2.heap.size K 37 (ordI n c (numF n c) i) ∧ Below w2.heap.size w2 wr) (fun vi _ => n - (intOf vi).toNat)
      case atStart => exact ⟨0, Nat.zero_le _, rfl, HO.out, HB3.out⟩
      case round =>
        obtain ⟨i, hi1, rfl, ho, hb⟩ := hrel
        have HO4 := Lib.hid ho
        have HB4 := Lib.hid hb
        have HB5 := Lib.hid (HB2.out.trans (hb.mono HB2.out.size))
        clear ho hb
        by_cases hlt : i < n
        · have HST : Hid (ordI n c (numF n c) (i + 1) = rowO (numF n c) (numF n c i) (ordI n c (numF n c) i) (mem (c i) n)) := Lib.hid rfl
          have HRU := Lib.hid (fun j (hj : j ≤ n) y => rowO_u (num := numF n c) (x := numF n c i) (l := mem (c i) j) (fun t ht => HNU.out t (by have := (mem_mem.1 ht).1; omega)) (HOU.out i) y)
          obtain ⟨F, hF⟩ : ∃ F, F = ordI n c (numF n c) i := ⟨_, rfl⟩
          have HO5 := HO4
          rw [← hF] at HO5 HST HRU
          clear hF
          obtain ⟨x, hx⟩ : ∃ x, x = numF n c i := ⟨_, rfl⟩
          have HX := Lib.hid hx
          have hxK : x < K := by rw [hx]; exact HNK.out i hlt
          rw [← hx] at HST HRU
          clear hx
          go_wp2_with fail
          obtain ⟨wo, rfl⟩ : ∃ wo : World, wo = wr := ⟨_, rfl⟩
          go_loopw [35] (fun vj wr => ∃ j : Nat, j ≤ n ∧ vj = .int .i64 j ∧ ownsU wr w.heap.size w2.heap.size K 37 (rowO (numF n c) x F (mem (c i) j)) ∧ Below w2.heap.size w2 wr) (fun vj _ => n - (intOf vj).toNat)
          case atStart => exact ⟨0, Nat.zero_le _, rfl, HO5.out, HB4.out⟩
          case round =>
            obtain ⟨j, hj1, rfl, ho, hb⟩ := hrel
            have HO6 := Lib.hid ho
            have HB7 := Lib.hid hb
            clear ho hb
            by_cases hltj : j < n
            · rcases HC2.out.keep HB7.out with h0 | ⟨bb, off, rfl, hbz, hc⟩
              · omega
              have hci := (hc i hlt).1
              have hcu := (hc i hlt).2
              clear hc
              cases ht : (c i).testBit j
              · have HT := Lib.hid ht
                have HX2 := Lib.hid (mem_no ht)
                clear ht
                go_wp2_with fail
                refine (rhas_any _ j _ hcu (by omega)).mono ?_
                rintro e w' ⟨rfl, rfl⟩
                rw [HT.out]
                go_wp2_with fail
                exact ⟨⟨j + 1, by omega, by go_num, by rw [HX2.out]; exact HO6.out, HB7.out⟩, by simp [intOf]; omega⟩
              · have HT := Lib.hid ht
                have HX2 := Lib.hid (mem_yes ht)
                clear ht
                obtain ⟨b2, o2, rfl, hbz2, hnum⟩ := (HL.out.keep HB7.out).num hlt
                have hni := hnum i hlt
                have hnj := hnum j hltj
                rw [← HX.out] at hni
                have hj64 := HNU.out j hltj
                clear hnum
                have hco := ownsU_cell HO6.out hxK
                have hfo := ownsU_free HO6.out x
                have hou := HRU.out j hj1 x
                obtain ⟨y, hy⟩ : ∃ y, y = rowO (numF n c) x F (mem (c i) j) x := ⟨_, rfl⟩
                rw [← hy] at hco hou
                obtain ⟨m, hm⟩ : ∃ m, m = numF n c j := ⟨_, rfl⟩
                rw [← hm] at hnj hj64
                obtain ⟨p, hp⟩ : ∃ p, p = 2 ^ m := ⟨_, rfl⟩
                have hpu : p < 18446744073709551616 := by rw [hp]; exact pow_lt64 hj64
                obtain ⟨z, hz⟩ : ∃ z, z = y ||| p := ⟨_, rfl⟩
                have hS : bits .or .u64 (y : Int) (p : Int) = (z : Int) := by rw [hz]; exact u_or hou hpu
                have HZ := Lib.hid (show ∀ t, (if t = x then z else rowO (numF n c) x F (mem (c i) j) t) = rowO (numF n c) x F (mem (c i) (j + 1)) t from fun t => by
                  rw [HX2.out, rowO_snoc, stepO]
                  by_cases e : t = x
                  · subst e; rw [if_pos rfl, if_pos rfl, hz, hy, hp, hm]
                  · rw [if_neg e, if_neg e])
                have HBIT := Lib.hid (fun W : World => show Calls Tryd.prog 24 #[.int .i64 m] W fun e w' => e = .returned (.int .u64 (p : Int)) ∧ W = w' from by rw [hp]; exact rbit_any m W hj64)
                clear hy hm hp hz hpu hou
                have hx0 : (0 : Int) ≤ (x : Int) := by omega
                have hxk : (x : Int) < (K : Int) := by omega
                have hi0 : (0 : Int) ≤ (i : Int) := by omega
                have hin : (i : Int) < (n : Int) := by omega
                have hj0 : (0 : Int) ≤ (j : Int) := by omega
                have hjn2 : (j : Int) < (n : Int) := by omega
                go_wp2_with fail
                refine (rhas_any _ j _ hcu (by omega)).mono ?_
                rintro e w' ⟨rfl, rfl⟩
                rw [HT.out]
                go_wp2_with fail
                refine wp_region_still_tail 19 (by kernel_rfl) (by kernel_rfl) ?_
                simp only [List.take_succ_cons, List.take_zero, List.drop_succ_cons, List.drop_zero]
                repeat still_step
                still_call ((HBIT.out _).mono fun e w' ⟨h1, h2⟩ => ⟨h1, h2.symm⟩)
                repeat still_step
                refine wpStill_nil ?_
                change wpList _ _ _ _ _ wr.drew
                all_goals
                  go_wp2_with fail
                  exact ⟨⟨j + 1, by omega, by go_num, ownsU_congr (ownsU_set (ownsU_drew HO6.out) x z) (fun t _ => HZ.out t), HB7.out.drew.setCell (Nat.le_refl _) _⟩, by simp [intOf]; omega⟩
            · obtain rfl : n = j := by omega
              go_wp2_with fail
              exact ⟨⟨i + 1, by omega, by go_num, by rw [HST.out]; exact HO6.out, HB7.out⟩, by simp [intOf]; omega⟩
        · obtain rfl : n = i := by omega
          go_wp2_with fail
          go_ret
          exact ⟨_, _, rfl, Row.owned HO4.out (fun y _ => HOU.out n y), HB5.out⟩
end Go.Proofs.YtbmbgdfnhbkelaaDoor
