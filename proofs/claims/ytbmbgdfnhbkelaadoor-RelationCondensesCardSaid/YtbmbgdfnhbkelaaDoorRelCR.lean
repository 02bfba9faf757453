/- Contracts: the reference's Components and Order. -/
import Derived.Test.YtbmbgdfnhbkelaaDoorRelCO
import Derived.Test.YtbmbgdfnhbkelaaDoorRelK
namespace Go.Proofs.YtbmbgdfnhbkelaaDoor
open Go Go.RowKit
set_option linter.unusedVariables false

/-- the number that point k has after its first j comparisons -/
def mvF (n : Nat) (c : Nat → Nat) (k : Nat) : Nat → Int
  | 0 => -1
  | j + 1 => if (c k).testBit j && (c j).testBit k then (numF n c k : Int) else mvF n c k j
theorem mv_yes {n k j : Nat} {c : Nat → Nat} (h1 : (c k).testBit j = true) (h2 : (c j).testBit k = true) : mvF n c k (j + 1) = (numF n c k : Int) := by simp [mvF, h1, h2]
theorem mv_no1 {n k j : Nat} {c : Nat → Nat} (h1 : (c k).testBit j = false) : mvF n c k (j + 1) = mvF n c k j := by simp [mvF, h1]
theorem mv_no2 {n k j : Nat} {c : Nat → Nat} (h2 : (c j).testBit k = false) : mvF n c k (j + 1) = mvF n c k j := by simp [mvF, h2]
theorem mv_some {n k t : Nat} {c : Nat → Nat} (h1 : (c k).testBit t = true) (h2 : (c t).testBit k = true) : ∀ {j : Nat}, t < j → mvF n c k j = (numF n c k : Int)
  | 0, h => by omega
  | j + 1, h => by
    rw [mvF]
    split
    · rfl
    · rename_i hn
      have e : t ≠ j := by intro e; subst e; rw [h1, h2] at hn; exact hn rfl
      exact mv_some h1 h2 (j := j) (by omega)
theorem mv_none {n k : Nat} {c : Nat → Nat} : ∀ {j : Nat}, (∀ t, t < j → ¬ ((c k).testBit t = true ∧ (c t).testBit k = true)) → mvF n c k j = -1
  | 0, _ => rfl
  | j + 1, h => by
    rw [mvF, if_neg (by rw [Bool.and_eq_true]; exact h j (by omega))]
    exact mv_none fun t ht => h t (by omega)
theorem mv_other {n k : Nat} {c : Nat → Nat} (P : Pre n c) (hk : k < n) (h : leastF n c k < k) : mvF n c k k = (numF n c k : Int) := by
  obtain ⟨h1, h2, h3⟩ := least_bit P hk
  exact mv_some h1 h3 h
theorem mv_rep {n k : Nat} {c : Nat → Nat} (P : Pre n c) (hk : k < n) (h : ¬ leastF n c k < k) : mvF n c k k = -1 :=
  mv_none fun t ht hm => by
    have := least_min P hk (mut_bit.2 ⟨hm.1, by omega, hm.2⟩)
    omega
/-- the numbers before k, v at k, 0 behind -/
def upK (k : Nat) (v : Int) (h : Nat → Nat) (t : Nat) : Int := if t = k then v else upI k 0 h t
theorem upK_at (k : Nat) (v : Int) (h : Nat → Nat) : upK k v h k = v := by simp [upK]
theorem upK_below {k t : Nat} {v : Int} {h : Nat → Nat} (ht : t < k) : upK k v h t = (h t : Int) := by
  rw [upK, if_neg (by omega), upI_below ht]
theorem upK_end {k : Nat} {h : Nat → Nat} (t : Nat) : upK k (h k : Int) h t = upI (k + 1) 0 h t := by
  unfold upK upI
  by_cases e : t = k
  · subst e; rw [if_pos rfl, if_pos (by omega)]
  · rw [if_neg e]
    by_cases h2 : t < k
    · rw [if_pos h2, if_pos (by omega)]
    · rw [if_neg h2, if_neg (by omega)]
theorem ownsF_upK {w : World} {base g n : Nat} {e : TypeId} {k : Nat} {v x y : Int} {h : Nat → Nat} (ho : ownsF w base g n e (upK k v h)) (hx : x = y) : ownsF (w.setCell ⟨g, k, none⟩ (.int .i64 x)) base g n e (upK k y h) := by
  subst hx
  refine ownsF_congr (ownsF_set ho k x) fun t ht => ?_
  unfold upK
  by_cases et : t = k
  · rw [if_pos et, if_pos et]
  · rw [if_neg et, if_neg et, if_neg et]
theorem ownsF_upK0 {w : World} {base g n : Nat} {e : TypeId} {k : Nat} {x : Int} {h : Nat → Nat} (ho : ownsF w base g n e (upI k 0 h)) : ownsF (w.setCell ⟨g, k, none⟩ (.int .i64 x)) base g n e (upK k x h) :=
  ownsF_congr (ownsF_set ho k x) fun t ht => rfl

set_option maxRecDepth 100000 in
set_option maxHeartbeats 4000000 in
/-- the reference's Components -/
theorem rcomponents_ok (a : Option Addr) (n cc : Nat) (f : Nat → Nat) (w : World) (hr : Row w a n f) (hv : valB n f = true) (hnil : a = none → n = 0 ∧ cc = 0) :
    Calls Tryd.prog 11 #[.slice a n cc] w (GivesL w (numL n (clF n f))) := by
  have HA := Lib.hid hr
  have HP := Lib.hid (clF_pre hv)
  have hn := (valB_iff.1 hv).1
  have HN := Lib.hid hnil
  clear hr hv hnil
  obtain ⟨c, hcl⟩ : ∃ c, c = clF n f := ⟨_, rfl⟩
  rw [← hcl] at HP ⊢
  have HCL := Lib.hid hcl
  clear hcl
  obtain ⟨i0, hi, hz0, hz1, hz2⟩ := info_parts infoI
  go_enter Tryd.func11, Tryd.ntmps11
  go_wp2_with fail
  refine (rclosure_ok _ _ _ _ _ HA.out hn HN.out).mono ?_
  rintro e w1 ⟨r1, c1, rfl, hR, hB⟩
  rw [← HCL.out] at hR
  have HC := Lib.hid hR
  have HB1 := Lib.hid hB
  clear hR hB
  go_wp2_with (refine wpList_make_full _ rfl _ _ 23 rfl w.heap.size 3 i0 (.int .i64 0) 1 Tryd.underlying23 hi hz0 hz1 .i64 .i64 _ _ n rfl rfl (by simp) (by simp) ?c1 ?c2 ?c3 ?_)
  case c1 => rw [hz2]; omega
  case c2 => unfold maxLen; omega
  case c3 => exact HB1.out.size
  intro w2 hown0 hg1
  have hb2 : Below w1.heap.size w1 w2 := (Below.refl _ w1).grown hg1 (Nat.le_refl _) (by intro k hk; cases hk)
  have hown : ownsF w2 w.heap.size w1.heap.size n 3 (upI 0 0 (numF n c)) := by
    refine ownsF_congr (f := fun _ => 0) ?_ fun t _ => by simp [upI]
    unfold ownsF
    rw [← rowF_made]
    simpa using hown0
  have HO := Lib.hid hown
  have HB2 := Lib.hid hb2
  clear hown hown0 hg1 hb2
  go_wp2_with fail
  go_loopw [5, 15] (fun vc vi wr => ∃ k : Nat, k ≤ n ∧ vi = .int .i64 k ∧ vc = .int .i64 (cntN n c k : Int) ∧ ownsF wr w.heap.size w1.heap.size n 3 (upI k 0 (numF n c)) ∧ Below w1.heap.size w1 wr) (fun _ vi _ => n - (intOf vi).toNat)
  case atStart => exact ⟨0, Nat.zero_le _, rfl, rfl, HO.out, HB2.out⟩
  case round =>
    obtain ⟨k, hk, rfl, rfl, ho, hb⟩ := hrel
    have HO4 := Lib.hid ho
    have HB4 := Lib.hid hb
    have HB5 := Lib.hid (HB1.out.trans (hb.mono HB1.out.size))
    clear ho hb
    by_cases hlt : k < n
    · have hck := ownsF_cell HO4.out hlt
      have hfk := ownsF_free HO4.out k
      rw [upI_at] at hck
      have hcnt := cnt_le (n := n) (c := c) (k := k)
      have HLE := Lib.hid (least_le HP.out hlt)
      go_wp2_with fail
      have HO5 := Lib.hid (ownsF_upK0 (x := -1) HO4.out)
      have HB6 := Lib.hid (HB4.out.setCell (p := ⟨w1.heap.size, k, none⟩) (Nat.le_refl _) (.int .i64 (-1)))
      obtain ⟨wo, hwo⟩ : ∃ wo : World, wo = wr := ⟨_, rfl⟩
      go_loopw [7] (fun vj wr => ∃ j : Nat, j ≤ k ∧ vj = .int .i64 j ∧ ownsF wr w.heap.size w1.heap.size n 3 (upK k (mvF n c k j) (numF n c)) ∧ Below w1.heap.size w1 wr) (fun vj _ => k - (intOf vj).toNat)
      case atStart => exact ⟨0, Nat.zero_le _, rfl, HO5.out, HB6.out⟩
      case round =>
        obtain ⟨j, hj, rfl, ho, hb⟩ := hrel
        have HO6 := Lib.hid ho
        have HB7 := Lib.hid hb
        clear ho hb hwo hck hfk
        have hck := ownsF_cell HO6.out hlt
        have hfk := ownsF_free HO6.out k
        rw [upK_at] at hck
        by_cases hltj : j < k
        · rcases HC.out.keep HB7.out with h0 | ⟨bb, off, rfl, hbz, hc⟩
          · omega
          have hc1 := (hc k hlt).1
          have hu1 := (hc k hlt).2
          have hc2 := (hc j (by omega)).1
          have hu2 := (hc j (by omega)).2
          clear hc
          have hcj := ownsF_cell HO6.out (show j < n by omega)
          rw [upK_below hltj] at hcj
          cases ht : (c k).testBit j
          · have HT := Lib.hid ht
            have HX := Lib.hid (mv_no1 (n := n) ht)
            clear ht
            go_wp2_with fail
            refine (rhas_any _ j _ hu1 (by omega)).mono ?_
            rintro e w' ⟨rfl, rfl⟩
            rw [HT.out]
            go_wp2_with fail
            exact ⟨⟨j + 1, by omega, by go_num, by rw [HX.out]; exact HO6.out, HB7.out⟩, by simp [intOf]; omega⟩
          · have HT := Lib.hid ht
            cases hu : (c j).testBit k
            · have HU := Lib.hid hu
              have HX := Lib.hid (mv_no2 (n := n) hu)
              clear ht hu
              go_wp2_with fail
              refine (rhas_any _ j _ hu1 (by omega)).mono ?_
              rintro e w' ⟨rfl, rfl⟩
              rw [HT.out]
              go_wp2_with fail
              refine (rhas_any _ k _ hu2 (by omega)).mono ?_
              rintro e w' ⟨rfl, rfl⟩
              rw [HU.out]
              go_wp2_with fail
              exact ⟨⟨j + 1, by omega, by go_num, by rw [HX.out]; exact HO6.out, HB7.out⟩, by simp [intOf]; omega⟩
            · have HU := Lib.hid hu
              have HX := Lib.hid (show (numF n c j : Int) = mvF n c k (j + 1) by
                rw [mv_yes ht hu, (num_mut HP.out (by omega) hlt).2 ⟨hu, ht⟩])
              clear ht hu
              go_wp2_with fail
              refine (rhas_any _ j _ hu1 (by omega)).mono ?_
              rintro e w' ⟨rfl, rfl⟩
              rw [HT.out]
              go_wp2_with fail
              refine (rhas_any _ k _ hu2 (by omega)).mono ?_
              rintro e w' ⟨rfl, rfl⟩
              rw [HU.out]
              go_wp2_with fail
              exact ⟨⟨j + 1, by omega, by go_num, ownsF_upK HO6.out HX.out, HB7.out.setCell (Nat.le_refl _) _⟩, by simp [intOf]; omega⟩
        · obtain rfl : j = k := by omega
          by_cases hl : leastF n c j < j
          · have HMV := Lib.hid (mv_other HP.out hlt hl)
            have HC9 := Lib.hid (cnt_other hl)
            rw [HMV.out] at hck
            have HO7 := Lib.hid (show ownsF wr w.heap.size w1.heap.size n 3 (upI (j + 1) 0 (numF n c)) from by
              have := HO6.out; rw [HMV.out] at this; exact ownsF_congr this fun t _ => upK_end t)
            have hz : ¬ ((numF n c j : Int) < 0) := by omega
            clear hl
            go_wp2_with fail
            exact ⟨⟨j + 1, by omega, by go_num, by rw [HC9.out], HO7.out, HB7.out⟩, by simp [intOf]; omega⟩
          · have HMV := Lib.hid (mv_rep HP.out hlt hl)
            have HC9 := Lib.hid (cnt_rep hl)
            rw [HMV.out] at hck
            have HX := Lib.hid (show (cntN n c j : Int) = (numF n c j : Int) by rw [num_rep HP.out hlt hl])
            have HO7 := Lib.hid (ownsF_upK (y := (numF n c j : Int)) HO6.out HX.out)
            clear hl
            go_wp2_with fail
            exact ⟨⟨j + 1, by omega, by go_num, by rw [HC9.out]; go_num, ownsF_congr HO7.out fun t _ => upK_end t, HB7.out.setCell (Nat.le_refl _) _⟩, by simp [intOf]; omega⟩
    · obtain rfl : n = k := by omega
      have HW := Lib.hid (RowL.ofF HO4.out)
      have HLN := Lib.hid (numL_len n c)
      go_wp2_with fail
      go_ret
      exact ⟨_, _, by rw [HLN.out]; rfl, HW.out, HB5.out⟩
end Go.Proofs.YtbmbgdfnhbkelaaDoor
