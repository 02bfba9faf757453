/- Contracts: word.Occurrences and the reference's Occurrences. -/
import Derived.Test.YtnhfagolmafonabWordX
import Derived.Test.YtnhfagolmafonabWordQM
namespace Go.Proofs.Ytnhfagolmafonab
open Go.RowKit Go.Sort
open WordM
set_option linter.unusedVariables false


/-- the number of occurrences modulo m, 0 for a modulus out of range -/
def occZ (m : Int) (u v : ByteArray) : Int := if 1 ≤ m ∧ m ≤ 2147483648 then occF m u v u.size v.size else 0

set_option maxRecDepth 100000 in
set_option maxHeartbeats 1000000 in
theorem rocc_yes (u v : ByteArray) (m : Int) (w : World) (hu : u.size ≤ 4096) (hv : v.size ≤ maxLen) (hm1 : 1 ≤ m) (hm2 : m ≤ 2147483648) :
    Calls Try.prog 16 #[.string u, .string v, .int .i64 m] w fun e w' => e = .returned (.int .i64 (occF m u v u.size v.size)) ∧ Below w.heap.size w w' := by
  unfold maxLen at hv
  obtain ⟨i0, hi, hz0, hz1, hz2⟩ := info_parts info3
  have hone := Int.emod_nonneg (1 : Int) (show m ≠ 0 by omega)
  have hone2 := Int.emod_lt_of_pos (1 : Int) (show 0 < m by omega)
  go_enter Try.func16, Try.ntmps16
  go_wp2_with (refine wpList_make_full _ rfl _ _ 38 rfl w.heap.size 3 i0 (.int .i64 0) 1 Try.underlying38 hi hz0 hz1 .i64 .i64 _ _ (u.size + 1) rfl rfl (by simp) (by simp) ?c1 ?c2 ?c3 ?_)
  case c1 => rw [hz2]; omega
  case c2 => unfold maxLen; omega
  case c3 => exact Nat.le_refl _
  intro w1 hown0 hg1
  have hown : ownsF w1 w.heap.size w.heap.size (u.size + 1) 3 (fun _ => 0) := by
    unfold ownsF
    rw [← rowF_made]
    simpa using hown0
  have hb : Below w.heap.size w w1 := (Below.refl _ w).grown hg1 (Nat.le_refl _) (by intro k hk; cases hk)
  have hc0 := ownsF_cell hown (show 0 < u.size + 1 by omega)
  have hf0 := ownsF_free hown 0
  clear hown0 hg1
  go_wp2_with fail
  go_loopw [8] (fun vi wr => ∃ i : Nat, vi = .int .i64 i ∧ i ≤ v.size ∧ ownsF wr w.heap.size w.heap.size (u.size + 1) 3 (fun t => occF m u v t i) ∧ Below w.heap.size w wr) (fun vi _ => v.size - (intOf vi).toNat)
  case atStart =>
    refine ⟨0, rfl, Nat.zero_le _, ownsF_congr (ownsF_set hown 0 (1 % m)) ?_, hb.setCell (Nat.le_refl _) _⟩
    intro t ht
    cases t with
    | zero => rw [if_pos rfl, occF_zero]
    | succ t => rw [if_neg (by omega), occF_start m u v t (by omega)]
  case round =>
    obtain ⟨i, rfl, hi1, how, hbw⟩ := hrel
    clear hown hb hc0 hf0
    by_cases hlt : i < v.size
    · go_wp2_with fail
      obtain ⟨wo, rfl⟩ : ∃ wo : World, wo = wr := ⟨_, rfl⟩
      go_loopw [9] (fun vj wr => ∃ j : Nat, vj = .int .i64 j ∧ j ≤ u.size ∧ ownsF wr w.heap.size w.heap.size (u.size + 1) 3 (fun t => if t ≤ j then occF m u v t i else occF m u v t (i + 1)) ∧ Below w.heap.size w wr) (fun vj _ => (intOf vj).toNat)
      case atStart =>
        refine ⟨u.size, rfl, Nat.le_refl _, ownsF_congr how ?_, hbw⟩
        intro t ht
        rw [if_pos (by omega)]
      case round =>
        obtain ⟨j, rfl, hj, how2, hb2⟩ := hrel
        clear how hbw
        cases j with
        | zero =>
          go_wp2_with fail
          refine ⟨⟨i + 1, by go_num, by omega, ownsF_congr how2 ?_, hb2⟩, by simp [intOf]; omega⟩
          intro t ht
          cases t with
          | zero => rw [if_pos (by omega), occF_zero, occF_zero]
          | succ t => rw [if_neg (by omega)]
        | succ j =>
          have hcj := ownsF_cell how2 (show j + 1 < u.size + 1 by omega)
          have hck := ownsF_cell how2 (show j < u.size + 1 by omega)
          have hfj := ownsF_free how2 (j + 1)
          rw [if_pos (by omega)] at hcj hck
          obtain ⟨x0, x1⟩ := occF_range hm1 u v (j + 1) i
          obtain ⟨y0, y1⟩ := occF_range hm1 u v j i
          have hs := @occF_same m u v j i (by omega) hlt
          have ho := @occF_other m u v j i (by omega) hlt
          have hz := occF_zero m u v
          generalize hX : occF m u v (j + 1) i = x at *
          generalize hY : occF m u v j i = y at *
          have HS := Lib.hid hs
          have HO := Lib.hid ho
          have HX := Lib.hid hX
          have HY := Lib.hid hY
          clear hs ho hX hY hz
          have HW2 := Lib.hid how2
          clear how2
          by_cases he : u[j] = v[i]
          · have heb : ((u[j].toNat : Int) == (v[i].toNat : Int)) = true := by rw [he]; simp
            have HE := Lib.hid he
            clear he
            go_wp2_with fail
            have hwj : IntKind.i64.wrap (j : Int) = (j : Int) := IntWalk.i64_in _ (by omega)
            have hjI : (j : Int) < (u.size : Int) := by omega
            have hj0 : (0 : Int) ≤ (j : Int) := by omega
            have hiI : (i : Int) < (v.size : Int) := by omega
            have hi0 : (0 : Int) ≤ (i : Int) := by omega
            go_quiet (fail)
            go_wp2_with fail
            go_region
            go_wp2_with fail
            refine ⟨⟨j, rfl, by omega, ownsF_congr (ownsF_set (ownsF_drewN HW2.out) (j + 1) _) ?_, (below_drewN hb2 _).setCell (Nat.le_refl _) _⟩, by simp [intOf]⟩
            intro t ht
            by_cases e : t = j + 1
            · subst e
              rw [if_pos rfl, if_neg (by omega), HS.out HE.out]
            · rw [if_neg e]
              by_cases ht2 : t ≤ j
              · rw [if_pos (by omega), if_pos ht2]
              · rw [if_neg (by omega), if_neg ht2]
          · have heb : ((u[j].toNat : Int) == (v[i].toNat : Int)) = false := by
              rw [beq_eq_false_iff_ne]; intro e; exact he (UInt8.toNat_inj.1 (by omega))
            have HE := Lib.hid he
            clear he
            go_wp2_with fail
            have hwj : IntKind.i64.wrap (j : Int) = (j : Int) := IntWalk.i64_in _ (by omega)
            have hjI : (j : Int) < (u.size : Int) := by omega
            have hj0 : (0 : Int) ≤ (j : Int) := by omega
            have hiI : (i : Int) < (v.size : Int) := by omega
            have hi0 : (0 : Int) ≤ (i : Int) := by omega
            go_quiet (fail)
            go_wp2_with fail
            refine ⟨⟨j, rfl, by omega, ownsF_congr (ownsF_drewN HW2.out) ?_, below_drewN hb2 _⟩, by simp [intOf]⟩
            intro t ht
            by_cases e : t = j + 1
            · subst e
              rw [if_pos (Nat.le_refl _), if_neg (by omega), HO.out HE.out, HX.out]
            · by_cases ht2 : t ≤ j
              · rw [if_pos (by omega), if_pos ht2]
              · rw [if_neg (by omega), if_neg ht2]
    · have hce := ownsF_cell how (show u.size < u.size + 1 by omega)
      have hiv : i = v.size := by omega
      have HIV := Lib.hid hiv
      clear hiv
      go_wp2_with fail
      go_ret
      exact ⟨by rw [HIV.out]; rfl, hbw⟩

set_option maxHeartbeats 400000 in
theorem rocc_no (u v : ByteArray) (m : Int) (w : World) (hm : m < 1 ∨ 2147483648 < m) :
    Calls Try.prog 16 #[.string u, .string v, .int .i64 m] w fun e w' => e = .returned (.int .i64 0) ∧ w = w' := by
  by_cases h : m < 1
  · clear hm
    go_enter Try.func16, Try.ntmps16
    go_wp2_with fail
    go_ret
    exact ⟨rfl, rfl⟩
  · have h2 : 2147483648 < m := by omega
    clear hm
    go_enter Try.func16, Try.ntmps16
    go_wp2_with fail
    go_ret
    exact ⟨rfl, rfl⟩

/-- the reference's Occurrences -/
theorem rocc_any (u v : ByteArray) (m : Int) (w : World) (hu : u.size ≤ 4096) (hv : v.size ≤ maxLen) :
    Calls Try.prog 16 #[.string u, .string v, .int .i64 m] w fun e w' => e = .returned (.int .i64 (occZ m u v)) ∧ Below w.heap.size w w' := by
  by_cases h : 1 ≤ m ∧ m ≤ 2147483648
  · rw [show occZ m u v = occF m u v u.size v.size from if_pos h]
    exact rocc_yes u v m w hu hv h.1 h.2
  · rw [show occZ m u v = 0 from if_neg h]
    refine (rocc_no u v m w (by omega)).mono ?_
    rintro e w' ⟨rfl, rfl⟩
    exact ⟨rfl, Below.refl _ _⟩

set_option maxRecDepth 100000 in
set_option maxHeartbeats 1000000 in
theorem occ_yes (u v : ByteArray) (m : Int) (w : World) (hu : u.size ≤ 4096) (hv : v.size ≤ maxLen) (hm1 : 1 ≤ m) (hm2 : m ≤ 2147483648) :
    Calls Try.prog 15 #[.string u, .string v, .int .i64 m] w fun e w' => e = .returned (.int .i64 (occF m u v u.size v.size)) ∧ Below w.heap.size w w' := by
  unfold maxLen at hv
  obtain ⟨i0, hi, hz0, hz1, hz2⟩ := info_parts info3
  have hone := Int.emod_nonneg (1 : Int) (show m ≠ 0 by omega)
  have hone2 := Int.emod_lt_of_pos (1 : Int) (show 0 < m by omega)
  go_enter Try.func15, Try.ntmps15
  go_wp2_with (refine wpList_make_full _ rfl _ _ 38 rfl w.heap.size 3 i0 (.int .i64 0) 1 Try.underlying38 hi hz0 hz1 .i64 .i64 _ _ (u.size + 1) rfl rfl (by simp) (by simp) ?c1 ?c2 ?c3 ?_)
  case c1 => rw [hz2]; omega
  case c2 => unfold maxLen; omega
  case c3 => exact Nat.le_refl _
  intro w1 hown0 hg1
  have hown : ownsF w1 w.heap.size w.heap.size (u.size + 1) 3 (fun _ => 0) := by
    unfold ownsF
    rw [← rowF_made]
    simpa using hown0
  have hb : Below w.heap.size w w1 := (Below.refl _ w).grown hg1 (Nat.le_refl _) (by intro k hk; cases hk)
  have hc0 := ownsF_cell hown (show 0 < u.size + 1 by omega)
  have hf0 := ownsF_free hown 0
  clear hown0 hg1
  go_wp2_with fail
  go_loopw [26] (fun vi wr => ∃ i : Nat, vi = .int .i64 i ∧ i ≤ v.size ∧ ownsF wr w.heap.size w.heap.size (u.size + 1) 3 (fun t => occF m u v t i) ∧ Below w.heap.size w wr) (fun vi _ => v.size - (intOf vi).toNat)
  case atStart =>
    refine ⟨0, rfl, Nat.zero_le _, ownsF_congr (ownsF_set hown 0 (1 % m)) ?_, hb.setCell (Nat.le_refl _) _⟩
    intro t ht
    cases t with
    | zero => rw [if_pos rfl, occF_zero]
    | succ t => rw [if_neg (by omega), occF_start m u v t (by omega)]
  case round =>
    obtain ⟨i, rfl, hi1, how, hbw⟩ := hrel
    clear hown hb hc0 hf0
    by_cases hlt : i < v.size
    · go_wp2_with fail
      obtain ⟨wo, rfl⟩ : ∃ wo : World, wo = wr := ⟨_, rfl⟩
      go_loopw [9] (fun vj wr => ∃ j : Nat, vj = .int .i64 j ∧ j ≤ u.size ∧ ownsF wr w.heap.size w.heap.size (u.size + 1) 3 (fun t => if t ≤ j then occF m u v t i else occF m u v t (i + 1)) ∧ Below w.heap.size w wr) (fun vj _ => (intOf vj).toNat)
      case atStart =>
        refine ⟨min (i + 1) u.size, by go_num, by omega, ownsF_congr how ?_, hbw⟩
        intro t ht
        by_cases e : t ≤ min (i + 1) u.size
        · rw [if_pos e]
        · rw [if_neg e, occF_long (by omega) (by omega), occF_long (by omega) (by omega)]
      case round =>
        obtain ⟨j, rfl, hj, how2, hb2⟩ := hrel
        clear how hbw
        cases j with
        | zero =>
          go_wp2_with fail
          refine ⟨⟨i + 1, by go_num, by omega, ownsF_congr how2 ?_, hb2⟩, by simp [intOf]; omega⟩
          intro t ht
          cases t with
          | zero => rw [if_pos (by omega), occF_zero, occF_zero]
          | succ t => rw [if_neg (by omega)]
        | succ j =>
          have hcj := ownsF_cell how2 (show j + 1 < u.size + 1 by omega)
          have hck := ownsF_cell how2 (show j < u.size + 1 by omega)
          have hfj := ownsF_free how2 (j + 1)
          rw [if_pos (by omega)] at hcj hck
          obtain ⟨x0, x1⟩ := occF_range hm1 u v (j + 1) i
          obtain ⟨y0, y1⟩ := occF_range hm1 u v j i
          have hs := @occF_same m u v j i (by omega) hlt
          have ho := @occF_other m u v j i (by omega) hlt
          have hz := occF_zero m u v
          generalize hX : occF m u v (j + 1) i = x at *
          generalize hY : occF m u v j i = y at *
          have HS := Lib.hid hs
          have HO := Lib.hid ho
          have HX := Lib.hid hX
          have HY := Lib.hid hY
          clear hs ho hX hY hz
          have HW2 := Lib.hid how2
          clear how2
          by_cases he : u[j] = v[i]
          · have heb : ((u[j].toNat : Int) == (v[i].toNat : Int)) = true := by rw [he]; simp
            have HE := Lib.hid he
            clear he
            go_wp2_with fail
            have hwj : IntKind.i64.wrap (j : Int) = (j : Int) := IntWalk.i64_in _ (by omega)
            have hjI : (j : Int) < (u.size : Int) := by omega
            have hj0 : (0 : Int) ≤ (j : Int) := by omega
            have hiI : (i : Int) < (v.size : Int) := by omega
            have hi0 : (0 : Int) ≤ (i : Int) := by omega
            go_quiet (fail)
            go_wp2_with fail
            go_region
            go_wp2_with fail
            refine ⟨⟨j, rfl, by omega, ownsF_congr (ownsF_set (ownsF_drewN HW2.out) (j + 1) _) ?_, (below_drewN hb2 _).setCell (Nat.le_refl _) _⟩, by simp [intOf]⟩
            intro t ht
            by_cases e : t = j + 1
            · subst e
              rw [if_pos rfl, if_neg (by omega), HS.out HE.out]
            · rw [if_neg e]
              by_cases ht2 : t ≤ j
              · rw [if_pos (by omega), if_pos ht2]
              · rw [if_neg (by omega), if_neg ht2]
          · have heb : ((u[j].toNat : Int) == (v[i].toNat : Int)) = false := by
              rw [beq_eq_false_iff_ne]; intro e; exact he (UInt8.toNat_inj.1 (by omega))
            have HE := Lib.hid he
            clear he
            go_wp2_with fail
            have hwj : IntKind.i64.wrap (j : Int) = (j : Int) := IntWalk.i64_in _ (by omega)
            have hjI : (j : Int) < (u.size : Int) := by omega
            have hj0 : (0 : Int) ≤ (j : Int) := by omega
            have hiI : (i : Int) < (v.size : Int) := by omega
            have hi0 : (0 : Int) ≤ (i : Int) := by omega
            go_quiet (fail)
            go_wp2_with fail
            refine ⟨⟨j, rfl, by omega, ownsF_congr (ownsF_drewN HW2.out) ?_, below_drewN hb2 _⟩, by simp [intOf]⟩
            intro t ht
            by_cases e : t = j + 1
            · subst e
              rw [if_pos (Nat.le_refl _), if_neg (by omega), HO.out HE.out, HX.out]
            · by_cases ht2 : t ≤ j
              · rw [if_pos (by omega), if_pos ht2]
              · rw [if_neg (by omega), if_neg ht2]
    · have hce := ownsF_cell how (show u.size < u.size + 1 by omega)
      have hiv : i = v.size := by omega
      have HIV := Lib.hid hiv
      clear hiv
      go_wp2_with fail
      go_ret
      exact ⟨by rw [HIV.out]; rfl, hbw⟩

set_option maxHeartbeats 400000 in
theorem occ_no (u v : ByteArray) (m : Int) (w : World) (hm : m < 1 ∨ 2147483648 < m) :
    Calls Try.prog 15 #[.string u, .string v, .int .i64 m] w fun e w' => e = .returned (.int .i64 0) ∧ w = w' := by
  by_cases h : m < 1
  · clear hm
    go_enter Try.func15, Try.ntmps15
    go_wp2_with fail
    go_ret
    exact ⟨rfl, rfl⟩
  · have h2 : 2147483648 < m := by omega
    clear hm
    go_enter Try.func15, Try.ntmps15
    go_wp2_with fail
    go_ret
    exact ⟨rfl, rfl⟩

/-- word.Occurrences -/
theorem occ_any (u v : ByteArray) (m : Int) (w : World) (hu : u.size ≤ 4096) (hv : v.size ≤ maxLen) :
    Calls Try.prog 15 #[.string u, .string v, .int .i64 m] w fun e w' => e = .returned (.int .i64 (occZ m u v)) ∧ Below w.heap.size w w' := by
  by_cases h : 1 ≤ m ∧ m ≤ 2147483648
  · rw [show occZ m u v = occF m u v u.size v.size from if_pos h]
    exact occ_yes u v m w hu hv h.1 h.2
  · rw [show occZ m u v = 0 from if_neg h]
    refine (occ_no u v m w (by omega)).mono ?_
    rintro e w' ⟨rfl, rfl⟩
    exact ⟨rfl, Below.refl _ _⟩
end Go.Proofs.Ytnhfagolmafonab
