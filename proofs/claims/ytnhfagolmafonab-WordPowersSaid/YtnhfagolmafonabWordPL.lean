/- The walks of the laws on periods and powers. -/
import Derived.Test.YtnhfagolmafonabWordP
namespace Go.Proofs.Ytnhfagolmafonab
open Go.RowKit Go.Sort
open WordM
set_option linter.unusedVariables false

theorem rootE_bounds {s : ByteArray} (hs : s.size ≤ 4096) : 0 ≤ rootE s ∧ rootE s ≤ 4096 := by
  have : s.size / rootL s ≤ s.size := Nat.div_le_self _ _
  unfold rootE
  generalize s.size / rootL s = q at *
  omega

set_option maxRecDepth 100000 in
set_option maxHeartbeats 1000000 in
theorem wWordPeriods (s0 : ByteArray) (_ : s0.size ≤ maxLen) (w : World) :
    Calls Try.prog 9 #[.string s0] w fun e w' => e = .returned (.bool true) ∧ Below w.heap.size w w' := by
  have c1 := cutS_le s0 200
  by_cases h0 : (cutS s0 200).size = 0
  · have he : (cutS s0 200).toList.isEmpty = true := by rw [List.isEmpty_iff, empty_iff]; exact h0
    have he2 := (empty_iff (cutS s0 200)).2 h0
    clear h0
    go_enter Try.func9, Try.ntmps9
    go_wp2_with fail
    refine (cut_any _ _ _ (by omega) (by omega)).mono ?_
    rintro e w2 ⟨rfl, rfl⟩
    rw [show (200 : Int).toNat = 200 from rfl]
    generalize cutS s0 200 = s at *
    go_wp2_with fail
    refine (awake_any _).mono ?_
    rintro e w5 ⟨rfl, hb5⟩
    go_wp2_with fail
    go_ret
    exact ⟨rfl, hb5⟩
  · have he : (cutS s0 200).toList.isEmpty = false := by rw [← Bool.not_eq_true, List.isEmpty_iff, empty_iff]; omega
    have he2 : ¬ (cutS s0 200).toList = [] := by rw [empty_iff]; omega
    have hs0 : 0 < (cutS s0 200).size := by omega
    have hlt := bord_lt hs0
    obtain ⟨p, hp⟩ : ∃ p, p = (cutS s0 200).size - bord (cutS s0 200) := ⟨_, rfl⟩
    have hp1 : 1 ≤ p := by omega
    have hp2 : p ≤ (cutS s0 200).size := by omega
    have hpl : lper (at' (cutS s0 200)) (cutS s0 200).size = p := by rw [hp]; rfl
    have hpI : ((cutS s0 200).size : Int) - (bord (cutS s0 200) : Int) = (p : Int) := by omega
    have hE := rootE_bounds (s := cutS s0 200) (by omega)
    have hP1 : (1 : Int) ≤ (p : Int) := by omega
    have hP2 : (p : Int) ≤ ((cutS s0 200).size : Int) := by omega
    by_cases hd : (cutS s0 200).size % p = 0
    · have hR : rootE (cutS s0 200) = (((cutS s0 200).size / p : Nat) : Int) := by
        have : rootL (cutS s0 200) = p := by simp only [rootL, rlen, hpl, if_pos hd]
        rw [rootE, this]
      have hm : (((cutS s0 200).size : Int) % (p : Int) == 0) = true := by rw [beq_iff_eq, ← Int.natCast_emod, hd]; rfl
      have hq : ((cutS s0 200).size : Int) / (p : Int) = (((cutS s0 200).size / p : Nat) : Int) := (Int.natCast_ediv _ _).symm
      have hQ2 : ((cutS s0 200).size / p) ≤ (cutS s0 200).size := Nat.div_le_self _ _
      generalize (cutS s0 200).size / p = Q at *
      have HR := Lib.hid hR
      clear hp hpl hlt hd hR
      go_enter Try.func9, Try.ntmps9
      go_wp2_with fail
      refine (cut_any _ _ _ (by omega) (by omega)).mono ?_
      rintro e w2 ⟨rfl, rfl⟩
      rw [show (200 : Int).toNat = 200 from rfl]
      generalize cutS s0 200 = s at *
      go_wp2_with fail
      refine (border_some s _ (by omega)).mono ?_
      rintro e w2 ⟨rfl, hb⟩
      go_wp2_with fail
      refine (root_any s _ (by omega)).mono ?_
      rintro e w3 ⟨rfl, hb3⟩
      have hb4 := hb.trans (hb3.mono hb.size)
      rw [HR.out]
      go_wp2_with fail
      refine (awake_any _).mono ?_
      rintro e w5 ⟨rfl, hb5⟩
      have hb6 := hb4.trans (hb5.mono hb4.size)
      go_wp2_with fail
      go_ret
      exact ⟨rfl, hb6⟩
    · have hR : rootE (cutS s0 200) = 1 := by
        have : rootL (cutS s0 200) = (cutS s0 200).size := by simp only [rootL, rlen, hpl, if_neg hd]
        rw [rootE, this, Nat.div_self hs0]; rfl
      have hm : (((cutS s0 200).size : Int) % (p : Int) == 0) = false := by rw [beq_eq_false_iff_ne, ← Int.natCast_emod]; omega
      have HR := Lib.hid hR
      clear hp hpl hlt hd hR
      go_enter Try.func9, Try.ntmps9
      go_wp2_with fail
      refine (cut_any _ _ _ (by omega) (by omega)).mono ?_
      rintro e w2 ⟨rfl, rfl⟩
      rw [show (200 : Int).toNat = 200 from rfl]
      generalize cutS s0 200 = s at *
      go_wp2_with fail
      refine (border_some s _ (by omega)).mono ?_
      rintro e w2 ⟨rfl, hb⟩
      go_wp2_with fail
      refine (root_any s _ (by omega)).mono ?_
      rintro e w3 ⟨rfl, hb3⟩
      have hb4 := hb.trans (hb3.mono hb.size)
      rw [HR.out]
      go_wp2_with fail
      refine (awake_any _).mono ?_
      rintro e w5 ⟨rfl, hb5⟩
      have hb6 := hb4.trans (hb5.mono hb4.size)
      go_wp2_with fail
      go_ret
      exact ⟨rfl, hb6⟩

/-- s, j times -/
def powS (s : ByteArray) : Nat → ByteArray
  | 0 => ⟨#[]⟩
  | j + 1 => powS s j ++ s
theorem powS_size (s : ByteArray) : ∀ j, (powS s j).size = j * s.size
  | 0 => by rw [powS, Nat.zero_mul]; rfl
  | j + 1 => by rw [powS, ByteArray.size_append, powS_size s j, Nat.add_mul, Nat.one_mul]
theorem at_append {u v : ByteArray} {t : Nat} (ht : t < u.size + v.size) : at' (u ++ v) t = if t < u.size then at' u t else at' v (t - u.size) := by
  have hu : u.data.toList.length = u.size := by simp
  have h : (u ++ v).data.toList = u.data.toList ++ v.data.toList := by simp
  simp only [at', h, List.getD]
  by_cases c : t < u.size
  · rw [if_pos c, List.getElem?_append_left (by omega)]
  · rw [if_neg c, List.getElem?_append_right (by omega), hu]
theorem at_powS (s : ByteArray) : ∀ (j t : Nat), t < j * s.size → at' (powS s j) t = at' s (t % s.size)
  | 0, t, h => by simp at h
  | j + 1, t, h => by
    have hj := powS_size s j
    rw [Nat.add_mul, Nat.one_mul] at h
    rw [powS, at_append (by omega)]
    by_cases c : t < (powS s j).size
    · rw [if_pos c]; exact at_powS s j t (by omega)
    · rw [if_neg c, hj]
      have hs : 0 < s.size := by omega
      have hc := Nat.mul_comm j s.size
      have e : t % s.size = t - j * s.size := by
        obtain ⟨r, hr⟩ : ∃ r, t = r + s.size * j := ⟨t - s.size * j, by omega⟩
        rw [hr, Nat.add_mul_mod_self_left, Nat.mod_eq_of_lt (by omega)]
        omega
      rw [e]
theorem root_pow {s : ByteArray} {k : Nat} (hs : 0 < s.size) (hk : 1 ≤ k) : rootS (powS s k) = rootS s ∧ rootE (powS s k) = rootE s * (k : Int) := by
  have hz := powS_size s k
  have hp : 0 < k * s.size := Nat.mul_pos (by omega) hs
  have hL : rootL (powS s k) = rootL s := by
    simp only [rootL, hz]
    exact rlen_power hs hp ⟨k, Nat.mul_comm _ _⟩ (fun t ht => at_powS s k t ht)
  have hd : rootL s ∣ s.size := (rlen_is (at' s) hs).2
  have hle : rootL s ≤ s.size := Nat.le_of_dvd hs hd
  constructor
  · apply ext_data
    have hle2 : rootL s ≤ (powS s k).size := by
      rw [hz]; have := Nat.mul_le_mul_right s.size hk; omega
    apply List.ext_getElem?
    intro t
    simp only [rootS, hL]
    rw [extract_get hle2, extract_get hle]
    by_cases c : t < rootL s - 0
    · rw [if_pos c, if_pos c, Nat.zero_add, at_powS s k t (by rw [← hz]; omega), Nat.mod_eq_of_lt (by omega)]
    · rw [if_neg c, if_neg c]
  · simp only [rootE, hL, hz]
    rw [Nat.mul_div_assoc k hd, Int.natCast_mul, Int.mul_comm]

set_option maxRecDepth 100000 in
set_option maxHeartbeats 1000000 in
theorem wWordPowers (s0 : ByteArray) (_ : s0.size ≤ maxLen) (k : Int) (_ : (Lit.int .i64 k).wf = true) (w : World) :
    Calls Try.prog 3 #[.string s0, .int .i64 k] w fun e w' => e = .returned (.bool true) ∧ Below w.heap.size w w' := by
  have c1 := cutS_le s0 20
  by_cases k1 : k < 1
  · go_enter Try.func3, Try.ntmps3
    go_wp2_with fail
    refine (cut_any _ _ _ (by omega) (by omega)).mono ?_
    rintro e w2 ⟨rfl, rfl⟩
    go_wp2_with fail
    refine (awake_any _).mono ?_
    rintro e w5 ⟨rfl, hb5⟩
    go_wp2_with fail
    go_ret
    exact ⟨rfl, hb5⟩
  by_cases k8 : 8 < k
  · go_enter Try.func3, Try.ntmps3
    go_wp2_with fail
    refine (cut_any _ _ _ (by omega) (by omega)).mono ?_
    rintro e w2 ⟨rfl, rfl⟩
    go_wp2_with fail
    refine (awake_any _).mono ?_
    rintro e w5 ⟨rfl, hb5⟩
    go_wp2_with fail
    go_ret
    exact ⟨rfl, hb5⟩
  by_cases h0 : (cutS s0 20).size = 0
  · have he : (cutS s0 20).toList.isEmpty = true := by rw [List.isEmpty_iff, empty_iff]; exact h0
    have he2 := (empty_iff (cutS s0 20)).2 h0
    clear h0
    go_enter Try.func3, Try.ntmps3
    go_wp2_with fail
    refine (cut_any _ _ _ (by omega) (by omega)).mono ?_
    rintro e w2 ⟨rfl, rfl⟩
    rw [show (20 : Int).toNat = 20 from rfl]
    generalize cutS s0 20 = s at *
    go_wp2_with fail
    refine (awake_any _).mono ?_
    rintro e w5 ⟨rfl, hb5⟩
    go_wp2_with fail
    go_ret
    exact ⟨rfl, hb5⟩
  · have he : (cutS s0 20).toList.isEmpty = false := by rw [← Bool.not_eq_true, List.isEmpty_iff, empty_iff]; omega
    have he2 : ¬ (cutS s0 20).toList = [] := by rw [empty_iff]; omega
    have hs0 : 0 < (cutS s0 20).size := by omega
    obtain ⟨κ, rfl⟩ := Int.eq_ofNat_of_zero_le (show 0 ≤ k by omega)
    have hκ1 : 1 ≤ κ := by omega
    have hκ8 : κ ≤ 8 := by omega
    go_enter Try.func3, Try.ntmps3
    go_wp2_with fail
    refine (cut_any _ _ _ (by omega) (by omega)).mono ?_
    rintro e w2 ⟨rfl, rfl⟩
    rw [show (20 : Int).toNat = 20 from rfl]
    generalize cutS s0 20 = s at *
    go_wp2_with fail
    go_loop [5, 6] (fun vp vi => ∃ j : Nat, vi = .int .i64 j ∧ j ≤ κ ∧ vp = .string (powS s j)) (fun _ vi => κ - (intOf vi).toNat)
    case atStart => exact ⟨0, rfl, Nat.zero_le _, rfl⟩
    case round =>
      obtain ⟨j, rfl, hj, rfl⟩ := hrel
      have hz := powS_size s j
      have hz2 : (powS s j).size ≤ 160 := by rw [hz]; exact Nat.le_trans (Nat.mul_le_mul (show j ≤ 8 by omega) c1) (by omega)
      clear hz
      by_cases hlt : j < κ
      · go_wp2_with fail
        exact ⟨⟨j + 1, by go_num, by omega, rfl⟩, by simp [intOf]; omega⟩
      · obtain rfl : j = κ := by omega
        obtain ⟨r1, r2⟩ := root_pow hs0 hκ1
        have hE := rootE_bounds (s := s) (by omega)
        have hE2 := rootE_bounds (s := powS s j) (by omega)
        rw [r2] at hE2
        have R1 := Lib.hid r1
        have R2 := Lib.hid r2
        clear r1 r2
        have hee : ((rootS s).toList == (rootS s).toList) = true := by simp
        go_wp2_with fail
        refine (root_any s _ (by omega)).mono ?_
        rintro e w3 ⟨rfl, hb3⟩
        go_wp2_with fail
        refine (root_any (powS s j) _ (by omega)).mono ?_
        rintro e w4 ⟨rfl, hb4⟩
        rw [R1.out, R2.out]
        have hb5 := hb3.trans (hb4.mono hb3.size)
        go_wp2_with fail
        refine (awake_any _).mono ?_
        rintro e w6 ⟨rfl, hb6⟩
        have hb7 := hb5.trans (hb6.mono hb5.size)
        go_wp2_with fail
        go_ret
        exact ⟨rfl, hb7⟩
end Go.Proofs.Ytnhfagolmafonab
