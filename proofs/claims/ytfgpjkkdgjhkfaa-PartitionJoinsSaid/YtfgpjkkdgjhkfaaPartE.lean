/- Contracts: Refines, the reference's Refines. -/
import Derived.Test.YtfgpjkkdgjhkfaaPartD
namespace Go.Proofs.Ytfgpjkkdgjhkfaa
open Go Go.RowKit Go.Maps
set_option linter.unusedVariables false

set_option maxRecDepth 100000 in
set_option maxHeartbeats 2000000 in
theorem refines_ok (a : Option Addr) (n c : Nat) (f : Nat → Int) (a' : Option Addr) (c' : Nat) (g : Nat → Int) (w : World) (hr : RowI w a n f) (hs : RowI w a' n g) (hp : pairB n f n g = true) :
    Calls Try.prog 29 #[.slice a n c, .slice a' n c'] w fun e w' => e = .returned (.bool (refB n f g)) ∧ Below w.heap.size w w' := by
  have H1 := Lib.hid hr
  have H2 := Lib.hid hs
  have HP := Lib.hid hp
  obtain ⟨_, hvf, hvg⟩ := pairB_iff.1 hp
  have hn := (valP_iff.1 hvf).1
  have HF := Lib.hid hvf
  have HE := Lib.hid (valP_iff.1 hvf).2
  clear hr hs hp hvf hvg
  go_enter Try.func29, Try.ntmps29
  go_wp2_with fail
  refine (validPair_any _ _ _ _ _ _ _ _ _ H1.out H2.out (by unfold maxLen; omega) (by unfold maxLen; omega)).mono ?_
  rintro e w' ⟨rfl, rfl⟩
  rw [HP.out]
  go_wp2_with fail
  refine (leasts_ok _ _ _ _ _ H1.out HF.out).mono ?_
  rintro e w1 ⟨r1, c1, rfl, hR, _, hB⟩
  have HR := Lib.hid hR
  have HA := Lib.hid (H1.out.keep hB)
  have HQ := Lib.hid (H2.out.keep hB)
  have HB := Lib.hid hB
  clear hR hB
  have hcn := cls_le f n
  obtain ⟨M, hM⟩ : ∃ M, M = cls f n := ⟨_, rfl⟩
  have HM := Lib.hid hM
  rw [← hM]
  rw [← hM] at hcn
  clear hM
  go_wp2_with fail
  go_loopw [15] (fun vi wr => ∃ k : Nat, k ≤ n ∧ vi = .int .i64 k ∧ (∀ t, t < k → g t = g (fst f t)) ∧ Below w1.heap.size w1 wr) (fun vi _ => n - (intOf vi).toNat)
  case atStart => exact ⟨0, Nat.zero_le _, rfl, fun t ht => by omega, Below.refl _ _⟩
  case round =>
    obtain ⟨k, hk, rfl, hall, hb⟩ := hrel
    have HALL := Lib.hid hall
    have HB2 := Lib.hid hb
    clear hall hb
    by_cases hlt : k < n
    · rcases HA.out.keep HB2.out with h0 | ⟨b, off, rfl, hbz, hc⟩
      · omega
      rcases HQ.out.keep HB2.out with h0 | ⟨b', off', rfl, hbz', hc'⟩
      · omega
      have hmM := canN_lt (f := f) hlt
      rw [← HM.out] at hmM
      have hfl := fst_le f k
      rcases HR.out.keep HB2.out with h0 | ⟨b2, off2, rfl, hbz2, hc2⟩
      · rw [← HM.out] at h0; omega
      have hcm := (hc2 (canN f k) (by rw [← HM.out]; exact hmM)).1
      rw [getN_least hlt] at hcm
      have hck := (hc k hlt).1
      rw [HE.out k hlt, can] at hck
      have hqk := (hc' k hlt).1
      have hql := (hc' (fst f k) (by omega)).1
      clear hc hc' hc2
      obtain ⟨l, hl⟩ : ∃ l, l = fst f k := ⟨_, rfl⟩
      obtain ⟨m, hm⟩ : ∃ m, m = canN f k := ⟨_, rfl⟩
      rw [← hm] at hcm hck hmM
      rw [← hl] at hcm hql hfl
      clear hm
      have hm0 : (0 : Int) ≤ (m : Int) := by omega
      have hmn : (m : Int) < (M : Int) := by omega
      have hl0 : (0 : Int) ≤ (l : Int) := by omega
      have hln : (l : Int) < (n : Int) := by omega
      have hk0 : (0 : Int) ≤ (k : Int) := by omega
      have hkn : (k : Int) < (n : Int) := by omega
      by_cases hf : g k = g l
      · have h1 : (g k != g l) = false := by rw [hf]; simp
        have HF2 := Lib.hid (show g k = g (fst f k) by rw [← hl]; exact hf)
        clear hf hl
        go_wp2_with fail
        go_quiet (fail)
        go_wp2_with fail
        exact ⟨⟨k + 1, by omega, by go_num, fun t ht => by
            by_cases et : t = k
            · subst et; exact HF2.out
            · exact HALL.out t (by omega), below_drewN HB2.out _⟩, by simp [intOf]; omega⟩
      · have h1 : (g k != g l) = true := by rw [bne_iff_ne]; exact hf
        have HF2 := Lib.hid (show refB n f g = false by rw [← Bool.not_eq_true, refB_iff0]; exact fun h => hf (by rw [hl]; exact h k hlt))
        clear hf hl
        go_wp2_with fail
        go_quiet (fail)
        go_wp2_with fail
        go_ret
        exact ⟨by rw [HF2.out]; rfl, below_drewN (HB.out.trans (HB2.out.mono HB.out.size)) _⟩
    · obtain rfl : n = k := by omega
      have HF2 := Lib.hid (show refB n f g = true from refB_iff0.2 HALL.out)
      go_wp2_with fail
      go_ret
      exact ⟨by rw [HF2.out]; rfl, HB.out.trans (HB2.out.mono HB.out.size)⟩
set_option maxHeartbeats 400000 in
theorem refines_no (a : Option Addr) (n c : Nat) (f : Nat → Int) (a' : Option Addr) (m c' : Nat) (g : Nat → Int) (w : World) (hr : RowI w a n f) (hs : RowI w a' m g) (hn : n ≤ maxLen) (hm : m ≤ maxLen) (hp : pairB n f m g = false) :
    Calls Try.prog 29 #[.slice a n c, .slice a' m c'] w fun e w' => e = .returned (.bool false) ∧ w = w' := by
  have H1 := Lib.hid hr
  have H2 := Lib.hid hs
  have HP := Lib.hid hp
  clear hr hs hp
  go_enter Try.func29, Try.ntmps29
  go_wp2_with fail
  refine (validPair_any _ _ _ _ _ _ _ _ _ H1.out H2.out hn hm).mono ?_
  rintro e w' ⟨rfl, rfl⟩
  rw [HP.out]
  go_wp2_with fail
  go_ret
  exact ⟨rfl, rfl⟩

set_option maxRecDepth 100000 in
set_option maxHeartbeats 2000000 in
theorem refinesR_ok (a : Option Addr) (n c : Nat) (f : Nat → Int) (a' : Option Addr) (c' : Nat) (g : Nat → Int) (w : World) (hr : RowI w a n f) (hs : RowI w a' n g) (hn : n ≤ 4096) :
    Calls Try.prog 30 #[.slice a n c, .slice a' n c'] w fun e w' => e = .returned (.bool (refB n f g)) ∧ Below w.heap.size w w' := by
  have H1 := Lib.hid hr
  have H2 := Lib.hid hs
  clear hr hs
  go_enter Try.func30, Try.ntmps30
  go_wp2_with fail
  go_loopw [9] (fun vi wr => ∃ i : Nat, i ≤ n ∧ vi = .int .i64 i ∧ (∀ t, t < i → ∀ j, j < n → f t = f j → g t = g j) ∧ Below w.heap.size w wr) (fun vi _ => n - (intOf vi).toNat)
  case atStart => exact ⟨0, Nat.zero_le _, rfl, fun t ht => by omega, Below.refl _ _⟩
  case round =>
    obtain ⟨i, hi, rfl, hall, hb⟩ := hrel
    have HALL := Lib.hid hall
    have HB := Lib.hid hb
    clear hall hb
    by_cases hin : i < n
    · go_wp2_with fail
      go_loopw [14] (fun vj wq => ∃ j : Nat, j ≤ n ∧ vj = .int .i64 j ∧ (∀ t, t < j → f i = f t → g i = g t) ∧ Below w.heap.size w wq) (fun vj _ => n - (intOf vj).toNat)
      case atStart => exact ⟨0, Nat.zero_le _, rfl, fun t ht => by omega, HB.out⟩
      case round =>
        obtain ⟨j, hj, rfl, hall2, hb2⟩ := hrel
        have HALL2 := Lib.hid hall2
        have HB2 := Lib.hid hb2
        clear hall2 hb2
        by_cases hjn : j < n
        · rcases H1.out.keep HB2.out with h0 | ⟨b, off, rfl, hbz, hc⟩
          · omega
          rcases H2.out.keep HB2.out with h0 | ⟨b', off', rfl, hbz', hc'⟩
          · omega
          have hfi := (hc i hin).1
          have hfj := (hc j hjn).1
          have hgi := (hc' i hin).1
          have hgj := (hc' j hjn).1
          clear hc hc'
          have hi0 : (0 : Int) ≤ (i : Int) := by omega
          have hinn : (i : Int) < (n : Int) := by omega
          have hj0 : (0 : Int) ≤ (j : Int) := by omega
          have hjnn : (j : Int) < (n : Int) := by omega
          by_cases hf : f i = f j
          · have h1 : (f i == f j) = true := by simp [hf]
            by_cases hg : g i = g j
            · have h2 : (g i != g j) = false := by simp [hg]
              have HG := Lib.hid hg
              clear hf hg
              go_wp2_with fail
              go_quiet (fail)
              go_wp2_with fail
              exact ⟨⟨j + 1, by omega, by go_num, fun t ht => by
                by_cases et : t = j
                · subst et; exact fun _ => HG.out
                · exact HALL2.out t (by omega), below_drewN HB2.out _⟩, by simp [intOf]; omega⟩
            · have h2 : (g i != g j) = true := by rw [bne_iff_ne]; exact hg
              have HN := Lib.hid (refB_no hin hjn hf hg)
              clear hf hg
              go_wp2_with fail
              go_quiet (fail)
              go_wp2_with fail
              go_ret
              exact ⟨by rw [HN.out]; rfl, below_drewN HB2.out _⟩
          · have h1 : (f i == f j) = false := by rw [beq_eq_false_iff_ne]; exact hf
            have HG := Lib.hid hf
            clear hf
            go_wp2_with fail
            go_quiet (fail)
            go_wp2_with fail
            exact ⟨⟨j + 1, by omega, by go_num, fun t ht => by
                by_cases et : t = j
                · subst et; exact fun h => absurd h HG.out
                · exact HALL2.out t (by omega), below_drewN HB2.out _⟩, by simp [intOf]; omega⟩
        · obtain rfl : n = j := by omega
          go_wp2_with fail
          exact ⟨⟨i + 1, by omega, by go_num, fun t ht => by
            by_cases et : t = i
            · subst et; exact HALL2.out
            · exact HALL.out t (by omega), HB2.out⟩, by simp [intOf]; omega⟩
    · obtain rfl : n = i := by omega
      have HF2 := Lib.hid (show refB n f g = true from refB_iff.2 fun i j hi hj e => HALL.out i hi j hj e)
      go_wp2_with fail
      go_ret
      exact ⟨by rw [HF2.out]; rfl, HB.out⟩
end Go.Proofs.Ytfgpjkkdgjhkfaa
