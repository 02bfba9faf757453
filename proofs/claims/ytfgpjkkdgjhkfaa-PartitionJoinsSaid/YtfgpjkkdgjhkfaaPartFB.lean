/- Contracts: Meet, the reference's Meet. -/
import Derived.Test.YtfgpjkkdgjhkfaaPartFA
namespace Go.Proofs.Ytfgpjkkdgjhkfaa
open Go Go.RowKit Go.Maps
set_option linter.unusedVariables false

theorem mul_small {x m : Nat} (hx : x ≤ 4096) (hm : m ≤ 4096) : ∃ P, P = x * m ∧ P ≤ 16777216 :=
  ⟨_, rfl, Nat.le_trans (Nat.mul_le_mul hx hm) (Nat.le_refl 16777216)⟩
theorem wrap_small {z : Int} (h0 : 0 ≤ z) (h1 : z ≤ 20000000) : IntKind.i64.wrap z = z ∧ wrap64 z = z := ⟨IntWalk.i64_in _ (by omega), IntWalk.wrap64_in _ (by omega)⟩
theorem met_facts {x y m : Nat} (hx : x ≤ 4096) (hy : y ≤ 4096) (hm : m ≤ 4096) : ∃ P Y : Nat, Y = x * m + y ∧ IntKind.i64.wrap ((x : Int) * (m : Int)) = (P : Int) ∧ wrap64 ((x : Int) * (m : Int)) = (P : Int) ∧ IntKind.i64.wrap ((P : Int) + (y : Int)) = (Y : Int) ∧ wrap64 ((P : Int) + (y : Int)) = (Y : Int) := by
  obtain ⟨P, hP, hb⟩ := mul_small hx hm
  have e1 : (x : Int) * (m : Int) = (P : Int) := by rw [hP]; exact (Int.natCast_mul x m).symm
  have e2 : (P : Int) + (y : Int) = ((P + y : Nat) : Int) := (Int.natCast_add P y).symm
  have w1 := wrap_small (z := (P : Int)) (by omega) (by omega)
  have w2 := wrap_small (z := ((P + y : Nat) : Int)) (by omega) (by omega)
  refine ⟨P, P + y, by rw [hP], ?_, ?_, ?_, ?_⟩
  · rw [e1]; exact w1.1
  · rw [e1]; exact w1.2
  · rw [e2]; exact w2.1
  · rw [e2]; exact w2.2
theorem met_facts4 {x y : Nat} (hx : x ≤ 4096) (hy : y ≤ 4096) : ∃ P Y : Nat, Y = x * 4096 + y ∧ IntKind.i64.wrap ((x : Int) * 4096) = (P : Int) ∧ wrap64 ((x : Int) * 4096) = (P : Int) ∧ IntKind.i64.wrap ((P : Int) + (y : Int)) = (Y : Int) ∧ wrap64 ((P : Int) + (y : Int)) = (Y : Int) := met_facts (m := 4096) hx hy (Nat.le_refl _)
theorem met_b {m i : Nat} {f g : Nat → Int} (hf : canN f i ≤ 4096) (hg : canN g i ≤ 4096) (hm : m ≤ 4096) : B64 (metF m f g i) := by
  obtain ⟨P, hP, hb⟩ := mul_small hf hm
  unfold metF
  rw [← hP]
  unfold B64
  omega

set_option maxRecDepth 100000 in
set_option maxHeartbeats 2000000 in
theorem meet_ok (a : Option Addr) (n c : Nat) (f : Nat → Int) (a' : Option Addr) (c' : Nat) (g : Nat → Int) (w : World) (hr : RowI w a n f) (hs : RowI w a' n g) (hp : pairB n f n g = true) :
    Calls Try.prog 31 #[.slice a n c, .slice a' n c'] w (Gives w n (meetF n f g)) := by
  have H1 := Lib.hid hr
  have H2 := Lib.hid hs
  have HP := Lib.hid hp
  obtain ⟨_, hvf, hvg⟩ := pairB_iff.1 hp
  have hn := (valP_iff.1 hvf).1
  have HE := Lib.hid (valP_iff.1 hvf).2
  have HE' := Lib.hid (valP_iff.1 hvg).2
  clear hr hs hp hvf hvg
  obtain ⟨i0, hi, hz0, hz1, hz2⟩ := info_parts infoI
  go_enter Try.func31, Try.ntmps31
  go_wp2_with fail
  refine (validPair_any _ _ _ _ _ _ _ _ _ H1.out H2.out (by unfold maxLen; omega) (by unfold maxLen; omega)).mono ?_
  rintro e w' ⟨rfl, rfl⟩
  rw [HP.out]
  go_wp2_with (refine wpList_make_full _ rfl _ _ 22 rfl w.heap.size 3 i0 (.int .i64 0) 1 Try.underlying22 hi hz0 hz1 .i64 .i64 _ _ n rfl rfl (by simp) (by simp) ?c1 ?c2 ?c3 ?_)
  try (case c1 => first | (rw [hz2]; omega) | omega)
  try (case c2 => unfold maxLen; omega)
  try (case c3 => exact Nat.le_refl _)
  intro w1 hown0 hg1
  have hown := fresh_own (f := metF n f g) hown0
  have hb : Below w.heap.size w w1 := (Below.refl _ w).grown hg1 (Nat.le_refl _) (by intro k hk; cases hk)
  clear hown0 hg1
  have HO := Lib.hid hown
  have HB := Lib.hid hb
  clear hown hb
  go_wp2_with fail
  go_loopw [17] (fun vi wr => ∃ k : Nat, k ≤ n ∧ vi = .int .i64 k ∧ ownsF wr w.heap.size w.heap.size n (upG k 0 (metF n f g)) ∧ Below w.heap.size w wr) (fun vi _ => n - (intOf vi).toNat)
  case atStart => exact ⟨0, Nat.zero_le _, rfl, HO.out, HB.out⟩
  case round =>
    obtain ⟨k, hk, rfl, ho, hb⟩ := hrel
    have HO2 := Lib.hid ho
    have HB2 := Lib.hid hb
    clear ho hb
    by_cases hlt : k < n
    · have hcell := ownsF_cell HO2.out hlt
      have hfree := ownsF_free HO2.out k
      rcases H1.out.keep HB2.out with h0 | ⟨b, off, rfl, hbz, hc⟩
      · omega
      rcases H2.out.keep HB2.out with h0 | ⟨b', off', rfl, hbz', hc'⟩
      · omega
      have hcf := (hc k hlt).1
      have hcg := (hc' k hlt).1
      rw [HE.out k hlt, can] at hcf
      rw [HE'.out k hlt, can] at hcg
      have hx := canN_le f k
      have hy := canN_le g k
      obtain ⟨x, hxe⟩ : ∃ x, x = canN f k := ⟨_, rfl⟩
      obtain ⟨y, hye⟩ : ∃ y, y = canN g k := ⟨_, rfl⟩
      rw [← hxe] at hcf hx
      rw [← hye] at hcg hy
      obtain ⟨P, Y, hY, hw1, hw2, hw3, hw4⟩ := met_facts (x := x) (y := y) (by omega) (by omega) (show n ≤ 4096 by omega)
      have HF := Lib.hid (show (Y : Int) = metF n f g k by unfold metF; rw [hY, hxe, hye])
      clear hc hc' hxe hye hY
      have hk0 : (0 : Int) ≤ (k : Int) := by omega
      have hkn : (k : Int) < (n : Int) := by omega
      go_wp2_with fail
      go_region
      all_goals
        go_wp2_with fail
        exact ⟨⟨k + 1, by omega, by go_num, ownsF_up (ownsF_drew HO2.out) HF.out, HB2.out.drew.setCell (Nat.le_refl _) _⟩, by simp [intOf]; omega⟩
    · obtain rfl : n = k := by omega
      have HRR := Lib.hid (RowI.owned (ownsF_congr HO2.out fun t ht => upG_all ht) fun i hi => by
        have h1 := canN_le f i
        have h2 := canN_le g i
        exact met_b (by omega) (by omega) (by omega))
      go_wp2_with fail
      refine (canonical_any _ _ _ _ _ HRR.out (by unfold maxLen; omega)).mono ?_
      rintro e w3 ⟨r3, c3, rfl, hR, hB⟩
      rw [canLen_yes hn] at hR ⊢
      have HC := Lib.hid (hR.congr fun i hi => rfl)
      have HB3 := Lib.hid (HB2.out.trans (hB.mono HB2.out.size))
      clear hR hB
      go_wp2_with fail
      go_ret
      exact ⟨_, _, rfl, HC.out.congr fun i hi => rfl, HB3.out⟩

set_option maxHeartbeats 400000 in
theorem meet_no (a : Option Addr) (n c : Nat) (f : Nat → Int) (a' : Option Addr) (m c' : Nat) (g : Nat → Int) (w : World) (hr : RowI w a n f) (hs : RowI w a' m g) (hn : n ≤ maxLen) (hm : m ≤ maxLen) (hp : pairB n f m g = false) :
    Calls Try.prog 31 #[.slice a n c, .slice a' m c'] w fun e w' => e = .returned (.slice none 0 0) ∧ w = w' := by
  have H1 := Lib.hid hr
  have H2 := Lib.hid hs
  have HP := Lib.hid hp
  clear hr hs hp
  go_enter Try.func31, Try.ntmps31
  go_wp2_with fail
  refine (validPair_any _ _ _ _ _ _ _ _ _ H1.out H2.out hn hm).mono ?_
  rintro e w' ⟨rfl, rfl⟩
  rw [HP.out]
  go_wp2_with fail
  go_ret
  exact ⟨rfl, rfl⟩

set_option maxRecDepth 100000 in
set_option maxHeartbeats 2000000 in
theorem meetR_ok (a : Option Addr) (n c : Nat) (f : Nat → Int) (a' : Option Addr) (c' : Nat) (g : Nat → Int) (w : World) (hr : RowI w a n f) (hs : RowI w a' n g) (hp : pairB n f n g = true) :
    Calls Try.prog 33 #[.slice a n c, .slice a' n c'] w (Gives w n (meetF n f g)) := by
  have H1 := Lib.hid hr
  have H2 := Lib.hid hs
  have HP := Lib.hid hp
  obtain ⟨_, hvf, hvg⟩ := pairB_iff.1 hp
  have hn := (valP_iff.1 hvf).1
  have HE := Lib.hid (valP_iff.1 hvf).2
  have HE' := Lib.hid (valP_iff.1 hvg).2
  clear hr hs hp hvf hvg
  obtain ⟨i0, hi, hz0, hz1, hz2⟩ := info_parts infoI
  go_enter Try.func33, Try.ntmps33
  go_wp2_with (refine wpList_make_full _ rfl _ _ 22 rfl w.heap.size 3 i0 (.int .i64 0) 1 Try.underlying22 hi hz0 hz1 .i64 .i64 _ _ n rfl rfl (by simp) (by simp) ?c1 ?c2 ?c3 ?_)
  try (case c1 => first | (rw [hz2]; omega) | omega)
  try (case c2 => unfold maxLen; omega)
  try (case c3 => exact Nat.le_refl _)
  intro w1 hown0 hg1
  have hown := fresh_own (f := metF 4096 f g) hown0
  have hb : Below w.heap.size w w1 := (Below.refl _ w).grown hg1 (Nat.le_refl _) (by intro k hk; cases hk)
  clear hown0 hg1
  have HO := Lib.hid hown
  have HB := Lib.hid hb
  clear hown hb
  go_wp2_with fail
  go_loopw [12] (fun vi wr => ∃ k : Nat, k ≤ n ∧ vi = .int .i64 k ∧ ownsF wr w.heap.size w.heap.size n (upG k 0 (metF 4096 f g)) ∧ Below w.heap.size w wr) (fun vi _ => n - (intOf vi).toNat)
  case atStart => exact ⟨0, Nat.zero_le _, rfl, HO.out, HB.out⟩
  case round =>
    obtain ⟨k, hk, rfl, ho, hb⟩ := hrel
    have HO2 := Lib.hid ho
    have HB2 := Lib.hid hb
    clear ho hb
    by_cases hlt : k < n
    · have hcell := ownsF_cell HO2.out hlt
      have hfree := ownsF_free HO2.out k
      rcases H1.out.keep HB2.out with h0 | ⟨b, off, rfl, hbz, hc⟩
      · omega
      rcases H2.out.keep HB2.out with h0 | ⟨b', off', rfl, hbz', hc'⟩
      · omega
      have hcf := (hc k hlt).1
      have hcg := (hc' k hlt).1
      rw [HE.out k hlt, can] at hcf
      rw [HE'.out k hlt, can] at hcg
      have hx := canN_le f k
      have hy := canN_le g k
      obtain ⟨x, hxe⟩ : ∃ x, x = canN f k := ⟨_, rfl⟩
      obtain ⟨y, hye⟩ : ∃ y, y = canN g k := ⟨_, rfl⟩
      rw [← hxe] at hcf hx
      rw [← hye] at hcg hy
      obtain ⟨P, Y, hY, hw1, hw2, hw3, hw4⟩ := met_facts4 (x := x) (y := y) (by omega) (by omega)
      have HF := Lib.hid (show (Y : Int) = metF 4096 f g k by unfold metF; rw [hY, hxe, hye])
      clear hc hc' hxe hye hY
      have hk0 : (0 : Int) ≤ (k : Int) := by omega
      have hkn : (k : Int) < (n : Int) := by omega
      go_wp2_with fail
      go_region
      all_goals
        go_wp2_with fail
        exact ⟨⟨k + 1, by omega, by go_num, ownsF_up (ownsF_drew HO2.out) HF.out, HB2.out.drew.setCell (Nat.le_refl _) _⟩, by simp [intOf]; omega⟩
    · obtain rfl : n = k := by omega
      have HRR := Lib.hid (RowI.owned (ownsF_congr HO2.out fun t ht => upG_all ht) fun i hi => by
        have h1 := canN_le f i
        have h2 := canN_le g i
        exact met_b (by omega) (by omega) (by omega))
      go_wp2_with fail
      refine (canonicalR_any _ _ _ _ _ HRR.out (by unfold maxLen; omega)).mono ?_
      rintro e w3 ⟨r3, c3, rfl, hR, hB⟩
      rw [canLen_yes hn] at hR ⊢
      have HC := Lib.hid (hR.congr fun i hi => meetR_eq hn f g hi)
      have HB3 := Lib.hid (HB2.out.trans (hB.mono HB2.out.size))
      clear hR hB
      go_wp2_with fail
      go_ret
      exact ⟨_, _, rfl, HC.out, HB3.out⟩
end Go.Proofs.Ytfgpjkkdgjhkfaa
