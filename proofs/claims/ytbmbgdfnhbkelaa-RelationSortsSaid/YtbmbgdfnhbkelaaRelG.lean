/- Contracts: the reference's Transpose and Compose. -/
import Derived.Test.YtbmbgdfnhbkelaaRelE
import Derived.Test.YtbmbgdfnhbkelaaRelT
import Derived.Deep.RegionWith
namespace Go.Proofs.Ytbmbgdfnhbkelaa
open Go Go.RowKit
set_option linter.unusedVariables false

/-- rows before i are F's, row i is x, the others 0 -/
def upX (i : Nat) (F : Nat → Nat) (x t : Nat) : Nat := if t < i then F t else if t = i then x else 0
theorem upX_at (i : Nat) (F : Nat → Nat) (x : Nat) : upX i F x i = x := by simp [upX]
theorem upX_start (i : Nat) (F : Nat → Nat) (t : Nat) : upF i F t = upX i F 0 t := by unfold upF upX; split <;> simp
theorem upX_end (i : Nat) (F : Nat → Nat) (t : Nat) : upX i F (F i) t = upF (i + 1) F t := by
  unfold upF upX
  by_cases h : t < i
  · rw [if_pos h, if_pos (by omega)]
  · by_cases e : t = i
    · subst e; rw [if_neg h, if_pos rfl, if_pos (by omega)]
    · rw [if_neg h, if_neg e, if_neg (by omega)]
theorem ownsU_upX {w : World} {base g n : Nat} {e : TypeId} {F : Nat → Nat} {i x y y' : Nat} (h : ownsU w base g n e (upX i F x)) (hy : y = y') : ownsU (w.setCell ⟨g, i, none⟩ (.int .u64 (y : Int))) base g n e (upX i F y') := by
  subst hy
  refine ownsU_congr (ownsU_set h i y) fun t ht => ?_
  unfold upX
  by_cases et : t = i
  · subst et; simp
  · rw [if_neg et, if_neg et, if_neg et]
theorem trN_yes {f : Nat → Nat} {t k : Nat} (h : (f k).testBit t = true) : trN f t (k + 1) = trN f t k ||| 2 ^ k := by
  rw [trN, bit_mul, if_pos h]
theorem trN_no {f : Nat → Nat} {t k : Nat} (h : (f k).testBit t = false) : trN f t (k + 1) = trN f t k := by
  rw [trN, bit_mul, if_neg (by rw [h]; decide)]
  simp

set_option maxHeartbeats 1000000 in
/-- the reference's Transpose -/
theorem rtrans_ok (a : Option Addr) (n c : Nat) (f : Nat → Nat) (w : World) (hr : Row w a n f) (hn : n ≤ 64) :
    Calls Try.prog 25 #[.slice a n c] w (Gives w n (transF n f)) := by
  have H1 := Lib.hid hr
  clear hr
  obtain ⟨i0, hi, hz0, hz1, hz2⟩ := info_parts infoU
  go_enter Try.func25, Try.ntmps25
  go_wp2_with (refine wpList_make_full _ rfl _ _ 22 rfl w.heap.size 31 i0 (.int .u64 0) 1 Try.underlying22 hi hz0 hz1 .i64 .i64 _ _ n rfl rfl (by simp) (by simp) ?c1 ?c2 ?c3 ?_)
  case c1 => rw [hz2]; omega
  case c2 => unfold maxLen; omega
  case c3 => exact Nat.le_refl _
  intro w1 hown0 hg1
  have hown : ownsU w1 w.heap.size w.heap.size n 31 (upF 0 (transF n f)) := by
    refine ownsU_congr (f := fun _ => 0) ?_ fun t _ => (upF_zero _ _).symm
    unfold ownsU
    rw [← rowU_made]
    simpa using hown0
  have hb : Below w.heap.size w w1 := (Below.refl _ w).grown hg1 (Nat.le_refl _) (by intro k hk; cases hk)
  clear hown0 hg1
  have HO := Lib.hid hown
  have HB := Lib.hid hb
  clear hown hb
  go_wp2_with fail
  go_loopw [11] (fun vi wr => ∃ i : Nat, i ≤ n ∧ vi = .int .i64 i ∧ ownsU wr w.heap.size w.heap.size n 31 (upF i (transF n f)) ∧ Below w.heap.size w wr) (fun vi _ => n - (intOf vi).toNat)
  case atStart => exact ⟨0, Nat.zero_le _, rfl, HO.out, HB.out⟩
  case round =>
    obtain ⟨i, hi1, rfl, ho, hb⟩ := hrel
    have HO2 := Lib.hid ho
    have HB2 := Lib.hid hb
    clear ho hb
    by_cases hlt : i < n
    · go_wp2_with fail
      obtain ⟨wo, rfl⟩ : ∃ wo : World, wo = wr := ⟨_, rfl⟩
      go_loopw [16] (fun vj wr => ∃ j : Nat, j ≤ n ∧ vj = .int .i64 j ∧ ownsU wr w.heap.size w.heap.size n 31 (upX i (transF n f) (trN f i j)) ∧ Below w.heap.size w wr) (fun vj _ => n - (intOf vj).toNat)
      case atStart => exact ⟨0, Nat.zero_le _, rfl, ownsU_congr HO2.out (fun t _ => upX_start i _ t), HB2.out⟩
      case round =>
        obtain ⟨j, hj, rfl, ho, hb⟩ := hrel
        by_cases hltj : j < n
        · have hcj := ownsU_cell ho hlt
          have hfj := ownsU_free ho i
          rw [upX_at] at hcj
          have HO3 := Lib.hid ho
          have HB3 := Lib.hid hb
          clear ho hb
          rcases H1.out.keep HB3.out with h0 | ⟨b, off, rfl, hbz, hc⟩
          · omega
          have hcf := (hc j hltj).1
          have hfu := (hc j hltj).2
          clear hc
          cases ht : (f j).testBit i
          · have HT := Lib.hid ht
            have HX := Lib.hid (trN_no ht)
            clear ht
            go_wp2_with fail
            refine (rhas_any _ i _ hfu (by omega)).mono ?_
            rintro e w' ⟨rfl, rfl⟩
            rw [HT.out]
            go_wp2_with fail
            exact ⟨⟨j + 1, by omega, by go_num, by rw [HX.out]; exact HO3.out, HB3.out⟩, by simp [intOf]; omega⟩
          · have HT := Lib.hid ht
            have HX := Lib.hid (trN_yes ht)
            clear ht
            go_wp2_with fail
            refine (rhas_any _ i _ hfu (by omega)).mono ?_
            rintro e w' ⟨rfl, rfl⟩
            rw [HT.out]
            have hS : bits .or .u64 (trN f i j : Int) ((2 ^ j : Nat) : Int) = ((trN f i j ||| 2 ^ j : Nat) : Int) := u_or (trN_u (by omega)) (pow_lt64 (by omega))
            have hj0 : (0 : Int) ≤ (j : Int) := by omega
            have hjn : (j : Int) < (n : Int) := by omega
            have hi0 : (0 : Int) ≤ (i : Int) := by omega
            have hin : (i : Int) < (n : Int) := by omega
            obtain ⟨p, hp⟩ : ∃ p, p = 2 ^ j := ⟨_, rfl⟩
            have HB35 := Lib.hid (fun W : World => show Calls Try.prog 35 #[.int .i64 j] W fun e w' => e = .returned (.int .u64 (p : Int)) ∧ W = w' from by rw [hp]; exact rbit_any j W (by omega))
            rw [← hp] at hS HX
            obtain ⟨x, hx⟩ : ∃ x, x = trN f i j ||| p := ⟨_, rfl⟩
            rw [← hx] at hS HX
            clear hp hx
            go_wp2_with fail
            go_region_with (go_at_call 35; refine (HB35.out _).mono ?_; rintro e w' ⟨rfl, rfl⟩)
            all_goals
              go_wp2_with fail
              exact ⟨⟨j + 1, by omega, by go_num, ownsU_upX (ownsU_drew HO3.out) HX.out.symm, HB3.out.drew.setCell (Nat.le_refl _) _⟩, by simp [intOf]; omega⟩
        · obtain rfl : n = j := by omega
          have HO3 := Lib.hid (ownsU_congr ho (f' := upF (i + 1) (transF n f)) (fun t ht => upX_end i _ t))
          have HB3 := Lib.hid hb
          clear ho hb
          go_wp2_with fail
          exact ⟨⟨i + 1, by omega, by go_num, HO3.out, HB3.out⟩, by simp [intOf]; omega⟩
    · obtain rfl : n = i := by omega
      go_wp2_with fail
      go_ret
      exact Gives.own HO2.out (fun t ht => trN_u hn) HB2.out

/-- the product's row while point j is at work: its first k bits are done -/
def midN (s : Nat) (g : Nat → Nat) (acc j : Nat) : Nat → Nat
  | 0 => acc
  | k + 1 => if s.testBit j && (g j).testBit k then midN s g acc j k ||| 2 ^ k else midN s g acc j k
theorem midN_yes {s acc j k : Nat} {g : Nat → Nat} (h1 : s.testBit j = true) (h2 : (g j).testBit k = true) : midN s g acc j (k + 1) = midN s g acc j k ||| 2 ^ k := by simp [midN, h1, h2]
theorem midN_no1 {s acc j k : Nat} {g : Nat → Nat} (h1 : s.testBit j = false) : midN s g acc j (k + 1) = midN s g acc j k := by simp [midN, h1]
theorem midN_no2 {s acc j k : Nat} {g : Nat → Nat} (h2 : (g j).testBit k = false) : midN s g acc j (k + 1) = midN s g acc j k := by simp [midN, h2]
theorem midN_bit {s acc j t : Nat} {g : Nat → Nat} : ∀ {k : Nat}, (midN s g acc j k).testBit t = true ↔ acc.testBit t = true ∨ (s.testBit j = true ∧ t < k ∧ (g j).testBit t = true)
  | 0 => by simp [midN]
  | k + 1 => by
    have ih := @midN_bit s acc j t g k
    by_cases h : (s.testBit j && (g j).testBit k) = true
    · rw [midN, if_pos h, Nat.testBit_or, Bool.or_eq_true, ih, Nat.testBit_two_pow, decide_eq_true_iff]
      rw [Bool.and_eq_true] at h
      constructor
      · rintro ((h1 | ⟨h1, h2, h3⟩) | h1)
        · exact .inl h1
        · exact .inr ⟨h1, by omega, h3⟩
        · subst h1; exact .inr ⟨h.1, by omega, h.2⟩
      · rintro (h1 | ⟨h1, h2, h3⟩)
        · exact .inl (.inl h1)
        · by_cases e : k = t
          · exact .inr e
          · exact .inl (.inr ⟨h1, by omega, h3⟩)
    · rw [midN, if_neg h, ih]
      rw [Bool.and_eq_true] at h
      constructor
      · rintro (h1 | ⟨h1, h2, h3⟩)
        · exact .inl h1
        · exact .inr ⟨h1, by omega, h3⟩
      · rintro (h1 | ⟨h1, h2, h3⟩)
        · exact .inl h1
        · by_cases e : t = k
          · subst e; exact absurd ⟨h1, h3⟩ h
          · exact .inr ⟨h1, by omega, h3⟩
theorem midN_end {s n j : Nat} {g : Nat → Nat} (hg : g j < 2 ^ n) : midN s g (imgN g s j) j n = imgN g s (j + 1) := by
  apply Nat.eq_of_testBit_eq
  intro t
  rw [Bool.eq_iff_iff, midN_bit, imgN]
  by_cases h : s.testBit j = true
  · rw [if_pos h, Nat.testBit_or, Bool.or_eq_true]
    constructor
    · rintro (h1 | ⟨_, _, h1⟩)
      · exact .inl h1
      · exact .inr h1
    · rintro (h1 | h1)
      · exact .inl h1
      · refine .inr ⟨h, ?_, h1⟩
        apply Nat.lt_of_not_le
        intro hle
        rw [Nat.testBit_lt_two_pow (Nat.lt_of_lt_of_le hg (Nat.pow_le_pow_right (by decide) hle))] at h1
        cases h1
  · rw [if_neg h]
    exact ⟨fun h1 => h1.elim id fun ⟨h2, _⟩ => absurd h2 h, .inl⟩
theorem midN_u {s acc j : Nat} {g : Nat → Nat} (ha : acc < 18446744073709551616) : ∀ {k : Nat}, k ≤ 64 → midN s g acc j k < 18446744073709551616
  | 0, _ => ha
  | k + 1, h => by
    unfold midN
    have := @midN_u s acc j g ha k (by omega)
    split
    · exact or_u this (pow_lt64 (by omega))
    · exact this

set_option maxHeartbeats 2000000 in
/-- the reference's Compose -/
theorem rcompose_ok (a : Option Addr) (n c : Nat) (f : Nat → Nat) (a' : Option Addr) (c' : Nat) (g : Nat → Nat) (w : World) (hr : Row w a n f) (hs : Row w a' n g) (hp : pairB n f n g = true) :
    Calls Try.prog 21 #[.slice a n c, .slice a' n c'] w (Gives w n (compF n f g)) := by
  have hn := (valB_iff.1 (pairB_iff.1 hp).1).1
  have HG := Lib.hid (valB_iff.1 (pairB_iff.1 hp).2.1).2
  have HIU := Lib.hid (fun s j (h : j ≤ n) => imgN_u (f := g) (s := s) h fun i hi => hs.bound i hi)
  have H1 := Lib.hid hr
  have H2 := Lib.hid hs
  clear hr hs hp
  obtain ⟨i0, hi, hz0, hz1, hz2⟩ := info_parts infoU
  go_enter Try.func21, Try.ntmps21
  go_wp2_with (refine wpList_make_full _ rfl _ _ 22 rfl w.heap.size 31 i0 (.int .u64 0) 1 Try.underlying22 hi hz0 hz1 .i64 .i64 _ _ n rfl rfl (by simp) (by simp) ?c1 ?c2 ?c3 ?_)
  case c1 => rw [hz2]; omega
  case c2 => unfold maxLen; omega
  case c3 => exact Nat.le_refl _
  intro w1 hown0 hg1
  have hown : ownsU w1 w.heap.size w.heap.size n 31 (upF 0 (compF n f g)) := by
    refine ownsU_congr (f := fun _ => 0) ?_ fun t _ => (upF_zero _ _).symm
    unfold ownsU
    rw [← rowU_made]
    simpa using hown0
  have hb : Below w.heap.size w w1 := (Below.refl _ w).grown hg1 (Nat.le_refl _) (by intro k hk; cases hk)
  clear hown0 hg1
  have HO := Lib.hid hown
  have HB := Lib.hid hb
  clear hown hb
  go_wp2_with fail
  go_loopw [14] (fun vi wr => ∃ i : Nat, i ≤ n ∧ vi = .int .i64 i ∧ ownsU wr w.heap.size w.heap.size n 31 (upF i (compF n f g)) ∧ Below w.heap.size w wr) (fun vi _ => n - (intOf vi).toNat)
  case atStart => exact ⟨0, Nat.zero_le _, rfl, HO.out, HB.out⟩
  case round =>
    obtain ⟨i, hi1, rfl, ho, hb⟩ := hrel
    have HO2 := Lib.hid ho
    have HB2 := Lib.hid hb
    clear ho hb
    by_cases hlt : i < n
    · go_wp2_with fail
      obtain ⟨wo, rfl⟩ : ∃ wo : World, wo = wr := ⟨_, rfl⟩
      go_loopw [19] (fun vj wr => ∃ j : Nat, j ≤ n ∧ vj = .int .i64 j ∧ ownsU wr w.heap.size w.heap.size n 31 (upX i (compF n f g) (imgN g (f i) j)) ∧ Below w.heap.size w wr) (fun vj _ => n - (intOf vj).toNat)
      case atStart => exact ⟨0, Nat.zero_le _, rfl, ownsU_congr HO2.out (fun t _ => upX_start i _ t), HB2.out⟩
      case round =>
        obtain ⟨j, hj, rfl, ho, hb⟩ := hrel
        have HO3 := Lib.hid ho
        have HB3 := Lib.hid hb
        clear ho hb
        by_cases hltj : j < n
        · have HI := Lib.hid (HIU.out (f i) j hj)
          have HE := Lib.hid (midN_end (s := f i) (HG.out j hltj))
          go_wp2_with fail
          obtain ⟨wo2, rfl⟩ : ∃ wo : World, wo = wr := ⟨_, rfl⟩
          go_loopw [24] (fun vk wr => ∃ k : Nat, k ≤ n ∧ vk = .int .i64 k ∧ ownsU wr w.heap.size w.heap.size n 31 (upX i (compF n f g) (midN (f i) g (imgN g (f i) j) j k)) ∧ Below w.heap.size w wr) (fun vk _ => n - (intOf vk).toNat)
          case atStart => exact ⟨0, Nat.zero_le _, rfl, HO3.out, HB3.out⟩
          case round =>
            obtain ⟨k, hk, rfl, ho, hb⟩ := hrel
            by_cases hltk : k < n
            · have hcj := ownsU_cell ho hlt
              have hfj := ownsU_free ho i
              rw [upX_at] at hcj
              have HO4 := Lib.hid ho
              have HB4 := Lib.hid hb
              clear ho hb
              rcases H1.out.keep HB4.out with h0 | ⟨b, off, rfl, hbz, hc⟩
              · omega
              rcases H2.out.keep HB4.out with h0 | ⟨b', off', rfl, hbz', hc'⟩
              · omega
              have hcf := (hc i hlt).1
              have hfu := (hc i hlt).2
              have hcg := (hc' j hltj).1
              have hgu := (hc' j hltj).2
              clear hc hc'
              cases ht : (f i).testBit j
              · have HT := Lib.hid ht
                have HX := Lib.hid (midN_no1 (g := g) (acc := imgN g (f i) j) (k := k) ht)
                clear ht
                go_wp2_with fail
                refine (rhas_any _ j _ hfu (by omega)).mono ?_
                rintro e w' ⟨rfl, rfl⟩
                rw [HT.out]
                go_wp2_with fail
                exact ⟨⟨k + 1, by omega, by go_num, by rw [HX.out]; exact HO4.out, HB4.out⟩, by simp [intOf]; omega⟩
              · have HT := Lib.hid ht
                cases hu : (g j).testBit k
                · have HU := Lib.hid hu
                  have HX := Lib.hid (midN_no2 (s := f i) (acc := imgN g (f i) j) hu)
                  clear ht hu
                  go_wp2_with fail
                  refine (rhas_any _ j _ hfu (by omega)).mono ?_
                  rintro e w' ⟨rfl, rfl⟩
                  rw [HT.out]
                  go_wp2_with fail
                  refine (rhas_any _ k _ hgu (by omega)).mono ?_
                  rintro e w' ⟨rfl, rfl⟩
                  rw [HU.out]
                  go_wp2_with fail
                  exact ⟨⟨k + 1, by omega, by go_num, by rw [HX.out]; exact HO4.out, HB4.out⟩, by simp [intOf]; omega⟩
                · have HU := Lib.hid hu
                  have HX := Lib.hid (midN_yes (acc := imgN g (f i) j) ht hu)
                  clear ht hu
                  go_wp2_with fail
                  refine (rhas_any _ j _ hfu (by omega)).mono ?_
                  rintro e w' ⟨rfl, rfl⟩
                  rw [HT.out]
                  go_wp2_with fail
                  refine (rhas_any _ k _ hgu (by omega)).mono ?_
                  rintro e w' ⟨rfl, rfl⟩
                  rw [HU.out]
                  have hS : bits .or .u64 (midN (f i) g (imgN g (f i) j) j k : Int) ((2 ^ k : Nat) : Int) = ((midN (f i) g (imgN g (f i) j) j k ||| 2 ^ k : Nat) : Int) := u_or (midN_u HI.out (by omega)) (pow_lt64 (by omega))
                  have hi0 : (0 : Int) ≤ (i : Int) := by omega
                  have hin : (i : Int) < (n : Int) := by omega
                  obtain ⟨p, hp⟩ : ∃ p, p = 2 ^ k := ⟨_, rfl⟩
                  have HB35 := Lib.hid (fun W : World => show Calls Try.prog 35 #[.int .i64 k] W fun e w' => e = .returned (.int .u64 (p : Int)) ∧ W = w' from by rw [hp]; exact rbit_any k W (by omega))
                  rw [← hp] at hS HX
                  generalize midN (f i) g (imgN g (f i) j) j k = m at *
                  obtain ⟨x, hx⟩ : ∃ x, x = m ||| p := ⟨_, rfl⟩
                  rw [← hx] at hS HX
                  clear hp hx
                  go_wp2_with fail
                  go_region_with (go_at_call 35; refine (HB35.out _).mono ?_; rintro e w' ⟨rfl, rfl⟩)
                  all_goals
                    go_wp2_with fail
                    exact ⟨⟨k + 1, by omega, by go_num, ownsU_upX (ownsU_drew HO4.out) HX.out.symm, HB4.out.drew.setCell (Nat.le_refl _) _⟩, by simp [intOf]; omega⟩
            · obtain rfl : n = k := by omega
              have HO4 := Lib.hid ho
              have HB4 := Lib.hid hb
              clear ho hb
              go_wp2_with fail
              exact ⟨⟨j + 1, by omega, by go_num, by rw [← HE.out]; exact HO4.out, HB4.out⟩, by simp [intOf]; omega⟩
        · obtain rfl : n = j := by omega
          have HO4 := Lib.hid (ownsU_congr HO3.out (f' := upF (i + 1) (compF n f g)) (fun t ht => upX_end i _ t))
          go_wp2_with fail
          exact ⟨⟨i + 1, by omega, by go_num, HO4.out, HB3.out⟩, by simp [intOf]; omega⟩
    · obtain rfl : n = i := by omega
      go_wp2_with fail
      go_ret
      exact Gives.own HO2.out (fun t ht => HIU.out _ _ (Nat.le_refl _)) HB2.out
end Go.Proofs.Ytbmbgdfnhbkelaa
