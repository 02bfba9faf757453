/- Contract: Saturates; facts on classes. -/
import Derived.Test.YtfgpjkkdgjhkfaaPartHB
namespace Go.Proofs.Ytfgpjkkdgjhkfaa
open Go Go.RowKit Go.Maps
set_option linter.unusedVariables false


def RowB (w : World) (a : Option Addr) (n : Nat) (B : Nat → Bool) : Prop :=
  n = 0 ∨ ∃ b off, a = some ⟨b, off, none⟩ ∧ b < w.heap.size ∧ ∀ i, i < n → w.cell? ⟨b, off + i, none⟩ = some (.bool (B i))
theorem RowB.keep {w w' : World} {a : Option Addr} {n : Nat} {B : Nat → Bool} (h : RowB w a n B) (hb : Below w.heap.size w w') : RowB w' a n B := by
  rcases h with h | ⟨b, off, rfl, hl, hc⟩
  · exact .inl h
  · exact .inr ⟨b, off, rfl, Nat.lt_of_lt_of_le hl hb.size, fun i hi => by rw [hb.cell (p := ⟨b, off + i, none⟩) hl]; exact hc i hi⟩
/-- the set is a union of classes -/
def satB (n : Nat) (p : Nat → Int) (B : Nat → Bool) : Bool := (List.range n).all fun i => B i == B (fst p i)
theorem satB_iff {n : Nat} {p : Nat → Int} {B : Nat → Bool} : satB n p B = true ↔ ∀ i, i < n → B i = B (fst p i) := by simp [satB, List.all_eq_true]
set_option maxRecDepth 100000 in
set_option maxHeartbeats 2000000 in
theorem saturates_ok (a : Option Addr) (n c : Nat) (f : Nat → Int) (a' : Option Addr) (c' : Nat) (B : Nat → Bool) (w : World) (hr : RowI w a n f) (hs : RowB w a' n B) (hv : valP n f = true) :
    Calls Try.prog 39 #[.slice a n c, .slice a' n c'] w fun e w' => e = .returned (.bool (satB n f B)) ∧ Below w.heap.size w w' := by
  have H1 := Lib.hid hr
  have H2 := Lib.hid hs
  have hn := (valP_iff.1 hv).1
  have HF := Lib.hid hv
  have HE := Lib.hid (valP_iff.1 hv).2
  have hx : ((n : Int) != (n : Int)) = false := by simp
  clear hr hs hv
  go_enter Try.func39, Try.ntmps39
  go_wp2_with fail
  refine (valid_any _ _ _ _ _ H1.out (by unfold maxLen; omega)).mono ?_
  rintro e w' ⟨rfl, rfl⟩
  rw [HF.out]
  go_wp2_with fail
  refine (leasts_ok _ _ _ _ _ H1.out HF.out).mono ?_
  rintro e w1 ⟨r1, c1, rfl, hR, _, hB⟩
  have HR := Lib.hid hR
  have HA := Lib.hid (H1.out.keep hB)
  have HQ := Lib.hid (H2.out.keep hB)
  have HB := Lib.hid hB
  clear hR hB
  have hcn := cls_le f n
  obtain ⟨M, hM⟩ : ∃ M, M = cls f n := ⟨_, rfl⟩
  have HM := Lib.hid hM
  rw [← hM]
  rw [← hM] at hcn
  clear hM
  go_wp2_with fail
  go_loopw [21] (fun vi wr => ∃ k : Nat, k ≤ n ∧ vi = .int .i64 k ∧ (∀ t, t < k → B t = B (fst f t)) ∧ Below w1.heap.size w1 wr) (fun vi _ => n - (intOf vi).toNat)
  case atStart => exact ⟨0, Nat.zero_le _, rfl, fun t ht => by omega, Below.refl _ _⟩
  case round =>
    obtain ⟨k, hk, rfl, hall, hb⟩ := hrel
    have HALL := Lib.hid hall
    have HB2 := Lib.hid hb
    clear hall hb
    by_cases hlt : k < n
    · rcases HA.out.keep HB2.out with h0 | ⟨b, off, rfl, hbz, hc⟩
      · omega
      rcases HQ.out.keep HB2.out with h0 | ⟨b', off', rfl, hbz', hc'⟩
      · omega
      have hmM := canN_lt (f := f) hlt
      rw [← HM.out] at hmM
      have hfl := fst_le f k
      rcases HR.out.keep HB2.out with h0 | ⟨b2, off2, rfl, hbz2, hc2⟩
      · rw [← HM.out] at h0; omega
      have hcm := (hc2 (canN f k) (by rw [← HM.out]; exact hmM)).1
      rw [getN_least hlt] at hcm
      have hck := (hc k hlt).1
      rw [HE.out k hlt, can] at hck
      have hqk := hc' k hlt
      have hql := hc' (fst f k) (by omega)
      clear hc hc' hc2
      obtain ⟨l, hl⟩ : ∃ l, l = fst f k := ⟨_, rfl⟩
      obtain ⟨m, hm⟩ : ∃ m, m = canN f k := ⟨_, rfl⟩
      rw [← hm] at hcm hck hmM
      rw [← hl] at hcm hql hfl
      clear hm
      have hm0 : (0 : Int) ≤ (m : Int) := by omega
      have hmn : (m : Int) < (M : Int) := by omega
      have hl0 : (0 : Int) ≤ (l : Int) := by omega
      have hln : (l : Int) < (n : Int) := by omega
      have hk0 : (0 : Int) ≤ (k : Int) := by omega
      have hkn : (k : Int) < (n : Int) := by omega
      by_cases hf : B k = B l
      · have h1 : (B k == B l) = true := by simp [hf]
        have h2 : (!(B k == B l)) = false := by rw [h1]; rfl
        have HF2 := Lib.hid (show B k = B (fst f k) by rw [← hl]; exact hf)
        clear hf hl
        go_wp2_with fail
        go_quiet (fail)
        go_wp2_with fail
        exact ⟨⟨k + 1, by omega, by go_num, fun t ht => by
            by_cases et : t = k
            · subst et; exact HF2.out
            · exact HALL.out t (by omega), below_drewN HB2.out _⟩, by simp [intOf]; omega⟩
      · have h1 : (B k == B l) = false := by rw [beq_eq_false_iff_ne]; exact hf
        have h2 : (!(B k == B l)) = true := by rw [h1]; rfl
        have HF2 := Lib.hid (show satB n f B = false by rw [← Bool.not_eq_true, satB_iff]; exact fun h => hf (by rw [hl]; exact h k hlt))
        clear hf hl
        go_wp2_with fail
        go_quiet (fail)
        go_wp2_with fail
        go_ret
        exact ⟨by rw [HF2.out]; rfl, below_drewN (HB.out.trans (HB2.out.mono HB.out.size)) _⟩
    · obtain rfl : n = k := by omega
      have HF2 := Lib.hid (show satB n f B = true from satB_iff.2 HALL.out)
      go_wp2_with fail
      go_ret
      exact ⟨by rw [HF2.out]; rfl, HB.out.trans (HB2.out.mono HB.out.size)⟩
set_option maxHeartbeats 400000 in
theorem saturates_len (a : Option Addr) (n c : Nat) (f : Nat → Int) (a' : Option Addr) (m c' : Nat) (w : World) (hr : RowI w a n f) (hn : n ≤ maxLen) (hm : m ≤ maxLen) (hne : n ≠ m) :
    Calls Try.prog 39 #[.slice a n c, .slice a' m c'] w fun e w' => e = .returned (.bool false) ∧ w = w' := by
  have H1 := Lib.hid hr
  have hx : ((n : Int) != (m : Int)) = true := by rw [bne_iff_ne]; omega
  unfold maxLen at hn hm
  clear hr hne
  go_enter Try.func39, Try.ntmps39
  go_wp2_with fail
  go_ret
  exact ⟨rfl, rfl⟩
set_option maxHeartbeats 400000 in
theorem saturates_val (a : Option Addr) (n c : Nat) (f : Nat → Int) (a' : Option Addr) (c' : Nat) (w : World) (hr : RowI w a n f) (hn : n ≤ maxLen) (hv : valP n f = false) :
    Calls Try.prog 39 #[.slice a n c, .slice a' n c'] w fun e w' => e = .returned (.bool false) ∧ w = w' := by
  have H1 := Lib.hid hr
  have HV := Lib.hid hv
  have HN := Lib.hid hn
  have hx : ((n : Int) != (n : Int)) = false := by simp
  unfold maxLen at hn
  clear hr hv
  go_enter Try.func39, Try.ntmps39
  go_wp2_with fail
  refine (valid_any _ _ _ _ _ H1.out HN.out).mono ?_
  rintro e w' ⟨rfl, rfl⟩
  rw [HV.out]
  go_wp2_with fail
  go_ret
  exact ⟨rfl, rfl⟩
theorem saturates_no (a : Option Addr) (n c : Nat) (f : Nat → Int) (a' : Option Addr) (m c' : Nat) (w : World) (hr : RowI w a n f) (hn : n ≤ maxLen) (hm : m ≤ maxLen) (h : valP n f = false ∨ n ≠ m) :
    Calls Try.prog 39 #[.slice a n c, .slice a' m c'] w fun e w' => e = .returned (.bool false) ∧ w = w' := by
  by_cases hne : n = m
  · subst hne
    exact saturates_val a n c f a' c' w hr hn (h.resolve_right fun e => e rfl)
  · exact saturates_len a n c f a' m c' w hr hn hm hne

/-! ### heads of classes -/
def hdL (f : Nat → Int) (n c : Nat) : Nat := (clL f n c).getD 0 0
theorem hd_fst {f : Nat → Int} {n c x : Nat} (hx : x ∈ clL f n c) : hdL f n c = fst f x := by
  have hxn := clL_lt hx
  have hxc : canN f x = c := by unfold clL at hx; simpa using (List.mem_filter.1 hx).2
  have hle := fst_le f x
  have hfm : fst f x ∈ clL f n c := by
    unfold clL
    refine List.mem_filter.2 ⟨by simp; omega, ?_⟩
    have : canN f (fst f x) = canN f x := canN_inj.2 (fst_val f x)
    simp [this, hxc]
  have hp : (clL f n c).Pairwise (· < ·) := List.Pairwise.filter _ List.pairwise_lt_range
  unfold hdL
  match hl : clL f n c with
  | [] => rw [hl] at hx; cases hx
  | h :: t =>
    rw [hl] at hp hfm
    show h = fst f x
    have hh : h ∈ clL f n c := by rw [hl]; simp
    have hhc : canN f h = c := by unfold clL at hh; simpa using (List.mem_filter.1 hh).2
    have h1 : fst f x ≤ h := fst_least (canN_inj.1 (by rw [hhc, hxc]))
    rcases List.mem_cons.1 hfm with e | e
    · exact e.symm
    · have := (List.pairwise_cons.1 hp).1 _ e; omega
/-- class c is within the set or apart from it, as the first t of its points tell -/
def chkC (f : Nat → Int) (n : Nat) (B : Nat → Bool) (c t : Nat) : Bool := ((clL f n c).take t).all fun x => B x == B (hdL f n c)
/-- .. and all classes below k -/
def chkA (f : Nat → Int) (n : Nat) (B : Nat → Bool) (k : Nat) : Bool := (List.range k).all fun c => chkC f n B c (clL f n c).length
theorem chkC_zero (f : Nat → Int) (n : Nat) (B : Nat → Bool) (c : Nat) : chkC f n B c 0 = true := by simp [chkC]
theorem chkC_succ {f : Nat → Int} {n : Nat} {B : Nat → Bool} {c t x : Nat} (h : (clL f n c)[t]? = some x) : chkC f n B c (t + 1) = (chkC f n B c t && (B x == B (hdL f n c))) := by
  unfold chkC
  rw [List.take_add_one, h]
  simp
theorem chkA_succ (f : Nat → Int) (n : Nat) (B : Nat → Bool) (k : Nat) : chkA f n B (k + 1) = (chkA f n B k && chkC f n B k (clL f n k).length) := by
  simp [chkA, List.range_succ]
theorem chkA_sat (f : Nat → Int) (n : Nat) (B : Nat → Bool) : chkA f n B (cls f n) = satB n f B := by
  rw [Bool.eq_iff_iff, satB_iff]
  simp only [chkA, chkC, List.all_eq_true, List.mem_range, List.take_length, beq_iff_eq]
  constructor
  · intro h i hi
    have hm : i ∈ clL f n (canN f i) := by unfold clL; exact List.mem_filter.2 ⟨by simpa using hi, by simp⟩
    rw [h _ (canN_lt hi) i hm, hd_fst hm]
  · intro h c hc x hx
    rw [hd_fst hx]
    exact h x (clL_lt hx)
end Go.Proofs.Ytfgpjkkdgjhkfaa
