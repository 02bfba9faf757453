/- Contracts: the reference's Canonical, Same, Valid. -/
import Derived.Test.YtfgpjkkdgjhkfaaPartB
namespace Go.Proofs.Ytfgpjkkdgjhkfaa
open Go Go.RowKit Go.Maps
set_option linter.unusedVariables false

set_option maxRecDepth 100000 in
set_option maxHeartbeats 4000000 in
theorem canonicalR_ok (a : Option Addr) (n c : Nat) (f : Nat → Int) (w : World) (hr : RowI w a n f) (hn : n ≤ 4096) :
    Calls Try.prog 17 #[.slice a n c] w (Fresh w n (can f)) := by
  have hmm := @run_makeMap Try.prog
  have H1 := Lib.hid hr
  clear hr
  obtain ⟨i0, hi, hz0, hz1, hz2⟩ := info_parts infoI
  go_enter Try.func17, Try.ntmps17
  go_wp2_with (refine wpList_make_full _ rfl _ _ 22 rfl w.heap.size 3 i0 (.int .i64 0) 1 Try.underlying22 hi hz0 hz1 .i64 .i64 _ _ n rfl rfl (by simp) (by simp) ?c1 ?c2 ?c3 ?_)
  case c1 => rw [hz2]; omega
  case c2 => unfold maxLen; omega
  case c3 => exact Nat.le_refl _
  intro w1 hown0 hg1
  have hown : ownsF w1 w.heap.size w.heap.size n (upG 0 0 (can f)) := by
    refine ownsF_congr (f := fun _ => 0) ?_ fun t _ => (upG_zero _ _ _).symm
    unfold ownsF
    rw [← rowF_made]
    simpa using hown0
  have hb1 : Below w.heap.size w w1 := (Below.refl _ w).grown hg1 (Nat.le_refl _) (by intro k hk; cases hk)
  have HG := Lib.hid (ownsF_lt hown).2
  have HO := Lib.hid (ownsF_kept hown (World.grownBy_alloc w1 (.map #[] 0) none) (by simp))
  have HB := Lib.hid (hb1.alloc hb1.size (.map #[] 0))
  have HM := Lib.hid (show OwnsM (w1.alloc (.map #[] 0)) w1.heap.size 0 f 0 from World.ownsMap_made _ _ _ _)
  clear hown0 hown hg1 hb1
  go_wp2_with fail
  go_loopw [4, 19] (fun vc vi wr => ∃ k : Nat, k ≤ n ∧ vi = .int .i64 k ∧ vc = .int .i64 (cls f k : Int) ∧ ownsF wr w.heap.size w.heap.size n (upG k 0 (can f)) ∧ OwnsM wr w1.heap.size k f k ∧ Below w.heap.size w wr) (fun _ vi _ => n - (intOf vi).toNat)
  case atStart => exact ⟨0, Nat.zero_le _, rfl, rfl, HO.out, HM.out, HB.out⟩
  case round =>
    obtain ⟨k, hk, rfl, rfl, ho, hm, hb⟩ := hrel
    have HO2 := Lib.hid ho
    have HM2 := Lib.hid hm
    have HB2 := Lib.hid hb
    clear ho hm hb
    have hne : w.heap.size ≠ w1.heap.size := by have : w.heap.size < w1.heap.size := HG.out; omega
    by_cases hlt : k < n
    · rcases H1.out.keep HB2.out with h0 | ⟨b, off, rfl, hbz, hc⟩
      · omega
      have hck := (hc k hlt).1
      have HK := Lib.hid (keyOf_int_mk Try.underlying3 (hc k hlt).2.wf)
      clear hc
      have hcl := cls_le f k
      by_cases hnew : fst f k = k
      · have HH := Lib.hid (show Maps.has (mapF Unit f k) (.int .i64 (f k)) = false by rw [mapF_known]; simp [hnew])
        have HN := Lib.hid (cls_yes hnew)
        have HY := Lib.hid (mapF_yes Unit hnew)
        have HCN := Lib.hid (show (cls f k : Int) = can f k by rw [can, canN_new hnew])
        have hB64 : B64 (cls f k : Int) := by unfold B64; omega
        clear hnew
        go_wp2_with (first
          | (at_lookup; refine wpList_lookup_own_ok_int _ rfl _ _ 44 rfl 3 3 .i64 lawKI Try.underlying44 Try.underlying3 (zeroI _) _ k _ rfl HM2.out _ _ rfl HK.out ?_; intro c hat hwc; rw [HH.out])
          | (at_mapUpdate; refine wpList_mapUpdate_own _ rfl _ _ _ 44 rfl 3 3 lawKI Try.underlying44 _ _ k _ rfl HM2.out (by unfold maxLen; omega) _ _ _ rfl rfl HK.out _ [] (plainElem_int Try.underlying3 hB64.wf) ?_; intro w2 hown2 hgrow2
             have HM3 := Lib.hid (show OwnsM w2 w1.heap.size (k + 1) f (k + 1) by rw [OwnsM, HY.out]; exact hown2)
             have HO3 := Lib.hid (ownsF_kept HO2.out hgrow2 (fun e => hne (Option.some.inj e)))
             have HB3 := Lib.hid (HB2.out.grown hgrow2 HB2.out.size (fun j hj => by cases hj; have : w.heap.size < w1.heap.size := HG.out; omega))
             have hcell := ownsF_cell HO3.out hlt
             have hfree := ownsF_free HO3.out k
             clear hown2 hgrow2))
        exact ⟨⟨k + 1, by omega, by go_num, by rw [HN.out]; go_num, ownsF_up HO3.out HCN.out, HM3.out.setCell (Ne.symm hne) _, HB3.out.setCell (Nat.le_refl _) _⟩, by simp [intOf]; omega⟩
      · have HH := Lib.hid (show Maps.has (mapF Unit f k) (.int .i64 (f k)) = true by rw [mapF_known]; simp [hnew])
        have HY := Lib.hid (mapF_no Unit hnew)
        have HN := Lib.hid (cls_no hnew)
        have HCN := Lib.hid (fun c => known_at (c := c) hnew)
        have hcell := ownsF_cell HO2.out hlt
        have hfree := ownsF_free HO2.out k
        clear hnew
        go_wp2_with (at_lookup; refine wpList_lookup_own_ok_int _ rfl _ _ 44 rfl 3 3 .i64 lawKI Try.underlying44 Try.underlying3 (zeroI _) _ k _ rfl HM2.out _ _ rfl HK.out ?_; intro c hat hwc; rw [HH.out])
        exact ⟨⟨k + 1, by omega, by go_num, by rw [HN.out], ownsF_up HO2.out (HCN.out _ hat), by
          have := (HM2.out.setCell (a := ⟨w.heap.size, k, none⟩) (Ne.symm hne) (.int .i64 c)).mono (Nat.le_succ k)
          rw [OwnsM, HY.out]; exact this, HB2.out.setCell (Nat.le_refl _) _⟩, by simp [intOf]; omega⟩
    · obtain rfl : n = k := by omega
      go_wp2_with fail
      go_ret
      exact Fresh.own HO2.out HB2.out

set_option maxHeartbeats 400000 in
theorem canonicalR_any (a : Option Addr) (n c : Nat) (f : Nat → Int) (w : World) (hr : RowI w a n f) (hn : n ≤ maxLen) :
    Calls Try.prog 17 #[.slice a n c] w (Gives w (canLen n) (can f)) := by
  by_cases hl : n ≤ 4096
  · rw [canLen_yes hl]
    exact (canonicalR_ok a n c f w hr hl).mono fun e w' h => h.gives fun i hi => can_b (by omega)
  · rw [canLen_no hl]
    unfold maxLen at hn
    go_enter Try.func17, Try.ntmps17
    go_wp2_with fail
    go_ret
    exact Gives.nil

/-- the same n numbers -/
def sameB (n : Nat) (f : Nat → Int) (m : Nat) (g : Nat → Int) : Bool := decide (n = m) && (List.range n).all fun j => f j == g j
theorem sameB_iff {n m : Nat} {f g : Nat → Int} : sameB n f m g = true ↔ n = m ∧ ∀ j, j < n → f j = g j := by
  simp [sameB, List.all_eq_true]
theorem sameB_true {n : Nat} {f g : Nat → Int} (h : ∀ j, j < n → f j = g j) : sameB n f n g = true := sameB_iff.2 ⟨rfl, h⟩
set_option maxHeartbeats 1000000 in
theorem same_eq (a : Option Addr) (n c : Nat) (f : Nat → Int) (a' : Option Addr) (c' : Nat) (g : Nat → Int) (w : World) (hr : RowI w a n f) (hs : RowI w a' n g) (hn : n ≤ maxLen) :
    Calls Try.prog 16 #[.slice a n c, .slice a' n c'] w fun e w' => e = .returned (.bool (sameB n f n g)) ∧ Below w.heap.size w w' := by
  have H1 := Lib.hid hr
  have H2 := Lib.hid hs
  clear hr hs
  unfold maxLen at hn
  go_enter Try.func16, Try.ntmps16
  go_wp2_with fail
  go_loopw [13] (fun i wr => ∃ j : Nat, j ≤ n ∧ i = .int .i64 j ∧ (∀ t, t < j → f t = g t) ∧ Below w.heap.size w wr) (fun i _ => n - (intOf i).toNat)
  case atStart => exact ⟨0, Nat.zero_le _, rfl, fun t ht => by omega, Below.refl _ _⟩
  case round =>
    obtain ⟨j, hj, rfl, hall, hb⟩ := hrel
    have HA := Lib.hid hall
    have HB := Lib.hid hb
    clear hall hb
    by_cases hlt : j < n
    · rcases H1.out.keep HB.out with h0 | ⟨b, off, rfl, hbz, hc⟩
      · omega
      rcases H2.out.keep HB.out with h0 | ⟨b', off', rfl, hbz', hc'⟩
      · omega
      have hcj := (hc j hlt).1
      have hcj' := (hc' j hlt).1
      clear hc hc'
      have hj0 : (0 : Int) ≤ (j : Int) := by omega
      have hjn : (j : Int) < (n : Int) := by omega
      by_cases hf : f j = g j
      · have h1 : (f j != g j) = false := by rw [hf]; simp
        have HF := Lib.hid hf
        clear hf
        go_wp2_with fail
        go_quiet (fail)
        go_wp2_with fail
        exact ⟨⟨j + 1, by omega, by go_num, fun t ht => by
            by_cases et : t = j
            · subst et; exact HF.out
            · exact HA.out t (by omega), below_drewN HB.out _⟩, by simp [intOf]; omega⟩
      · have h1 : (f j != g j) = true := by rw [bne_iff_ne]; exact hf
        have HF := Lib.hid (show sameB n f n g = false by rw [← Bool.not_eq_true, sameB_iff]; exact fun h => hf (h.2 j hlt))
        clear hf
        go_wp2_with fail
        go_quiet (fail)
        go_wp2_with fail
        go_ret
        exact ⟨by rw [HF.out]; rfl, below_drewN HB.out _⟩
    · obtain rfl : n = j := by omega
      have HF := Lib.hid (sameB_true HA.out)
      go_wp2_with fail
      go_ret
      exact ⟨by rw [HF.out]; rfl, HB.out⟩
set_option maxHeartbeats 400000 in
/-- the reference's Same -/
theorem same_any (a : Option Addr) (n c : Nat) (f : Nat → Int) (a' : Option Addr) (m c' : Nat) (g : Nat → Int) (w : World) (hr : RowI w a n f) (hs : RowI w a' m g) (hn : n ≤ maxLen) :
    Calls Try.prog 16 #[.slice a n c, .slice a' m c'] w fun e w' => e = .returned (.bool (sameB n f m g)) ∧ Below w.heap.size w w' := by
  by_cases hnm : n = m
  · subst hnm; exact same_eq a n c f a' c' g w hr hs hn
  · have HF := Lib.hid (show sameB n f m g = false by simp [sameB, hnm])
    have h1 : ((n : Int) != (m : Int)) = true := by rw [bne_iff_ne]; omega
    clear hnm hr hs
    go_enter Try.func16, Try.ntmps16
    go_wp2_with fail
    go_ret
    exact ⟨by rw [HF.out]; rfl, Below.refl _ _⟩
theorem sameB_can {n : Nat} {f : Nat → Int} (h : n ≤ 4096) : sameB n f (canLen n) (can f) = valP n f := by
  rw [Bool.eq_iff_iff, sameB_iff, valP_iff, canLen_yes h]; exact ⟨fun x => ⟨h, x.2⟩, fun x => ⟨rfl, x.2⟩⟩
set_option maxHeartbeats 400000 in
/-- the reference's Valid -/
theorem validR_any (a : Option Addr) (n c : Nat) (f : Nat → Int) (w : World) (hr : RowI w a n f) (hn : n ≤ maxLen) :
    Calls Try.prog 19 #[.slice a n c] w fun e w' => e = .returned (.bool (valP n f)) ∧ Below w.heap.size w w' := by
  have H1 := Lib.hid hr
  have HN := Lib.hid hn
  unfold maxLen at hn
  clear hr
  by_cases hl : n ≤ 4096
  · have HS := Lib.hid (sameB_can (f := f) hl)
    go_enter Try.func19, Try.ntmps19
    go_wp2_with fail
    refine (canonicalR_any _ _ _ _ _ H1.out HN.out).mono ?_
    rintro e w1 ⟨r1, c1, rfl, hR, hB⟩
    have HR := Lib.hid hR
    have HB := Lib.hid hB
    have HK := Lib.hid (H1.out.keep hB)
    clear hR hB
    go_wp2_with fail
    refine (same_any _ _ _ _ _ _ _ _ _ HK.out HR.out HN.out).mono ?_
    rintro e w2 ⟨rfl, hB⟩
    rw [HS.out]
    have HB2 := Lib.hid (HB.out.trans (hB.mono HB.out.size))
    clear hB
    go_wp2_with fail
    go_ret
    exact ⟨rfl, HB2.out⟩
  · have HV := Lib.hid (valP_long (f := f) (show 4096 < n by omega))
    go_enter Try.func19, Try.ntmps19
    go_wp2_with fail
    go_ret
    exact ⟨by rw [HV.out]; rfl, Below.refl _ _⟩
end Go.Proofs.Ytfgpjkkdgjhkfaa
