/- Contracts: Canonical, the reference's Canonical. -/
import Derived.Test.YtfgpjkkdgjhkfaaPartA
namespace Go.Proofs.Ytfgpjkkdgjhkfaa
open Go Go.RowKit Go.Maps
set_option linter.unusedVariables false

theorem lawKI : Keyed Try.prog 3 := int_keyed Try.underlying3
theorem zeroI (w : World) : (zeroValue 3).run Try.prog w = .ok (.int .i64 0) w := by kernel_rfl
abbrev OwnsM (w : World) (b nn : Nat) (f : Nat → Int) (k : Nat) : Prop := w.ownsMap Try.prog 3 (plainElem (H := Unit) Try.prog 3) b nn (mapF Unit f k)
theorem known_at {f : Nat → Int} {k : Nat} {c : Int} (h : fst f k ≠ k) (hat : (mapF Unit f k).atKey (.int .i64 (f k)) (.lit (.int .i64 0)) = .lit (.int .i64 c)) : c = can f k := by
  rw [mapF_old Unit h] at hat
  injection hat with h1
  injection h1 with _ h2
  exact h2.symm
/-- the number of elements of Canonical's result -/
def canLen (n : Nat) : Nat := if n ≤ 4096 then n else 0
theorem canLen_yes {n : Nat} (h : n ≤ 4096) : canLen n = n := by rw [canLen, if_pos h]
theorem canLen_no {n : Nat} (h : ¬ n ≤ 4096) : canLen n = 0 := by rw [canLen, if_neg h]

set_option maxRecDepth 100000 in
set_option maxHeartbeats 4000000 in
theorem canonical_ok (a : Option Addr) (n c : Nat) (f : Nat → Int) (w : World) (hr : RowI w a n f) (hn : n ≤ 4096) :
    Calls Try.prog 15 #[.slice a n c] w (Fresh w n (can f)) := by
  have hmm := @run_makeMap Try.prog
  have H1 := Lib.hid hr
  clear hr
  obtain ⟨i0, hi, hz0, hz1, hz2⟩ := info_parts infoI
  go_enter Try.func15, Try.ntmps15
  go_wp2_with (refine wpList_make_full _ rfl _ _ 22 rfl w.heap.size 3 i0 (.int .i64 0) 1 Try.underlying22 hi hz0 hz1 .i64 .i64 _ _ n rfl rfl (by simp) (by simp) ?c1 ?c2 ?c3 ?_)
  case c1 => rw [hz2]; omega
  case c2 => unfold maxLen; omega
  case c3 => exact Nat.le_refl _
  intro w1 hown0 hg1
  have hown : ownsF w1 w.heap.size w.heap.size n (upG 0 0 (can f)) := by
    refine ownsF_congr (f := fun _ => 0) ?_ fun t _ => (upG_zero _ _ _).symm
    unfold ownsF
    rw [← rowF_made]
    simpa using hown0
  have hb1 : Below w.heap.size w w1 := (Below.refl _ w).grown hg1 (Nat.le_refl _) (by intro k hk; cases hk)
  have HG := Lib.hid (ownsF_lt hown).2
  have HO := Lib.hid (ownsF_kept hown (World.grownBy_alloc w1 (.map #[] 0) none) (by simp))
  have HB := Lib.hid (hb1.alloc hb1.size (.map #[] 0))
  have HM := Lib.hid (show OwnsM (w1.alloc (.map #[] 0)) w1.heap.size 0 f 0 from World.ownsMap_made _ _ _ _)
  clear hown0 hown hg1 hb1
  go_wp2_with fail
  go_loopw [17] (fun vi wr => ∃ k : Nat, k ≤ n ∧ vi = .int .i64 k ∧ ownsF wr w.heap.size w.heap.size n (upG k 0 (can f)) ∧ OwnsM wr w1.heap.size k f k ∧ Below w.heap.size w wr) (fun vi _ => n - (intOf vi).toNat)
  case atStart => exact ⟨0, Nat.zero_le _, rfl, HO.out, HM.out, HB.out⟩
  case round =>
    obtain ⟨k, hk, rfl, ho, hm, hb⟩ := hrel
    have HO2 := Lib.hid ho
    have HM2 := Lib.hid hm
    have HB2 := Lib.hid hb
    clear ho hm hb
    have hne : w.heap.size ≠ w1.heap.size := by have : w.heap.size < w1.heap.size := HG.out; omega
    by_cases hlt : k < n
    · rcases H1.out.keep HB2.out with h0 | ⟨b, off, rfl, hbz, hc⟩
      · omega
      have hck := (hc k hlt).1
      have HK := Lib.hid (keyOf_int_mk Try.underlying3 (hc k hlt).2.wf)
      clear hc
      have hcl := cls_le f k
      by_cases hnew : fst f k = k
      · have HH := Lib.hid (show Maps.has (mapF Unit f k) (.int .i64 (f k)) = false by rw [mapF_known]; simp [hnew])
        have HZ := Lib.hid (mapF_size Unit f k)
        have HY := Lib.hid (mapF_yes Unit hnew)
        have HCN := Lib.hid (show (cls f k : Int) = can f k by rw [can, canN_new hnew])
        have hB64 : B64 (cls f k : Int) := by unfold B64; omega
        clear hnew
        go_wp2_with (first
          | (at_lookup; refine wpList_lookup_own_ok_int _ rfl _ _ 44 rfl 3 3 .i64 lawKI Try.underlying44 Try.underlying3 (zeroI _) _ k _ rfl HM2.out _ _ rfl HK.out ?_; intro c hat hwc; rw [HH.out])
          | (at_len; refine wpList_len_own _ rfl _ 44 rfl 3 3 Try.underlying44 _ _ k _ rfl HM2.out ?_; rw [HZ.out])
          | (at_mapUpdate; refine wpList_mapUpdate_own _ rfl _ _ _ 44 rfl 3 3 lawKI Try.underlying44 _ _ k _ rfl HM2.out (by unfold maxLen; omega) _ _ _ rfl rfl HK.out _ [] (plainElem_int Try.underlying3 hB64.wf) ?_; intro w2 hown2 hgrow2
             have HM3 := Lib.hid (show OwnsM w2 w1.heap.size (k + 1) f (k + 1) by rw [OwnsM, HY.out]; exact hown2)
             have HO3 := Lib.hid (ownsF_kept HO2.out hgrow2 (fun e => hne (Option.some.inj e)))
             have HB3 := Lib.hid (HB2.out.grown hgrow2 HB2.out.size (fun j hj => by cases hj; have : w.heap.size < w1.heap.size := HG.out; omega))
             have hcell := ownsF_cell HO3.out hlt
             have hfree := ownsF_free HO3.out k
             clear hown2 hgrow2))
        exact ⟨⟨k + 1, by omega, by go_num, ownsF_up HO3.out HCN.out, HM3.out.setCell (Ne.symm hne) _, HB3.out.setCell (Nat.le_refl _) _⟩, by simp [intOf]; omega⟩
      · have HH := Lib.hid (show Maps.has (mapF Unit f k) (.int .i64 (f k)) = true by rw [mapF_known]; simp [hnew])
        have HY := Lib.hid (mapF_no Unit hnew)
        have HCN := Lib.hid (fun c => known_at (c := c) hnew)
        have hcell := ownsF_cell HO2.out hlt
        have hfree := ownsF_free HO2.out k
        clear hnew
        go_wp2_with (at_lookup; refine wpList_lookup_own_ok_int _ rfl _ _ 44 rfl 3 3 .i64 lawKI Try.underlying44 Try.underlying3 (zeroI _) _ k _ rfl HM2.out _ _ rfl HK.out ?_; intro c hat hwc; rw [HH.out])
        exact ⟨⟨k + 1, by omega, by go_num, ownsF_up HO2.out (HCN.out _ hat), by
          have := (HM2.out.setCell (a := ⟨w.heap.size, k, none⟩) (Ne.symm hne) (.int .i64 c)).mono (Nat.le_succ k)
          rw [OwnsM, HY.out]; exact this, HB2.out.setCell (Nat.le_refl _) _⟩, by simp [intOf]; omega⟩
    · obtain rfl : n = k := by omega
      go_wp2_with fail
      go_ret
      exact Fresh.own HO2.out HB2.out
set_option maxHeartbeats 400000 in
theorem canonical_any (a : Option Addr) (n c : Nat) (f : Nat → Int) (w : World) (hr : RowI w a n f) (hn : n ≤ maxLen) :
    Calls Try.prog 15 #[.slice a n c] w (Gives w (canLen n) (can f)) := by
  by_cases hl : n ≤ 4096
  · rw [canLen_yes hl]
    exact (canonical_ok a n c f w hr hl).mono fun e w' h => h.gives fun i hi => can_b (by omega)
  · rw [canLen_no hl]
    unfold maxLen at hn
    go_enter Try.func15, Try.ntmps15
    go_wp2_with fail
    go_ret
    exact Gives.nil
end Go.Proofs.Ytfgpjkkdgjhkfaa
