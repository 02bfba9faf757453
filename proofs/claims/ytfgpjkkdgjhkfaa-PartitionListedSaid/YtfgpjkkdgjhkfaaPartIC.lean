/- Contracts: All, Less. -/
import Derived.Test.YtfgpjkkdgjhkfaaPartIB
namespace Go.Proofs.Ytfgpjkkdgjhkfaa
open Go Go.RowKit Go.Maps
set_option linter.unusedVariables false


theorem fac_le {i : Nat} (h : i ≤ 7) : fac i ≤ 5040 := by
  have : ∀ i : Fin 8, fac i.val ≤ 5040 := by decide
  exact this ⟨i, by omega⟩
theorem allN_le {i : Nat} (h : i ≤ 7) : (allN i).length ≤ 5040 := Nat.le_trans (allN_len i) (fac_le h)
theorem rows_one (w : World) : RowsS ((w.alloc (.cells #[] 3)).alloc (.cells #[.slice (some ⟨w.heap.size, 0, none⟩) 0 0] 22)) (some ⟨(w.alloc (.cells #[] 3)).heap.size, 0, none⟩) 1 (atL (allN 0)) := by
  refine .inr ⟨_, 0, rfl, by simp, fun i hi => ?_⟩
  have h0 : i = 0 := by omega
  subst h0
  refine ⟨⟨w.heap.size, 0, none⟩, 0, ?_, .inl rfl⟩
  have := cell_one_new (w.alloc (.cells #[] 3)) (.slice (some ⟨w.heap.size, 0, none⟩) 0 0) 22 0 _ rfl
  simp [atL, allN]
set_option maxRecDepth 100000 in
set_option maxHeartbeats 1000000 in
theorem all_ok (n : Nat) (w : World) (hn : n ≤ 7) : Calls Try.prog 40 #[.int .i64 n] w (GivesS w (allN n)) := by
  have HR := Lib.hid (rows_one w)
  have HB := Lib.hid (((Below.refl w.heap.size w).alloc (Nat.le_refl _) (.cells #[] 3)).alloc (by simp) (.cells #[.slice (some ⟨w.heap.size, 0, none⟩) 0 0] 22))
  go_enter Try.func40, Try.ntmps40
  go_wp2_with fail
  go_loopw [3, 13] (fun v vi wr => ∃ (i m : Nat) (a : Option Addr) (c : Nat), i ≤ n ∧ vi = .int .i64 i ∧ m = (allN i).length ∧ v = .slice a m c ∧ RowsS wr a m (atL (allN i)) ∧ Below w.heap.size w wr) (fun _ vi _ => n - (intOf vi).toNat)
  case atStart => exact ⟨0, 1, some ⟨w.heap.size + 1, 0, none⟩, 1, Nat.zero_le _, rfl, rfl, rfl, by have := HR.out; simpa using this, HB.out⟩
  case round =>
    obtain ⟨i, m, a, c, hi, rfl, hm, rfl, hr, hb⟩ := hrel
    have HR2 := Lib.hid hr
    have HB2 := Lib.hid hb
    have HM := Lib.hid hm
    clear hr hb hm
    by_cases hlt : i < n
    · have HE := Lib.hid (extendAll_ok a c i (allN i) wr (by rw [← HM.out]; exact HR2.out) (fun l hl => allN_good hl) (by omega) (by have := allN_le (i := i + 1) (by omega); rw [allN] at this; omega) (by have := allN_le (i := i) (by omega); omega))
      rw [← HM.out] at HE
      go_wp2_with fail
      refine HE.out.mono ?_
      rintro e w2 ⟨r2, c2, rfl, hR, hB⟩
      have HR3 := Lib.hid (show RowsS w2 r2 (allN (i + 1)).length (atL (allN (i + 1))) from hR)
      have HB3 := Lib.hid (HB2.out.trans (hB.mono HB2.out.size))
      have HX := Lib.hid (show (List.flatMap extL (allN i)).length = (allN (i + 1)).length from rfl)
      clear hR hB
      go_wp2_with fail
      exact ⟨⟨i + 1, _, r2, c2, by omega, by go_num, rfl, by rw [← HX.out]; simp, HR3.out, HB3.out⟩, by simp [intOf]; omega⟩
    · obtain rfl : n = i := by omega
      go_wp2_with fail
      go_ret
      exact ⟨a, c, by rw [← HM.out]; rfl, by rw [← HM.out]; exact HR2.out, HB2.out⟩
set_option maxHeartbeats 400000 in
theorem all_no (n : Int) (w : World) (hn : ¬ (0 ≤ n ∧ n ≤ 7)) : Calls Try.prog 40 #[.int .i64 n] w fun e w' => e = .returned (.slice none 0 0) ∧ w = w' := by
  by_cases h0 : n < 0
  · go_enter Try.func40, Try.ntmps40
    go_wp2_with fail
    go_ret
    exact ⟨rfl, rfl⟩
  · have h1 : 7 < n := by omega
    have h2 : 0 ≤ n := by omega
    go_enter Try.func40, Try.ntmps40
    go_wp2_with fail
    go_ret
    exact ⟨rfl, rfl⟩
set_option maxRecDepth 100000 in
set_option maxHeartbeats 1000000 in
theorem less_ok (a : Option Addr) (n c : Nat) (f : Nat → Int) (a' : Option Addr) (c' : Nat) (g : Nat → Int) (w : World) (hr : RowI w a n f) (hs : RowI w a' n g) (hn : n ≤ 4096) :
    Calls Try.prog 42 #[.slice a n c, .slice a' n c'] w fun e w' => e = .returned (.bool (lessB n f g)) ∧ Below w.heap.size w w' := by
  have H1 := Lib.hid hr
  have H2 := Lib.hid hs
  clear hr hs
  go_enter Try.func42, Try.ntmps42
  go_wp2_with fail
  go_loopw [5] (fun vi wr => ∃ k : Nat, k ≤ n ∧ vi = .int .i64 k ∧ (∀ t, t < k → f t = g t) ∧ Below w.heap.size w wr) (fun vi _ => n - (intOf vi).toNat)
  case atStart => exact ⟨0, Nat.zero_le _, rfl, fun t ht => by omega, Below.refl _ _⟩
  case round =>
    obtain ⟨k, hk, rfl, hall, hb⟩ := hrel
    have HALL := Lib.hid hall
    have HB := Lib.hid hb
    clear hall hb
    by_cases hlt : k < n
    · rcases H1.out.keep HB.out with h0 | ⟨b, off, rfl, hbz, hc⟩
      · omega
      rcases H2.out.keep HB.out with h0 | ⟨b', off', rfl, hbz', hc'⟩
      · omega
      have hcf := (hc k hlt).1
      have hcg := (hc' k hlt).1
      clear hc hc'
      have hk0 : (0 : Int) ≤ (k : Int) := by omega
      have hkn : (k : Int) < (n : Int) := by omega
      by_cases he : f k = g k
      · have ht : (f k != g k) = false := by simp [he]
        have HE := Lib.hid he
        clear he
        go_wp2_with fail
        go_quiet (fail)
        go_wp2_with fail
        exact ⟨⟨k + 1, by omega, by go_num, fun t ht => by
            by_cases et : t = k
            · subst et; exact HE.out
            · exact HALL.out t (by omega), below_drewN HB.out _⟩, by simp [intOf]; omega⟩
      · have ht : (f k != g k) = true := by rw [bne_iff_ne]; exact he
        have HE := Lib.hid (lessB_at hlt HALL.out he)
        clear he
        go_wp2_with fail
        go_quiet (fail)
        go_wp2_with fail
        go_quiet (fail)
        go_wp2_with fail
        go_ret
        exact ⟨by rw [HE.out]; rfl, below_drewN (below_drewN HB.out _) _⟩
    · obtain rfl : n = k := by omega
      have HE := Lib.hid (lessB_eq HALL.out)
      go_wp2_with fail
      go_ret
      exact ⟨by rw [HE.out]; simp, HB.out⟩
end Go.Proofs.Ytfgpjkkdgjhkfaa
