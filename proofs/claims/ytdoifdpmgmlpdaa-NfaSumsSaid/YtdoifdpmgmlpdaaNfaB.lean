/- Contracts: cmp.Compare, cmp.Or, compareEdges, below, has. -/
import Derived.Test.YtdoifdpmgmlpdaaNfaA
import Derived.Test.YtdoifdpmgmlpdaaRelA
import Derived.StillTailTactics
namespace Go.Proofs.Ytdoifdpmgmlpdaa
open Go Go.RowKit
open Go.Proofs.Ytdoifdpmgmlpdaa.rel (bit_eq shl_u ret_b ret_u pow_lt64 pow_le64)
set_option linter.unusedVariables false
theorem isNaN_any (x : Int) (w : World) : Calls Try.prog 86 #[.int .i64 x] w fun e w' => e = .returned (.bool false) ∧ w = w' := by
  go_enter Try.func86, Try.ntmps86
  go_wp2_with fail
  go_ret
  exact ⟨rfl, rfl⟩
set_option maxHeartbeats 1000000 in
theorem cmpI_any (x y : Int) (w : World) : Calls Try.prog 68 #[.int .i64 x, .int .i64 y] w fun e w' => e = .returned (.int .i64 (cmpI x y)) ∧ w = w' := by
  by_cases h1 : x < y
  · have H := Lib.hid (cmpI_lt h1)
    go_enter Try.func68, Try.ntmps68
    go_wp2_with (go_at_call 86; refine (isNaN_any _ _).mono ?_; rintro e w' ⟨rfl, rfl⟩)
    go_ret
    exact ⟨by rw [H.out]; rfl, rfl⟩
  · by_cases h2 : y < x
    · have H := Lib.hid (cmpI_gt h2)
      have d1 : decide (x < y) = false := by simp; omega
      go_enter Try.func68, Try.ntmps68
      go_wp2_with (go_at_call 86; refine (isNaN_any _ _).mono ?_; rintro e w' ⟨rfl, rfl⟩)
      go_ret
      exact ⟨by rw [H.out]; rfl, rfl⟩
    · have H := Lib.hid (show cmpI x y = 0 by rw [show x = y by omega]; exact cmpI_self y)
      have d1 : decide (x < y) = false := by simp; omega
      have d2 : decide (y < x) = false := by simp; omega
      go_enter Try.func68, Try.ntmps68
      go_wp2_with (go_at_call 86; refine (isNaN_any _ _).mono ?_; rintro e w' ⟨rfl, rfl⟩)
      go_ret
      exact ⟨by rw [H.out]; rfl, rfl⟩
/-- the first that is not 0 -/
def orV (x y z : Int) : Int := if x ≠ 0 then x else if y ≠ 0 then y else z
def triV (x y z : Int) (i : Nat) : Int := if i = 0 then x else if i = 1 then y else z
theorem orV_at {x y z : Int} {i : Nat} (hi : i < 3) (h0 : ∀ j, j < i → triV x y z j = 0) (h : triV x y z i ≠ 0) : orV x y z = triV x y z i := by
  match i, hi with
  | 0, _ => simp [triV] at h; simp [orV, triV, h]
  | 1, _ => have := h0 0 (by omega); simp [triV] at h this; simp [orV, triV, h, this]
  | 2, _ => have := h0 0 (by omega); have h1 := h0 1 (by omega); simp [triV] at h this h1; simp [orV, triV, h1, this]
theorem orV_none {x y z : Int} (h0 : ∀ j, j < 3 → triV x y z j = 0) : orV x y z = 0 := by
  have a := h0 0 (by omega); have b := h0 1 (by omega); have c := h0 2 (by omega)
  simp [triV] at a b c; simp [orV, a, b, c]
set_option maxRecDepth 100000 in
set_option maxHeartbeats 1000000 in
theorem cmpOr_any (x y z : Int) (b : Nat) (w : World) (h0 : w.cell? ⟨b, 0, none⟩ = some (.int .i64 x)) (h1 : w.cell? ⟨b, 1, none⟩ = some (.int .i64 y)) (h2 : w.cell? ⟨b, 2, none⟩ = some (.int .i64 z)) :
    Calls Try.prog 67 #[.slice (some ⟨b, 0, none⟩) 3 3] w fun e w' => e = .returned (.int .i64 (orV x y z)) ∧ w = w' := by
  have HC := Lib.hid (show ∀ i : Nat, i < 3 → w.cell? ⟨b, i, none⟩ = some (.int .i64 (triV x y z i)) by
    intro i hi
    match i, hi with
    | 0, _ => exact h0
    | 1, _ => exact h1
    | 2, _ => exact h2)
  clear h0 h1 h2
  obtain ⟨V, hV⟩ : ∃ V, V = triV x y z := ⟨_, rfl⟩
  have HV := Lib.hid hV
  rw [← hV] at HC
  clear hV
  go_enter Try.func67, Try.ntmps67
  go_wp2_with fail
  go_loopw [8] (fun vi wr => ∃ i : Nat, i ≤ 3 ∧ vi = .int .i64 i ∧ (∀ j, j < i → V j = 0) ∧ w = wr) (fun vi _ => 3 - (intOf vi).toNat)
  case atStart => exact ⟨0, by omega, rfl, fun j hj => by omega, rfl⟩
  case round =>
    obtain ⟨i, hi, rfl, hz, rfl⟩ := hrel
    have HZ := Lib.hid hz
    clear hz
    by_cases hlt : i < 3
    · have hc := HC.out i hlt
      have hi0 : (0 : Int) ≤ (i : Int) := by omega
      have hi3 : (i : Int) < 3 := by omega
      have hwi : IntKind.i64.wrap (i : Int) = (i : Int) := IntWalk.i64_in _ (by omega)
      obtain ⟨v, hv⟩ : ∃ v, v = V i := ⟨_, rfl⟩
      rw [← hv] at hc
      have HVI := Lib.hid hv
      clear hv
      by_cases hz0 : v = 0
      · subst hz0
        go_wp2_with fail
        exact ⟨⟨i + 1, by omega, by go_num, fun j hj => by
          by_cases e : j = i
          · rw [e, ← HVI.out]
          · exact HZ.out j (by omega), trivial⟩, by simp [intOf]; omega⟩
      · have HF := Lib.hid (show orV x y z = v by
          have h5 := HZ.out; have h6 := HVI.out; have h7 := HV.out
          rw [h7] at h5 h6
          rw [h6]; exact orV_at hlt h5 (by rw [← h6]; exact hz0))
        have d0 : (v != 0) = true := by simpa using hz0
        clear hz0
        go_wp2_with fail
        go_ret
        exact ⟨by rw [HF.out]; rfl, rfl⟩
    · obtain rfl : i = 3 := by omega
      have HF := Lib.hid (show orV x y z = 0 by have h5 := HZ.out; rw [HV.out] at h5; exact orV_none h5)
      go_wp2_with fail
      go_ret
      exact ⟨by rw [HF.out]; rfl, rfl⟩
theorem cmpE_or (a b : Ed) : orV (cmpI a.f b.f) (cmpI a.l b.l) (cmpI a.t b.t) = cmpE a b := rfl
/-- a box of an edge, later -/
theorem ebox_cells {w w' : World} {x y z : Value} (h : Below (w.heap.size + 1) (w.alloc (.cells #[x, y, z] 44)) w') :
    w'.cell? ⟨w.heap.size, 0, none⟩ = some x ∧ w'.cell? ⟨w.heap.size, 1, none⟩ = some y ∧ w'.cell? ⟨w.heap.size, 2, none⟩ = some z := by
  refine ⟨?_, ?_, ?_⟩ <;> rw [h.cell (p := ⟨w.heap.size, _, none⟩) (by simp)] <;> simp [go_sem]
set_option maxRecDepth 100000 in
set_option maxHeartbeats 2000000 in
theorem compareEdges_any (e d : Ed) (w : World) :
    Calls Try.prog 47 #[.agg #[.int .i64 e.f, .int .i64 e.l, .int .i64 e.t], .agg #[.int .i64 d.f, .int .i64 d.l, .int .i64 d.t]] w fun r w' => r = .returned (.int .i64 (cmpE e d)) ∧ Below w.heap.size w w' := by
  obtain ⟨ef, el, et⟩ := e
  obtain ⟨df, dl, dt⟩ := d
  have HF := Lib.hid (cmpE_or ⟨ef, el, et⟩ ⟨df, dl, dt⟩)
  dsimp only at HF ⊢
  have HB := Lib.hid (((Below.refl w.heap.size w).alloc (Nat.le_refl _) (.cells #[.int .i64 ef, .int .i64 el, .int .i64 et] 44)).alloc (by simp) (.cells #[.int .i64 df, .int .i64 dl, .int .i64 dt] 44))
  obtain ⟨c0, h0⟩ : ∃ c, c = cmpI ef df := ⟨_, rfl⟩
  obtain ⟨c1, h1⟩ : ∃ c, c = cmpI el dl := ⟨_, rfl⟩
  obtain ⟨c2, h2⟩ : ∃ c, c = cmpI et dt := ⟨_, rfl⟩
  have C0 := Lib.hid (fun W => cmpI_any ef df W)
  have C1 := Lib.hid (fun W => cmpI_any el dl W)
  have C2 := Lib.hid (fun W => cmpI_any et dt W)
  rw [← h0] at C0 HF
  rw [← h1] at C1 HF
  rw [← h2] at C2 HF
  clear h0 h1 h2
  have hE := ebox_cells (w := w) (x := .int .i64 ef) (y := .int .i64 el) (z := .int .i64 et) ((Below.refl _ _).alloc (by simp) (.cells #[.int .i64 df, .int .i64 dl, .int .i64 dt] 44))
  have hD := ebox_cells (w := w.alloc (.cells #[.int .i64 ef, .int .i64 el, .int .i64 et] 44)) (x := .int .i64 df) (y := .int .i64 dl) (z := .int .i64 dt) (Below.refl _ _)
  rw [show (w.alloc (.cells #[.int .i64 ef, .int .i64 el, .int .i64 et] 44)).heap.size = w.heap.size + 1 from by simp] at hD
  obtain ⟨x0, x1, x2⟩ := hE
  obtain ⟨y0, y1, y2⟩ := hD
  go_enter Try.func47, Try.ntmps47
  go_wp2_with fail
  generalize (w.alloc (.cells #[.int .i64 ef, .int .i64 el, .int .i64 et] 44)).alloc (.cells #[.int .i64 df, .int .i64 dl, .int .i64 dt] 44) = W at *
  refine wp_region_still_tail 15 (by kernel_rfl) (by kernel_rfl) ?_
  simp only [List.take_succ_cons, List.take_zero, List.drop_succ_cons, List.drop_zero]
  repeat still_step
  still_call ((C0.out _).mono fun e w' ⟨h1, h2⟩ => ⟨h1, h2.symm⟩)
  repeat still_step
  still_call ((C1.out _).mono fun e w' ⟨h1, h2⟩ => ⟨h1, h2.symm⟩)
  repeat still_step
  still_call ((C2.out _).mono fun e w' ⟨h1, h2⟩ => ⟨h1, h2.symm⟩)
  repeat still_step
  refine wpStill_nil ?_
  change wpList _ _ _ _ _ W.drew
  clear x0 x1 x2 y0 y1 y2
  go_wp2_with fail
  refine (cmpOr_any c0 c1 c2 _ _ ?_ ?_ ?_).mono ?_
  · simp [go_sem]
  · simp [go_sem]
  · simp [go_sem]
  rintro e w' ⟨rfl, rfl⟩
  go_wp2_with fail
  go_ret
  exact ⟨by rw [HF.out]; rfl, HB.out.drew.alloc HB.out.size _⟩
theorem below_any (x n : Int) (w : World) : Calls Try.prog 50 #[.int .i64 x, .int .i64 n] w fun e w' => e = .returned (.bool (belowB x n)) ∧ w = w' := by
  have HF := Lib.hid (show belowB x n = (decide (0 ≤ x) && decide (x < n)) from rfl)
  by_cases h : 0 ≤ x
  · by_cases h2 : x < n
    · have H := Lib.hid (show belowB x n = true by rw [HF.out]; simp [h, h2])
      go_enter Try.func50, Try.ntmps50
      go_wp2_with fail
      go_ret
      exact ⟨by rw [H.out]; rfl, rfl⟩
    · have H := Lib.hid (show belowB x n = false by rw [HF.out]; simp [h, h2])
      have d : decide (x < n) = false := by simp; omega
      go_enter Try.func50, Try.ntmps50
      go_wp2_with fail
      go_ret
      exact ⟨by rw [H.out]; rfl, rfl⟩
  · have H := Lib.hid (show belowB x n = false by rw [HF.out]; simp [h])
    have d : decide (0 ≤ x) = false := by simp; omega
    go_enter Try.func50, Try.ntmps50
    go_wp2_with fail
    go_ret
    exact ⟨by rw [H.out]; rfl, rfl⟩
set_option maxHeartbeats 400000 in
theorem nhas_any (x j : Nat) (w : World) (hx : x < 18446744073709551616) (hj : j ≤ 64) :
    Calls Try.prog 57 #[.int .u64 x, .int .i64 j] w fun e w' => e = .returned (.bool (x.testBit j)) ∧ w = w' := by
  have HB := Lib.hid (bit_eq (j := j) hx)
  clear hx
  go_enter Try.func57, Try.ntmps57
  go_wp2
  go_ret
  exact ⟨ret_b HB.out, rfl⟩
end Go.Proofs.Ytdoifdpmgmlpdaa
