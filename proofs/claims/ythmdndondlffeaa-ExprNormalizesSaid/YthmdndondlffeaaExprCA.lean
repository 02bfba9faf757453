/- Contracts: cmp.Compare, slices.CompareFunc, Compare. -/
import Derived.Test.YthmdndondlffeaaExprD
import Derived.Test.YthmdndondlffeaaExprCM
import Derived.Test.YthmdndondlffeaaShelf
import Derived.Deep.QuietTactic
import Derived.BigQuiet
import Derived.Lib.QuietBelow
namespace Go.Proofs.Ythmdndondlffeaa
open Go Go.RowKit Go.Sort
set_option linter.unusedVariables false
set_option maxHeartbeats 400000 in
theorem isNaN_any (x : Int) (w : World) : Calls Try.prog 77 #[.int .i64 x] w fun e w' => e = .returned (.bool false) ∧ w = w' := by
  have t : (x != x) = false := by simp
  go_enter Try.func77, Try.ntmps77
  go_wp2_with fail
  go_ret
  exact ⟨rfl, rfl⟩
set_option maxHeartbeats 1000000 in
theorem cmpI_any (x y : Int) (w : World) : Calls Try.prog 62 #[.int .i64 x, .int .i64 y] w fun e w' => e = .returned (.int .i64 (sgn x y)) ∧ w = w' := by
  by_cases h1 : x < y
  · have H := Lib.hid (sgn_lt h1)
    go_enter Try.func62, Try.ntmps62
    go_wp2_with (go_at_call 77; refine (isNaN_any _ _).mono ?_; rintro e w' ⟨rfl, rfl⟩)
    go_ret
    exact ⟨by rw [H.out]; rfl, rfl⟩
  · by_cases h2 : y < x
    · have H := Lib.hid (sgn_gt h2)
      have d1 : decide (x < y) = false := by simp; omega
      go_enter Try.func62, Try.ntmps62
      go_wp2_with (go_at_call 77; refine (isNaN_any _ _).mono ?_; rintro e w' ⟨rfl, rfl⟩)
      go_ret
      exact ⟨by rw [H.out]; rfl, rfl⟩
    · have H := Lib.hid (show sgn x y = 0 by rw [show x = y by omega]; exact sgn_self y)
      have d1 : decide (x < y) = false := by simp; omega
      have d2 : decide (y < x) = false := by simp; omega
      go_enter Try.func62, Try.ntmps62
      go_wp2_with (go_at_call 77; refine (isNaN_any _ _).mono ?_; rintro e w' ⟨rfl, rfl⟩)
      go_ret
      exact ⟨by rw [H.out]; rfl, rfl⟩
/-- what Compare promises of a tree and any other one -/
def CmpOf (op l : Int) (ks : List T) : Prop := ∀ (op' l' : Int) (ks' : List T) (a a' : Option Addr) (c c' : Nat) (w : World), InX w op l ks a → InX w op' l' ks' a' →
    Calls Try.prog 54 #[.agg #[.int .i64 op, .int .i64 l, .slice a ks.length c], .agg #[.int .i64 op', .int .i64 l', .slice a' ks'.length c']] w fun e w' => e = .returned (.int .i64 (cmpT (.node op l ks) (.node op' l' ks'))) ∧ Below w.heap.size w w'
set_option maxRecDepth 100000 in
set_option maxHeartbeats 2000000 in
theorem compareFunc_of (ks ks' : List T) (hk : ∀ (i : Nat) (op l : Int) (ls : List T), ks[i]? = some (.node op l ls) → CmpOf op l ls) (a a' : Option Addr) (c c' : Nat) (w : World) (h1 : InX w 0 0 ks a) (h2 : InX w 0 0 ks' a') :
    Calls Try.prog 63 #[.slice a ks.length c, .slice a' ks'.length c', .func (.func 54) #[] #[]] w fun e w' => e = .returned (.int .i64 (cmpL ks ks')) ∧ Below w.heap.size w w' := by
  have hl1 := h1.2.2.2
  have hl2 := h2.2.2.2
  have H1 := Lib.hid h1
  have H2 := Lib.hid h2
  have HK := Lib.hid hk
  clear h1 h2 hk
  go_enter Try.func63, Try.ntmps63
  go_wp2_with fail
  go_loopw [13] (fun vi wr => ∃ (i : Nat), i ≤ ks.length ∧ i ≤ ks'.length ∧ vi = .int .i64 i ∧ (∀ j (h1 : j < ks.length) (h2 : j < ks'.length), j < i → cmpT ks[j] ks'[j] = 0) ∧ Below w.heap.size w wr) (fun vi _ => ks.length - (intOf vi).toNat)
  case atStart => exact ⟨0, Nat.zero_le _, Nat.zero_le _, rfl, fun j _ _ h => by omega, Below.refl _ _⟩
  case round =>
    rename World => wA
    obtain ⟨i, hi, hi', rfl, hall, hb⟩ := hrel
    have HA := Lib.hid hall
    have HB := Lib.hid hb
    clear hall hb
    by_cases hlt : i < ks.length
    · obtain ⟨ko, kl, kk, hk, hk2⟩ := kid_some hlt
      obtain ⟨b, off, b1, d1, rfl, hbz, c1, c2, c3, hx1⟩ := (H1.out.keep HB.out).kid hk
      have hi0 : (0 : Int) ≤ (i : Int) := by omega
      have hin1 : (i : Int) < (ks.length : Int) := by omega
      have hwi : IntKind.i64.wrap (i : Int) = (i : Int) := IntWalk.i64_in _ (by omega)
      by_cases hlt' : i < ks'.length
      · obtain ⟨ko', kl', kk', hk', hk2'⟩ := kid_some hlt'
        obtain ⟨b', off', b1', d1', rfl, hbz', e1, e2, e3, hx2⟩ := (H2.out.keep HB.out).kid hk'
        have hin1' : (i : Int) < (ks'.length : Int) := by omega
        have HQ := Lib.hid (fun W (h : Below wA.heap.size wA W) => HK.out i ko kl kk hk ko' kl' kk' b1 b1' d1 d1' W (hx1.keep h) (hx2.keep h))
        obtain ⟨r, hr⟩ : ∃ r, r = cmpT (.node ko kl kk) (.node ko' kl' kk') := ⟨_, rfl⟩
        have HR := Lib.hid (show r = cmpT ks[i] ks'[i] by rw [hr, hk2, hk2'])
        rw [← hr] at HQ
        obtain ⟨kn, hkn⟩ : ∃ kn, kn = kk.length := ⟨_, rfl⟩
        rw [← hkn] at HQ c3
        obtain ⟨kn', hkn'⟩ : ∃ kn, kn = kk'.length := ⟨_, rfl⟩
        rw [← hkn'] at HQ e3
        clear hr hkn hkn' hx1 hx2 hk hk' hk2 hk2'
        by_cases h0 : r = 0
        · have t : (r != 0) = false := by simp [h0]
          have HN := Lib.hid (show ∀ j (h1 : j < ks.length) (h2 : j < ks'.length), j < i + 1 → cmpT ks[j] ks'[j] = 0 from fun j h1 h2 hj => by
            by_cases e : j = i
            · subst e; rw [← HR.out]; exact h0
            · exact HA.out j h1 h2 (by omega))
          clear h0
          go_wp2_with fail
          refine (HQ.out _ (((Below.refl _ wA).alloc (Nat.le_refl _) _).alloc (by simp) _)).mono ?_
          rintro e w2 ⟨rfl, hB⟩
          have HB2 := Lib.hid ((HB.out.alloc HB.out.size _ |>.alloc (by have := HB.out.size; simp; omega) _).trans (hB.mono (by have := HB.out.size; simp; omega)))
          clear hB
          go_wp2_with fail
          exact ⟨⟨i + 1, by omega, by omega, by go_num, HN.out, HB2.out⟩, by simp [intOf]; omega⟩
        · have t : (r != 0) = true := by simp [h0]
          have HF := Lib.hid (show cmpL ks ks' = r by rw [HR.out] at h0 ⊢; exact cmpL_at ks ks' i hlt hlt' HA.out h0)
          clear h0
          go_wp2_with fail
          refine (HQ.out _ (((Below.refl _ wA).alloc (Nat.le_refl _) _).alloc (by simp) _)).mono ?_
          rintro e w2 ⟨rfl, hB⟩
          have HB2 := Lib.hid ((HB.out.alloc HB.out.size _ |>.alloc (by have := HB.out.size; simp; omega) _).trans (hB.mono (by have := HB.out.size; simp; omega)))
          clear hB
          go_wp2_with fail
          go_ret
          exact ⟨by rw [HF.out]; rfl, HB2.out⟩
      · have HF := Lib.hid (show cmpL ks ks' = 1 by rw [cmpL_all ks ks' (fun j h1 h2 => HA.out j h1 h2 (by omega)), sgn_gt (by omega)])
        have hge : (ks'.length : Int) ≤ (i : Int) := by omega
        have hdc : decide (ks'.length ≤ i) = true := by simp; omega
        clear hk hk2 hx1
        go_wp2_with fail
        go_ret
        exact ⟨by rw [HF.out]; rfl, HB.out.alloc HB.out.size _⟩
    · obtain rfl : i = ks.length := by omega
      have HF := Lib.hid (cmpL_all ks ks' (fun j h1 h2 => HA.out j h1 h2 h1))
      by_cases hlt' : ks.length < ks'.length
      · have HF2 := Lib.hid (HF.out.trans (sgn_lt (by omega)))
        have hll : (ks.length : Int) < (ks'.length : Int) := by omega
        go_wp2_with fail
        go_ret
        exact ⟨by rw [HF2.out]; rfl, HB.out⟩
      · have he : ks.length = ks'.length := by omega
        have HF2 := Lib.hid (show cmpL ks ks' = 0 by rw [HF.out, he]; exact sgn_self _)
        have hdc : decide ((ks.length : Int) < (ks'.length : Int)) = false := by simp; omega
        have hdc2 : decide (ks.length < ks'.length) = false := by simp; omega
        clear he
        go_wp2_with fail
        go_ret
        exact ⟨by rw [HF2.out]; rfl, HB.out⟩
set_option maxRecDepth 100000 in
set_option maxHeartbeats 2000000 in
theorem compare_any (op l : Int) (ks : List T) : CmpOf op l ks := by
  refine T.ind2 (P := fun op l ks => CmpOf op l ks) ?_ op l ks
  clear op l ks
  intro op l ks ih op' l' ks' a a' c c' w h1 h2
  have HQ := Lib.hid (fun W (h1 : InX W op l ks a) (h2 : InX W op' l' ks' a') => compareFunc_of ks ks' (fun i o l ls h => ih i o l ls h) a a' c c' W ⟨h1.1, by unfold B64; omega, by unfold B64; omega, h1.2.2.2⟩ ⟨h2.1, by unfold B64; omega, by unfold B64; omega, h2.2.2.2⟩)
  have H1 := Lib.hid h1
  have H2 := Lib.hid h2
  clear h1 h2 ih
  obtain ⟨n, hn⟩ : ∃ n, n = ks.length := ⟨_, rfl⟩
  obtain ⟨n', hn'⟩ : ∃ n, n = ks'.length := ⟨_, rfl⟩
  rw [← hn] at HQ ⊢
  rw [← hn'] at HQ ⊢
  clear hn hn'
  have HB0 := Lib.hid (((Below.refl w.heap.size w).alloc (Nat.le_refl _) (.cells #[.int .i64 op, .int .i64 l, .slice a n c] 24)).alloc (by simp) (.cells #[.int .i64 op', .int .i64 l', .slice a' n' c'] 24))
  by_cases ho : op = op'
  · by_cases hl : l = l'
    · subst ho; subst hl
      have HF := Lib.hid (cmpT_kids (o := op) (l := l) (ks := ks) (ks' := ks'))
      have HQ1 := Lib.hid (HQ.out _ (H1.out.keep HB0.out) (H2.out.keep HB0.out))
      have t1 : (op != op) = false := by simp
      have t2 : (l != l) = false := by simp
      go_enter Try.func54, Try.ntmps54
      go_wp2_with fail
      refine HQ1.out.mono ?_
      rintro e w2 ⟨rfl, hB⟩
      have HB2 := Lib.hid (HB0.out.trans (hB.mono (by simp; omega)))
      clear hB
      go_wp2_with fail
      go_ret
      exact ⟨by rw [HF.out]; rfl, HB2.out⟩
    · subst ho
      have HF := Lib.hid (cmpT_lts (o := op) (ks := ks) (ks' := ks') hl)
      have t1 : (op != op) = false := by simp
      have t2 : (l != l') = true := by simp [hl]
      clear hl
      go_enter Try.func54, Try.ntmps54
      go_wp2_with (go_at_call 62; refine (cmpI_any _ _ _).mono ?_; rintro e w' ⟨rfl, rfl⟩)
      go_ret
      exact ⟨by rw [HF.out]; rfl, HB0.out⟩
  · have HF := Lib.hid (cmpT_ops (l := l) (l' := l') (ks := ks) (ks' := ks') ho)
    have t1 : (op != op') = true := by simp [ho]
    clear ho
    go_enter Try.func54, Try.ntmps54
    go_wp2_with (go_at_call 62; refine (cmpI_any _ _ _).mono ?_; rintro e w' ⟨rfl, rfl⟩)
    go_ret
    exact ⟨by rw [HF.out]; rfl, HB0.out⟩
end Go.Proofs.Ythmdndondlffeaa
