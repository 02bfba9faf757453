/- Contracts: the reference's sign, Compare; same. -/
import Derived.Test.YthmdndondlffeaaExprCA
namespace Go.Proofs.Ythmdndondlffeaa
open Go Go.RowKit Go.Sort
set_option linter.unusedVariables false
set_option maxHeartbeats 400000 in
theorem sign_any (b : Bool) (w : World) : Calls Try.prog 34 #[.bool b] w fun e w' => e = .returned (.int .i64 (if b = true then -1 else 1)) ∧ w = w' := by
  cases b
  · go_enter Try.func34, Try.ntmps34
    go_wp2_with fail
    go_ret
    exact ⟨rfl, rfl⟩
  · go_enter Try.func34, Try.ntmps34
    go_wp2_with fail
    go_ret
    exact ⟨rfl, rfl⟩
theorem sgn_ne {a b : Int} (h : a ≠ b) : sgn a b = if decide (a < b) = true then -1 else 1 := by
  by_cases h1 : a < b
  · rw [sgn_lt h1]; simp [h1]
  · rw [sgn_gt (by omega)]; simp [h1]
/-- what the reference's Compare promises of a tree and any other one -/
def CmpR (op l : Int) (ks : List T) : Prop := ∀ (op' l' : Int) (ks' : List T) (a a' : Option Addr) (c c' : Nat) (w : World), InX w op l ks a → InX w op' l' ks' a' →
    Calls Try.prog 18 #[.agg #[.int .i64 op, .int .i64 l, .slice a ks.length c], .agg #[.int .i64 op', .int .i64 l', .slice a' ks'.length c']] w fun e w' => e = .returned (.int .i64 (cmpT (.node op l ks) (.node op' l' ks'))) ∧ Below w.heap.size w w'
/-- two boxes, later -/
theorem boxes2 {w w' : World} {x y z x' y' z' : Value} (h : Below (w.heap.size + 2) ((w.alloc (.cells #[x, y, z] 24)).alloc (.cells #[x', y', z'] 24)) w') :
    w'.cell? ⟨w.heap.size, 2, none⟩ = some z ∧ w'.cell? ⟨w.heap.size + 1, 2, none⟩ = some z' := by
  refine ⟨?_, ?_⟩ <;> rw [h.cell (p := ⟨_, _, none⟩) (by simp)] <;> simp [go_sem]
set_option maxRecDepth 100000 in
set_option maxHeartbeats 4000000 in
theorem compareR_any (op l : Int) (ks : List T) : CmpR op l ks := by
  refine T.ind2 (P := fun op l ks => CmpR op l ks) ?_ op l ks
  clear op l ks
  intro op l ks ih op' l' ks' a a' c c' w h1 h2
  have hl1 := h1.2.2.2
  have hl2 := h2.2.2.2
  have H1 := Lib.hid h1
  have H2 := Lib.hid h2
  have HK := Lib.hid ih
  clear h1 h2 ih
  by_cases ho : op = op'
  · by_cases hl : l = l'
    · subst ho; subst hl
      have HF := Lib.hid (cmpT_kids (o := op) (l := l) (ks := ks) (ks' := ks'))
      have t1 : (op != op) = false := by simp
      have t2 : (l != l) = false := by simp
      have HB0 := Lib.hid (((Below.refl w.heap.size w).alloc (Nat.le_refl _) (.cells #[.int .i64 op, .int .i64 l, .slice a ks.length c] 24)).alloc (by simp) (.cells #[.int .i64 op, .int .i64 l, .slice a' ks'.length c'] 24))
      go_enter Try.func18, Try.ntmps18
      go_wp2_with fail
      go_loopw [5] (fun vi wr => ∃ (i : Nat), i ≤ ks.length ∧ i ≤ ks'.length ∧ vi = .int .i64 i ∧ (∀ j (h1 : j < ks.length) (h2 : j < ks'.length), j < i → cmpT ks[j] ks'[j] = 0) ∧ Below (w.heap.size + 2) ((w.alloc (.cells #[.int .i64 op, .int .i64 l, .slice a ks.length c] 24)).alloc (.cells #[.int .i64 op, .int .i64 l, .slice a' ks'.length c'] 24)) wr) (fun vi _ => ks.length - (intOf vi).toNat)
      case atStart => exact ⟨0, Nat.zero_le _, Nat.zero_le _, rfl, fun j _ _ h => by omega, Below.refl _ _⟩
      case round =>
        rename World => wA
        obtain ⟨i, hi, hi', rfl, hall, hb⟩ := hrel
        have HA := Lib.hid hall
        have HB := Lib.hid hb
        have HBW := Lib.hid (HB0.out.trans (hb.mono (by omega)))
        have hszA : w.heap.size + 2 ≤ wA.heap.size := by have := hb.size; simp at this; omega
        obtain ⟨y1, y2⟩ := boxes2 hb
        clear hall hb
        by_cases hlt : i < ks.length
        · have hin1 : (i : Int) < (ks.length : Int) := by omega
          have hi0 : (0 : Int) ≤ (i : Int) := by omega
          have hwi : IntKind.i64.wrap (i : Int) = (i : Int) := IntWalk.i64_in _ (by omega)
          by_cases hlt' : i < ks'.length
          · obtain ⟨ko, kl, kk, hk, hk2⟩ := kid_some hlt
            obtain ⟨b, off, b1, d1, rfl, hbz, c1, c2, c3, hx1⟩ := (H1.out.keep HBW.out).kid hk
            obtain ⟨ko', kl', kk', hk', hk2'⟩ := kid_some hlt'
            obtain ⟨b', off', b1', d1', rfl, hbz', e1, e2, e3, hx2⟩ := (H2.out.keep HBW.out).kid hk'
            have hin1' : (i : Int) < (ks'.length : Int) := by omega
            have HQ := Lib.hid (HK.out i ko kl kk hk ko' kl' kk' b1 b1' d1 d1' wA.drew (hx1.keep (Below.refl _ _).drew) (hx2.keep (Below.refl _ _).drew))
            obtain ⟨r, hr⟩ : ∃ r, r = cmpT (.node ko kl kk) (.node ko' kl' kk') := ⟨_, rfl⟩
            have HR := Lib.hid (show r = cmpT ks[i] ks'[i] by rw [hr, hk2, hk2'])
            rw [← hr] at HQ
            obtain ⟨kn, hkn⟩ : ∃ kn, kn = kk.length := ⟨_, rfl⟩
            rw [← hkn] at HQ c3
            obtain ⟨kn', hkn'⟩ : ∃ kn, kn = kk'.length := ⟨_, rfl⟩
            rw [← hkn'] at HQ e3
            clear hr hkn hkn' hx1 hx2 hk hk' hk2 hk2'
            by_cases h0 : r = 0
            · have t : (r != 0) = false := by simp [h0]
              have HN := Lib.hid (show ∀ j (h1 : j < ks.length) (h2 : j < ks'.length), j < i + 1 → cmpT ks[j] ks'[j] = 0 from fun j h1 h2 hj => by
                by_cases e : j = i
                · subst e; rw [← HR.out]; exact h0
                · exact HA.out j h1 h2 (by omega))
              clear h0
              go_wp2_with fail
              go_still_tail 10, (by kernel_rfl)
              change wpList _ _ _ _ _ (World.drew wA)
              go_wp2_with fail
              refine HQ.out.mono ?_
              rintro e w2 ⟨rfl, hB⟩
              have HB2 := Lib.hid (HB.out.drew.trans (hB.mono (by simp; omega)))
              clear hB
              go_wp2_with fail
              exact ⟨⟨i + 1, by omega, by omega, by go_num, HN.out, HB2.out⟩, by simp [intOf]; omega⟩
            · have t : (r != 0) = true := by simp [h0]
              have HFF := Lib.hid (show cmpL ks ks' = r by rw [HR.out] at h0 ⊢; exact cmpL_at ks ks' i hlt hlt' HA.out h0)
              clear h0
              go_wp2_with fail
              go_still_tail 10, (by kernel_rfl)
              change wpList _ _ _ _ _ (World.drew wA)
              go_wp2_with fail
              refine HQ.out.mono ?_
              rintro e w2 ⟨rfl, hB⟩
              have HB2 := Lib.hid (HBW.out.drew.trans (hB.mono (by simp; omega)))
              clear hB
              go_wp2_with fail
              go_ret
              exact ⟨by rw [HF.out, HFF.out]; rfl, HB2.out⟩
          · have hne : ks'.length ≠ ks.length := by omega
            have HFF := Lib.hid (show cmpL ks ks' = 1 by rw [cmpL_all ks ks' (fun j h1 h2 => HA.out j h1 h2 (by omega)), sgn_gt (by omega)])
            have hdc : decide (i < ks'.length) = false := by simp; omega
            have hdi : decide ((i : Int) < (ks'.length : Int)) = false := by simp; omega
            have hq : ((ks.length : Int) == (ks'.length : Int)) = false := ne_beq (by omega)
            have hd1 : decide ((ks.length : Int) < (ks'.length : Int)) = false := by simp; omega
            have hd2 : decide (ks.length < ks'.length) = false := by simp; omega
            clear hne
            go_wp2_with (go_at_call 34; refine (sign_any _ _).mono ?_; rintro e w' ⟨rfl, rfl⟩)
            go_ret
            exact ⟨by rw [HF.out, HFF.out]; rfl, HBW.out⟩
        · obtain rfl : i = ks.length := by omega
          have HFF := Lib.hid (cmpL_all ks ks' (fun j h1 h2 => HA.out j h1 h2 h1))
          by_cases hlt' : ks.length < ks'.length
          · have HF2 := Lib.hid (HFF.out.trans (sgn_lt (by omega)))
            have hll : (ks.length : Int) < (ks'.length : Int) := by omega
            have hq : ((ks.length : Int) == (ks'.length : Int)) = false := ne_beq (by omega)
            go_wp2_with (go_at_call 34; refine (sign_any _ _).mono ?_; rintro e w' ⟨rfl, rfl⟩)
            go_ret
            exact ⟨by rw [HF.out, HF2.out]; rfl, HBW.out⟩
          · have he : ks.length = ks'.length := by omega
            have HF2 := Lib.hid (show cmpL ks ks' = 0 by rw [HFF.out, he]; exact sgn_self _)
            have hq : ((ks.length : Int) == (ks'.length : Int)) = true := by rw [he]; simp
            clear he
            go_wp2_with fail
            go_ret
            exact ⟨by rw [HF.out, HF2.out]; rfl, HBW.out⟩
    · subst ho
      have HF := Lib.hid ((cmpT_lts (o := op) (ks := ks) (ks' := ks') hl).trans (sgn_ne hl))
      have hne := hl
      have t1 : (op != op) = false := by simp
      have t2 : (l != l') = true := by simp [hl]
      have HB0 := Lib.hid (((Below.refl w.heap.size w).alloc (Nat.le_refl _) (.cells #[.int .i64 op, .int .i64 l, .slice a ks.length c] 24)).alloc (by simp) (.cells #[.int .i64 op, .int .i64 l', .slice a' ks'.length c'] 24))
      clear hl hne
      by_cases h3 : l < l'
      all_goals
        simp only [h3, decide_true, decide_false, if_true, if_false, Bool.false_eq_true] at HF
        go_enter Try.func18, Try.ntmps18
        go_wp2_with (go_at_call 34; refine (sign_any _ _).mono ?_; rintro e w' ⟨rfl, rfl⟩)
        go_ret
        exact ⟨by rw [HF.out]; rfl, HB0.out⟩
  · have HF := Lib.hid ((cmpT_ops (l := l) (l' := l') (ks := ks) (ks' := ks') ho).trans (sgn_ne ho))
    have t1 : (op != op') = true := by simp [ho]
    have HB0 := Lib.hid (((Below.refl w.heap.size w).alloc (Nat.le_refl _) (.cells #[.int .i64 op, .int .i64 l, .slice a ks.length c] 24)).alloc (by simp) (.cells #[.int .i64 op', .int .i64 l', .slice a' ks'.length c'] 24))
    clear ho
    by_cases h3 : op < op'
    all_goals
      simp only [h3, decide_true, decide_false, if_true, if_false, Bool.false_eq_true] at HF
      go_enter Try.func18, Try.ntmps18
      go_wp2_with (go_at_call 34; refine (sign_any _ _).mono ?_; rintro e w' ⟨rfl, rfl⟩)
      go_ret
      exact ⟨by rw [HF.out]; rfl, HB0.out⟩
/-- the law's same -/
theorem same_any (op l : Int) (ks : List T) (op' l' : Int) (ks' : List T) (a a' : Option Addr) (c c' : Nat) (w : World) (h1 : InX w op l ks a) (h2 : InX w op' l' ks' a') :
    Calls Try.prog 8 #[.agg #[.int .i64 op, .int .i64 l, .slice a ks.length c], .agg #[.int .i64 op', .int .i64 l', .slice a' ks'.length c']] w fun e w' => e = .returned (.bool (cmpT (.node op l ks) (.node op' l' ks') == 0)) ∧ Below w.heap.size w w' := by
  have HQ := Lib.hid (fun W (h1 : InX W op l ks a) (h2 : InX W op' l' ks' a') => compareR_any op l ks op' l' ks' a a' c c' W h1 h2)
  obtain ⟨r, hr⟩ : ∃ r, r = cmpT (.node op l ks) (.node op' l' ks') := ⟨_, rfl⟩
  obtain ⟨n, hn⟩ : ∃ n, n = ks.length := ⟨_, rfl⟩
  obtain ⟨n', hn'⟩ : ∃ n, n = ks'.length := ⟨_, rfl⟩
  rw [← hr] at HQ ⊢
  rw [← hn] at HQ ⊢
  rw [← hn'] at HQ ⊢
  have HB0 := Lib.hid (((Below.refl w.heap.size w).alloc (Nat.le_refl _) (.cells #[.int .i64 op, .int .i64 l, .slice a n c] 24)).alloc (by simp) (.cells #[.int .i64 op', .int .i64 l', .slice a' n' c'] 24))
  have HQ1 := Lib.hid (HQ.out _ (h1.keep HB0.out) (h2.keep HB0.out))
  clear hr hn hn' h1 h2
  go_enter Try.func8, Try.ntmps8
  go_wp2_with fail
  refine HQ1.out.mono ?_
  rintro e w2 ⟨rfl, hB⟩
  have HB2 := Lib.hid (HB0.out.trans (hB.mono (by simp; omega)))
  clear hB
  go_wp2_with fail
  go_ret
  exact ⟨rfl, HB2.out⟩
end Go.Proofs.Ythmdndondlffeaa
