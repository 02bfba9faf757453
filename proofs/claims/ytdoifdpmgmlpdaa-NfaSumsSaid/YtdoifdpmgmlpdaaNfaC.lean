/- Contracts: validEdges, Validate, valid. -/
import Derived.Test.YtdoifdpmgmlpdaaNfaB
import Derived.Deep.QuietTactic
import Derived.Lib.QuietBelow
import Derived.BigQuiet
import Derived.Laws.StructEq
namespace Go.Proofs.Ytdoifdpmgmlpdaa
open Go Go.RowKit Go.Lib Go.Sort
open Go.Proofs.Ytdoifdpmgmlpdaa.rel (bit_eq shl_u ret_b ret_u pow_lt64 pow_le64)
set_option linter.unusedVariables false
/-- an edge as a value -/
def edV (e : Ed) : Value := .agg #[.int .i64 e.f, .int .i64 e.l, .int .i64 e.t]
theorem okAt_iff {L S : Int} {es : List Ed} {i : Nat} : okAt L S es i = true ↔ belowB (es.getD i noE).f S = true ∧ belowB (es.getD i noE).l L = true ∧ belowB (es.getD i noE).t S = true ∧ (i = 0 ∨ ltE (es.getD (i - 1) noE) (es.getD i noE) = true) := by
  simp [okAt, inE, and_assoc]
theorem below_nbox {w w' : World} {o : Obj} (h : Below (w.heap.size + 1) (w.alloc o) w') : Below w.heap.size w w' :=
  ((Below.refl _ w).alloc (Nat.le_refl _) o).trans (h.mono (Nat.le_succ _))
theorem cell_alloc_lt {w : World} {o : Obj} {b off : Nat} (h : b < w.heap.size) : (w.alloc o).cell? ⟨b, off, none⟩ = w.cell? ⟨b, off, none⟩ := World.cell?_of_block (w := w) (a := ⟨b, off, none⟩) (Below.heap_alloc w o b h)
set_option maxRecDepth 100000 in
set_option maxHeartbeats 4000000 in
theorem validEdges_any (L S : Int) (st fi : Nat) (es : List Ed) (a : Option Addr) (c : Nat) (w : World) (hin : InN w L S st fi a es) :
    Calls Try.prog 30 #[.agg #[.int .i64 L, .int .i64 S, .int .u64 st, .int .u64 fi, .slice a es.length c]] w fun e w' => e = .returned (.bool (edB L S es)) ∧ Below w.heap.size w w' := by
  have hlen := hin.2.2.2.2.2
  have HI := Lib.hid hin
  clear hin
  obtain ⟨n, hn⟩ : ∃ n, n = es.length := ⟨_, rfl⟩
  have HN := Lib.hid hn
  rw [← hn] at hlen ⊢
  clear hn
  have hm : Try.prog.eqGuardType Try.prog.depth 44 = false := by kernel_rfl
  have hsp : Try.prog.stoodInHeld 44 = false := by kernel_rfl
  go_enter Try.func30, Try.ntmps30
  go_wp2_with fail
  go_loopw [8] (fun vi wr => ∃ i : Nat, i ≤ n ∧ vi = .int .i64 i ∧ (∀ j, j < i → okAt L S es j = true) ∧ Below (w.heap.size + 1) (w.alloc (.cells #[.int .i64 L, .int .i64 S, .int .u64 st, .int .u64 fi, .slice a n c] 25)) wr) (fun vi _ => n - (intOf vi).toNat)
  case atStart => exact ⟨0, Nat.zero_le _, rfl, fun j hj => by omega, Below.refl _ _⟩
  case round =>
    rename World => wA
    obtain ⟨i, hi, rfl, hall, hb⟩ := hrel
    have HA := Lib.hid hall
    have HB := Lib.hid hb
    obtain ⟨z0, z1, z2, z3, z4⟩ := nbox_cells hb
    clear hall hb
    by_cases hlt : i < n
    · have hle : i < es.length := by rw [← HN.out]; exact hlt
      have HIN := Lib.hid ((HI.out.1.keep ((Below.refl _ w).alloc (Nat.le_refl _) (.cells #[.int .i64 L, .int .i64 S, .int .u64 st, .int .u64 fi, .slice a n c] 25))).keep (HB.out.mono (by simp)))
      obtain ⟨b, off, rfl, hbz, c1, c2, c3, g1, g2, g3⟩ := HIN.out.at hle
      have hi0 : (0 : Int) ≤ (i : Int) := by omega
      have hin2 : (i : Int) < (n : Int) := by omega
      have hwi : IntKind.i64.wrap (i : Int) = (i : Int) := IntWalk.i64_in _ (by omega)
      have HOK := Lib.hid (@okAt_iff L S es i)
      have HNO := Lib.hid (fun h => edB_no (L := L) (S := S) hle h)
      obtain ⟨e, he⟩ : ∃ e, e = es.getD i noE := ⟨_, rfl⟩
      rw [← he] at c1 c2 c3 g1 g2 g3 HOK
      have HE := Lib.hid he
      clear he
      obtain ⟨ef, el, et⟩ := e
      dsimp only at c1 c2 c3 g1 g2 g3 HOK
      have HB1 := Lib.hid (HB.out.alloc (by have := HB.out.size; simp at this; omega) (.cells #[.int .i64 ef, .int .i64 el, .int .i64 et] 44))
      obtain ⟨y0, y1, y2, y3, y4⟩ := nbox_cells HB1.out
      have HSZ := Lib.hid (show w.heap.size + 1 ≤ (wA.alloc (.cells #[.int .i64 ef, .int .i64 el, .int .i64 et] 44)).heap.size by have := HB1.out.size; simp at this; simp; omega)
      cases hf : belowB ef S
      · have HF := Lib.hid (HNO.out (by rw [← Bool.not_eq_true, HOK.out]; simp [hf]))
        have H1 := Lib.hid hf
        clear hf
        go_wp2_with fail
        refine (below_any _ _ _).mono ?_
        rintro r w' ⟨rfl, rfl⟩
        rw [H1.out]
        go_wp2_with fail
        go_ret
        exact ⟨by rw [HF.out]; rfl, below_nbox HB1.out⟩
      cases hl : belowB el L
      · have HF := Lib.hid (HNO.out (by rw [← Bool.not_eq_true, HOK.out]; simp [hl]))
        have H1 := Lib.hid hf
        have H2 := Lib.hid hl
        clear hf hl
        go_wp2_with fail
        refine (below_any _ _ _).mono ?_
        rintro r w' ⟨rfl, rfl⟩
        rw [H1.out]
        go_wp2_with fail
        refine (below_any _ _ _).mono ?_
        rintro r w' ⟨rfl, rfl⟩
        rw [H2.out]
        go_wp2_with fail
        go_ret
        exact ⟨by rw [HF.out]; rfl, below_nbox HB1.out⟩
      cases ht : belowB et S
      · have HF := Lib.hid (HNO.out (by rw [← Bool.not_eq_true, HOK.out]; simp [ht]))
        have H1 := Lib.hid hf
        have H2 := Lib.hid hl
        have H3 := Lib.hid ht
        clear hf hl ht
        go_wp2_with fail
        refine (below_any _ _ _).mono ?_
        rintro r w' ⟨rfl, rfl⟩
        rw [H1.out]
        go_wp2_with fail
        refine (below_any _ _ _).mono ?_
        rintro r w' ⟨rfl, rfl⟩
        rw [H2.out]
        go_wp2_with fail
        refine (below_any _ _ _).mono ?_
        rintro r w' ⟨rfl, rfl⟩
        rw [H3.out]
        go_wp2_with fail
        go_ret
        exact ⟨by rw [HF.out]; rfl, below_nbox HB1.out⟩
      have H1 := Lib.hid hf
      have H2 := Lib.hid hl
      have H3 := Lib.hid ht
      by_cases h0 : i = 0
      · have HX := Lib.hid (HOK.out.2 ⟨hf, hl, ht, .inl h0⟩)
        subst h0
        simp only [Nat.zero_mul, Nat.add_zero] at c1 c2 c3
        clear hf hl ht
        go_wp2_with fail
        refine (below_any _ _ _).mono ?_
        rintro r w' ⟨rfl, rfl⟩
        rw [H1.out]
        go_wp2_with fail
        refine (below_any _ _ _).mono ?_
        rintro r w' ⟨rfl, rfl⟩
        rw [H2.out]
        go_wp2_with fail
        refine (below_any _ _ _).mono ?_
        rintro r w' ⟨rfl, rfl⟩
        rw [H3.out]
        go_wp2_with fail
        refine wp_region_quiet_below (by kernel_rfl) (by kernel_rfl) ?_
        repeat (go_big_quiet_step (fail))
        refine wpQuiet_nil ?_
        intro _ hw'
        obtain ⟨⟨dq, osq⟩, hw''⟩ := hw'
        subst hw''
        have HB2 := Lib.hid (HB1.out.trans ((below_regrown (wA.alloc (.cells #[.int .i64 ef, .int .i64 el, .int .i64 et] 44)) dq osq).mono HSZ.out))
        go_wp2_with fail
        exact ⟨⟨1, by omega, by go_num, fun j hj => by
          have : j = 0 := by omega
          rw [this]; exact HX.out, HB2.out⟩, by simp [intOf]; omega⟩
      · obtain ⟨k, hk⟩ : ∃ k, k = i - 1 := ⟨_, rfl⟩
        obtain ⟨b', off', hbo, hbz', p1, p2, p3, q1, q2, q3⟩ := HIN.out.at (i := k) (by omega)
        obtain ⟨rfl, rfl⟩ : b' = b ∧ off' = off := by injection hbo with h; injection h with h1 h2; exact ⟨h1.symm, h2.symm⟩
        rw [← hk] at HOK
        obtain ⟨pe, hpe⟩ : ∃ e, e = es.getD k noE := ⟨_, rfl⟩
        rw [← hpe] at p1 p2 p3 q1 q2 q3 HOK
        have HPE := Lib.hid hpe
        have hki : (i : Int) - 1 = (k : Int) := by omega
        have hk0 : (0 : Int) ≤ (k : Int) := by omega
        have hkn : (k : Int) < (n : Int) := by omega
        have hwk : IntKind.i64.wrap (k : Int) = (k : Int) := IntWalk.i64_in _ (by omega)
        have hip : (0 : Int) < (i : Int) := by omega
        have hipn : 0 < i := by omega
        clear hpe hk hbo hbz'
        obtain ⟨pf, pl, pt⟩ := pe
        dsimp only at p1 p2 p3 q1 q2 q3 HOK
        have CE := Lib.hid (fun W => compareEdges_any ⟨ef, el, et⟩ ⟨pf, pl, pt⟩ W)
        dsimp only at CE
        obtain ⟨r, hr⟩ : ∃ r, r = cmpE ⟨ef, el, et⟩ ⟨pf, pl, pt⟩ := ⟨_, rfl⟩
        rw [← hr] at CE
        have HR := Lib.hid hr
        have W1 : ∃ W1, W1 = wA.alloc (.cells #[.int .i64 ef, .int .i64 el, .int .i64 et] 44) := ⟨_, rfl⟩
        have P1 : ∀ d os, (grow (redrawn (wA.alloc (.cells #[.int .i64 ef, .int .i64 el, .int .i64 et] 44)) d) os).cell? ⟨b', off' + k * 3, none⟩ = some (.int .i64 pf) := fun d os => cell_regrown (by rw [cell_alloc_lt hbz]; exact p1) d os
        have P2 : ∀ d os, (grow (redrawn (wA.alloc (.cells #[.int .i64 ef, .int .i64 el, .int .i64 et] 44)) d) os).cell? ⟨b', off' + k * 3 + 1, none⟩ = some (.int .i64 pl) := fun d os => cell_regrown (by rw [cell_alloc_lt hbz]; exact p2) d os
        have P3 : ∀ d os, (grow (redrawn (wA.alloc (.cells #[.int .i64 ef, .int .i64 el, .int .i64 et] 44)) d) os).cell? ⟨b', off' + k * 3 + 2, none⟩ = some (.int .i64 pt) := fun d os => cell_regrown (by rw [cell_alloc_lt hbz]; exact p3) d os
        have Y4 : ∀ d os, (grow (redrawn (wA.alloc (.cells #[.int .i64 ef, .int .i64 el, .int .i64 et] 44)) d) os).cell? ⟨w.heap.size, 4, none⟩ = some (.slice (some ⟨b', off', none⟩) n c) := fun d os => cell_regrown y4 d os
        have X0 : ∀ d os, (grow (redrawn (wA.alloc (.cells #[.int .i64 ef, .int .i64 el, .int .i64 et] 44)) d) os).cell? ⟨wA.heap.size, 0, none⟩ = some (.int .i64 ef) := fun d os => cell_regrown (by simp [go_sem]) d os
        have X1 : ∀ d os, (grow (redrawn (wA.alloc (.cells #[.int .i64 ef, .int .i64 el, .int .i64 et] 44)) d) os).cell? ⟨wA.heap.size, 1, none⟩ = some (.int .i64 el) := fun d os => cell_regrown (by simp [go_sem]) d os
        have X2 : ∀ d os, (grow (redrawn (wA.alloc (.cells #[.int .i64 ef, .int .i64 el, .int .i64 et] 44)) d) os).cell? ⟨wA.heap.size, 2, none⟩ = some (.int .i64 et) := fun d os => cell_regrown (by simp [go_sem]) d os
        have E1 := Lib.hid (fun d os => CE.out (grow (redrawn (wA.alloc (.cells #[.int .i64 ef, .int .i64 el, .int .i64 et] 44)) d) os))
        clear p1 p2 p3 W1
        by_cases heq : (⟨ef, el, et⟩ : Ed) = ⟨pf, pl, pt⟩
        · have HF := Lib.hid (HNO.out (by
            rw [← Bool.not_eq_true, HOK.out, heq, ltE_irr]; simp [h0]))
          injection heq with e1 e2 e3
          subst e1 e2 e3
          clear hr hf hl ht
          go_wp2_with fail
          refine (below_any _ _ _).mono ?_
          rintro r' w' ⟨rfl, rfl⟩
          rw [H1.out]
          go_wp2_with fail
          refine (below_any _ _ _).mono ?_
          rintro r' w' ⟨rfl, rfl⟩
          rw [H2.out]
          go_wp2_with fail
          refine (below_any _ _ _).mono ?_
          rintro r' w' ⟨rfl, rfl⟩
          rw [H3.out]
          go_wp2_with fail
          refine wp_region_quiet_below (by kernel_rfl) (by kernel_rfl) ?_
          repeat (go_big_quiet_step (first | (with_reducible exact Calls.regrown_of (E1.out _ _))))
          refine wpQuiet_nil ?_
          intro _ hw'
          obtain ⟨⟨dq, osq⟩, hw''⟩ := hw'
          subst hw''
          have HB2 := Lib.hid (HB1.out.trans ((below_regrown (wA.alloc (.cells #[.int .i64 ef, .int .i64 el, .int .i64 et] 44)) dq osq).mono HSZ.out))
          go_wp2_with fail
          go_ret
          exact ⟨by rw [HF.out]; rfl, below_nbox HB2.out⟩
        · have hd : (ef == pf) = false ∨ ((ef == pf) = true ∧ (el == pl) = false) ∨ ((ef == pf) = true ∧ (el == pl) = true ∧ (et == pt) = false) := by
            by_cases x1 : ef = pf
            · by_cases x2 : el = pl
              · exact .inr (.inr ⟨by simpa using x1, by simpa using x2, by simpa using fun x3 => heq (by rw [x1, x2, x3])⟩)
              · exact .inr (.inl ⟨by simpa using x1, by simpa using x2⟩)
            · exact .inl (by simpa using x1)
          by_cases hr0 : r < 0
          · have HF := Lib.hid (HNO.out (by
              have h9 : ltE ⟨pf, pl, pt⟩ ⟨ef, el, et⟩ = false := ltE_asymm (cmpE_neg.1 (by rw [← hr]; exact hr0))
              rw [← Bool.not_eq_true, HOK.out, h9]; simp [h0]))
            have hr1 : decide (r < 0) = true := by simpa using hr0
            clear hr hf hl ht heq
            rcases hd with t1 | ⟨t1, t2⟩ | ⟨t1, t2, t3⟩
            all_goals
              go_wp2_with fail
              refine (below_any _ _ _).mono ?_
              rintro r' w' ⟨rfl, rfl⟩
              rw [H1.out]
              go_wp2_with fail
              refine (below_any _ _ _).mono ?_
              rintro r' w' ⟨rfl, rfl⟩
              rw [H2.out]
              go_wp2_with fail
              refine (below_any _ _ _).mono ?_
              rintro r' w' ⟨rfl, rfl⟩
              rw [H3.out]
              go_wp2_with fail
              refine wp_region_quiet_below (by kernel_rfl) (by kernel_rfl) ?_
              repeat (go_big_quiet_step (first | (with_reducible exact Calls.regrown_of (E1.out _ _))))
              refine wpQuiet_nil ?_
              intro _ hw'
              obtain ⟨⟨dq, osq⟩, hw''⟩ := hw'
              subst hw''
              have HB2 := Lib.hid (HB1.out.trans ((below_regrown (wA.alloc (.cells #[.int .i64 ef, .int .i64 el, .int .i64 et] 44)) dq osq).mono HSZ.out))
              go_wp2_with fail
              go_ret
              exact ⟨by rw [HF.out]; rfl, below_nbox HB2.out⟩
          · have HX := Lib.hid (HOK.out.2 ⟨hf, hl, ht, .inr (by
              rcases ltE_tri ⟨pf, pl, pt⟩ ⟨ef, el, et⟩ with h | h | h
              · exact h
              · exact absurd h.symm heq
              · exact absurd (by rw [hr]; exact cmpE_neg.2 h) hr0)⟩)
            have hr1 : decide (r < 0) = false := by simpa using hr0
            clear hr hf hl ht heq
            rcases hd with t1 | ⟨t1, t2⟩ | ⟨t1, t2, t3⟩
            all_goals
              go_wp2_with fail
              refine (below_any _ _ _).mono ?_
              rintro r' w' ⟨rfl, rfl⟩
              rw [H1.out]
              go_wp2_with fail
              refine (below_any _ _ _).mono ?_
              rintro r' w' ⟨rfl, rfl⟩
              rw [H2.out]
              go_wp2_with fail
              refine (below_any _ _ _).mono ?_
              rintro r' w' ⟨rfl, rfl⟩
              rw [H3.out]
              go_wp2_with fail
              refine wp_region_quiet_below (by kernel_rfl) (by kernel_rfl) ?_
              repeat (go_big_quiet_step (first | (with_reducible exact Calls.regrown_of (E1.out _ _))))
              refine wpQuiet_nil ?_
              intro _ hw'
              obtain ⟨⟨dq, osq⟩, hw''⟩ := hw'
              subst hw''
              have HB2 := Lib.hid (HB1.out.trans ((below_regrown (wA.alloc (.cells #[.int .i64 ef, .int .i64 el, .int .i64 et] 44)) dq osq).mono HSZ.out))
              go_wp2_with fail
              exact ⟨⟨i + 1, by omega, by go_num, fun j hj => by
                by_cases e : j = i
                · rw [e]; exact HX.out
                · exact HA.out j (by omega), HB2.out⟩, by simp [intOf]; omega⟩
    · obtain rfl : i = n := by omega
      have HF := Lib.hid (show edB L S es = true from edB_iff.2 (by rw [← HN.out]; exact HA.out))
      go_wp2_with fail
      go_ret
      exact ⟨by rw [HF.out]; rfl, below_nbox HB.out⟩
end Go.Proofs.Ytdoifdpmgmlpdaa
