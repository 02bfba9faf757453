/- Walk of the law NfaSteps. -/
import Derived.Test.YtdoifdpmgmlpdaaNfaLA
namespace Go.Proofs.Ytdoifdpmgmlpdaa
open Go Go.RowKit Go.Lib Go.Sort
open Go.Proofs.Ytdoifdpmgmlpdaa.rel (u_and)
set_option linter.unusedVariables false
theorem stepL_out {L S : Int} {st fi : Nat} {es : List Ed} (hv : valN L S st fi es = true) {s : Nat} {x : Int} (h : x < 0 ∨ L ≤ x) : stepL es s x = 0 :=
  stepL_none fun e he hx => by have := inE_iff.1 (valN_in hv he); omega
set_option maxRecDepth 100000 in
set_option maxHeartbeats 4000000 in
theorem wNfaSteps {w : World} (L S : Int) (st fi : Nat) (es : List Ed) (a : Option Addr) (c : Nat) (hin : InN w L S st fi a es) (s0 : Int) (hs : (Lit.int .u64 s0).wf = true) (x : Int) (hx : (Lit.int .i64 x).wf = true) :
    Calls Try.prog 4 #[.agg #[.int .i64 L, .int .i64 S, .int .u64 st, .int .u64 fi, .slice a es.length c], .int .u64 s0, .int .i64 x] w fun e w' => e = .returned (.bool true) ∧ Below w.heap.size w w' := by
  obtain ⟨s, rfl⟩ : ∃ s : Nat, s0 = (s : Int) := ⟨s0.toNat, by have := bounds_u64 hs; omega⟩
  have hsu : s < 18446744073709551616 := by have := bounds_u64 hs; omega
  have HI := Lib.hid hin
  have D1 := Lib.hid (fun W (h : InN W L S st fi a es) => Step_any L S st fi es a c s x W h hsu)
  have D2 := Lib.hid (fun W (h : InN W L S st fi a es) => lvalid_any L S st fi es a c W h)
  have hVA := fun (hv : valN L S st fi es = true) => valN_iff.1 hv
  obtain ⟨r, hr⟩ : ∃ r, r = (if valN L S st fi es then stepL es s x else 0) := ⟨_, rfl⟩
  rw [← hr] at D1
  have HR := Lib.hid hr
  obtain ⟨n, hn⟩ : ∃ n, n = es.length := ⟨_, rfl⟩
  have HB0 := Lib.hid ((Below.refl w.heap.size w).alloc (Nat.le_refl _) (.cells #[.int .i64 L, .int .i64 S, .int .u64 st, .int .u64 fi, .slice a n c] 25))
  have HI0 := Lib.hid (HI.out.box (.cells #[.int .i64 L, .int .i64 S, .int .u64 st, .int .u64 fi, .slice a n c] 25))
  by_cases hcase : valN L S st fi es = true ∧ 0 ≤ x ∧ x < L
  · obtain ⟨hv, hx0, hxL⟩ := hcase
    have hv2 := hVA hv
    obtain ⟨sn, rfl⟩ : ∃ m : Nat, S = (m : Int) := ⟨S.toNat, by omega⟩
    have hsn : sn ≤ 64 := by omega
    have hto := valN_to hv
    rw [Int.toNat_natCast] at hto
    have hau : s &&& allN sn < 18446744073709551616 := rel.and_u hsu
    have D3 := Lib.hid (fun W (h : InN W L (sn : Int) st fi a es) => rstep_any L (sn : Int) st fi es a c (s &&& allN sn) x sn W h hto hsn hau)
    rw [show stepL es (s &&& allN sn) x = r by rw [HR.out, if_pos hv]; exact stepL_and hto s x] at D3
    have D4 := Lib.hid (fun W => (below2_any sn W hsn).mono fun e w' h => (⟨h.1, h.2 ▸ Below.refl _ _⟩ : e = _ ∧ Below W.heap.size W w'))
    have hand := u_and (y := allN sn) hsu (allN_u hsn)
    obtain ⟨A, hA⟩ : ∃ A, A = allN sn := ⟨_, rfl⟩
    rw [← hA] at D3 D4 hand
    obtain ⟨q, hq⟩ : ∃ q, q = s &&& A := ⟨_, rfl⟩
    rw [← hq] at D3 hand
    rw [← hn] at D1 D2 D3 ⊢
    have HVV := Lib.hid hv
    clear hv hv2 hto hau hsu hA hq hn hr hs hx hVA hin
    go_enter Try.func4, Try.ntmps4
    go_wp2_with fail
    refine (D1.out _ HI0.out).mono ?_
    rintro e w2 ⟨rfl, hB⟩
    have HB1 := Lib.hid (show Below (w.heap.size + 1) _ _ from hB.mono (by simp))
    have HI2 := Lib.hid (HI0.out.keep hB)
    obtain ⟨z0, z1, z2, z3, z4⟩ := nbox_cells HB1.out
    clear hB
    go_wp2_with fail
    refine (D2.out _ HI2.out).mono ?_
    rintro e w3 ⟨rfl, hB⟩
    rw [HVV.out]
    have HB2 := Lib.hid (HB1.out.trans (hB.mono (by have := HB1.out.size; simp at this; omega)))
    have HI3 := Lib.hid (HI2.out.keep hB)
    clear z0 z1 z2 z3 z4
    obtain ⟨z0, z1, z2, z3, z4⟩ := nbox_cells HB2.out
    have b0 := fun d os => cell_regrown z0 d os
    have b1 := fun d os => cell_regrown z1 d os
    have b2 := fun d os => cell_regrown z2 d os
    have b3 := fun d os => cell_regrown z3 d os
    have b4 := fun d os => cell_regrown z4 d os
    have E3 := Lib.hid (fun d os => D3.out (grow (redrawn w3 d) os) (HI3.out.re d os))
    clear hB
    go_wp2_with fail
    refine wp_region_quiet_below (by kernel_rfl) (by kernel_rfl) ?_
    repeat (go_big_quiet_step (first | (with_reducible exact Calls.regrown_of (D4.out _)) | (with_reducible exact Calls.regrown_of (E3.out _ _)) | (with_reducible exact Calls.regrown_of (awake_any _))))
    refine wpQuiet_nil ?_
    intro _ hw'
    obtain ⟨⟨dq, osq⟩, hw''⟩ := hw'
    subst hw''
    have hb := (below_nbox HB2.out).trans ((below_regrown w3 dq osq).mono (below_nbox HB2.out).size)
    clear b0 b1 b2 b3 b4
    go_wp2_with fail
    go_ret
    exact ⟨rfl, hb⟩
  · have hr0 : r = 0 := by
      rw [hr]
      cases hv : valN L S st fi es
      · rfl
      · rw [if_pos rfl]
        exact stepL_out hv (by
          by_cases h0 : x < 0
          · exact .inl h0
          · exact .inr (by apply Int.le_of_not_gt; intro h1; exact hcase ⟨hv, by omega, h1⟩))
    subst hr0
    rw [← hn] at D1 D2 ⊢
    obtain ⟨v, hvv⟩ : ∃ v, v = valN L S st fi es := ⟨_, rfl⟩
    rw [← hvv] at D2 hcase
    have hcs : v = false ∨ (v = true ∧ x < 0) ∨ (v = true ∧ 0 ≤ x ∧ L ≤ x) := by
      cases v
      · exact .inl rfl
      · by_cases h0 : x < 0
        · exact .inr (.inl ⟨rfl, h0⟩)
        · refine .inr (.inr ⟨rfl, by omega, ?_⟩)
          apply Int.le_of_not_gt; intro h1; exact hcase ⟨rfl, by omega, h1⟩
    clear hsu hn hr hs hx hVA hin hcase hvv HR
    rcases hcs with rfl | ⟨rfl, h1⟩ | ⟨rfl, h1, h2⟩
    all_goals
      go_enter Try.func4, Try.ntmps4
      go_wp2_with fail
      refine (D1.out _ HI0.out).mono ?_
      rintro e w2 ⟨rfl, hB⟩
      have HB1 := Lib.hid (show Below (w.heap.size + 1) _ _ from hB.mono (by simp))
      have HI2 := Lib.hid (HI0.out.keep hB)
      obtain ⟨z0, z1, z2, z3, z4⟩ := nbox_cells HB1.out
      clear hB
      go_wp2_with fail
      refine (D2.out _ HI2.out).mono ?_
      rintro e w3 ⟨rfl, hB⟩
      have HB2 := Lib.hid (HB1.out.trans (hB.mono (by have := HB1.out.size; simp at this; omega)))
      clear z0 z1 z2 z3 z4
      obtain ⟨z0, z1, z2, z3, z4⟩ := nbox_cells HB2.out
      clear hB
      go_wp2_with fail
      refine (awake_any _).mono ?_
      rintro e w4 ⟨rfl, hB⟩
      have HB3 := Lib.hid ((below_nbox HB2.out).trans (hB.mono (below_nbox HB2.out).size))
      clear hB
      go_wp2_with fail
      go_ret
      exact ⟨rfl, HB3.out⟩
end Go.Proofs.Ytdoifdpmgmlpdaa
