/- Contract: the reference's Sum, its errors. -/
import Derived.Test.YtdoifdpmgmlpdaaNfaSO
import Derived.Test.YtdoifdpmgmlpdaaNfaV
namespace Go.Proofs.Ytdoifdpmgmlpdaa
open Go Go.RowKit
set_option linter.unusedVariables false
set_option maxRecDepth 100000 in
set_option maxHeartbeats 8000000 in
theorem rsum_err (La Sa : Int) (sa fa : Nat) (ea : List Ed) (a : Option Addr) (c : Nat) (Lb Sb : Int) (sb fb : Nat) (eb : List Ed) (b : Option Addr) (d : Nat) (w : World) (hin : InN w La Sa sa fa a ea) (hin2 : InN w Lb Sb sb fb b eb) (hr : errS La Sa sa fa ea Lb Sb sb fb eb ≠ 0) :
    Calls Try.prog 29 #[.agg #[.int .i64 La, .int .i64 Sa, .int .u64 sa, .int .u64 fa, .slice a ea.length c], .agg #[.int .i64 Lb, .int .i64 Sb, .int .u64 sb, .int .u64 fb, .slice b eb.length d]] w fun e w' => e = .returned (.tuple #[zeroN, .int .i64 (errS La Sa sa fa ea Lb Sb sb fb eb)]) ∧ Below w.heap.size w w' := by
  have HI := Lib.hid hin
  have HI2 := Lib.hid hin2
  have D1 := Lib.hid (fun W (h : InN W La Sa sa fa a ea) => rvalidate_any La Sa sa fa ea a c W h)
  have D2 := Lib.hid (fun W (h : InN W Lb Sb sb fb b eb) => rvalidate_any Lb Sb sb fb eb b d W h)
  obtain ⟨ra, hra⟩ : ∃ r, r = errN La Sa sa fa ea := ⟨_, rfl⟩
  obtain ⟨rb, hrb⟩ : ∃ r, r = errN Lb Sb sb fb eb := ⟨_, rfl⟩
  obtain ⟨q1, q2, q3, q4, q5⟩ := sum_regions hra hrb
  have hgood : ra = 0 → rb = 0 → (0 ≤ Sa ∧ Sa ≤ 64) ∧ (0 ≤ Sb ∧ Sb ≤ 64) := fun h1 h2 => by
    have v1 := (valN_iff.1 (errN_ok.1 (hra.symm.trans h1))).1
    have v2 := (valN_iff.1 (errN_ok.1 (hrb.symm.trans h2))).1
    omega
  obtain ⟨r, hrr⟩ : ∃ r, r = errS La Sa sa fa ea Lb Sb sb fb eb := ⟨_, rfl⟩
  rw [← hrr] at hr q1 q2 q3 q4 q5 ⊢
  rw [← hra] at D1
  rw [← hrb] at D2
  have Q1 := Lib.hid q1
  have Q2 := Lib.hid q2
  have Q3 := Lib.hid q3
  have Q4 := Lib.hid q4
  have Q5 := Lib.hid q5
  have HG := Lib.hid hgood
  have HR := Lib.hid hr
  obtain ⟨n, hn⟩ : ∃ n, n = ea.length := ⟨_, rfl⟩
  obtain ⟨k, hk⟩ : ∃ n, n = eb.length := ⟨_, rfl⟩
  rw [← hn] at D1 ⊢
  rw [← hk] at D2 ⊢
  obtain ⟨W0, hW0⟩ : ∃ W0, W0 = ((w.alloc (.cells #[.int .i64 La, .int .i64 Sa, .int .u64 sa, .int .u64 fa, .slice a n c] 25)).alloc (.cells #[.int .i64 Lb, .int .i64 Sb, .int .u64 sb, .int .u64 fb, .slice b k d] 25)).alloc (.cells #[.int .i64 0, .int .i64 0, .int .u64 0, .int .u64 0, .slice none 0 0] 25) := ⟨_, rfl⟩
  have hBW : Below w.heap.size w W0 := by rw [hW0]; exact (((Below.refl _ w).alloc (Nat.le_refl _) _).alloc (by simp) _).alloc (by simp; omega) _
  have hs0 : W0.heap.size = w.heap.size + 3 := by rw [hW0]; simp
  have ha0 : W0.heap[w.heap.size]? = some (.cells #[.int .i64 La, .int .i64 Sa, .int .u64 sa, .int .u64 fa, .slice a n c] 25) := by rw [hW0]; exact heap_old (heap_old (heap_new _ _))
  have hb0 : W0.heap[w.heap.size + 1]? = some (.cells #[.int .i64 Lb, .int .i64 Sb, .int .u64 sb, .int .u64 fb, .slice b k d] 25) := by
    rw [hW0]
    have := heap_old (o' := .cells #[.int .i64 0, .int .i64 0, .int .u64 0, .int .u64 0, .slice none 0 0] 25) (heap_new (w.alloc (.cells #[.int .i64 La, .int .i64 Sa, .int .u64 sa, .int .u64 fa, .slice a n c] 25)) (.cells #[.int .i64 Lb, .int .i64 Sb, .int .u64 sb, .int .u64 fb, .slice b k d] 25))
    simpa using this
  have hr0 : W0.heap[w.heap.size + 2]? = some (.cells #[.int .i64 0, .int .i64 0, .int .u64 0, .int .u64 0, .slice none 0 0] 25) := by
    rw [hW0]
    have := heap_new ((w.alloc (.cells #[.int .i64 La, .int .i64 Sa, .int .u64 sa, .int .u64 fa, .slice a n c] 25)).alloc (.cells #[.int .i64 Lb, .int .i64 Sb, .int .u64 sb, .int .u64 fb, .slice b k d] 25)) (.cells #[.int .i64 0, .int .i64 0, .int .u64 0, .int .u64 0, .slice none 0 0] 25)
    simpa using this
  have HBW := Lib.hid hBW
  have HS0 := Lib.hid hs0
  have HA0 := Lib.hid ha0
  have HB0 := Lib.hid hb0
  have HR0 := Lib.hid hr0
  have HIA := Lib.hid (HI.out.keep hBW)
  have HIB := Lib.hid (HI2.out.keep hBW)
  obtain ⟨x0, x1, x2, x3, x4⟩ := (cells5_of ha0).1
  obtain ⟨y0, y1, y2, y3, y4⟩ := (cells5_of hb0).1
  clear hin hin2 hr hra hrb hrr hn hk q1 q2 q3 q4 q5 hgood hBW hs0 ha0 hb0 hr0
  rw [hW0] at x0 x1 x2 x3 x4 y0 y1 y2 y3 y4
  go_enter Try.func29, Try.ntmps29
  go_wp2_with fail
  rw [← hW0] at *
  clear hW0
  refine (D1.out _ (HIA.out)).mono ?_
  rintro e w2 ⟨rfl, hB⟩
  have HB := Lib.hid (hB.mono (show w.heap.size + 3 ≤ W0.heap.size by rw [HS0.out]; exact Nat.le_refl _))
  have HSA := Lib.hid (show w.heap.size + 3 ≤ w2.heap.size by have := hB.size; rw [HS0.out] at this; exact this)
  have HIB2 := Lib.hid (HIB.out.keep hB)
  have ha := (HB.out.block w.heap.size (by omega)).trans HA0.out
  have hbb := (HB.out.block (w.heap.size + 1) (by omega)).trans HB0.out
  have hr2 := (HB.out.block (w.heap.size + 2) (by omega)).trans HR0.out
  have HA1 := Lib.hid ha
  have HB1 := Lib.hid hbb
  have HR1 := Lib.hid hr2
  obtain ⟨⟨p0, p1, p2, p3, p4⟩, _⟩ := cells5_of ha
  obtain ⟨⟨q0, q1, q2, q3, q4⟩, _⟩ := cells5_of hbb
  obtain ⟨⟨r0, r1, r2, r3, r4⟩, z0, z1, z2, z3, z4⟩ := cells5_of hr2
  clear hB ha hbb hr2
  by_cases h0 : ra = 0
  · have t0 : (ra != 0) = false := by simpa using h0
    have H0 := Lib.hid h0
    clear h0
    go_wp2_with fail
    refine (D2.out _ (HIB2.out)).mono ?_
    rintro e w3 ⟨rfl, hB⟩
    have HBC := Lib.hid (hB.mono HSA.out)
    have ha := (HBC.out.block w.heap.size (by omega)).trans HA1.out
    have hbb := (HBC.out.block (w.heap.size + 1) (by omega)).trans HB1.out
    have hr2 := (HBC.out.block (w.heap.size + 2) (by omega)).trans HR1.out
    clear p0 p1 p2 p3 p4 q0 q1 q2 q3 q4 r0 r1 r2 r3 r4 z0 z1 z2 z3 z4
    obtain ⟨⟨p0, p1, p2, p3, p4⟩, _⟩ := cells5_of ha
    obtain ⟨⟨q0, q1, q2, q3, q4⟩, _⟩ := cells5_of hbb
    obtain ⟨⟨r0, r1, r2, r3, r4⟩, z0, z1, z2, z3, z4⟩ := cells5_of hr2
    have HBX := Lib.hid ((HBW.out.trans (HB.out.mono (by omega))).trans (HBC.out.mono (by omega)))
    clear hB ha hbb hr2
    by_cases h2 : rb = 0
    · have t2 : (rb != 0) = false := by simpa using h2
      obtain ⟨g1, g2⟩ := HG.out H0.out h2
      by_cases hL : La = Lb
      · by_cases h64 : 64 < Sa + Sb
        · have tL : (La != Lb) = false := by simpa using hL
          have HQ := Lib.hid (Q4.out H0.out h2 hL h64)
          have hw : IntKind.i64.wrap (Sa + Sb) = Sa + Sb := IntWalk.i64_in _ (by omega)
          have t6 : decide (64 < Sa + Sb) = true := by simpa using h64
          clear hL h64 h2
          go_wp2_with fail
          refine bodyPost_ret (v := .tuple #[zeroN, .int .i64 3]) (by simp [zeroN, results, Try.results29, go_sem, r0, r1, r2, r3, r4]) rfl ⟨by rw [HQ.out], ?_⟩
          exact (((((HBX.out).setCell (by simp; omega) _).setCell (by simp; omega) _).setCell (by simp; omega) _).setCell (by simp; omega) _).setCell (by simp; omega) _
        · exact absurd (Q5.out H0.out h2 hL (by omega)) HR.out
      · have tL : (La != Lb) = true := by simpa using hL
        have HQ := Lib.hid (Q3.out H0.out h2 hL)
        clear hL h2
        go_wp2_with fail
        refine bodyPost_ret (v := .tuple #[zeroN, .int .i64 1]) (by simp [zeroN, results, Try.results29, go_sem, r0, r1, r2, r3, r4]) rfl ⟨by rw [HQ.out], ?_⟩
        exact (((((HBX.out).setCell (by simp; omega) _).setCell (by simp; omega) _).setCell (by simp; omega) _).setCell (by simp; omega) _).setCell (by simp; omega) _
    · have t2 : (rb != 0) = true := by simpa using h2
      have HQ := Lib.hid (Q2.out H0.out h2)
      clear h2
      go_wp2_with fail
      refine bodyPost_ret (v := .tuple #[zeroN, .int .i64 rb]) (by simp [zeroN, results, Try.results29, go_sem, r0, r1, r2, r3, r4]) rfl ⟨by rw [HQ.out], ?_⟩
      exact (((((HBX.out).setCell (by simp; omega) _).setCell (by simp; omega) _).setCell (by simp; omega) _).setCell (by simp; omega) _).setCell (by simp; omega) _
  · have t0 : (ra != 0) = true := by simpa using h0
    have HQ := Lib.hid (Q1.out h0)
    clear h0
    go_wp2_with fail
    refine bodyPost_ret (v := .tuple #[zeroN, .int .i64 ra]) (by simp [zeroN, results, Try.results29, go_sem, r0, r1, r2, r3, r4]) rfl ⟨by rw [HQ.out], ?_⟩
    exact ((((((HBW.out.trans (HB.out.mono (by omega)))).setCell (by simp; omega) _).setCell (by simp; omega) _).setCell (by simp; omega) _).setCell (by simp; omega) _).setCell (by simp; omega) _
end Go.Proofs.Ytdoifdpmgmlpdaa
