/- Contract: Sum. -/
import Derived.Test.YtdoifdpmgmlpdaaNfaSN
import Derived.Test.YtdoifdpmgmlpdaaNfaT
import Derived.Test.YtdoifdpmgmlpdaaNfaO
import Derived.RegionTactic
namespace Go.Proofs.Ytdoifdpmgmlpdaa
open Go Go.RowKit
open Go.Proofs.Ytdoifdpmgmlpdaa.rel (u_or or_u)
set_option linter.unusedVariables false
/-- what Sum returns beside the automaton -/
def errS (La Sa : Int) (sa fa : Nat) (ea : List Ed) (Lb Sb : Int) (sb fb : Nat) (eb : List Ed) : Int :=
  if errN La Sa sa fa ea ≠ 0 then errN La Sa sa fa ea else if errN Lb Sb sb fb eb ≠ 0 then errN Lb Sb sb fb eb else if La ≠ Lb then 1 else if 64 < Sa + Sb then 3 else 0
/-- the automaton of Sum, or none -/
def SumV (w' : World) (r : Int) (La Sa : Int) (sa fa : Nat) (ea : List Ed) (Sb : Int) (sb fb : Nat) (eb : List Ed) (v : Value) : Prop :=
  (r ≠ 0 ∧ v = zeroN) ∨ (r = 0 ∧ ∃ a' c', v = .agg #[.int .i64 La, .int .i64 (Sa + Sb), .int .u64 ((sa ||| sb * 2 ^ Sa.toNat : Nat) : Int), .int .u64 ((fa ||| fb * 2 ^ Sa.toNat : Nat) : Int), .slice a' (sumE Sa.toNat ea eb).length c'] ∧ InE w' a' (sumE Sa.toNat ea eb))
def SumP (w : World) (r : Int) (La Sa : Int) (sa fa : Nat) (ea : List Ed) (Sb : Int) (sb fb : Nat) (eb : List Ed) (e : Ending) (w' : World) : Prop :=
  ∃ v, e = .returned (.tuple #[v, .int .i64 r]) ∧ SumV w' r La Sa sa fa ea Sb sb fb eb v ∧ Below w.heap.size w w'
theorem shl_sum {b n m : Nat} (hb : b < 2 ^ m) (h : n + m ≤ 64) : b * 2 ^ n < 18446744073709551616 := by
  have h1 : b * 2 ^ n < 2 ^ m * 2 ^ n := Nat.mul_lt_mul_of_pos_right hb (Nat.two_pow_pos n)
  rw [← Nat.pow_add] at h1
  exact Nat.lt_of_lt_of_le h1 (rel.pow_le64 (by omega))
theorem shl_wrap {b n : Nat} (h : b * 2 ^ n < 18446744073709551616) : IntKind.u64.wrap ((b : Int) * 2 ^ n) = ((b * 2 ^ n : Nat) : Int) := by
  have e : ((b : Int) * 2 ^ n) = ((b * 2 ^ n : Nat) : Int) := by simp
  rw [e]
  generalize b * 2 ^ n = x at *
  simp [IntKind.wrap, IntKind.bits, IntKind.signed]
  omega
theorem sumE_snoc (n : Nat) (a b : List Ed) (e : Ed) : sumE n a (b ++ [e]) = sumE n a b ++ [shE n e] := by simp [sumE]
theorem sumE_len (n : Nat) (a b : List Ed) : (sumE n a b).length = a.length + b.length := by simp [sumE]
theorem sumE_b64 {n : Nat} (hn : n ≤ 64) {a b : List Ed} (ha : ∀ e, e ∈ a → B64 e.f ∧ B64 e.l ∧ B64 e.t) (hb : ∀ e, e ∈ b → (0 ≤ e.f ∧ e.f ≤ 64) ∧ B64 e.l ∧ (0 ≤ e.t ∧ e.t ≤ 64)) : ∀ e, e ∈ sumE n a b → B64 e.f ∧ B64 e.l ∧ B64 e.t := by
  intro e he
  rcases List.mem_append.1 he with h | h
  · exact ha e h
  · obtain ⟨x, hx, rfl⟩ := List.mem_map.1 h
    have := hb x hx
    unfold B64 at *; simp only [shE]; omega
theorem valN_b64 {L S : Int} {st fi : Nat} {es : List Ed} (hv : valN L S st fi es = true) : ∀ e, e ∈ es → B64 e.f ∧ B64 e.l ∧ B64 e.t := fun e he => by
  have h1 := inE_iff.1 (valN_in hv he)
  have h2 := (valN_iff.1 hv).1
  unfold B64; omega
/-- the first errors -/
theorem sum_regions {La Sa : Int} {sa fa : Nat} {ea : List Ed} {Lb Sb : Int} {sb fb : Nat} {eb : List Ed} {ra rb : Int} (h1 : ra = errN La Sa sa fa ea) (h2 : rb = errN Lb Sb sb fb eb) :
    (ra ≠ 0 → errS La Sa sa fa ea Lb Sb sb fb eb = ra) ∧ (ra = 0 → rb ≠ 0 → errS La Sa sa fa ea Lb Sb sb fb eb = rb) ∧ (ra = 0 → rb = 0 → La ≠ Lb → errS La Sa sa fa ea Lb Sb sb fb eb = 1) ∧ (ra = 0 → rb = 0 → La = Lb → 64 < Sa + Sb → errS La Sa sa fa ea Lb Sb sb fb eb = 3) ∧ (ra = 0 → rb = 0 → La = Lb → ¬ 64 < Sa + Sb → errS La Sa sa fa ea Lb Sb sb fb eb = 0) := by
  unfold errS
  rw [← h1, ← h2]
  refine ⟨fun h => by rw [if_pos h], fun h h' => ?_, fun h h' h3 => ?_, fun h h' h3 h4 => ?_, fun h h' h3 h4 => ?_⟩
  · rw [if_neg (by simpa using h), if_pos h']
  · rw [if_neg (by simpa using h), if_neg (by simpa using h'), if_pos h3]
  · rw [if_neg (by simpa using h), if_neg (by simpa using h'), if_neg (by simpa using h3), if_pos h4]
  · rw [if_neg (by simpa using h), if_neg (by simpa using h'), if_neg (by simpa using h3), if_neg h4]
set_option maxRecDepth 100000 in
set_option maxHeartbeats 8000000 in
theorem sum_err (La Sa : Int) (sa fa : Nat) (ea : List Ed) (a : Option Addr) (c : Nat) (Lb Sb : Int) (sb fb : Nat) (eb : List Ed) (b : Option Addr) (d : Nat) (w : World) (hin : InN w La Sa sa fa a ea) (hin2 : InN w Lb Sb sb fb b eb) (hr : errS La Sa sa fa ea Lb Sb sb fb eb ≠ 0) :
    Calls Try.prog 28 #[.agg #[.int .i64 La, .int .i64 Sa, .int .u64 sa, .int .u64 fa, .slice a ea.length c], .agg #[.int .i64 Lb, .int .i64 Sb, .int .u64 sb, .int .u64 fb, .slice b eb.length d]] w fun e w' => e = .returned (.tuple #[zeroN, .int .i64 (errS La Sa sa fa ea Lb Sb sb fb eb)]) ∧ Below w.heap.size w w' := by
  have HI := Lib.hid hin
  have HI2 := Lib.hid hin2
  have D1 := Lib.hid (fun W (h : InN W La Sa sa fa a ea) => nvalidate_any La Sa sa fa ea a c W h)
  have D2 := Lib.hid (fun W (h : InN W Lb Sb sb fb b eb) => nvalidate_any Lb Sb sb fb eb b d W h)
  obtain ⟨ra, hra⟩ : ∃ r, r = errN La Sa sa fa ea := ⟨_, rfl⟩
  obtain ⟨rb, hrb⟩ : ∃ r, r = errN Lb Sb sb fb eb := ⟨_, rfl⟩
  obtain ⟨q1, q2, q3, q4, q5⟩ := sum_regions hra hrb
  have hgood : ra = 0 → rb = 0 → (0 ≤ Sa ∧ Sa ≤ 64) ∧ (0 ≤ Sb ∧ Sb ≤ 64) := fun h1 h2 => by
    have v1 := (valN_iff.1 (errN_ok.1 (hra.symm.trans h1))).1
    have v2 := (valN_iff.1 (errN_ok.1 (hrb.symm.trans h2))).1
    omega
  obtain ⟨r, hrr⟩ : ∃ r, r = errS La Sa sa fa ea Lb Sb sb fb eb := ⟨_, rfl⟩
  rw [← hrr] at hr q1 q2 q3 q4 q5 ⊢
  rw [← hra] at D1
  rw [← hrb] at D2
  have Q1 := Lib.hid q1
  have Q2 := Lib.hid q2
  have Q3 := Lib.hid q3
  have Q4 := Lib.hid q4
  have Q5 := Lib.hid q5
  have HG := Lib.hid hgood
  have HR := Lib.hid hr
  obtain ⟨n, hn⟩ : ∃ n, n = ea.length := ⟨_, rfl⟩
  obtain ⟨k, hk⟩ : ∃ n, n = eb.length := ⟨_, rfl⟩
  rw [← hn] at D1 ⊢
  rw [← hk] at D2 ⊢
  obtain ⟨W0, hW0⟩ : ∃ W0, W0 = ((w.alloc (.cells #[.int .i64 La, .int .i64 Sa, .int .u64 sa, .int .u64 fa, .slice a n c] 25)).alloc (.cells #[.int .i64 Lb, .int .i64 Sb, .int .u64 sb, .int .u64 fb, .slice b k d] 25)).alloc (.cells #[.int .i64 0, .int .i64 0, .int .u64 0, .int .u64 0, .slice none 0 0] 25) := ⟨_, rfl⟩
  have hBW : Below w.heap.size w W0 := by rw [hW0]; exact (((Below.refl _ w).alloc (Nat.le_refl _) _).alloc (by simp) _).alloc (by simp; omega) _
  have hs0 : W0.heap.size = w.heap.size + 3 := by rw [hW0]; simp
  have ha0 : W0.heap[w.heap.size]? = some (.cells #[.int .i64 La, .int .i64 Sa, .int .u64 sa, .int .u64 fa, .slice a n c] 25) := by rw [hW0]; exact heap_old (heap_old (heap_new _ _))
  have hb0 : W0.heap[w.heap.size + 1]? = some (.cells #[.int .i64 Lb, .int .i64 Sb, .int .u64 sb, .int .u64 fb, .slice b k d] 25) := by
    rw [hW0]
    have := heap_old (o' := .cells #[.int .i64 0, .int .i64 0, .int .u64 0, .int .u64 0, .slice none 0 0] 25) (heap_new (w.alloc (.cells #[.int .i64 La, .int .i64 Sa, .int .u64 sa, .int .u64 fa, .slice a n c] 25)) (.cells #[.int .i64 Lb, .int .i64 Sb, .int .u64 sb, .int .u64 fb, .slice b k d] 25))
    simpa using this
  have hr0 : W0.heap[w.heap.size + 2]? = some (.cells #[.int .i64 0, .int .i64 0, .int .u64 0, .int .u64 0, .slice none 0 0] 25) := by
    rw [hW0]
    have := heap_new ((w.alloc (.cells #[.int .i64 La, .int .i64 Sa, .int .u64 sa, .int .u64 fa, .slice a n c] 25)).alloc (.cells #[.int .i64 Lb, .int .i64 Sb, .int .u64 sb, .int .u64 fb, .slice b k d] 25)) (.cells #[.int .i64 0, .int .i64 0, .int .u64 0, .int .u64 0, .slice none 0 0] 25)
    simpa using this
  have HBW := Lib.hid hBW
  have HS0 := Lib.hid hs0
  have HA0 := Lib.hid ha0
  have HB0 := Lib.hid hb0
  have HR0 := Lib.hid hr0
  have HIA := Lib.hid (HI.out.keep hBW)
  have HIB := Lib.hid (HI2.out.keep hBW)
  obtain ⟨x0, x1, x2, x3, x4⟩ := (cells5_of ha0).1
  obtain ⟨y0, y1, y2, y3, y4⟩ := (cells5_of hb0).1
  clear hin hin2 hr hra hrb hrr hn hk q1 q2 q3 q4 q5 hgood hBW hs0 ha0 hb0 hr0
  rw [hW0] at x0 x1 x2 x3 x4 y0 y1 y2 y3 y4
  have j0 : ∀ W, (Instr.index 65 (.agg #[.int .i64 La, .int .i64 Sa, .int .u64 sa, .int .u64 fa, .slice a n c, .int .i64 Lb, .int .i64 Sb, .int .u64 sb, .int .u64 fb, .slice b k d]) (.int .i64 0)).run Try.prog W = .ok (.agg #[.int .i64 La, .int .i64 Sa, .int .u64 sa, .int .u64 fa, .slice a n c]) W := fun _ => by kernel_rfl
  have j1 : ∀ W, (Instr.index 65 (.agg #[.int .i64 La, .int .i64 Sa, .int .u64 sa, .int .u64 fa, .slice a n c, .int .i64 Lb, .int .i64 Sb, .int .u64 sb, .int .u64 fb, .slice b k d]) (.int .i64 1)).run Try.prog W = .ok (.agg #[.int .i64 Lb, .int .i64 Sb, .int .u64 sb, .int .u64 fb, .slice b k d]) W := fun _ => by kernel_rfl
  go_enter Try.func28, Try.ntmps28
  go_wp2_with fail
  rw [← hW0] at *
  clear hW0
  go_loopw [15] (fun vi wr => ∃ i : Nat, i ≤ 2 ∧ vi = .int .i64 i ∧ (1 ≤ i → ra = 0) ∧ (2 ≤ i → rb = 0) ∧ Below (w.heap.size + 3) W0 wr) (fun vi _ => 2 - (intOf vi).toNat)
  case atStart => exact ⟨0, Nat.zero_le _, rfl, fun h => by omega, fun h => by omega, Below.refl _ _⟩
  case round =>
    rename World => wA
    obtain ⟨i, hi, hvi, hra, hrb, hb⟩ := hrel
    have HB := Lib.hid hb
    have HRA := Lib.hid hra
    have HRB := Lib.hid hrb
    have HSA := Lib.hid (show w.heap.size + 3 ≤ wA.heap.size by have := hb.size; rw [HS0.out] at this; exact this)
    clear hra hrb
    have h3 : i = 0 ∨ i = 1 ∨ i = 2 := by omega
    rcases h3 with rfl | rfl | rfl
    · replace hvi : _ = Value.int .i64 0 := hvi
      subst hvi
      have HIQ := Lib.hid ((HIA.out.keep (hb.mono (by rw [HS0.out]; exact Nat.le_refl _))))
      clear hb
      go_wp2_with fail
      refine (D1.out _ (HIQ.out.box _)).mono ?_
      rintro e w2 ⟨rfl, hB⟩
      have HB2 := Lib.hid ((HB.out.alloc HSA.out _).trans (hB.mono (by have := HSA.out; simp; omega)))
      have hr2 := (HB2.out.block (w.heap.size + 2) (by omega)).trans HR0.out
      obtain ⟨⟨r0, r1, r2, r3, r4⟩, z0, z1, z2, z3, z4⟩ := cells5_of hr2
      clear hB hr2
      by_cases h0 : ra = 0
      · have t0 : (ra != 0) = false := by simpa using h0
        have H0 := Lib.hid h0
        clear h0
        go_wp2_with fail
        exact ⟨⟨1, by omega, rfl, fun _ => H0.out, fun h => by omega, HB2.out⟩, by simp [intOf]⟩
      · have t0 : (ra != 0) = true := by simpa using h0
        have HQ := Lib.hid (Q1.out h0)
        clear h0
        go_wp2_with fail
        refine bodyPost_ret (v := .tuple #[zeroN, .int .i64 ra]) (by simp [zeroN, results, Try.results28, go_sem, r0, r1, r2, r3, r4]) rfl ⟨by rw [HQ.out], ?_⟩
        exact (((((HBW.out.trans (HB2.out.mono (by omega))).setCell (by simp; omega) _).setCell (by simp; omega) _).setCell (by simp; omega) _).setCell (by simp; omega) _).setCell (by simp; omega) _
    · replace hvi : _ = Value.int .i64 1 := hvi
      subst hvi
      have HIQ := Lib.hid ((HIB.out.keep (hb.mono (by rw [HS0.out]; exact Nat.le_refl _))))
      clear hb
      go_wp2_with fail
      refine (D2.out _ (HIQ.out.box _)).mono ?_
      rintro e w2 ⟨rfl, hB⟩
      have HB2 := Lib.hid ((HB.out.alloc HSA.out _).trans (hB.mono (by have := HSA.out; simp; omega)))
      have hr2 := (HB2.out.block (w.heap.size + 2) (by omega)).trans HR0.out
      obtain ⟨⟨r0, r1, r2, r3, r4⟩, z0, z1, z2, z3, z4⟩ := cells5_of hr2
      clear hB hr2
      by_cases h0 : rb = 0
      · have t0 : (rb != 0) = false := by simpa using h0
        have H0 := Lib.hid h0
        clear h0
        go_wp2_with fail
        exact ⟨⟨2, by omega, rfl, fun _ => HRA.out (by omega), fun _ => H0.out, HB2.out⟩, by simp [intOf]⟩
      · have t0 : (rb != 0) = true := by simpa using h0
        have HQ := Lib.hid (Q2.out (HRA.out (by omega)) h0)
        clear h0
        go_wp2_with fail
        refine bodyPost_ret (v := .tuple #[zeroN, .int .i64 rb]) (by simp [zeroN, results, Try.results28, go_sem, r0, r1, r2, r3, r4]) rfl ⟨by rw [HQ.out], ?_⟩
        exact (((((HBW.out.trans (HB2.out.mono (by omega))).setCell (by simp; omega) _).setCell (by simp; omega) _).setCell (by simp; omega) _).setCell (by simp; omega) _).setCell (by simp; omega) _
    · replace hvi : _ = Value.int .i64 2 := hvi
      subst hvi
      have ha := (HB.out.block w.heap.size (by omega)).trans HA0.out
      have hbb := (HB.out.block (w.heap.size + 1) (by omega)).trans HB0.out
      have hr2 := (HB.out.block (w.heap.size + 2) (by omega)).trans HR0.out
      obtain ⟨⟨p0, p1, p2, p3, p4⟩, _⟩ := cells5_of ha
      obtain ⟨⟨q0, q1, q2, q3, q4⟩, _⟩ := cells5_of hbb
      obtain ⟨⟨r0, r1, r2, r3, r4⟩, z0, z1, z2, z3, z4⟩ := cells5_of hr2
      have h1 := HRA.out (by omega)
      have h2 := HRB.out (by omega)
      obtain ⟨g1, g2⟩ := HG.out h1 h2
      clear ha hbb hr2 hb
      by_cases hL : La = Lb
      · by_cases h64 : 64 < Sa + Sb
        · have tL : (La != Lb) = false := by simpa using hL
          have HQ := Lib.hid (Q4.out h1 h2 hL h64)
          have hw : IntKind.i64.wrap (Sa + Sb) = Sa + Sb := IntWalk.i64_in _ (by omega)
          have t6 : decide (64 < Sa + Sb) = true := by simpa using h64
          clear hL h64 h1 h2
          go_wp2_with fail
          refine bodyPost_ret (v := .tuple #[zeroN, .int .i64 3]) (by simp [zeroN, results, Try.results28, go_sem, r0, r1, r2, r3, r4]) rfl ⟨by rw [HQ.out], ?_⟩
          exact (((((HBW.out.trans (HB.out.mono (by omega))).setCell (by simp; omega) _).setCell (by simp; omega) _).setCell (by simp; omega) _).setCell (by simp; omega) _).setCell (by simp; omega) _
        · exact absurd (Q5.out h1 h2 hL (by omega)) HR.out
      · have tL : (La != Lb) = true := by simpa using hL
        have HQ := Lib.hid (Q3.out h1 h2 hL)
        clear hL h1 h2
        go_wp2_with fail
        refine bodyPost_ret (v := .tuple #[zeroN, .int .i64 1]) (by simp [zeroN, results, Try.results28, go_sem, r0, r1, r2, r3, r4]) rfl ⟨by rw [HQ.out], ?_⟩
        exact (((((HBW.out.trans (HB.out.mono (by omega))).setCell (by simp; omega) _).setCell (by simp; omega) _).setCell (by simp; omega) _).setCell (by simp; omega) _).setCell (by simp; omega) _
end Go.Proofs.Ytdoifdpmgmlpdaa
