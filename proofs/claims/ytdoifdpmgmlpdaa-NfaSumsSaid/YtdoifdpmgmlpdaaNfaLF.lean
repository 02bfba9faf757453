/- Walk of the law NfaSums: the union. -/
import Derived.Test.YtdoifdpmgmlpdaaNfaLE
namespace Go.Proofs.Ytdoifdpmgmlpdaa
open Go Go.RowKit Go.Lib Go.Sort
open Go.Proofs.Ytdoifdpmgmlpdaa.wrd.WordM (wordB)
set_option linter.unusedVariables false
set_option maxRecDepth 100000 in
set_option maxHeartbeats 8000000 in
theorem wSums_ok {w : World} (La : Int) (na sa fa : Nat) (ea : List Ed) (a : Option Addr) (c : Nat) (hin : InN w La (na : Int) sa fa a ea) (nb sb fb : Nat) (eb : List Ed) (b : Option Addr) (d : Nat) (hin2 : InN w La (nb : Int) sb fb b eb) (s : ByteArray) (hva : valN La (na : Int) sa fa ea = true) (hvb : valN La (nb : Int) sb fb eb = true) (h64 : na + nb ≤ 64) :
    Calls Try.prog 8 #[.agg #[.int .i64 La, .int .i64 (na : Int), .int .u64 sa, .int .u64 fa, .slice a ea.length c], .agg #[.int .i64 La, .int .i64 (nb : Int), .int .u64 sb, .int .u64 fb, .slice b eb.length d], .string s] w fun e w' => e = .returned (.bool true) ∧ Below w.heap.size w w' := by
  have HI := Lib.hid hin
  have HI2 := Lib.hid hin2
  have D1 := Lib.hid (fun W (h : InN W La (na : Int) sa fa a ea) (h2 : InN W La (nb : Int) sb fb b eb) => sum_ok La na sa fa ea a c nb sb fb eb b d W h h2 hva hvb h64)
  have D2 := Lib.hid (fun W (h : InN W La (na : Int) sa fa a ea) (h2 : InN W La (nb : Int) sb fb b eb) => rsum_ok La na sa fa ea a c nb sb fb eb b d W h h2 hva hvb h64)
  have hvs := sum_valid hva hvb h64
  have hi1 := valN_iff.1 hva
  have hi2 := valN_iff.1 hvb
  have hi3 := valN_iff.1 hvs
  rw [Int.toNat_natCast] at hi1 hi2 hi3
  obtain ⟨K, hK⟩ : ∃ K, K = sumE na ea eb := ⟨_, rfl⟩
  obtain ⟨o1, ho1⟩ : ∃ x, x = (sa ||| sb * 2 ^ na) := ⟨_, rfl⟩
  obtain ⟨o2, ho2⟩ : ∃ x, x = (fa ||| fb * 2 ^ na) := ⟨_, rfl⟩
  have p1 : o1 < 18446744073709551616 := by rw [ho1]; exact Nat.lt_of_lt_of_le hi3.2.1.1 (rel.pow_le64 (by omega))
  have p2 : o2 < 18446744073709551616 := by rw [ho2]; exact Nat.lt_of_lt_of_le hi3.2.1.2 (rel.pow_le64 (by omega))
  have hlK : K.length ≤ 24576 := by rw [hK]; exact valN_len hvs
  have HSM := Lib.hid (fun t => show runsW La (na + nb) o1 o2 K t = min (runsW La na sa fa ea t + runsW La nb sb fb eb t) 2147483648 by
    have ta := valN_to hva
    have tb := valN_to hvb
    rw [Int.toNat_natCast] at ta tb
    unfold runsW
    cases wordB La t.data.toList
    · simp
    · simp only [if_true]
      rw [hK, ho1, ho2]
      exact runs_sum ta tb hi1.2.1.1 hi1.2.1.2 _)
  rw [← hK, ← ho1, ← ho2] at hvs
  simp only [← hK, ← ho1, ← ho2] at D1 D2
  have HIN := Lib.hid (fun W a' (h : InE W a' K) => (show InN W La ((na + nb : Nat) : Int) o1 o2 a' K from ⟨h, by unfold B64; omega, by unfold B64; omega, p1, p2, by omega⟩))
  have HR := Lib.hid (fun t W a' c' (h : InN W La ((na + nb : Nat) : Int) o1 o2 a' K) => runs_any La (na + nb) o1 o2 K a' c' t W h hvs)
  have HRA := Lib.hid (fun t W (h : InN W La (na : Int) sa fa a ea) => runs_any La na sa fa ea a c t W h hva)
  have HRB := Lib.hid (fun t W (h : InN W La (nb : Int) sb fb b eb) => runs_any La nb sb fb eb b d t W h hvb)
  obtain ⟨S, hS⟩ : ∃ S, S = na + nb := ⟨_, rfl⟩
  rw [← hS] at D1 D2 HIN HR HSM
  obtain ⟨q, hq⟩ : ∃ q, q = K.length := ⟨_, rfl⟩
  have HQ := Lib.hid hq
  obtain ⟨n, hn⟩ : ∃ n, n = ea.length := ⟨_, rfl⟩
  obtain ⟨k, hk⟩ : ∃ n, n = eb.length := ⟨_, rfl⟩
  rw [← hn] at D1 D2 HRA ⊢
  rw [← hk] at D1 D2 HRB ⊢
  rw [← hq] at D1 D2 HR
  obtain ⟨W0, hW0⟩ : ∃ W0, W0 = (w.alloc (.cells #[.int .i64 La, .int .i64 (na : Int), .int .u64 sa, .int .u64 fa, .slice a n c] 25)).alloc (.cells #[.int .i64 La, .int .i64 (nb : Int), .int .u64 sb, .int .u64 fb, .slice b k d] 25) := ⟨_, rfl⟩
  have hBW : Below w.heap.size w W0 := by rw [hW0]; exact ((Below.refl _ w).alloc (Nat.le_refl _) _).alloc (by simp) _
  have hs0 : W0.heap.size = w.heap.size + 2 := by rw [hW0]; simp
  have ha0 : W0.heap[w.heap.size]? = some (.cells #[.int .i64 La, .int .i64 (na : Int), .int .u64 sa, .int .u64 fa, .slice a n c] 25) := by rw [hW0]; exact heap_old (heap_new _ _)
  have hb0 : W0.heap[w.heap.size + 1]? = some (.cells #[.int .i64 La, .int .i64 (nb : Int), .int .u64 sb, .int .u64 fb, .slice b k d] 25) := by rw [hW0]; exact heap_new' (by simp)
  have HBW := Lib.hid hBW
  have HS0 := Lib.hid hs0
  have HA0 := Lib.hid ha0
  have HB0 := Lib.hid hb0
  have HIA := Lib.hid (HI.out.keep hBW)
  have HIB := Lib.hid (HI2.out.keep hBW)
  clear hin hin2 hn hk hBW hs0 ha0 hb0 hK ho1 ho2 hvs hi1 hi2 hi3 hva hvb p1 p2 hq hS
  go_enter Try.func8, Try.ntmps8
  go_wp2_with fail
  rw [← hW0] at *
  clear hW0
  refine (D1.out _ HIA.out HIB.out).mono ?_
  rintro e w1 ⟨x1, k1, rfl, hE, hB⟩
  have HE1 := Lib.hid hE
  have HB1 := Lib.hid (show Below (w.heap.size + 2) W0 w1 from hB.mono (by rw [HS0.out]; exact Nat.le_refl _))
  have HS1 := Lib.hid (show w.heap.size + 2 ≤ w1.heap.size by have := hB.size; rw [HS0.out] at this; exact this)
  have HIA1 := Lib.hid (HIA.out.keep hB)
  have HIB1 := Lib.hid (HIB.out.keep hB)
  have ha := (HB1.out.block w.heap.size (by omega)).trans HA0.out
  have hb := (HB1.out.block (w.heap.size + 1) (by omega)).trans HB0.out
  have AA := fun o => (cells5_of (heap_old (o' := o) ha)).1
  have BB := fun o => (cells5_of (heap_old (o' := o) hb)).1
  have a0 := fun o => (AA o).1
  have a1 := fun o => (AA o).2.1
  have a2 := fun o => (AA o).2.2.1
  have a3 := fun o => (AA o).2.2.2.1
  have a4 := fun o => (AA o).2.2.2.2
  have b0 := fun o => (BB o).1
  have b1 := fun o => (BB o).2.1
  have b2 := fun o => (BB o).2.2.1
  have b3 := fun o => (BB o).2.2.2.1
  have b4 := fun o => (BB o).2.2.2.2
  have HAA := Lib.hid ha
  have HBB := Lib.hid hb
  clear hB ha hb AA BB hE
  go_wp2_with fail
  refine (D2.out _ (HIA1.out.box _) (HIB1.out.box _)).mono ?_
  rintro e w2 ⟨x2, k2, rfl, hE, hB⟩
  have HE2 := Lib.hid hE
  obtain ⟨W1, hW1⟩ : ∃ W1, W1 = w1.alloc (.cells #[.int .i64 La, .int .i64 (S : Int), .int .u64 o1, .int .u64 o2, .slice x1 q k1] 25) := ⟨_, rfl⟩
  rw [← hW1] at hB
  have hW1s : W1.heap.size = w1.heap.size + 1 := by rw [hW1]; simp
  have HE1' := Lib.hid ((HE1.out.keep (show Below w1.heap.size w1 W1 by rw [hW1]; exact (Below.refl _ _).alloc (Nat.le_refl _) _)).keep hB)
  have HIA2 := Lib.hid (((HIA1.out.keep (show Below w1.heap.size w1 W1 by rw [hW1]; exact (Below.refl _ _).alloc (Nat.le_refl _) _)).keep hB))
  have HIB2 := Lib.hid (((HIB1.out.keep (show Below w1.heap.size w1 W1 by rw [hW1]; exact (Below.refl _ _).alloc (Nat.le_refl _) _)).keep hB))
  have B12 : Below w1.heap.size w1 w2 := (show Below w1.heap.size w1 W1 by rw [hW1]; exact (Below.refl _ _).alloc (Nat.le_refl _) _).trans (hB.mono (by omega))
  have hz := (hB.block w1.heap.size (by omega)).trans (show W1.heap[w1.heap.size]? = some (.cells #[.int .i64 La, .int .i64 (S : Int), .int .u64 o1, .int .u64 o2, .slice x1 q k1] 25) by rw [hW1]; exact heap_new w1 _)
  have ha := (B12.block w.heap.size (by have := HS1.out; omega)).trans HAA.out
  have hb := (B12.block (w.heap.size + 1) (by have := HS1.out; omega)).trans HBB.out
  have HZ2 := Lib.hid hz
  have HA2 := Lib.hid ha
  have HB2 := Lib.hid hb
  have HS2 := Lib.hid (show w1.heap.size + 1 ≤ w2.heap.size by have := hB.size; omega)
  have HBX := Lib.hid ((HBW.out.trans (HB1.out.mono (by omega))).trans (B12.mono (by have := HS1.out; omega)))
  have ZZ := fun o => (cells5_of (heap_old (o' := o) hz)).1
  have y0 := fun o => (ZZ o).1
  have y1 := fun o => (ZZ o).2.1
  have y2 := fun o => (ZZ o).2.2.1
  have y3 := fun o => (ZZ o).2.2.2.1
  have y4 := fun o => (ZZ o).2.2.2.2
  clear hB hz ZZ a0 a1 a2 a3 a4 b0 b1 b2 b3 b4 ha hb hE B12 hW1s
  clear hW1
  have DS := Lib.hid (fun W (h : InN W La (S : Int) o1 o2 x1 K) (h' : InN W La (S : Int) o1 o2 x2 K) => same_eq La (S : Int) o1 o2 K x1 k1 x2 k2 W h h')
  rw [← HQ.out] at DS
  go_wp2_with fail
  refine (DS.out _ ((HIN.out _ _ HE1'.out).box _) ((HIN.out _ _ HE2.out).box _)).mono ?_
  rintro e w3 ⟨rfl, hB⟩
  have B23 := (show Below w2.heap.size w2 _ from (Below.refl _ w2).alloc (Nat.le_refl _) (.cells #[.int .i64 La, .int .i64 (S : Int), .int .u64 o1, .int .u64 o2, .slice x2 q k2] 25)).trans (hB.mono (by simp))
  have HIS := Lib.hid (HIN.out _ _ (HE1'.out.keep B23))
  have HIA3 := Lib.hid (HIA2.out.keep B23)
  have HIB3 := Lib.hid (HIB2.out.keep B23)
  have hz := (B23.block w1.heap.size (by have := HS2.out; omega)).trans HZ2.out
  have ha := (B23.block w.heap.size (by have := HS1.out; have := HS2.out; omega)).trans HA2.out
  have hb := (B23.block (w.heap.size + 1) (by have := HS1.out; have := HS2.out; omega)).trans HB2.out
  have HB3 := Lib.hid (HBX.out.trans (B23.mono HBX.out.size))
  obtain ⟨⟨p0, p1, p2, p3, p4⟩, _⟩ := cells5_of ha
  obtain ⟨⟨q0, q1, q2, q3, q4⟩, _⟩ := cells5_of hb
  obtain ⟨⟨r0, r1, r2, r3, r4⟩, _⟩ := cells5_of hz
  clear hB y0 y1 y2 y3 y4 ha hb hz B23
  by_cases hl : 100 < s.size
  · have t1 : decide ((100 : Int) < (s.size : Int)) = true := by simp; omega
    go_wp2_with fail
    have E1 := Lib.hid (fun d os => HR.out (s.extract 0 100) (grow (redrawn w3 d) os) x1 k1 (HIS.out.re d os))
    have E2 := Lib.hid (fun d os => HRA.out (s.extract 0 100) (grow (redrawn w3 d) os) (HIA3.out.re d os))
    have E3 := Lib.hid (fun d os => HRB.out (s.extract 0 100) (grow (redrawn w3 d) os) (HIB3.out.re d os))
    have E4 := Lib.hid (fun d os => awake_any (grow (redrawn w3 d) os))
    have hs := HSM.out (s.extract 0 100)
    obtain ⟨ra, era⟩ : ∃ x, x = runsW La na sa fa ea (s.extract 0 100) := ⟨_, rfl⟩
    obtain ⟨rb, erb⟩ : ∃ x, x = runsW La nb sb fb eb (s.extract 0 100) := ⟨_, rfl⟩
    obtain ⟨rs, ers⟩ : ∃ x, x = runsW La S o1 o2 K (s.extract 0 100) := ⟨_, rfl⟩
    have hla := runsW_le La na sa fa ea (s.extract 0 100)
    have hlb := runsW_le La nb sb fb eb (s.extract 0 100)
    rw [← era] at hs hla E2
    rw [← erb] at hs hlb E3
    rw [← ers] at hs E1
    have hwr : IntKind.i64.wrap ((ra : Int) + (rb : Int)) = (ra : Int) + (rb : Int) := IntWalk.i64_in _ (by omega)
    have c0 := fun d os => cell_regrown p0 d os
    have c1 := fun d os => cell_regrown p1 d os
    have c2 := fun d os => cell_regrown p2 d os
    have c3 := fun d os => cell_regrown p3 d os
    have c4 := fun d os => cell_regrown p4 d os
    have e0 := fun d os => cell_regrown q0 d os
    have e1 := fun d os => cell_regrown q1 d os
    have e2 := fun d os => cell_regrown q2 d os
    have e3 := fun d os => cell_regrown q3 d os
    have e4 := fun d os => cell_regrown q4 d os
    have f0 := fun d os => cell_regrown r0 d os
    have f1 := fun d os => cell_regrown r1 d os
    have f2 := fun d os => cell_regrown r2 d os
    have f3 := fun d os => cell_regrown r3 d os
    have f4 := fun d os => cell_regrown r4 d os
    clear era erb ers
    have hmm : (min ((ra : Int) + (rb : Int)) 2147483648) = (rs : Int) := by rw [hs]; omega
    clear hs
    refine wp_region_quiet_below (by kernel_rfl) (by kernel_rfl) ?_
    repeat (go_big_quiet_step (first | (with_reducible exact Calls.regrown_of (E1.out _ _)) | (with_reducible exact Calls.regrown_of (E2.out _ _)) | (with_reducible exact Calls.regrown_of (E3.out _ _)) | (with_reducible exact Calls.regrown_of (E4.out _ _))))
    refine wpQuiet_nil ?_
    intro _ hw'
    obtain ⟨⟨dq, osq⟩, hw''⟩ := hw'
    subst hw''
    have HBE := Lib.hid (HB3.out.trans ((below_regrown w3 dq osq).mono HB3.out.size))
    go_wp2_with fail
    go_ret
    exact ⟨rfl, HBE.out⟩
  · have t1 : decide ((100 : Int) < (s.size : Int)) = false := by simp; omega
    go_wp2_with fail
    have E1 := Lib.hid (fun d os => HR.out s (grow (redrawn w3 d) os) x1 k1 (HIS.out.re d os))
    have E2 := Lib.hid (fun d os => HRA.out s (grow (redrawn w3 d) os) (HIA3.out.re d os))
    have E3 := Lib.hid (fun d os => HRB.out s (grow (redrawn w3 d) os) (HIB3.out.re d os))
    have E4 := Lib.hid (fun d os => awake_any (grow (redrawn w3 d) os))
    have hs := HSM.out s
    obtain ⟨ra, era⟩ : ∃ x, x = runsW La na sa fa ea s := ⟨_, rfl⟩
    obtain ⟨rb, erb⟩ : ∃ x, x = runsW La nb sb fb eb s := ⟨_, rfl⟩
    obtain ⟨rs, ers⟩ : ∃ x, x = runsW La S o1 o2 K s := ⟨_, rfl⟩
    have hla := runsW_le La na sa fa ea s
    have hlb := runsW_le La nb sb fb eb s
    rw [← era] at hs hla E2
    rw [← erb] at hs hlb E3
    rw [← ers] at hs E1
    have hwr : IntKind.i64.wrap ((ra : Int) + (rb : Int)) = (ra : Int) + (rb : Int) := IntWalk.i64_in _ (by omega)
    have c0 := fun d os => cell_regrown p0 d os
    have c1 := fun d os => cell_regrown p1 d os
    have c2 := fun d os => cell_regrown p2 d os
    have c3 := fun d os => cell_regrown p3 d os
    have c4 := fun d os => cell_regrown p4 d os
    have e0 := fun d os => cell_regrown q0 d os
    have e1 := fun d os => cell_regrown q1 d os
    have e2 := fun d os => cell_regrown q2 d os
    have e3 := fun d os => cell_regrown q3 d os
    have e4 := fun d os => cell_regrown q4 d os
    have f0 := fun d os => cell_regrown r0 d os
    have f1 := fun d os => cell_regrown r1 d os
    have f2 := fun d os => cell_regrown r2 d os
    have f3 := fun d os => cell_regrown r3 d os
    have f4 := fun d os => cell_regrown r4 d os
    clear era erb ers
    have hmm : (min ((ra : Int) + (rb : Int)) 2147483648) = (rs : Int) := by rw [hs]; omega
    clear hs
    refine wp_region_quiet_below (by kernel_rfl) (by kernel_rfl) ?_
    repeat (go_big_quiet_step (first | (with_reducible exact Calls.regrown_of (E1.out _ _)) | (with_reducible exact Calls.regrown_of (E2.out _ _)) | (with_reducible exact Calls.regrown_of (E3.out _ _)) | (with_reducible exact Calls.regrown_of (E4.out _ _))))
    refine wpQuiet_nil ?_
    intro _ hw'
    obtain ⟨⟨dq, osq⟩, hw''⟩ := hw'
    subst hw''
    have HBE := Lib.hid (HB3.out.trans ((below_regrown w3 dq osq).mono HB3.out.size))
    go_wp2_with fail
    go_ret
    exact ⟨rfl, HBE.out⟩
theorem wNfaSums {w : World} (La Sa : Int) (sa fa : Nat) (ea : List Ed) (a : Option Addr) (c : Nat) (hin : InN w La Sa sa fa a ea) (Lb Sb : Int) (sb fb : Nat) (eb : List Ed) (b : Option Addr) (d : Nat) (hin2 : InN w Lb Sb sb fb b eb) (s : ByteArray) (hs : s.size ≤ maxLen) :
    Calls Try.prog 8 #[.agg #[.int .i64 La, .int .i64 Sa, .int .u64 sa, .int .u64 fa, .slice a ea.length c], .agg #[.int .i64 Lb, .int .i64 Sb, .int .u64 sb, .int .u64 fb, .slice b eb.length d], .string s] w fun e w' => e = .returned (.bool true) ∧ Below w.heap.size w w' := by
  by_cases hr : errS La Sa sa fa ea Lb Sb sb fb eb = 0
  · obtain ⟨q1, q2, q3, q4, q5⟩ := sum_regions (La := La) (Sa := Sa) (sa := sa) (fa := fa) (ea := ea) (Lb := Lb) (Sb := Sb) (sb := sb) (fb := fb) (eb := eb) rfl rfl
    have h1 : errN La Sa sa fa ea = 0 := by
      by_cases h : errN La Sa sa fa ea = 0
      · exact h
      · have := q1 h; omega
    have h2 : errN Lb Sb sb fb eb = 0 := by
      by_cases h : errN Lb Sb sb fb eb = 0
      · exact h
      · have := q2 h1 h; omega
    have h3 : La = Lb := by
      by_cases h : La = Lb
      · exact h
      · have := q3 h1 h2 h; omega
    have h4 : ¬ 64 < Sa + Sb := fun h => by have := q4 h1 h2 h3 h; omega
    subst h3
    have v1 := errN_ok.1 h1
    have v2 := errN_ok.1 h2
    have n1 := (valN_iff.1 v1).1
    have n2 := (valN_iff.1 v2).1
    obtain ⟨na, rfl⟩ : ∃ m : Nat, Sa = (m : Int) := ⟨Sa.toNat, by omega⟩
    obtain ⟨nb, rfl⟩ : ∃ m : Nat, Sb = (m : Int) := ⟨Sb.toNat, by omega⟩
    exact wSums_ok La na sa fa ea a c hin nb sb fb eb b d hin2 s v1 v2 (by omega)
  · exact wSums_err La Sa sa fa ea a c hin Lb Sb sb fb eb b d hin2 s hr
end Go.Proofs.Ytdoifdpmgmlpdaa
