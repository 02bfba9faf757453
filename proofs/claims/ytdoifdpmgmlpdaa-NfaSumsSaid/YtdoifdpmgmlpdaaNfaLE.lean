/- Walk of the law NfaSums: the errors. -/
import Derived.Test.YtdoifdpmgmlpdaaNfaSP
import Derived.Test.YtdoifdpmgmlpdaaNfaSR
import Derived.Test.YtdoifdpmgmlpdaaNfaSV
import Derived.Test.YtdoifdpmgmlpdaaNfaSM
import Derived.Test.YtdoifdpmgmlpdaaNfaX
import Derived.Test.YtdoifdpmgmlpdaaNfaRB
import Derived.Test.YtdoifdpmgmlpdaaNfaLA
namespace Go.Proofs.Ytdoifdpmgmlpdaa
open Go Go.RowKit
set_option linter.unusedVariables false
set_option maxRecDepth 100000 in
set_option maxHeartbeats 8000000 in
theorem wSums_err {w : World} (La Sa : Int) (sa fa : Nat) (ea : List Ed) (a : Option Addr) (c : Nat) (hin : InN w La Sa sa fa a ea) (Lb Sb : Int) (sb fb : Nat) (eb : List Ed) (b : Option Addr) (d : Nat) (hin2 : InN w Lb Sb sb fb b eb) (s : ByteArray) (hr : errS La Sa sa fa ea Lb Sb sb fb eb ≠ 0) :
    Calls Try.prog 8 #[.agg #[.int .i64 La, .int .i64 Sa, .int .u64 sa, .int .u64 fa, .slice a ea.length c], .agg #[.int .i64 Lb, .int .i64 Sb, .int .u64 sb, .int .u64 fb, .slice b eb.length d], .string s] w fun e w' => e = .returned (.bool true) ∧ Below w.heap.size w w' := by
  have HI := Lib.hid hin
  have HI2 := Lib.hid hin2
  have D1 := Lib.hid (fun W (h : InN W La Sa sa fa a ea) (h2 : InN W Lb Sb sb fb b eb) => sum_err La Sa sa fa ea a c Lb Sb sb fb eb b d W h h2 hr)
  have D2 := Lib.hid (fun W (h : InN W La Sa sa fa a ea) (h2 : InN W Lb Sb sb fb b eb) => rsum_err La Sa sa fa ea a c Lb Sb sb fb eb b d W h h2 hr)
  obtain ⟨r, hrr⟩ : ∃ r, r = errS La Sa sa fa ea Lb Sb sb fb eb := ⟨_, rfl⟩
  rw [← hrr] at D1 D2 hr
  have tr : (r != 0) = true := by simpa using hr
  have trr : (r != r) = false := by simp
  unfold zeroN at D1 D2
  obtain ⟨n, hn⟩ : ∃ n, n = ea.length := ⟨_, rfl⟩
  obtain ⟨k, hk⟩ : ∃ n, n = eb.length := ⟨_, rfl⟩
  rw [← hn] at D1 D2 ⊢
  rw [← hk] at D1 D2 ⊢
  obtain ⟨W0, hW0⟩ : ∃ W0, W0 = (w.alloc (.cells #[.int .i64 La, .int .i64 Sa, .int .u64 sa, .int .u64 fa, .slice a n c] 25)).alloc (.cells #[.int .i64 Lb, .int .i64 Sb, .int .u64 sb, .int .u64 fb, .slice b k d] 25) := ⟨_, rfl⟩
  have hBW : Below w.heap.size w W0 := by rw [hW0]; exact ((Below.refl _ w).alloc (Nat.le_refl _) _).alloc (by simp) _
  have hs0 : W0.heap.size = w.heap.size + 2 := by rw [hW0]; simp
  have ha0 : W0.heap[w.heap.size]? = some (.cells #[.int .i64 La, .int .i64 Sa, .int .u64 sa, .int .u64 fa, .slice a n c] 25) := by rw [hW0]; exact heap_old (heap_new _ _)
  have hb0 : W0.heap[w.heap.size + 1]? = some (.cells #[.int .i64 Lb, .int .i64 Sb, .int .u64 sb, .int .u64 fb, .slice b k d] 25) := by rw [hW0]; exact heap_new' (by simp)
  have HBW := Lib.hid hBW
  have HS0 := Lib.hid hs0
  have HA0 := Lib.hid ha0
  have HB0 := Lib.hid hb0
  have HIA := Lib.hid (HI.out.keep hBW)
  have HIB := Lib.hid (HI2.out.keep hBW)
  clear hin hin2 hr hrr hn hk hBW hs0 ha0 hb0
  go_enter Try.func8, Try.ntmps8
  go_wp2_with fail
  rw [← hW0] at *
  clear hW0
  refine (D1.out _ HIA.out HIB.out).mono ?_
  rintro e w1 ⟨rfl, hB⟩
  have HB1 := Lib.hid (show Below (w.heap.size + 2) W0 w1 from hB.mono (by rw [HS0.out]; exact Nat.le_refl _))
  have HS1 := Lib.hid (show w.heap.size + 2 ≤ w1.heap.size by have := hB.size; rw [HS0.out] at this; exact this)
  have HIA1 := Lib.hid (HIA.out.keep hB)
  have HIB1 := Lib.hid (HIB.out.keep hB)
  have ha := (HB1.out.block w.heap.size (by omega)).trans HA0.out
  have hb := (HB1.out.block (w.heap.size + 1) (by omega)).trans HB0.out
  have AA := fun o => (cells5_of (heap_old (o' := o) ha)).1
  have BB := fun o => (cells5_of (heap_old (o' := o) hb)).1
  have a0 := fun o => (AA o).1
  have a1 := fun o => (AA o).2.1
  have a2 := fun o => (AA o).2.2.1
  have a3 := fun o => (AA o).2.2.2.1
  have a4 := fun o => (AA o).2.2.2.2
  have b0 := fun o => (BB o).1
  have b1 := fun o => (BB o).2.1
  have b2 := fun o => (BB o).2.2.1
  have b3 := fun o => (BB o).2.2.2.1
  have b4 := fun o => (BB o).2.2.2.2
  clear hB ha hb AA BB
  go_wp2_with fail
  refine (D2.out _ (HIA1.out.box _) (HIB1.out.box _)).mono ?_
  rintro e w2 ⟨rfl, hB⟩
  have HB2 := Lib.hid hB
  have hz := (hB.block w1.heap.size (by simp)).trans (heap_new w1 (.cells #[.int .i64 0, .int .i64 0, .int .u64 0, .int .u64 0, .slice none 0 0] 25))
  have HBX := Lib.hid ((HBW.out.trans (HB1.out.mono (by omega))).trans (((Below.refl _ w1).alloc (Nat.le_refl _) (.cells #[.int .i64 0, .int .i64 0, .int .u64 0, .int .u64 0, .slice none 0 0] 25)).mono (by have := HS1.out; omega) |>.trans (hB.mono (by have := HS1.out; simp; omega))))
  have ZZ := fun o => (cells5_of (heap_old (o' := o) hz)).1
  have y0 := fun o => (ZZ o).1
  have y1 := fun o => (ZZ o).2.1
  have y2 := fun o => (ZZ o).2.2.1
  have y3 := fun o => (ZZ o).2.2.2.1
  have y4 := fun o => (ZZ o).2.2.2.2
  clear hB hz ZZ a0 a1 a2 a3 a4 b0 b1 b2 b3 b4
  go_wp2_with fail
  refine (same_eq 0 0 0 0 [] none 0 none 0 _ ?_ ?_).mono ?_
  · exact ⟨.inl rfl, by unfold B64; omega, by unfold B64; omega, by omega, by omega, by simp⟩
  · exact ⟨.inl rfl, by unfold B64; omega, by unfold B64; omega, by omega, by omega, by simp⟩
  rintro e w3 ⟨rfl, hB⟩
  have HB3 := Lib.hid ((HBX.out.alloc HBX.out.size (.cells #[.int .i64 0, .int .i64 0, .int .u64 0, .int .u64 0, .slice none 0 0] 25)).trans (hB.mono (by have := HBX.out.size; simp; omega)))
  clear hB
  go_wp2_with fail
  refine (awake_any _).mono ?_
  rintro e w4 ⟨rfl, hB⟩
  have HB4 := Lib.hid (HB3.out.trans (hB.mono HB3.out.size))
  clear hB
  go_wp2_with fail
  go_ret
  exact ⟨rfl, HB4.out⟩
end Go.Proofs.Ytdoifdpmgmlpdaa
