/- Contract: Size. -/
import Derived.Test.YthmdndondlffeaaExprBX
namespace Go.Proofs.Ythmdndondlffeaa
open Go Go.RowKit
set_option linter.unusedVariables false
set_option maxRecDepth 100000 in
set_option maxHeartbeats 1000000 in
theorem sizeP_no (op l : Int) (ks : List T) (a : Option Addr) (c : Nat) (w : World) (hin : InX w op l ks a) (hv : valB (.node op l ks) = false) :
    Calls Try.prog 12 #[.agg #[.int .i64 op, .int .i64 l, .slice a ks.length c]] w fun e w' => e = .returned (.int .i64 0) ∧ Below w.heap.size w w' := by
  have HI := Lib.hid hin
  have HV := Lib.hid (fun W (h : InX W op l ks a) => valid_any op l ks a c W h)
  have HVV := Lib.hid hv
  clear hin hv
  obtain ⟨n, hn⟩ : ∃ n, n = ks.length := ⟨_, rfl⟩
  rw [← hn] at HV ⊢
  clear hn
  have HB0 := Lib.hid ((Below.refl w.heap.size w).alloc (Nat.le_refl _) (.cells #[.int .i64 op, .int .i64 l, .slice a n c] 24))
  have HI0 := Lib.hid (HI.out.box (.cells #[.int .i64 op, .int .i64 l, .slice a n c] 24))
  go_enter Try.func12, Try.ntmps12
  go_wp2_with fail
  refine (HV.out _ HI0.out).mono ?_
  rintro e w2 ⟨rfl, hB⟩
  rw [HVV.out]
  have HB2 := Lib.hid (HB0.out.trans (hB.mono (by simp)))
  clear hB
  go_wp2_with fail
  go_ret
  exact ⟨rfl, HB2.out⟩
set_option maxRecDepth 100000 in
set_option maxHeartbeats 1000000 in
theorem sizeP_yes (op l : Int) (ks : List T) (a : Option Addr) (c : Nat) (w : World) (hin : InX w op l ks a) (hv : valB (.node op l ks) = true) :
    Calls Try.prog 12 #[.agg #[.int .i64 op, .int .i64 l, .slice a ks.length c]] w fun e w' => e = .returned (.int .i64 (sizeT (.node op l ks) : Nat)) ∧ Below w.heap.size w w' := by
  have HI := Lib.hid hin
  have HV := Lib.hid (fun W (h : InX W op l ks a) => valid_any op l ks a c W h)
  have HVV := Lib.hid hv
  have HQ := Lib.hid (fun W (h : InX W op l ks a) => spend_any op l ks 400 40 a c W h.1 (by omega) (by omega) h.2.1 h.2.2.1 h.2.2.2)
  have he : (400 : Int) - (spentL ks 400 40) = ((sizeT (.node op l ks) : Nat) : Int) := by rw [spentL_node op l, if_pos ⟨(valB_size hv).1, (valB_size hv).2.1⟩]; omega
  obtain ⟨r, hr⟩ : ∃ r, r = spentL ks 400 40 := ⟨_, rfl⟩
  rw [← hr] at HQ he
  have HE := Lib.hid he
  clear he
  clear hin hv hr
  obtain ⟨n, hn⟩ : ∃ n, n = ks.length := ⟨_, rfl⟩
  rw [← hn] at HV HQ ⊢
  clear hn
  have HB0 := Lib.hid ((Below.refl w.heap.size w).alloc (Nat.le_refl _) (.cells #[.int .i64 op, .int .i64 l, .slice a n c] 24))
  have HI0 := Lib.hid (HI.out.box (.cells #[.int .i64 op, .int .i64 l, .slice a n c] 24))
  go_enter Try.func12, Try.ntmps12
  go_wp2_with fail
  refine (HV.out _ HI0.out).mono ?_
  rintro e w2 ⟨rfl, hB⟩
  rw [HVV.out]
  have HB1 := Lib.hid (show Below (w.heap.size + 1) _ w2 from hB.mono (by simp))
  obtain ⟨x0, x1, x2⟩ := box_cells HB1.out
  have HI2 := Lib.hid (HI0.out.keep hB)
  clear hB
  go_wp2_with fail
  refine (HQ.out _ HI2.out).mono ?_
  rintro e w3 ⟨rfl, hB⟩
  have HB3 := Lib.hid (below_box (HB1.out.trans (hB.mono (by have := HB1.out.size; simp at this; omega))))
  clear hB x0 x1 x2
  go_wp2_with fail
  go_ret
  exact ⟨by have h8 := (valB_size HVV.out).1; have h9 := HE.out; rw [← HE.out]; simp [wrap64]; omega, HB3.out⟩
end Go.Proofs.Ythmdndondlffeaa
