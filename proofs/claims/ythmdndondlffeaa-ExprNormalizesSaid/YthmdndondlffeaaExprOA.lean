/- Contract: Normal. -/
import Derived.Test.YthmdndondlffeaaExprNY
import Derived.Test.YthmdndondlffeaaExprVS
namespace Go.Proofs.Ythmdndondlffeaa
open Go Go.RowKit Go.Sort
set_option linter.unusedVariables false
theorem nrm_good {op l : Int} {ks : List T} (h : valB (.node op l ks) = true) : wfT 6 (nrmT (.node op l ks)) = true := (nrm_all _ (valB_within h).2).1.1
set_option maxRecDepth 100000 in
set_option maxHeartbeats 2000000 in
theorem normalP_yes (op l : Int) (ks : List T) (a : Option Addr) (c : Nat) (w : World) (hin : InX w op l ks a) (hv : valB (.node op l ks) = true) :
    Calls Try.prog 6 #[.agg #[.int .i64 op, .int .i64 l, .slice a ks.length c]] w (GiveT w (nrmT (.node op l ks))) := by
  have HI := Lib.hid hin
  have HV := Lib.hid (fun W (h : InX W op l ks a) => valid_any op l ks a c W h)
  have HVV := Lib.hid hv
  have HC := Lib.hid (fun W (h : InX W op l ks a) => normal_any op l ks (valB_within hv).2 (by have := (valB_size hv).1; omega) a c W h)
  obtain ⟨ro, rl, rk, hr⟩ : ∃ o1 l1 k1, nrmT (.node op l ks) = .node o1 l1 k1 := by
    cases h : nrmT (.node op l ks) with
    | node o l k => exact ⟨o, l, k, rfl⟩
  have HGD := Lib.hid (show wfT 6 (.node ro rl rk) = true by rw [← hr]; exact nrm_good hv)
  rw [hr] at HC ⊢
  obtain ⟨n, hn⟩ : ∃ n, n = ks.length := ⟨_, rfl⟩
  rw [← hn] at HV HC ⊢
  clear hin hv hr hn
  have HB0 := Lib.hid (((Below.refl w.heap.size w).alloc (Nat.le_refl _) (.cells #[.int .i64 op, .int .i64 l, .slice a n c] 24)).alloc (by simp) (.cells #[.int .i64 0, .int .i64 0, .slice none 0 0] 24))
  have HBX := Lib.hid ((Box.new w (.int .i64 op) (.int .i64 l) (.slice a n c)).alloc (.cells #[.int .i64 0, .int .i64 0, .slice none 0 0] 24))
  have HZ0 := Lib.hid (show Zero3 ((w.alloc (.cells #[.int .i64 op, .int .i64 l, .slice a n c] 24)).alloc (.cells #[.int .i64 0, .int .i64 0, .slice none 0 0] 24)) (w.heap.size + 1) by
    have := Zero3.new (w.alloc (.cells #[.int .i64 op, .int .i64 l, .slice a n c] 24)); simpa using this)
  have HI0 := Lib.hid (HI.out.keep HB0.out)
  go_enter Try.func6, Try.ntmps6
  go_wp2_with fail
  refine (HV.out _ HI0.out).mono ?_
  rintro e w2 ⟨rfl, hB⟩
  rw [HVV.out]
  have HI2 := Lib.hid (HI0.out.keep hB)
  have HZ := Lib.hid (HZ0.out.keep hB)
  have HBP := Lib.hid (HB0.out.trans (hB.mono HB0.out.size))
  obtain ⟨p0, p1, p2⟩ := HBX.out.keep hB
  clear hB
  go_wp2_with fail
  refine (HC.out _ HI2.out).mono ?_
  rintro e w3 hgv
  obtain ⟨a', c', rfl, hx', hb'⟩ := give_node.1 hgv
  clear hgv
  have HZz := Lib.hid (HZ.out.keep hb')
  obtain ⟨⟨z0, z1, z2⟩, f0, f1, f2⟩ := HZz.out
  have HBF := Lib.hid (below_ret (HBP.out.trans (hb'.mono HBP.out.size)) (b0 := w.heap.size + 1) (by omega) (.int .i64 ro) (.int .i64 rl) (.slice a' rk.length c'))
  have HXF := Lib.hid (inX_ret (x := ⟨ro, rl, rk, a', c'⟩) z0 z1 z2 hx' HGD.out (.int .i64 ro) (.int .i64 rl) (.slice a' rk.length c'))
  clear hx' hb'
  go_wp2_with fail
  refine bodyPost_ret (v := .agg #[.int .i64 ro, .int .i64 rl, .slice a' rk.length c']) (by simp [results, Try.results6, go_sem, z0, z1, z2]) rfl ⟨a', c', rfl, HXF.out, HBF.out⟩
set_option maxRecDepth 100000 in
set_option maxHeartbeats 2000000 in
theorem normalP_no (op l : Int) (ks : List T) (a : Option Addr) (c : Nat) (w : World) (hin : InX w op l ks a) (hv : valB (.node op l ks) = false) :
    Calls Try.prog 6 #[.agg #[.int .i64 op, .int .i64 l, .slice a ks.length c]] w fun e w' => e = .returned (.agg #[.int .i64 0, .int .i64 0, .slice none 0 0]) ∧ Below w.heap.size w w' := by
  have HI := Lib.hid hin
  have HV := Lib.hid (fun W (h : InX W op l ks a) => valid_any op l ks a c W h)
  have HVV := Lib.hid hv
  obtain ⟨n, hn⟩ : ∃ n, n = ks.length := ⟨_, rfl⟩
  rw [← hn] at HV ⊢
  clear hin hv hn
  have HB0 := Lib.hid (((Below.refl w.heap.size w).alloc (Nat.le_refl _) (.cells #[.int .i64 op, .int .i64 l, .slice a n c] 24)).alloc (by simp) (.cells #[.int .i64 0, .int .i64 0, .slice none 0 0] 24))
  have HBX := Lib.hid ((Box.new w (.int .i64 op) (.int .i64 l) (.slice a n c)).alloc (.cells #[.int .i64 0, .int .i64 0, .slice none 0 0] 24))
  have HZ0 := Lib.hid (show Zero3 ((w.alloc (.cells #[.int .i64 op, .int .i64 l, .slice a n c] 24)).alloc (.cells #[.int .i64 0, .int .i64 0, .slice none 0 0] 24)) (w.heap.size + 1) by
    have := Zero3.new (w.alloc (.cells #[.int .i64 op, .int .i64 l, .slice a n c] 24)); simpa using this)
  have HI0 := Lib.hid (HI.out.keep HB0.out)
  go_enter Try.func6, Try.ntmps6
  go_wp2_with fail
  refine (HV.out _ HI0.out).mono ?_
  rintro e w2 ⟨rfl, hB⟩
  rw [HVV.out]
  obtain ⟨⟨z0, z1, z2⟩, f0, f1, f2⟩ := HZ0.out.keep hB
  have HBF := Lib.hid (below_ret (HB0.out.trans (hB.mono HB0.out.size)) (b0 := w.heap.size + 1) (by omega) (.int .i64 0) (.int .i64 0) (.slice none 0 0))
  clear hB
  go_wp2_with fail
  refine bodyPost_ret (v := .agg #[.int .i64 0, .int .i64 0, .slice none 0 0]) (by simp [results, Try.results6, go_sem, z0, z1, z2]) rfl ⟨rfl, HBF.out⟩
end Go.Proofs.Ythmdndondlffeaa
