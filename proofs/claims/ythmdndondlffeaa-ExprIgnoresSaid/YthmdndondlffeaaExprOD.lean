/- Walk of the law ExprIgnores. -/
import Derived.Test.YthmdndondlffeaaExprOC
import Derived.Lib.QuietBelow
import Derived.BigQuiet
namespace Go.Proofs.Ythmdndondlffeaa
open Go Go.RowKit Go.Sort
set_option linter.unusedVariables false
set_option maxRecDepth 100000 in
set_option maxHeartbeats 16000000 in
theorem wExprIgnores {w : World} (op1 l1 : Int) (ks1 : List T) (a1 : Option Addr) (c1 : Nat) (in1 : InX w op1 l1 ks1 a1) (op2 l2 : Int) (ks2 : List T) (a2 : Option Addr) (c2 : Nat) (in2 : InX w op2 l2 ks2 a2) (op3 l3 : Int) (ks3 : List T) (a3 : Option Addr) (c3 : Nat) (in3 : InX w op3 l3 ks3 a3) :
    Calls Try.prog 5 #[.agg #[.int .i64 op1, .int .i64 l1, .slice a1 ks1.length c1], .agg #[.int .i64 op2, .int .i64 l2, .slice a2 ks2.length c2], .agg #[.int .i64 op3, .int .i64 l3, .slice a3 ks3.length c3]] w fun e w' => e = .returned (.bool true) ∧ Below w.heap.size w w' := by
  have DL1 := Lib.hid (fun W (h : InX W op1 l1 ks1 a1) => little_any op1 l1 ks1 60 a1 c1 W h)
  have DD1 := Lib.hid (fun (hs : sizeT (.node op1 l1 ks1) ≤ 400) W (h : InX W op1 l1 ks1 a1) => depthR_any op1 l1 ks1 a1 c1 W h hs)
  obtain ⟨n1, hn1⟩ : ∃ n, n = ks1.length := ⟨_, rfl⟩
  rw [← hn1] at DL1 DD1
  have HI1 := Lib.hid in1
  have DL2 := Lib.hid (fun W (h : InX W op2 l2 ks2 a2) => little_any op2 l2 ks2 60 a2 c2 W h)
  have DD2 := Lib.hid (fun (hs : sizeT (.node op2 l2 ks2) ≤ 400) W (h : InX W op2 l2 ks2 a2) => depthR_any op2 l2 ks2 a2 c2 W h hs)
  obtain ⟨n2, hn2⟩ : ∃ n, n = ks2.length := ⟨_, rfl⟩
  rw [← hn2] at DL2 DD2
  have HI2 := Lib.hid in2
  have DL3 := Lib.hid (fun W (h : InX W op3 l3 ks3 a3) => little_any op3 l3 ks3 60 a3 c3 W h)
  have DD3 := Lib.hid (fun (hs : sizeT (.node op3 l3 ks3) ≤ 400) W (h : InX W op3 l3 ks3 a3) => depthR_any op3 l3 ks3 a3 c3 W h hs)
  obtain ⟨n3, hn3⟩ : ∃ n, n = ks3.length := ⟨_, rfl⟩
  rw [← hn3] at DL3 DD3
  have HI3 := Lib.hid in3
  rw [← hn1, ← hn2, ← hn3]
  obtain ⟨W3, hW3⟩ : ∃ W, W = ((w.alloc (.cells #[.int .i64 op1, .int .i64 l1, .slice a1 n1 c1] 24)).alloc (.cells #[.int .i64 op2, .int .i64 l2, .slice a2 n2 c2] 24)).alloc (.cells #[.int .i64 op3, .int .i64 l3, .slice a3 n3 c3] 24) := ⟨_, rfl⟩
  have hsz3 : W3.heap.size = w.heap.size + 3 := by rw [hW3]; simp
  have hB3 : Below w.heap.size w W3 := by rw [hW3]; exact (((Below.refl _ _).alloc (Nat.le_refl _) _).alloc (by simp) _).alloc (by simp; omega) _
  have hb1 : Box W3 w.heap.size (.int .i64 op1) (.int .i64 l1) (.slice a1 n1 c1) := by rw [hW3]; exact ((Box.new w _ _ _).alloc _).alloc _
  have hb2 : Box W3 (w.heap.size + 1) (.int .i64 op2) (.int .i64 l2) (.slice a2 n2 c2) := by
    rw [hW3]; have := (Box.new (w.alloc (.cells #[.int .i64 op1, .int .i64 l1, .slice a1 n1 c1] 24)) (.int .i64 op2) (.int .i64 l2) (.slice a2 n2 c2)).alloc (.cells #[.int .i64 op3, .int .i64 l3, .slice a3 n3 c3] 24); simpa using this
  have hb3 : Box W3 (w.heap.size + 2) (.int .i64 op3) (.int .i64 l3) (.slice a3 n3 c3) := by
    rw [hW3]; have := Box.new ((w.alloc (.cells #[.int .i64 op1, .int .i64 l1, .slice a1 n1 c1] 24)).alloc (.cells #[.int .i64 op2, .int .i64 l2, .slice a2 n2 c2] 24)) (.int .i64 op3) (.int .i64 l3) (.slice a3 n3 c3); simpa using this
  have HBX := Lib.hid (And.intro hb1 (And.intro hb2 hb3))
  have HB3 := Lib.hid hB3
  have HW3 := Lib.hid hW3
  have HNN := Lib.hid (And.intro hn1 (And.intro hn2 hn3))
  have HX1 := Lib.hid (in1.keep hB3)
  have HX2 := Lib.hid (in2.keep hB3)
  have HX3 := Lib.hid (in3.keep hB3)
  cases hl1 : littleB (.node op1 l1 ks1) 60
  · have EL1 := Lib.hid (fun d os => DL1.out (grow (redrawn W3 d) os) (HX1.out.keep (below_regrown W3 d os)))
    rw [hl1] at EL1
    have p1 := fun d os => cell_regrown HBX.out.1.1 d os
    have q1 := fun d os => cell_regrown HBX.out.1.2.1 d os
    have r1 := fun d os => cell_regrown HBX.out.1.2.2 d os
    have p2 := fun d os => cell_regrown HBX.out.2.1.1 d os
    have q2 := fun d os => cell_regrown HBX.out.2.1.2.1 d os
    have r2 := fun d os => cell_regrown HBX.out.2.1.2.2 d os
    have p3 := fun d os => cell_regrown HBX.out.2.2.1 d os
    have q3 := fun d os => cell_regrown HBX.out.2.2.2.1 d os
    have r3 := fun d os => cell_regrown HBX.out.2.2.2.2 d os
    clear hn1 hn2 hn3 in1 in2 in3 hb1 hb2 hb3
    clear hl1
    rw [hW3] at p1 q1 r1 p2 q2 r2 p3 q3 r3 EL1
    clear hW3
    go_enter Try.func5, Try.ntmps5
    go_wp2_with fail
    refine wp_region_quiet_below (by kernel_rfl) (by kernel_rfl) ?_
    repeat (go_big_quiet_step (first | (with_reducible exact Calls.regrown_of (EL1.out _ _)) ))
    refine wpQuiet_nil ?_
    intro _ hw'
    obtain ⟨⟨dq, osq⟩, hw''⟩ := hw'
    subst hw''
    rw [← HW3.out]
    have HBQ := Lib.hid (below_regrown W3 dq osq)
    have HBW := Lib.hid (HB3.out.trans (HBQ.out.mono HB3.out.size))
    clear hsz3
    go_wp2_with fail
    refine (awake_any _).mono ?_
    rintro e w9 ⟨rfl, hB⟩
    have HB9 := Lib.hid (HBW.out.trans (hB.mono HBW.out.size))
    clear hB
    go_wp2_with fail
    go_ret
    exact ⟨rfl, HB9.out⟩
  cases hl2 : littleB (.node op2 l2 ks2) 60
  · have EL1 := Lib.hid (fun d os => DL1.out (grow (redrawn W3 d) os) (HX1.out.keep (below_regrown W3 d os)))
    rw [hl1] at EL1
    have EL2 := Lib.hid (fun d os => DL2.out (grow (redrawn W3 d) os) (HX2.out.keep (below_regrown W3 d os)))
    rw [hl2] at EL2
    have p1 := fun d os => cell_regrown HBX.out.1.1 d os
    have q1 := fun d os => cell_regrown HBX.out.1.2.1 d os
    have r1 := fun d os => cell_regrown HBX.out.1.2.2 d os
    have p2 := fun d os => cell_regrown HBX.out.2.1.1 d os
    have q2 := fun d os => cell_regrown HBX.out.2.1.2.1 d os
    have r2 := fun d os => cell_regrown HBX.out.2.1.2.2 d os
    have p3 := fun d os => cell_regrown HBX.out.2.2.1 d os
    have q3 := fun d os => cell_regrown HBX.out.2.2.2.1 d os
    have r3 := fun d os => cell_regrown HBX.out.2.2.2.2 d os
    clear hn1 hn2 hn3 in1 in2 in3 hb1 hb2 hb3
    clear hl1 hl2
    rw [hW3] at p1 q1 r1 p2 q2 r2 p3 q3 r3 EL1 EL2
    clear hW3
    go_enter Try.func5, Try.ntmps5
    go_wp2_with fail
    refine wp_region_quiet_below (by kernel_rfl) (by kernel_rfl) ?_
    repeat (go_big_quiet_step (first | (with_reducible exact Calls.regrown_of (EL1.out _ _)) | (with_reducible exact Calls.regrown_of (EL2.out _ _)) ))
    refine wpQuiet_nil ?_
    intro _ hw'
    obtain ⟨⟨dq, osq⟩, hw''⟩ := hw'
    subst hw''
    rw [← HW3.out]
    have HBQ := Lib.hid (below_regrown W3 dq osq)
    have HBW := Lib.hid (HB3.out.trans (HBQ.out.mono HB3.out.size))
    clear hsz3
    go_wp2_with fail
    refine (awake_any _).mono ?_
    rintro e w9 ⟨rfl, hB⟩
    have HB9 := Lib.hid (HBW.out.trans (hB.mono HBW.out.size))
    clear hB
    go_wp2_with fail
    go_ret
    exact ⟨rfl, HB9.out⟩
  cases hl3 : littleB (.node op3 l3 ks3) 60
  · have EL1 := Lib.hid (fun d os => DL1.out (grow (redrawn W3 d) os) (HX1.out.keep (below_regrown W3 d os)))
    rw [hl1] at EL1
    have EL2 := Lib.hid (fun d os => DL2.out (grow (redrawn W3 d) os) (HX2.out.keep (below_regrown W3 d os)))
    rw [hl2] at EL2
    have EL3 := Lib.hid (fun d os => DL3.out (grow (redrawn W3 d) os) (HX3.out.keep (below_regrown W3 d os)))
    rw [hl3] at EL3
    have p1 := fun d os => cell_regrown HBX.out.1.1 d os
    have q1 := fun d os => cell_regrown HBX.out.1.2.1 d os
    have r1 := fun d os => cell_regrown HBX.out.1.2.2 d os
    have p2 := fun d os => cell_regrown HBX.out.2.1.1 d os
    have q2 := fun d os => cell_regrown HBX.out.2.1.2.1 d os
    have r2 := fun d os => cell_regrown HBX.out.2.1.2.2 d os
    have p3 := fun d os => cell_regrown HBX.out.2.2.1 d os
    have q3 := fun d os => cell_regrown HBX.out.2.2.2.1 d os
    have r3 := fun d os => cell_regrown HBX.out.2.2.2.2 d os
    clear hn1 hn2 hn3 in1 in2 in3 hb1 hb2 hb3
    clear hl1 hl2 hl3
    rw [hW3] at p1 q1 r1 p2 q2 r2 p3 q3 r3 EL1 EL2 EL3
    clear hW3
    go_enter Try.func5, Try.ntmps5
    go_wp2_with fail
    refine wp_region_quiet_below (by kernel_rfl) (by kernel_rfl) ?_
    repeat (go_big_quiet_step (first | (with_reducible exact Calls.regrown_of (EL1.out _ _)) | (with_reducible exact Calls.regrown_of (EL2.out _ _)) | (with_reducible exact Calls.regrown_of (EL3.out _ _)) ))
    refine wpQuiet_nil ?_
    intro _ hw'
    obtain ⟨⟨dq, osq⟩, hw''⟩ := hw'
    subst hw''
    rw [← HW3.out]
    have HBQ := Lib.hid (below_regrown W3 dq osq)
    have HBW := Lib.hid (HB3.out.trans (HBQ.out.mono HB3.out.size))
    clear hsz3
    go_wp2_with fail
    refine (awake_any _).mono ?_
    rintro e w9 ⟨rfl, hB⟩
    have HB9 := Lib.hid (HBW.out.trans (hB.mono HBW.out.size))
    clear hB
    go_wp2_with fail
    go_ret
    exact ⟨rfl, HB9.out⟩
  have EL1 := Lib.hid (fun d os => DL1.out (grow (redrawn W3 d) os) (HX1.out.keep (below_regrown W3 d os)))
  rw [hl1] at EL1
  have EL2 := Lib.hid (fun d os => DL2.out (grow (redrawn W3 d) os) (HX2.out.keep (below_regrown W3 d os)))
  rw [hl2] at EL2
  have EL3 := Lib.hid (fun d os => DL3.out (grow (redrawn W3 d) os) (HX3.out.keep (below_regrown W3 d os)))
  rw [hl3] at EL3
  have ED1 := Lib.hid (fun d os => DD1.out (valB_size (little_parts hl1).1).1 (grow (redrawn W3 d) os) (HX1.out.keep (below_regrown W3 d os)))
  obtain ⟨d1, hd1⟩ : ∃ d : Int, d = (depthT (.node op1 l1 ks1) : Nat) := ⟨_, rfl⟩
  rw [← hd1] at ED1
  have hdl1 : d1 ≤ 12 := by have := (little_parts hl1).2.2; omega
  have HL1 := Lib.hid hl1
  have ED2 := Lib.hid (fun d os => DD2.out (valB_size (little_parts hl2).1).1 (grow (redrawn W3 d) os) (HX2.out.keep (below_regrown W3 d os)))
  obtain ⟨d2, hd2⟩ : ∃ d : Int, d = (depthT (.node op2 l2 ks2) : Nat) := ⟨_, rfl⟩
  rw [← hd2] at ED2
  have hdl2 : d2 ≤ 12 := by have := (little_parts hl2).2.2; omega
  have HL2 := Lib.hid hl2
  have ED3 := Lib.hid (fun d os => DD3.out (valB_size (little_parts hl3).1).1 (grow (redrawn W3 d) os) (HX3.out.keep (below_regrown W3 d os)))
  obtain ⟨d3, hd3⟩ : ∃ d : Int, d = (depthT (.node op3 l3 ks3) : Nat) := ⟨_, rfl⟩
  rw [← hd3] at ED3
  have hdl3 : d3 ≤ 12 := by have := (little_parts hl3).2.2; omega
  have HL3 := Lib.hid hl3
  obtain ⟨M, hM⟩ : ∃ M : Int, (if (if d1 < d2 then d2 else d1) < d3 then d3 else if d1 < d2 then d2 else d1) = M := ⟨_, rfl⟩
  have hMl : M ≤ 38 := by rw [← hM]; split <;> (try split) <;> omega
  have p1 := fun d os => cell_regrown HBX.out.1.1 d os
  have q1 := fun d os => cell_regrown HBX.out.1.2.1 d os
  have r1 := fun d os => cell_regrown HBX.out.1.2.2 d os
  have p2 := fun d os => cell_regrown HBX.out.2.1.1 d os
  have q2 := fun d os => cell_regrown HBX.out.2.1.2.1 d os
  have r2 := fun d os => cell_regrown HBX.out.2.1.2.2 d os
  have p3 := fun d os => cell_regrown HBX.out.2.2.1 d os
  have q3 := fun d os => cell_regrown HBX.out.2.2.2.1 d os
  have r3 := fun d os => cell_regrown HBX.out.2.2.2.2 d os
  clear hn1 hn2 hn3 in1 in2 in3 hb1 hb2 hb3
  clear hl1 hl2 hl3
  clear hd1 hd2 hd3
  rw [hW3] at p1 q1 r1 p2 q2 r2 p3 q3 r3 EL1 EL2 EL3 ED1 ED2 ED3
  clear hW3
  go_enter Try.func5, Try.ntmps5
  go_wp2_with fail
  refine wp_region_quiet_below (by kernel_rfl) (by kernel_rfl) ?_
  repeat (go_big_quiet_step (first | (with_reducible exact Calls.regrown_of (EL1.out _ _)) | (with_reducible exact Calls.regrown_of (EL2.out _ _)) | (with_reducible exact Calls.regrown_of (EL3.out _ _)) | (with_reducible exact Calls.regrown_of (ED1.out _ _)) | (with_reducible exact Calls.regrown_of (ED2.out _ _)) | (with_reducible exact Calls.regrown_of (ED3.out _ _)) ))
  refine wpQuiet_nil ?_
  intro _ hw'
  obtain ⟨⟨dq, osq⟩, hw''⟩ := hw'
  subst hw''
  rw [← HW3.out]
  have HBQ := Lib.hid (below_regrown W3 dq osq)
  generalize hW4 : grow (redrawn W3 dq) osq = W4 at HBQ ⊢
  clear hW4 p1 q1 r1 p2 q2 r2 p3 q3 r3 EL1 EL2 EL3 ED1 ED2 ED3
  have HV1 := Lib.hid (little_parts HL1.out)
  have HV2 := Lib.hid (little_parts HL2.out)
  have HV3 := Lib.hid (little_parts HL3.out)
  have HB5 := Lib.hid (HBQ.out.alloc HBQ.out.size (.cells #[.int .i64 4, .int .i64 6] 3))
  have hc0 : (W4.alloc (.cells #[.int .i64 4, .int .i64 6] 3)).cell? ⟨W4.heap.size, 0, none⟩ = some (.int .i64 4) := by simp [go_sem]
  have hc1 : (W4.alloc (.cells #[.int .i64 4, .int .i64 6] 3)).cell? ⟨W4.heap.size, 1, none⟩ = some (.int .i64 6) := by simp [go_sem]
  have hlt4 : W4.heap.size < (W4.alloc (.cells #[.int .i64 4, .int .i64 6] 3)).heap.size := by simp
  have HCC := Lib.hid (And.intro hc0 (And.intro hc1 hlt4))
  clear hc0 hc1 hlt4
  go_wp2_with fail
  go_loopw [39] (fun vi wr => ∃ (i : Nat), i ≤ 2 ∧ vi = .int .i64 i ∧ Below (W4.alloc (.cells #[.int .i64 4, .int .i64 6] 3)).heap.size (W4.alloc (.cells #[.int .i64 4, .int .i64 6] 3)) wr) (fun vi _ => 2 - (intOf vi).toNat)
  case atStart => exact ⟨0, by omega, rfl, Below.refl _ _⟩
  case round =>
    rename World => wA
    obtain ⟨i, hi, rfl, hbel⟩ := hrel
    have HBA := Lib.hid hbel
    have HA3 := Lib.hid (HB5.out.trans (hbel.mono HB5.out.size))
    clear hbel
    obtain ⟨p1, q1, r1⟩ := HBX.out.1.keep HA3.out
    obtain ⟨p2, q2, r2⟩ := HBX.out.2.1.keep HA3.out
    obtain ⟨p3, q3, r3⟩ := HBX.out.2.2.keep HA3.out
    by_cases hlt : i < 2
    · obtain ⟨opv, hop, hcv⟩ : ∃ opv : Int, (opv = 4 ∨ opv = 6) ∧ wA.cell? ⟨W4.heap.size, i, none⟩ = some (.int .i64 opv) := by
        match i, hlt with
        | 0, _ => exact ⟨4, .inl rfl, by rw [HBA.out.cell (p := ⟨W4.heap.size, 0, none⟩) HCC.out.2.2]; exact HCC.out.1⟩
        | 1, _ => exact ⟨6, .inr rfl, by rw [HBA.out.cell (p := ⟨W4.heap.size, 1, none⟩) HCC.out.2.2]; exact HCC.out.2.1⟩
      have hi0 : (0 : Int) ≤ (i : Int) := by omega
      have hin2 : (i : Int) < 2 := by omega
      have hwi : IntKind.i64.wrap (i : Int) = (i : Int) := IntWalk.i64_in _ (by omega)
      have hop' : opv = 4 ∨ opv = 5 ∨ opv = 6 := by omega
      have hvx := val_list hop' (ts := [.node op1 l1 ks1, .node op2 l2 ks2, .node op3 l3 ks3]) (by simp) (by have := HV1.out.2.1; have := HV2.out.2.1; have := HV3.out.2.1; simp only [sizeL]; omega) (by have := HV1.out.2.2; have := HV2.out.2.2; have := HV3.out.2.2; simp only [depthL]; omega) (by
        intro t ht; simp only [List.mem_cons, List.not_mem_nil, or_false] at ht
        rcases ht with rfl | rfl | rfl
        · exact (valB_within HV1.out.1).2
        · exact (valB_within HV2.out.1).2
        · exact (valB_within HV3.out.1).2)
      have hvz := val_list hop' (ts := [.node op3 l3 ks3, .node op1 l1 ks1]) (by simp) (by have := HV1.out.2.1; have := HV3.out.2.1; simp only [sizeL]; omega) (by have := HV1.out.2.2; have := HV3.out.2.2; simp only [depthL]; omega) (by
        intro t ht; simp only [List.mem_cons, List.not_mem_nil, or_false] at ht
        rcases ht with rfl | rfl
        · exact (valB_within HV3.out.1).2
        · exact (valB_within HV1.out.1).2)
      have hvy := val_list hop' (ts := [.node opv 0 [.node op3 l3 ks3, .node op1 l1 ks1], .node op2 l2 ks2, .node op1 l1 ks1]) (by simp) (by have h1 := HV1.out.2.1; have h2 := HV2.out.2.1; have h3 := HV3.out.2.1; simp only [sizeL, sizeT] at h1 h2 h3 ⊢; omega) (by have h1 := HV1.out.2.2; have h2 := HV2.out.2.2; have h3 := HV3.out.2.2; simp only [depthL, depthT] at h1 h2 h3 ⊢; omega) (by
        intro t ht; simp only [List.mem_cons, List.not_mem_nil, or_false] at ht
        rcases ht with rfl | rfl | rfl
        · exact (valB_within hvz).2
        · exact (valB_within HV2.out.1).2
        · exact (valB_within HV1.out.1).2)
      obtain ⟨xo, xl, xk, hxr⟩ : ∃ o' l' k', nrmT (.node opv 0 [.node op1 l1 ks1, .node op2 l2 ks2, .node op3 l3 ks3]) = .node o' l' k' := by
        cases h : nrmT (.node opv 0 [.node op1 l1 ks1, .node op2 l2 ks2, .node op3 l3 ks3]) with
        | node o l k => exact ⟨o, l, k, rfl⟩
      have hyr := (nrm_set hop (valB_within HV1.out.1).2 (valB_within HV2.out.1).2 (valB_within HV3.out.1).2).symm.trans hxr
      have hxv : valB (.node xo xl xk) = true := by rw [← hxr]; exact (nrm_val hvx).1
      obtain ⟨xn, hxn⟩ : ∃ n, n = xk.length := ⟨_, rfl⟩
      have HVX := Lib.hid hvx
      have HVY := Lib.hid hvy
      have HXR := Lib.hid hxr
      have HYR := Lib.hid hyr
      have HXN := Lib.hid hxn
      have HOP := Lib.hid hop'
      have HVZ := Lib.hid (show wfT 6 (.node opv 0 [.node op3 l3 ks3, .node op1 l1 ks1]) = true from (valB_within hvz).2)
      have CV := Lib.hid (fun a' c' W (h : InX W xo xl xk a') => validate_any xo xl xk 6 a' c' W h)
      rw [(errT_six _).2 hxv, ← hxn] at CV
      have CM := Lib.hid (fun a' c' a9 c9 W (h : InX W xo xl xk a') (h9 : InX W xo xl xk a9) => same_any xo xl xk xo xl xk a' a9 c' c9 W h h9)
      rw [cmpT_self, ← hxn] at CM
      clear hvx hvz hvy hxr hyr hxv hxn hop hop'
      go_wp2_with fail
      refine (nrm_list HOP.out [⟨op1, l1, ks1, a1, c1⟩, ⟨op2, l2, ks2, a2, c2⟩, ⟨op3, l3, ks3, a3, c3⟩] HVX.out HXR.out wA.heap.size 3 3 xn rfl HXN.out ?_ ?_).mono ?_
      · have h := heap_alloc_new wA (.cells #[.int .i64 op1, .int .i64 l1, .slice a1 n1 c1, .int .i64 op2, .int .i64 l2, .slice a2 n2 c2, .int .i64 op3, .int .i64 l3, .slice a3 n3 c3] 24)
        rw [h, HNN.out.1, HNN.out.2.1, HNN.out.2.2]; rfl
      · intro x hx; simp only [List.mem_cons, List.not_mem_nil, or_false] at hx
        rcases hx with rfl | rfl | rfl
        · exact HX1.out.keep (HA3.out.alloc HA3.out.size _)
        · exact HX2.out.keep (HA3.out.alloc HA3.out.size _)
        · exact HX3.out.keep (HA3.out.alloc HA3.out.size _)
      rintro e w6 ⟨ax, cx, rfl, hx6, hB⟩
      have HB6 := Lib.hid (HBA.out.trans ((Below.refl wA.heap.size wA).alloc (Nat.le_refl _) (.cells #[.int .i64 op1, .int .i64 l1, .slice a1 n1 c1, .int .i64 op2, .int .i64 l2, .slice a2 n2 c2, .int .i64 op3, .int .i64 l3, .slice a3 n3 c3] 24) |>.trans (hB.mono (by simp)) |>.mono HBA.out.size) |>.alloc (by have h1 := HBA.out.size; have h2 := hB.size; simp only [World.size_alloc] at h1 h2 ⊢; omega) (.cells #[.int .i64 xo, .int .i64 xl, .slice ax xn cx] 24))
      have HB63 := Lib.hid (HB5.out.trans (HB6.out.mono HB5.out.size))
      have BX9 := Lib.hid (Box.new w6 (.int .i64 xo) (.int .i64 xl) (.slice ax xn cx))
      have IX9 := Lib.hid (hx6.box (.cells #[.int .i64 xo, .int .i64 xl, .slice ax xn cx] 24))
      clear hx6 hB p1 p2 p3 q1 q2 q3 r1 r2 r3
      obtain ⟨p1, q1, r1⟩ := HBX.out.1.keep HB63.out
      obtain ⟨p2, q2, r2⟩ := HBX.out.2.1.keep HB63.out
      obtain ⟨p3, q3, r3⟩ := HBX.out.2.2.keep HB63.out
      have HB64 := Lib.hid (HB63.out.alloc HB63.out.size (.cells #[.int .i64 op3, .int .i64 l3, .slice a3 n3 c3, .int .i64 op1, .int .i64 l1, .slice a1 n1 c1] 24))
      obtain ⟨s1, u1, v1⟩ := HBX.out.1.keep HB64.out
      obtain ⟨s2, u2, v2⟩ := HBX.out.2.1.keep HB64.out
      have HB65 := Lib.hid (HB64.out.alloc HB64.out.size (.cells #[.int .i64 opv, .int .i64 0, .slice (some ⟨w6.heap.size + 1, 0, none⟩) 2 2, .int .i64 op2, .int .i64 l2, .slice a2 n2 c2, .int .i64 op1, .int .i64 l1, .slice a1 n1 c1] 24))
      go_wp2_with fail
      refine (nrm_list HOP.out [⟨opv, 0, [.node op3 l3 ks3, .node op1 l1 ks1], some ⟨w6.heap.size + 1, 0, none⟩, 2⟩, ⟨op2, l2, ks2, a2, c2⟩, ⟨op1, l1, ks1, a1, c1⟩] HVY.out HYR.out _ 3 3 xn rfl HXN.out ?_ ?_).mono ?_
      · have h := heap_alloc_new ((w6.alloc (.cells #[.int .i64 xo, .int .i64 xl, .slice ax xn cx] 24)).alloc (.cells #[.int .i64 op3, .int .i64 l3, .slice a3 n3 c3, .int .i64 op1, .int .i64 l1, .slice a1 n1 c1] 24)) (.cells #[.int .i64 opv, .int .i64 0, .slice (some ⟨w6.heap.size + 1, 0, none⟩) 2 2, .int .i64 op2, .int .i64 l2, .slice a2 n2 c2, .int .i64 op1, .int .i64 l1, .slice a1 n1 c1] 24)
        simp only [World.size_alloc] at h
        rw [h, HNN.out.1, HNN.out.2.1]; rfl
      · intro x hx; simp only [List.mem_cons, List.not_mem_nil, or_false] at hx
        rcases hx with rfl | rfl | rfl
        · refine ⟨inK_block (xs := [⟨op3, l3, ks3, a3, c3⟩, ⟨op1, l1, ks1, a1, c1⟩]) (e := 24) ?_ ?_, by have := HOP.out; unfold B64; simp only; omega, by unfold B64; simp only; omega, by simp⟩
          · have h := heap_alloc_new (w6.alloc (.cells #[.int .i64 xo, .int .i64 xl, .slice ax xn cx] 24)) (.cells #[.int .i64 op3, .int .i64 l3, .slice a3 n3 c3, .int .i64 op1, .int .i64 l1, .slice a1 n1 c1] 24)
            simp only [World.size_alloc] at h
            rw [Below.heap_alloc _ _ _ (by simp), h, HNN.out.1, HNN.out.2.2]; rfl
          · intro x hx; simp only [List.mem_cons, List.not_mem_nil, or_false] at hx
            rcases hx with rfl | rfl
            · exact HX3.out.keep HB65.out
            · exact HX1.out.keep HB65.out
        · exact HX2.out.keep HB65.out
        · exact HX1.out.keep HB65.out
      rintro e w7 ⟨ay, cy, rfl, hy7, hB⟩
      have hw67 := (((Below.refl (w6.alloc (.cells #[.int .i64 xo, .int .i64 xl, .slice ax xn cx] 24)).heap.size (w6.alloc (.cells #[.int .i64 xo, .int .i64 xl, .slice ax xn cx] 24))).alloc (Nat.le_refl _) (.cells #[.int .i64 op3, .int .i64 l3, .slice a3 n3 c3, .int .i64 op1, .int .i64 l1, .slice a1 n1 c1] 24)).alloc (by simp) (.cells #[.int .i64 opv, .int .i64 0, .slice (some ⟨w6.heap.size + 1, 0, none⟩) 2 2, .int .i64 op2, .int .i64 l2, .slice a2 n2 c2, .int .i64 op1, .int .i64 l1, .slice a1 n1 c1] 24)).trans (hB.mono (by simp))
      have hw68 := hw67.alloc hw67.size (.cells #[.int .i64 xo, .int .i64 xl, .slice ay xn cy] 24)
      have HB8 := Lib.hid (HB6.out.trans (hw68.mono HB6.out.size))
      have BX8 := Lib.hid (BX9.out.keep hw68)
      have IX8 := Lib.hid (IX9.out.keep hw68)
      have BY8 := Lib.hid (Box.new w7 (.int .i64 xo) (.int .i64 xl) (.slice ay xn cy))
      have IY8 := Lib.hid (hy7.box (.cells #[.int .i64 xo, .int .i64 xl, .slice ay xn cy] 24))
      clear hB hw67 hw68 hy7 s1 s2 u1 u2 v1 v2 p1 p2 p3 q1 q2 q3 r1 r2 r3
      obtain ⟨s1, u1, v1⟩ := BX8.out
      obtain ⟨s2, u2, v2⟩ := BY8.out
      go_wp2_with fail
      refine (CV.out _ _ _ IX8.out).mono ?_
      rintro e w8 ⟨rfl, hB⟩
      have HB9 := Lib.hid (HB8.out.trans (hB.mono HB8.out.size))
      have IX10 := Lib.hid (IX8.out.keep hB)
      have IY10 := Lib.hid (IY8.out.keep hB)
      clear s1 s2 u1 u2 v1 v2
      obtain ⟨s1, u1, v1⟩ := BX8.out.keep hB
      obtain ⟨s2, u2, v2⟩ := BY8.out.keep hB
      clear hB
      go_wp2_with fail
      refine (CM.out _ _ _ _ _ IX10.out IY10.out).mono ?_
      rintro e w9 ⟨rfl, hB⟩
      have HB10 := Lib.hid (HB9.out.trans (hB.mono HB9.out.size))
      clear hB
      go_wp2_with fail
      exact ⟨⟨i + 1, by omega, by go_num, HB10.out⟩, by simp [intOf]; omega⟩
    · obtain rfl : i = 2 := by omega
      have hop5 : (5 : Int) = 4 ∨ (5 : Int) = 5 ∨ (5 : Int) = 6 := by omega
      have hvz := val_list hop5 (ts := [.node op2 l2 ks2, .node op3 l3 ks3]) (by simp) (by have h1 := HV2.out.2.1; have h3 := HV3.out.2.1; simp only [sizeL, sizeT] at h1 h3 ⊢; omega) (by have h1 := HV2.out.2.2; have h3 := HV3.out.2.2; simp only [depthL, depthT] at h1 h3 ⊢; omega) (by
        intro t ht; simp only [List.mem_cons, List.not_mem_nil, or_false] at ht
        rcases ht with rfl | rfl
        · exact (valB_within HV2.out.1).2
        · exact (valB_within HV3.out.1).2)
      have hvz2 := val_list hop5 (ts := [.node op1 l1 ks1, .node op2 l2 ks2]) (by simp) (by have h1 := HV2.out.2.1; have h3 := HV1.out.2.1; simp only [sizeL, sizeT] at h1 h3 ⊢; omega) (by have h1 := HV2.out.2.2; have h3 := HV1.out.2.2; simp only [depthL, depthT] at h1 h3 ⊢; omega) (by
        intro t ht; simp only [List.mem_cons, List.not_mem_nil, or_false] at ht
        rcases ht with rfl | rfl
        · exact (valB_within HV1.out.1).2
        · exact (valB_within HV2.out.1).2)
      have hvx := val_list hop5 (ts := [.node op1 l1 ks1, .node 5 0 [.node op2 l2 ks2, .node op3 l3 ks3]]) (by simp) (by have h1 := HV1.out.2.1; have h2 := HV2.out.2.1; have h3 := HV3.out.2.1; simp only [sizeL, sizeT] at h1 h2 h3 ⊢; omega) (by have h1 := HV1.out.2.2; have h2 := HV2.out.2.2; have h3 := HV3.out.2.2; simp only [depthL, depthT] at h1 h2 h3 ⊢; omega) (by
        intro t ht; simp only [List.mem_cons, List.not_mem_nil, or_false] at ht
        rcases ht with rfl | rfl
        · exact (valB_within HV1.out.1).2
        · exact (valB_within hvz).2)
      have hvy := val_list hop5 (ts := [.node 5 0 [.node op1 l1 ks1, .node op2 l2 ks2], .node op3 l3 ks3]) (by simp) (by have h1 := HV1.out.2.1; have h2 := HV2.out.2.1; have h3 := HV3.out.2.1; simp only [sizeL, sizeT] at h1 h2 h3 ⊢; omega) (by have h1 := HV1.out.2.2; have h2 := HV2.out.2.2; have h3 := HV3.out.2.2; simp only [depthL, depthT] at h1 h2 h3 ⊢; omega) (by
        intro t ht; simp only [List.mem_cons, List.not_mem_nil, or_false] at ht
        rcases ht with rfl | rfl
        · exact (valB_within hvz2).2
        · exact (valB_within HV3.out.1).2)
      obtain ⟨xo, xl, xk, hxr⟩ : ∃ o' l' k', nrmT (.node 5 0 [.node op1 l1 ks1, .node 5 0 [.node op2 l2 ks2, .node op3 l3 ks3]]) = .node o' l' k' := by
        cases h : nrmT (.node 5 0 [.node op1 l1 ks1, .node 5 0 [.node op2 l2 ks2, .node op3 l3 ks3]]) with
        | node o l k => exact ⟨o, l, k, rfl⟩
      have hyr := (nrm_cat (valB_within HV1.out.1).2 (valB_within HV2.out.1).2 (valB_within HV3.out.1).2).symm.trans hxr
      obtain ⟨xn, hxn⟩ : ∃ n, n = xk.length := ⟨_, rfl⟩
      have HVX := Lib.hid hvx
      have HVY := Lib.hid hvy
      have HXR := Lib.hid hxr
      have HYR := Lib.hid hyr
      have HXN := Lib.hid hxn
      have CM := Lib.hid (fun a' c' a9 c9 W (h : InX W xo xl xk a') (h9 : InX W xo xl xk a9) => same_any xo xl xk xo xl xk a' a9 c' c9 W h h9)
      rw [cmpT_self, ← hxn] at CM
      have HA4 := Lib.hid (HA3.out.alloc HA3.out.size (.cells #[.int .i64 op2, .int .i64 l2, .slice a2 n2 c2, .int .i64 op3, .int .i64 l3, .slice a3 n3 c3] 24))
      have HA5 := Lib.hid (HA4.out.alloc HA4.out.size (.cells #[.int .i64 op1, .int .i64 l1, .slice a1 n1 c1, .int .i64 5, .int .i64 0, .slice (some ⟨wA.heap.size, 0, none⟩) 2 2] 24))
      clear hvx hvz hvz2 hvy hxr hyr hxn hop5
      go_wp2_with fail
      refine (nrm_list (op := 5) (.inr (.inl rfl)) [⟨op1, l1, ks1, a1, c1⟩, ⟨5, 0, [.node op2 l2 ks2, .node op3 l3 ks3], some ⟨wA.heap.size, 0, none⟩, 2⟩] HVX.out HXR.out _ 2 2 xn rfl HXN.out ?_ ?_).mono ?_
      · have h := heap_alloc_new (wA.alloc (.cells #[.int .i64 op2, .int .i64 l2, .slice a2 n2 c2, .int .i64 op3, .int .i64 l3, .slice a3 n3 c3] 24)) (.cells #[.int .i64 op1, .int .i64 l1, .slice a1 n1 c1, .int .i64 5, .int .i64 0, .slice (some ⟨wA.heap.size, 0, none⟩) 2 2] 24)
        simp only [World.size_alloc] at h
        rw [h, HNN.out.1]; rfl
      · intro x hx; simp only [List.mem_cons, List.not_mem_nil, or_false] at hx
        rcases hx with rfl | rfl
        · exact HX1.out.keep HA5.out
        · refine ⟨inK_block (xs := [⟨op2, l2, ks2, a2, c2⟩, ⟨op3, l3, ks3, a3, c3⟩]) (e := 24) ?_ ?_, by unfold B64; simp only; omega, by unfold B64; simp only; omega, by simp⟩
          · have h := heap_alloc_new wA (.cells #[.int .i64 op2, .int .i64 l2, .slice a2 n2 c2, .int .i64 op3, .int .i64 l3, .slice a3 n3 c3] 24)
            rw [Below.heap_alloc _ _ _ (by simp), h, HNN.out.2.1, HNN.out.2.2]; rfl
          · intro x hx; simp only [List.mem_cons, List.not_mem_nil, or_false] at hx
            rcases hx with rfl | rfl
            · exact HX2.out.keep HA5.out
            · exact HX3.out.keep HA5.out
      rintro e w6 ⟨ax, cx, rfl, hx6, hB⟩
      have HB63 := Lib.hid ((HA5.out.trans (hB.mono HA5.out.size)).alloc (by have h1 := HA5.out.size; have h2 := hB.size; simp only [World.size_alloc] at h1 h2 ⊢; omega) (.cells #[.int .i64 xo, .int .i64 xl, .slice ax xn cx] 24))
      have BX9 := Lib.hid (Box.new w6 (.int .i64 xo) (.int .i64 xl) (.slice ax xn cx))
      have IX9 := Lib.hid (hx6.box (.cells #[.int .i64 xo, .int .i64 xl, .slice ax xn cx] 24))
      clear hx6 hB p1 p2 p3 q1 q2 q3 r1 r2 r3
      obtain ⟨p1, q1, r1⟩ := HBX.out.1.keep HB63.out
      obtain ⟨p2, q2, r2⟩ := HBX.out.2.1.keep HB63.out
      obtain ⟨p3, q3, r3⟩ := HBX.out.2.2.keep HB63.out
      have HB64 := Lib.hid (HB63.out.alloc HB63.out.size (.cells #[.int .i64 op1, .int .i64 l1, .slice a1 n1 c1, .int .i64 op2, .int .i64 l2, .slice a2 n2 c2] 24))
      obtain ⟨s3, u3, v3⟩ := HBX.out.2.2.keep HB64.out
      have HB65 := Lib.hid (HB64.out.alloc HB64.out.size (.cells #[.int .i64 5, .int .i64 0, .slice (some ⟨w6.heap.size + 1, 0, none⟩) 2 2, .int .i64 op3, .int .i64 l3, .slice a3 n3 c3] 24))
      go_wp2_with fail
      refine (nrm_list (op := 5) (.inr (.inl rfl)) [⟨5, 0, [.node op1 l1 ks1, .node op2 l2 ks2], some ⟨w6.heap.size + 1, 0, none⟩, 2⟩, ⟨op3, l3, ks3, a3, c3⟩] HVY.out HYR.out _ 2 2 xn rfl HXN.out ?_ ?_).mono ?_
      · have h := heap_alloc_new ((w6.alloc (.cells #[.int .i64 xo, .int .i64 xl, .slice ax xn cx] 24)).alloc (.cells #[.int .i64 op1, .int .i64 l1, .slice a1 n1 c1, .int .i64 op2, .int .i64 l2, .slice a2 n2 c2] 24)) (.cells #[.int .i64 5, .int .i64 0, .slice (some ⟨w6.heap.size + 1, 0, none⟩) 2 2, .int .i64 op3, .int .i64 l3, .slice a3 n3 c3] 24)
        simp only [World.size_alloc] at h
        rw [h, HNN.out.2.2]; rfl
      · intro x hx; simp only [List.mem_cons, List.not_mem_nil, or_false] at hx
        rcases hx with rfl | rfl
        · refine ⟨inK_block (xs := [⟨op1, l1, ks1, a1, c1⟩, ⟨op2, l2, ks2, a2, c2⟩]) (e := 24) ?_ ?_, by unfold B64; simp only; omega, by unfold B64; simp only; omega, by simp⟩
          · have h := heap_alloc_new (w6.alloc (.cells #[.int .i64 xo, .int .i64 xl, .slice ax xn cx] 24)) (.cells #[.int .i64 op1, .int .i64 l1, .slice a1 n1 c1, .int .i64 op2, .int .i64 l2, .slice a2 n2 c2] 24)
            simp only [World.size_alloc] at h
            rw [Below.heap_alloc _ _ _ (by simp), h, HNN.out.1, HNN.out.2.1]; rfl
          · intro x hx; simp only [List.mem_cons, List.not_mem_nil, or_false] at hx
            rcases hx with rfl | rfl
            · exact HX1.out.keep HB65.out
            · exact HX2.out.keep HB65.out
        · exact HX3.out.keep HB65.out
      rintro e w7 ⟨ay, cy, rfl, hy7, hB⟩
      have hw67 := (((Below.refl (w6.alloc (.cells #[.int .i64 xo, .int .i64 xl, .slice ax xn cx] 24)).heap.size (w6.alloc (.cells #[.int .i64 xo, .int .i64 xl, .slice ax xn cx] 24))).alloc (Nat.le_refl _) (.cells #[.int .i64 op1, .int .i64 l1, .slice a1 n1 c1, .int .i64 op2, .int .i64 l2, .slice a2 n2 c2] 24)).alloc (by simp) (.cells #[.int .i64 5, .int .i64 0, .slice (some ⟨w6.heap.size + 1, 0, none⟩) 2 2, .int .i64 op3, .int .i64 l3, .slice a3 n3 c3] 24)).trans (hB.mono (by simp))
      have hw68 := hw67.alloc hw67.size (.cells #[.int .i64 xo, .int .i64 xl, .slice ay xn cy] 24)
      have HB8 := Lib.hid (HB63.out.trans (hw68.mono HB63.out.size))
      have BX8 := Lib.hid (BX9.out.keep hw68)
      have IX8 := Lib.hid (IX9.out.keep hw68)
      have BY8 := Lib.hid (Box.new w7 (.int .i64 xo) (.int .i64 xl) (.slice ay xn cy))
      have IY8 := Lib.hid (hy7.box (.cells #[.int .i64 xo, .int .i64 xl, .slice ay xn cy] 24))
      clear hB hw67 hw68 hy7 s3 u3 v3 p1 p2 p3 q1 q2 q3 r1 r2 r3
      obtain ⟨s1, u1, v1⟩ := BX8.out
      obtain ⟨s2, u2, v2⟩ := BY8.out
      go_wp2_with fail
      refine (CM.out _ _ _ _ _ IX8.out IY8.out).mono ?_
      rintro e w9 ⟨rfl, hB⟩
      have HB10 := Lib.hid (HB8.out.trans (hB.mono HB8.out.size))
      clear hB
      go_wp2_with fail
      refine (awake_any _).mono ?_
      rintro e w10 ⟨rfl, hB⟩
      have HB11 := Lib.hid (HB3.out.trans ((HB10.out.trans (hB.mono HB10.out.size)).mono HB3.out.size))
      clear hB
      go_wp2_with fail
      go_ret
      exact ⟨rfl, HB11.out⟩
end Go.Proofs.Ythmdndondlffeaa
