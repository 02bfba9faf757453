/- Walks: PartitionCanonical, PartitionEnds, PartitionOrders. -/
import Derived.Test.YtfgpjkkdgjhkfaaPartW
import Derived.Test.YtfgpjkkdgjhkfaaPartE
namespace Go.Proofs.Ytfgpjkkdgjhkfaa
open Go Go.RowKit Go.Maps
set_option linter.unusedVariables false

set_option maxRecDepth 100000 in
set_option maxHeartbeats 4000000 in
theorem cPartitionCanonical_true (a : Option Addr) (n c : Nat) (f : Nat → Int) (w : World) (hr : RowI w a n f) (hn : n ≤ maxLen) (hv : valP n f = true) :
    Calls Try.prog 3 #[.slice a n c] w (Yes w) := by
  have HA := Lib.hid hr
  have HV := Lib.hid hv
  have HN := Lib.hid hn
  have HCL := Lib.hid (show canLen n ≤ maxLen by unfold canLen maxLen; split <;> omega)
  have HS := Lib.hid (show sameB (canLen n) (can f) (canLen n) (can f) = true from sameB_true fun _ _ => rfl)
  have HW := Lib.hid (show valP (canLen n) (can f) = true from valP_can (by unfold canLen; split <;> omega) f)
  clear hr hv hn
  have HB := Lib.hid (Below.refl w.heap.size w)
  go_enter Try.func3, Try.ntmps3
  go_wp2_with fail
  refine (canonical_any _ _ _ _ _ HA.out HN.out).mono ?_
  rintro e w1 ⟨r1, c1, rfl, hR, hB⟩
  have HA := Lib.hid (HA.out.keep hB)
  have HB := Lib.hid (HB.out.trans (hB.mono HB.out.size))
  have HC := Lib.hid hR
  clear hR hB
  go_wp2_with fail
  refine (canonicalR_any _ _ _ _ _ HA.out HN.out).mono ?_
  rintro e w2 ⟨r2, c2, rfl, hR, hB⟩
  have HA := Lib.hid (HA.out.keep hB)
  have HC := Lib.hid (HC.out.keep hB)
  have HB := Lib.hid (HB.out.trans (hB.mono HB.out.size))
  have HD := Lib.hid hR
  clear hR hB
  go_wp2_with fail
  refine (same_any _ _ _ _ _ _ _ _ _ HC.out HD.out HCL.out).mono ?_
  rintro e w3 ⟨rfl, hB⟩
  rw [HS.out]
  have HA := Lib.hid (HA.out.keep hB)
  have HC := Lib.hid (HC.out.keep hB)
  have HD := Lib.hid (HD.out.keep hB)
  have HB := Lib.hid (HB.out.trans (hB.mono HB.out.size))
  clear hB
  go_wp2_with fail
  refine (valid_any _ _ _ _ _ HA.out HN.out).mono ?_
  rintro e w' ⟨rfl, rfl⟩
  rw [HV.out]
  go_wp2_with fail
  refine (validR_any _ _ _ _ _ HA.out HN.out).mono ?_
  rintro e w4 ⟨rfl, hB⟩
  rw [HV.out]
  have HA := Lib.hid (HA.out.keep hB)
  have HC := Lib.hid (HC.out.keep hB)
  have HD := Lib.hid (HD.out.keep hB)
  have HB := Lib.hid (HB.out.trans (hB.mono HB.out.size))
  clear hB
  go_wp2_with fail
  refine (valid_any _ _ _ _ _ HC.out HCL.out).mono ?_
  rintro e w' ⟨rfl, rfl⟩
  rw [HW.out]
  go_wp2_with fail
  refine (awake_any _).mono ?_
  rintro e w5 ⟨rfl, hB⟩
  have HA := Lib.hid (HA.out.keep hB)
  have HC := Lib.hid (HC.out.keep hB)
  have HD := Lib.hid (HD.out.keep hB)
  have HB := Lib.hid (HB.out.trans (hB.mono HB.out.size))
  clear hB
  go_wp2_with fail
  go_ret
  exact ⟨rfl, HB.out⟩
set_option maxRecDepth 100000 in
set_option maxHeartbeats 4000000 in
theorem cPartitionCanonical_false (a : Option Addr) (n c : Nat) (f : Nat → Int) (w : World) (hr : RowI w a n f) (hn : n ≤ maxLen) (hv : valP n f = false) :
    Calls Try.prog 3 #[.slice a n c] w (Yes w) := by
  have HA := Lib.hid hr
  have HV := Lib.hid hv
  have HN := Lib.hid hn
  have HCL := Lib.hid (show canLen n ≤ maxLen by unfold canLen maxLen; split <;> omega)
  have HS := Lib.hid (show sameB (canLen n) (can f) (canLen n) (can f) = true from sameB_true fun _ _ => rfl)
  have HW := Lib.hid (show valP (canLen n) (can f) = true from valP_can (by unfold canLen; split <;> omega) f)
  clear hr hv hn
  have HB := Lib.hid (Below.refl w.heap.size w)
  go_enter Try.func3, Try.ntmps3
  go_wp2_with fail
  refine (canonical_any _ _ _ _ _ HA.out HN.out).mono ?_
  rintro e w1 ⟨r1, c1, rfl, hR, hB⟩
  have HA := Lib.hid (HA.out.keep hB)
  have HB := Lib.hid (HB.out.trans (hB.mono HB.out.size))
  have HC := Lib.hid hR
  clear hR hB
  go_wp2_with fail
  refine (canonicalR_any _ _ _ _ _ HA.out HN.out).mono ?_
  rintro e w2 ⟨r2, c2, rfl, hR, hB⟩
  have HA := Lib.hid (HA.out.keep hB)
  have HC := Lib.hid (HC.out.keep hB)
  have HB := Lib.hid (HB.out.trans (hB.mono HB.out.size))
  have HD := Lib.hid hR
  clear hR hB
  go_wp2_with fail
  refine (same_any _ _ _ _ _ _ _ _ _ HC.out HD.out HCL.out).mono ?_
  rintro e w3 ⟨rfl, hB⟩
  rw [HS.out]
  have HA := Lib.hid (HA.out.keep hB)
  have HC := Lib.hid (HC.out.keep hB)
  have HD := Lib.hid (HD.out.keep hB)
  have HB := Lib.hid (HB.out.trans (hB.mono HB.out.size))
  clear hB
  go_wp2_with fail
  refine (valid_any _ _ _ _ _ HA.out HN.out).mono ?_
  rintro e w' ⟨rfl, rfl⟩
  rw [HV.out]
  go_wp2_with fail
  refine (validR_any _ _ _ _ _ HA.out HN.out).mono ?_
  rintro e w4 ⟨rfl, hB⟩
  rw [HV.out]
  have HA := Lib.hid (HA.out.keep hB)
  have HC := Lib.hid (HC.out.keep hB)
  have HD := Lib.hid (HD.out.keep hB)
  have HB := Lib.hid (HB.out.trans (hB.mono HB.out.size))
  clear hB
  go_wp2_with fail
  refine (valid_any _ _ _ _ _ HC.out HCL.out).mono ?_
  rintro e w' ⟨rfl, rfl⟩
  rw [HW.out]
  go_wp2_with fail
  refine (awake_any _).mono ?_
  rintro e w5 ⟨rfl, hB⟩
  have HA := Lib.hid (HA.out.keep hB)
  have HC := Lib.hid (HC.out.keep hB)
  have HD := Lib.hid (HD.out.keep hB)
  have HB := Lib.hid (HB.out.trans (hB.mono HB.out.size))
  clear hB
  go_wp2_with fail
  go_ret
  exact ⟨rfl, HB.out⟩
theorem wPartitionCanonical {w : World} (a : Option Addr) (n c : Nat) (zs : List Int) (h : IntRow .i64 w a n c zs) : Calls Try.prog 3 #[.slice a n c] w (Yes w) := by
  obtain ⟨f, hr, hn⟩ := row_in h
  cases hv : valP n f
  · exact cPartitionCanonical_false a n c f w hr hn hv
  · exact cPartitionCanonical_true a n c f w hr hn hv

theorem wpList_make_wanted {P : Program} (w : World) {ops : Array Oper} {rest : List Oper} {o : Oper} {a : Act} {Q : Exit → Act → World → Prop}
    (hw : Region.wanted o (yielded ops a.tmps) = true) (l c : Operand) (t : TypeId) (hop : o.op = Op.makeSlice t l c)
    (base : Nat) (e : TypeId) (i : TypeInfo) (z : Value) (size : Nat) (h1 : P.underlying t = some (.slice e)) (h2 : P.info? e = some i) (h3 : i.zero = some z) (h4 : i.size = size)
    (kl kc : IntKind) (L C : Int) (n : Nat) (hl : a.eval l = .int kl L) (hc : a.eval c = .int kc C) (hL : L = (n : Int)) (hC : C = (n : Int)) (b2 : i.bytes * n ≤ 281474976710656) (b3 : n ≤ maxLen) (b4 : base ≤ w.heap.size)
    (hK : ∀ w', w'.ownsRow base e size (.slice (some ⟨w.heap.size, 0, none⟩) n n) n (madeCells z.cells (n * size)).toList → w.grownBy w' none → wpList P ops Q rest (a.put o.dst (.slice (some ⟨w.heap.size, 0, none⟩) n n)) w') :
    wpList P ops Q (o :: rest) a w := by
  refine BigFrame.wpList_want hw fun K hK' => ?_
  obtain ⟨w', hrun, r1, r2⟩ := run_make_full (P := P) w base t e i z size h1 h2 h3 h4 kl kc n b2 b3 b4
  subst hL
  subst hC
  unfold Oper.wp
  simp [execOp, hop, hl, hc, hrun, Result.andThen]
  exact hK' _ _ (hK w' r1 r2)
theorem valP_id {n : Nat} (h : n ≤ 4096) : valP n idI = true := by
  have h1 : ∀ i, fst idI i = i := fun i => by have := fst_val idI i; unfold idI at this; unfold idI; omega
  have h2 : ∀ i, cls idI i = i := fun i => by
    induction i with
    | zero => rfl
    | succ i ih => rw [cls_yes (h1 i), ih]
  exact valP_iff.2 ⟨h, fun i _ => by rw [can, canN, h1, h2]; rfl⟩
theorem valP_ze {n : Nat} (h : n ≤ 4096) : valP n zeF = true := by
  have h1 : ∀ i, fst zeF i = 0 := fun i => by have := fst_least (f := zeF) (i := i) (j := 0) rfl; omega
  exact valP_iff.2 ⟨h, fun i _ => by rw [can, canN, h1]; rfl⟩
theorem ends_pair {n : Nat} (h : n ≤ 4096) : pairB n idI n zeF = true := pairB_iff.2 ⟨rfl, valP_id h, valP_ze h⟩
theorem ends_ref (n : Nat) : refB n idI zeF = true := refB_iff.2 fun _ _ _ _ _ => rfl
theorem discrete_g (n : Nat) (w : World) (hn : n ≤ 4096) : Calls Try.prog 26 #[.int .i64 n] w (Gives w n idI) := (discrete_ok n w hn).mono fun e w' h => h.gives fun i hi => idI_b (by omega)
theorem discreteR_g (n : Nat) (w : World) (hn : n ≤ 4096) : Calls Try.prog 28 #[.int .i64 n] w (Gives w n idI) := (discreteR_ok n w hn).mono fun e w' h => h.gives fun i hi => idI_b (by omega)
theorem trivial_g (n : Nat) (w : World) (hn : n ≤ 4096) : Calls Try.prog 27 #[.int .i64 n] w (Gives w n zeF) := (trivial_ok n w hn).mono fun e w' h => h.gives fun i hi => zeF_b
set_option maxRecDepth 100000 in
set_option maxHeartbeats 4000000 in
theorem cPartitionEnds_yes (n : Nat) (w : World) (hn : n ≤ 4096) :
    Calls Try.prog 5 #[.int .i64 n] w (Yes w) := by
  have hm : n ≤ maxLen := by unfold maxLen; omega
  obtain ⟨i0, hi, hz0, hz1, hz2⟩ := info_parts infoI
  have HP := Lib.hid (ends_pair hn)
  have HF := Lib.hid (ends_ref n)
  have HS := Lib.hid (show sameB n idI n idI = true from sameB_true fun _ _ => rfl)
  have HS2 := Lib.hid (show sameB n zeF n zeF = true from sameB_true fun _ _ => rfl)
  have HB := Lib.hid (Below.refl w.heap.size w)
  go_enter Try.func5, Try.ntmps5
  go_wp2_with fail
  refine (discrete_g _ _ hn).mono ?_
  rintro e w1 ⟨r1, c1, rfl, hR, hB⟩
  have HB := Lib.hid (HB.out.trans (hB.mono HB.out.size))
  have HD := Lib.hid hR
  clear hR hB
  go_wp2_with fail
  refine (trivial_g _ _ hn).mono ?_
  rintro e w2 ⟨r2, c2, rfl, hR, hB⟩
  have HD := Lib.hid (HD.out.keep hB)
  have HB := Lib.hid (HB.out.trans (hB.mono HB.out.size))
  have HT := Lib.hid hR
  clear hR hB
  go_wp2_with fail
  refine (discreteR_g _ _ hn).mono ?_
  rintro e w3 ⟨r3, c3, rfl, hR, hB⟩
  have HD := Lib.hid (HD.out.keep hB)
  have HT := Lib.hid (HT.out.keep hB)
  have HB := Lib.hid (HB.out.trans (hB.mono HB.out.size))
  have HE := Lib.hid hR
  clear hR hB
  go_wp2_with fail
  refine (same_any _ _ _ _ _ _ _ _ _ HD.out HE.out hm).mono ?_
  rintro e w4 ⟨rfl, hB⟩
  rw [HS.out]
  have HD := Lib.hid (HD.out.keep hB)
  have HT := Lib.hid (HT.out.keep hB)
  have HE := Lib.hid (HE.out.keep hB)
  have HB := Lib.hid (HB.out.trans (hB.mono HB.out.size))
  clear hB
  go_wp2_with (refine wpList_make_wanted _ (by first | rfl | simp [Region.wanted, yielded]) _ _ 22 rfl w4.heap.size 3 i0 (.int .i64 0) 1 Try.underlying22 hi hz0 hz1 .i64 .i64 _ _ n rfl rfl (by simp) (by simp) ?c1 ?c2 ?c3 ?_)
  case c1 => rw [hz2]; omega
  case c2 => unfold maxLen; omega
  case c3 => exact Nat.le_refl _
  intro w5 hown0 hg1
  have hB : Below w4.heap.size w4 w5 := (Below.refl _ w4).grown hg1 (Nat.le_refl _) (by intro k hk; cases hk)
  have HD := Lib.hid (HD.out.keep hB)
  have HT := Lib.hid (HT.out.keep hB)
  have HE := Lib.hid (HE.out.keep hB)
  have HB := Lib.hid (HB.out.trans (hB.mono HB.out.size))
  have HZ : Hid (RowI w5 (some ⟨w4.heap.size, 0, none⟩) n zeF) := Lib.hid (RowI.owned (ownsF_congr (fresh_own (f := zeF) hown0) fun t _ => (upG_zero _ _ _ : upG 0 0 zeF t = zeF t)) fun i _ => zeF_b (i := i))
  clear hown0 hg1 hB
  go_wp2_with fail
  refine (same_any _ _ _ _ _ _ _ _ _ HT.out HZ.out hm).mono ?_
  rintro e w6 ⟨rfl, hB⟩
  rw [HS2.out]
  have HD := Lib.hid (HD.out.keep hB)
  have HT := Lib.hid (HT.out.keep hB)
  have HE := Lib.hid (HE.out.keep hB)
  have HZ := Lib.hid (HZ.out.keep hB)
  have HB := Lib.hid (HB.out.trans (hB.mono HB.out.size))
  clear hB
  go_wp2_with fail
  refine (refines_ok _ _ _ _ _ _ _ _ HD.out HT.out HP.out).mono ?_
  rintro e w7 ⟨rfl, hB⟩
  rw [HF.out]
  have HD := Lib.hid (HD.out.keep hB)
  have HT := Lib.hid (HT.out.keep hB)
  have HE := Lib.hid (HE.out.keep hB)
  have HZ := Lib.hid (HZ.out.keep hB)
  have HB := Lib.hid (HB.out.trans (hB.mono HB.out.size))
  clear hB
  go_wp2_with fail
  refine (awake_any _).mono ?_
  rintro e w8 ⟨rfl, hB⟩
  have HD := Lib.hid (HD.out.keep hB)
  have HT := Lib.hid (HT.out.keep hB)
  have HE := Lib.hid (HE.out.keep hB)
  have HZ := Lib.hid (HZ.out.keep hB)
  have HB := Lib.hid (HB.out.trans (hB.mono HB.out.size))
  clear hB
  go_wp2_with fail
  go_ret
  exact ⟨rfl, HB.out⟩
set_option maxRecDepth 100000 in
set_option maxHeartbeats 4000000 in
theorem cPartitionEnds_neg (n : Int) (w : World) (hn : n < 0) :
    Calls Try.prog 5 #[.int .i64 n] w (Yes w) := by
  have hno : ¬ (0 ≤ n ∧ n ≤ 4096) := by omega
  have HB := Lib.hid (Below.refl w.heap.size w)
  go_enter Try.func5, Try.ntmps5
  go_wp2_with fail
  refine (discrete_no _ _ hno).mono ?_
  rintro e w' ⟨rfl, rfl⟩
  go_wp2_with fail
  refine (trivial_no _ _ hno).mono ?_
  rintro e w' ⟨rfl, rfl⟩
  go_wp2_with fail
  refine (awake_any _).mono ?_
  rintro e w1 ⟨rfl, hB⟩
  have HB := Lib.hid (HB.out.trans (hB.mono HB.out.size))
  clear hB
  go_wp2_with fail
  go_ret
  exact ⟨rfl, HB.out⟩
set_option maxRecDepth 100000 in
set_option maxHeartbeats 4000000 in
theorem cPartitionEnds_big (n : Int) (w : World) (hn : 4096 < n) :
    Calls Try.prog 5 #[.int .i64 n] w (Yes w) := by
  have hno : ¬ (0 ≤ n ∧ n ≤ 4096) := by omega
  have h0 : 0 ≤ n := by omega
  have HB := Lib.hid (Below.refl w.heap.size w)
  go_enter Try.func5, Try.ntmps5
  go_wp2_with fail
  refine (discrete_no _ _ hno).mono ?_
  rintro e w' ⟨rfl, rfl⟩
  go_wp2_with fail
  refine (trivial_no _ _ hno).mono ?_
  rintro e w' ⟨rfl, rfl⟩
  go_wp2_with fail
  refine (awake_any _).mono ?_
  rintro e w1 ⟨rfl, hB⟩
  have HB := Lib.hid (HB.out.trans (hB.mono HB.out.size))
  clear hB
  go_wp2_with fail
  go_ret
  exact ⟨rfl, HB.out⟩
theorem wPartitionEnds {w : World} (n : Int) (hwf : (Lit.int .i64 n).wf = true) : Calls Try.prog 5 #[.int .i64 n] w (Yes w) := by
  by_cases h0 : n < 0
  · exact cPartitionEnds_neg n w h0
  by_cases h1 : 4096 < n
  · exact cPartitionEnds_big n w h1
  · obtain ⟨m, rfl⟩ : ∃ m : Nat, n = m := ⟨n.toNat, by omega⟩
    exact cPartitionEnds_yes m w (by omega)
set_option maxRecDepth 100000 in
set_option maxHeartbeats 4000000 in
theorem cPartitionOrders_p (a : Option Addr) (n c : Nat) (f : Nat → Int) (b : Option Addr) (m d : Nat) (g : Nat → Int) (w : World) (hr : RowI w a n f) (hs : RowI w b m g) (hn : n ≤ maxLen) (hm : m ≤ maxLen) (hv : valP n f = false) :
    Calls Try.prog 6 #[.slice a n c, .slice b m d] w (Yes w) := by
  have HA := Lib.hid hr
  have HR := Lib.hid hs
  have HP := Lib.hid (show pairB n f m g = false by simp [pairB, hv])
  have HV := Lib.hid hv
  have HN := Lib.hid hn
  have HM := Lib.hid hm
  clear hv
  clear hr hs
  have HB := Lib.hid (Below.refl w.heap.size w)
  go_enter Try.func6, Try.ntmps6
  go_wp2_with fail
  refine (refines_no _ _ _ _ _ _ _ _ _ HA.out HR.out HN.out HM.out HP.out).mono ?_
  rintro e w' ⟨rfl, rfl⟩
  go_wp2_with fail
  refine (validR_any _ _ _ _ _ HA.out HN.out).mono ?_
  rintro e w1 ⟨rfl, hB⟩
  rw [HV.out]
  have HA := Lib.hid (HA.out.keep hB)
  have HR := Lib.hid (HR.out.keep hB)
  have HB := Lib.hid (HB.out.trans (hB.mono HB.out.size))
  clear hB
  go_wp2_with fail
  refine (awake_any _).mono ?_
  rintro e w2 ⟨rfl, hB⟩
  have HA := Lib.hid (HA.out.keep hB)
  have HR := Lib.hid (HR.out.keep hB)
  have HB := Lib.hid (HB.out.trans (hB.mono HB.out.size))
  clear hB
  go_wp2_with fail
  go_ret
  exact ⟨rfl, HB.out⟩
set_option maxRecDepth 100000 in
set_option maxHeartbeats 4000000 in
theorem cPartitionOrders_q (a : Option Addr) (n c : Nat) (f : Nat → Int) (b : Option Addr) (m d : Nat) (g : Nat → Int) (w : World) (hr : RowI w a n f) (hs : RowI w b m g) (hn : n ≤ maxLen) (hm : m ≤ maxLen) (hv : valP n f = true) (hu : valP m g = false) :
    Calls Try.prog 6 #[.slice a n c, .slice b m d] w (Yes w) := by
  have HA := Lib.hid hr
  have HR := Lib.hid hs
  have HP := Lib.hid (show pairB n f m g = false by simp [pairB, hu])
  have HV := Lib.hid hv
  have HN := Lib.hid hn
  have HM := Lib.hid hm
  have HU := Lib.hid hu
  clear hv hu
  clear hr hs
  have HB := Lib.hid (Below.refl w.heap.size w)
  go_enter Try.func6, Try.ntmps6
  go_wp2_with fail
  refine (refines_no _ _ _ _ _ _ _ _ _ HA.out HR.out HN.out HM.out HP.out).mono ?_
  rintro e w' ⟨rfl, rfl⟩
  go_wp2_with fail
  refine (validR_any _ _ _ _ _ HA.out HN.out).mono ?_
  rintro e w1 ⟨rfl, hB⟩
  rw [HV.out]
  have HA := Lib.hid (HA.out.keep hB)
  have HR := Lib.hid (HR.out.keep hB)
  have HB := Lib.hid (HB.out.trans (hB.mono HB.out.size))
  clear hB
  go_wp2_with fail
  refine (validR_any _ _ _ _ _ HR.out HM.out).mono ?_
  rintro e w2 ⟨rfl, hB⟩
  rw [HU.out]
  have HA := Lib.hid (HA.out.keep hB)
  have HR := Lib.hid (HR.out.keep hB)
  have HB := Lib.hid (HB.out.trans (hB.mono HB.out.size))
  clear hB
  go_wp2_with fail
  refine (awake_any _).mono ?_
  rintro e w3 ⟨rfl, hB⟩
  have HA := Lib.hid (HA.out.keep hB)
  have HR := Lib.hid (HR.out.keep hB)
  have HB := Lib.hid (HB.out.trans (hB.mono HB.out.size))
  clear hB
  go_wp2_with fail
  go_ret
  exact ⟨rfl, HB.out⟩
set_option maxRecDepth 100000 in
set_option maxHeartbeats 4000000 in
theorem cPartitionOrders_len (a : Option Addr) (n c : Nat) (f : Nat → Int) (b : Option Addr) (m d : Nat) (g : Nat → Int) (w : World) (hr : RowI w a n f) (hs : RowI w b m g) (hn : n ≤ maxLen) (hm : m ≤ maxLen) (hv : valP n f = true) (hu : valP m g = true) (hne : n ≠ m) :
    Calls Try.prog 6 #[.slice a n c, .slice b m d] w (Yes w) := by
  have HA := Lib.hid hr
  have HR := Lib.hid hs
  have HP := Lib.hid (show pairB n f m g = false by simp [pairB, hne])
  have HV := Lib.hid hv
  have HN := Lib.hid hn
  have HM := Lib.hid hm
  have HU := Lib.hid hu
  have hx : ((n : Int) != (m : Int)) = true := by rw [bne_iff_ne]; omega
  unfold maxLen at hn hm
  clear hv hu
  clear hr hs
  have HB := Lib.hid (Below.refl w.heap.size w)
  go_enter Try.func6, Try.ntmps6
  go_wp2_with fail
  refine (refines_no _ _ _ _ _ _ _ _ _ HA.out HR.out HN.out HM.out HP.out).mono ?_
  rintro e w' ⟨rfl, rfl⟩
  go_wp2_with fail
  refine (validR_any _ _ _ _ _ HA.out HN.out).mono ?_
  rintro e w1 ⟨rfl, hB⟩
  rw [HV.out]
  have HA := Lib.hid (HA.out.keep hB)
  have HR := Lib.hid (HR.out.keep hB)
  have HB := Lib.hid (HB.out.trans (hB.mono HB.out.size))
  clear hB
  go_wp2_with fail
  refine (validR_any _ _ _ _ _ HR.out HM.out).mono ?_
  rintro e w2 ⟨rfl, hB⟩
  rw [HU.out]
  have HA := Lib.hid (HA.out.keep hB)
  have HR := Lib.hid (HR.out.keep hB)
  have HB := Lib.hid (HB.out.trans (hB.mono HB.out.size))
  clear hB
  go_wp2_with fail
  refine (awake_any _).mono ?_
  rintro e w3 ⟨rfl, hB⟩
  have HA := Lib.hid (HA.out.keep hB)
  have HR := Lib.hid (HR.out.keep hB)
  have HB := Lib.hid (HB.out.trans (hB.mono HB.out.size))
  clear hB
  go_wp2_with fail
  go_ret
  exact ⟨rfl, HB.out⟩
set_option maxRecDepth 100000 in
set_option maxHeartbeats 4000000 in
theorem cPartitionOrders_big (a : Option Addr) (n c : Nat) (f : Nat → Int) (b : Option Addr) (d : Nat) (g : Nat → Int) (w : World) (hr : RowI w a n f) (hs : RowI w b n g) (hp : pairB n f n g = true) (hb : 60 < n) :
    Calls Try.prog 6 #[.slice a n c, .slice b n d] w (Yes w) := by
  have HA := Lib.hid hr
  have HR := Lib.hid hs
  have HP := Lib.hid hp
  have hn := (valP_iff.1 (pairB_iff.1 hp).2.1).1
  have HV := Lib.hid (pairB_iff.1 hp).2.1
  have HU := Lib.hid (pairB_iff.1 hp).2.2
  have hm : n ≤ maxLen := by unfold maxLen; omega
  have HM := Lib.hid hm
  have hx : ((n : Int) != (n : Int)) = false := by simp
  clear hp hm
  clear hr hs
  have HB := Lib.hid (Below.refl w.heap.size w)
  go_enter Try.func6, Try.ntmps6
  go_wp2_with fail
  refine (refines_ok _ _ _ _ _ _ _ _ HA.out HR.out HP.out).mono ?_
  rintro e w1 ⟨rfl, hB⟩
  have HA := Lib.hid (HA.out.keep hB)
  have HR := Lib.hid (HR.out.keep hB)
  have HB := Lib.hid (HB.out.trans (hB.mono HB.out.size))
  clear hB
  go_wp2_with fail
  refine (validR_any _ _ _ _ _ HA.out HM.out).mono ?_
  rintro e w2 ⟨rfl, hB⟩
  rw [HV.out]
  have HA := Lib.hid (HA.out.keep hB)
  have HR := Lib.hid (HR.out.keep hB)
  have HB := Lib.hid (HB.out.trans (hB.mono HB.out.size))
  clear hB
  go_wp2_with fail
  refine (validR_any _ _ _ _ _ HR.out HM.out).mono ?_
  rintro e w3 ⟨rfl, hB⟩
  rw [HU.out]
  have HA := Lib.hid (HA.out.keep hB)
  have HR := Lib.hid (HR.out.keep hB)
  have HB := Lib.hid (HB.out.trans (hB.mono HB.out.size))
  clear hB
  go_wp2_with fail
  refine (awake_any _).mono ?_
  rintro e w4 ⟨rfl, hB⟩
  have HA := Lib.hid (HA.out.keep hB)
  have HR := Lib.hid (HR.out.keep hB)
  have HB := Lib.hid (HB.out.trans (hB.mono HB.out.size))
  clear hB
  go_wp2_with fail
  go_ret
  exact ⟨rfl, HB.out⟩
set_option maxRecDepth 100000 in
set_option maxHeartbeats 4000000 in
theorem cPartitionOrders_true (a : Option Addr) (n c : Nat) (f : Nat → Int) (b : Option Addr) (d : Nat) (g : Nat → Int) (w : World) (hr : RowI w a n f) (hs : RowI w b n g) (hp : pairB n f n g = true) (hb : n ≤ 60) (hf : refB n f g = true) :
    Calls Try.prog 6 #[.slice a n c, .slice b n d] w (Yes w) := by
  have HA := Lib.hid hr
  have HR := Lib.hid hs
  have HP := Lib.hid hp
  have hn := (valP_iff.1 (pairB_iff.1 hp).2.1).1
  have HV := Lib.hid (pairB_iff.1 hp).2.1
  have HU := Lib.hid (pairB_iff.1 hp).2.2
  have hm : n ≤ maxLen := by unfold maxLen; omega
  have HM := Lib.hid hm
  have hx : ((n : Int) != (n : Int)) = false := by simp
  have HF := Lib.hid hf
  clear hp hm hf
  clear hr hs
  have HB := Lib.hid (Below.refl w.heap.size w)
  go_enter Try.func6, Try.ntmps6
  go_wp2_with fail
  refine (refines_ok _ _ _ _ _ _ _ _ HA.out HR.out HP.out).mono ?_
  rintro e w1 ⟨rfl, hB⟩
  rw [HF.out]
  have HA := Lib.hid (HA.out.keep hB)
  have HR := Lib.hid (HR.out.keep hB)
  have HB := Lib.hid (HB.out.trans (hB.mono HB.out.size))
  clear hB
  go_wp2_with fail
  refine (validR_any _ _ _ _ _ HA.out HM.out).mono ?_
  rintro e w2 ⟨rfl, hB⟩
  rw [HV.out]
  have HA := Lib.hid (HA.out.keep hB)
  have HR := Lib.hid (HR.out.keep hB)
  have HB := Lib.hid (HB.out.trans (hB.mono HB.out.size))
  clear hB
  go_wp2_with fail
  refine (validR_any _ _ _ _ _ HR.out HM.out).mono ?_
  rintro e w3 ⟨rfl, hB⟩
  rw [HU.out]
  have HA := Lib.hid (HA.out.keep hB)
  have HR := Lib.hid (HR.out.keep hB)
  have HB := Lib.hid (HB.out.trans (hB.mono HB.out.size))
  clear hB
  go_wp2_with fail
  refine (refinesR_ok _ _ _ _ _ _ _ _ HA.out HR.out hn).mono ?_
  rintro e w4 ⟨rfl, hB⟩
  rw [HF.out]
  have HA := Lib.hid (HA.out.keep hB)
  have HR := Lib.hid (HR.out.keep hB)
  have HB := Lib.hid (HB.out.trans (hB.mono HB.out.size))
  clear hB
  go_wp2_with fail
  refine (awake_any _).mono ?_
  rintro e w5 ⟨rfl, hB⟩
  have HA := Lib.hid (HA.out.keep hB)
  have HR := Lib.hid (HR.out.keep hB)
  have HB := Lib.hid (HB.out.trans (hB.mono HB.out.size))
  clear hB
  go_wp2_with fail
  go_ret
  exact ⟨rfl, HB.out⟩
set_option maxRecDepth 100000 in
set_option maxHeartbeats 4000000 in
theorem cPartitionOrders_false (a : Option Addr) (n c : Nat) (f : Nat → Int) (b : Option Addr) (d : Nat) (g : Nat → Int) (w : World) (hr : RowI w a n f) (hs : RowI w b n g) (hp : pairB n f n g = true) (hb : n ≤ 60) (hf : refB n f g = false) :
    Calls Try.prog 6 #[.slice a n c, .slice b n d] w (Yes w) := by
  have HA := Lib.hid hr
  have HR := Lib.hid hs
  have HP := Lib.hid hp
  have hn := (valP_iff.1 (pairB_iff.1 hp).2.1).1
  have HV := Lib.hid (pairB_iff.1 hp).2.1
  have HU := Lib.hid (pairB_iff.1 hp).2.2
  have hm : n ≤ maxLen := by unfold maxLen; omega
  have HM := Lib.hid hm
  have hx : ((n : Int) != (n : Int)) = false := by simp
  have HF := Lib.hid hf
  clear hp hm hf
  clear hr hs
  have HB := Lib.hid (Below.refl w.heap.size w)
  go_enter Try.func6, Try.ntmps6
  go_wp2_with fail
  refine (refines_ok _ _ _ _ _ _ _ _ HA.out HR.out HP.out).mono ?_
  rintro e w1 ⟨rfl, hB⟩
  rw [HF.out]
  have HA := Lib.hid (HA.out.keep hB)
  have HR := Lib.hid (HR.out.keep hB)
  have HB := Lib.hid (HB.out.trans (hB.mono HB.out.size))
  clear hB
  go_wp2_with fail
  refine (validR_any _ _ _ _ _ HA.out HM.out).mono ?_
  rintro e w2 ⟨rfl, hB⟩
  rw [HV.out]
  have HA := Lib.hid (HA.out.keep hB)
  have HR := Lib.hid (HR.out.keep hB)
  have HB := Lib.hid (HB.out.trans (hB.mono HB.out.size))
  clear hB
  go_wp2_with fail
  refine (validR_any _ _ _ _ _ HR.out HM.out).mono ?_
  rintro e w3 ⟨rfl, hB⟩
  rw [HU.out]
  have HA := Lib.hid (HA.out.keep hB)
  have HR := Lib.hid (HR.out.keep hB)
  have HB := Lib.hid (HB.out.trans (hB.mono HB.out.size))
  clear hB
  go_wp2_with fail
  refine (refinesR_ok _ _ _ _ _ _ _ _ HA.out HR.out hn).mono ?_
  rintro e w4 ⟨rfl, hB⟩
  rw [HF.out]
  have HA := Lib.hid (HA.out.keep hB)
  have HR := Lib.hid (HR.out.keep hB)
  have HB := Lib.hid (HB.out.trans (hB.mono HB.out.size))
  clear hB
  go_wp2_with fail
  refine (awake_any _).mono ?_
  rintro e w5 ⟨rfl, hB⟩
  have HA := Lib.hid (HA.out.keep hB)
  have HR := Lib.hid (HR.out.keep hB)
  have HB := Lib.hid (HB.out.trans (hB.mono HB.out.size))
  clear hB
  go_wp2_with fail
  go_ret
  exact ⟨rfl, HB.out⟩
theorem wPartitionOrders {w : World} (a : Option Addr) (n c : Nat) (zs : List Int) (h : IntRow .i64 w a n c zs) (b : Option Addr) (m d : Nat) (ys : List Int) (k : IntRow .i64 w b m d ys) : Calls Try.prog 6 #[.slice a n c, .slice b m d] w (Yes w) := by
  obtain ⟨f, hr, hn⟩ := row_in h
  obtain ⟨g, hs, hm⟩ := row_in k
  cases hv : valP n f
  · exact cPartitionOrders_p a n c f b m d g w hr hs hn hm hv
  cases hu : valP m g
  · exact cPartitionOrders_q a n c f b m d g w hr hs hn hm hv hu
  by_cases hne : n = m
  · subst hne
    have hp : pairB n f n g = true := pairB_iff.2 ⟨rfl, hv, hu⟩
    by_cases hb : 60 < n
    · exact cPartitionOrders_big a n c f b d g w hr hs hp hb
    · cases hf : refB n f g
      · exact cPartitionOrders_false a n c f b d g w hr hs hp (by omega) hf
      · exact cPartitionOrders_true a n c f b d g w hr hs hp (by omega) hf
  · exact cPartitionOrders_len a n c f b m d g w hr hs hn hm hv hu hne
end Go.Proofs.Ytfgpjkkdgjhkfaa
