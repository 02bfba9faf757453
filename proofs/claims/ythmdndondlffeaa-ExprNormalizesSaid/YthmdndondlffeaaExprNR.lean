/- Contract: slices.CompactFunc over a row of expressions, in place. -/
import Derived.Test.YthmdndondlffeaaExprNQ
import Derived.Lib.QuietBelow
import Derived.BigQuiet
import Derived.Lib.SliceRun
namespace Go.Proofs.Ythmdndondlffeaa
open Go Go.RowKit Go.Sort
set_option linter.unusedVariables false
theorem equalB_any (op l : Int) (ks : List T) (op' l' : Int) (ks' : List T) (a a' : Option Addr) (c c' : Nat) (w : World) (h1 : InX w op l ks a) (h2 : InX w op' l' ks' a') :
    Calls Try.prog 52 #[.agg #[.int .i64 op, .int .i64 l, .slice a ks.length c], .agg #[.int .i64 op', .int .i64 l', .slice a' ks'.length c']] w fun e w' => e = .returned (.bool (isT (.node op l ks) (.node op' l' ks'))) ∧ Below w.heap.size w w' :=
  (equal_any op l ks op' l' ks' a a' c c' w h1 h2).mono fun e w' h => ⟨h.1, h.2.be⟩
theorem below_regrown' (w : World) (d : Nat) (os : Array Obj) : Below w.heap.size w (grow (redrawn w d) os) := below_regrown w d os
/-- the equality of two elements, at any later world -/
theorem equalE {W0 w : World} (hB : Below W0.heap.size W0 w) (x y : ExIn W0) (r : Bool) (hr : isT x.1.t y.1.t = r) (d : Nat) (os : Array Obj) :
    Calls Try.prog 52 #[.agg #[.int .i64 x.1.op, .int .i64 x.1.l, .slice x.1.a x.1.ks.length x.1.c], .agg #[.int .i64 y.1.op, .int .i64 y.1.l, .slice y.1.a y.1.ks.length y.1.c]] (grow (redrawn w d) os) fun e w' => e = .returned (.bool r) ∧ Below (grow (redrawn w d) os).heap.size (grow (redrawn w d) os) w' := by
  have hb : Below W0.heap.size W0 (grow (redrawn w d) os) := hB.trans ((below_regrown w d os).mono hB.size)
  have h := equalB_any x.1.op x.1.l x.1.ks y.1.op y.1.l y.1.ks x.1.a y.1.a x.1.c y.1.c _ (x.2.keep hb) (y.2.keep hb)
  rw [show isT (.node x.1.op x.1.l x.1.ks) (.node y.1.op y.1.l y.1.ks) = r from hr] at h
  exact h
theorem run_clear3 {P : Program} (w : World) (t e ty : TypeId) (z : Value) (ht : P.underlying t = some (.slice e)) (hv : ∀ w, (zeroValue e).run P w = .ok z w) (h1 : ∀ u ∈ z.cells.toList, u.oneCell' = true) (b o n c : Nat) (hn : 0 < n) (hz : z.cells.size = 3)
    (hc : ∀ j, j < n * 3 → (w.cell? ⟨b, o + j, none⟩).isSome = true) (hf : ∀ j, j < n * 3 → w.frozen? ⟨b, o + j, none⟩ = false) :
    (Builtin.clear_ #[t] ty #[.slice (some ⟨b, o, none⟩) n c]).run P w = .ok (.tuple #[]) (w.setCells b o (Builtin.zeroCells z.cells n).toList) := by
  have hlen : (Builtin.zeroCells z.cells n).toList.length = n * 3 := by rw [Array.length_toList, size_zeroCells, hz]
  have hst := run_storeCells_cells (P := P) b o (Builtin.zeroCells z.cells n).toList 0 w (by rw [hlen]; simpa using hc) (by rw [hlen]; simpa using hf) (by
    intro v hv'
    obtain ⟨i, hi, rfl⟩ := List.mem_iff_getElem.1 hv'
    rw [hlen] at hi
    have : (Builtin.zeroCells z.cells n).toList[i] = z.cells[i % z.cells.size]! := by simp [Builtin.zeroCells]
    rw [this, hz, getElem!_pos _ _ (by rw [hz]; exact Nat.mod_lt _ (by omega))]
    exact h1 _ (by simp))
  simp only [Nat.add_zero] at hst
  obtain ⟨m, rfl⟩ : ∃ m, n = m + 1 := ⟨n - 1, by omega⟩
  simp [Builtin.clear_, run_underlying ht, hv, hst]
set_option maxRecDepth 100000 in
set_option maxHeartbeats 4000000 in
theorem compact_any (W0 w : World) (g cap : Nat) (es : List (ExIn W0)) (h : BlkX W0 w g cap es) :
    Calls Try.prog 55 #[.slice (some ⟨g, 0, none⟩) es.length cap, .func (.func 52) #[] #[]] w fun e w' => ∃ es' : List (ExIn W0), e = .returned (.slice (some ⟨g, 0, none⟩) es'.length cap) ∧ BlkX W0 w' g cap es' ∧ es'.map (·.1.t) = runsT (es.map (·.1.t)) := by
  have hcap : es.length ≤ cap := h.le
  have hcm : cap ≤ 9223372036854775807 := by have := h.cm; unfold maxLen at this; omega
  have HB := Lib.hid h
  clear h
  by_cases h2 : es.length < 2
  · have HR := Lib.hid (runs_none (es := es) fun i hi => by omega)
    have hI : (es.length : Int) < 2 := by omega
    go_enter Try.func55, Try.ntmps55
    go_wp2_with fail
    go_ret
    exact ⟨es, rfl, HB.out, HR.out.symm⟩
  · have hI : ¬ (es.length : Int) < 2 := by omega
    have hdI : decide ((es.length : Int) < 2) = false := by simp; omega
    go_enter Try.func55, Try.ntmps55
    go_wp2_with fail
    go_loopw [5] (fun v5 wr => ∃ k : Nat, 1 ≤ k ∧ k ≤ es.length ∧ v5 = .int .i64 k ∧ BlkX W0 wr g cap es ∧ ∀ i (h : i + 1 < es.length), i + 1 < k → es[i].1.t ≠ es[i + 1].1.t) (fun v5 _ => es.length - (intOf v5).toNat)
    case atStart => exact ⟨1, Nat.le_refl _, by omega, rfl, HB.out, fun i h hi => by omega⟩
    case round =>
      rename World => wA
      obtain ⟨k, hk1, hk, rfl, hA, hall⟩ := hrel
      have HA := Lib.hid hA
      have HALL := Lib.hid hall
      clear hA hall
      by_cases hlt : k < es.length
      · obtain ⟨m, hm⟩ : ∃ m, m + 1 = k := ⟨k - 1, by omega⟩
        have hm2 : m < es.length := by omega
        obtain ⟨c0, c1, c2⟩ := HA.out.get hlt
        obtain ⟨d0, d1, d2⟩ := HA.out.get hm2
        have hk0 : (0 : Int) ≤ (k : Int) := by omega
        have hkl : (k : Int) < (es.length : Int) := by omega
        have hm0 : (0 : Int) ≤ (m : Int) := by omega
        have hml : (m : Int) < (es.length : Int) := by omega
        have hwm : IntKind.i64.wrap ((k : Int) - 1) = (m : Int) := by rw [IntWalk.i64_in _ (by omega)]; omega
        have hwk : IntKind.i64.wrap (k : Int) = (k : Int) := IntWalk.i64_in _ (by omega)
        obtain ⟨r, hr⟩ : ∃ r, r = isT es[k].1.t es[m].1.t := ⟨_, rfl⟩
        have EQ := Lib.hid (equalE HA.out.bel es[k] es[m] r hr.symm)
        have HRR := Lib.hid hr
        obtain ⟨x, hx⟩ : ∃ x, x = es[k] := ⟨_, rfl⟩
        obtain ⟨y, hy⟩ : ∃ x, x = es[m] := ⟨_, rfl⟩
        rw [← hx] at c0 c1 c2 EQ
        rw [← hy] at d0 d1 d2 EQ
        have HX := Lib.hid hx
        have HY := Lib.hid hy
        have HM := Lib.hid hm
        clear hx hy hr hm
        have b0 := fun d os => cell_regrown c0 d os
        have b1 := fun d os => cell_regrown c1 d os
        have b2 := fun d os => cell_regrown c2 d os
        have b3 := fun d os => cell_regrown d0 d os
        have b4 := fun d os => cell_regrown d1 d os
        have b5 := fun d os => cell_regrown d2 d os
        go_wp2_with fail
        refine wp_region_quiet_below (by kernel_rfl) (by kernel_rfl) ?_
        repeat (go_big_quiet_step (first | (with_reducible exact Calls.regrown_of (EQ.out _ _))))
        refine wpQuiet_nil ?_
        intro _ hw'
        obtain ⟨⟨dq, osq⟩, hw''⟩ := hw'
        subst hw''
        have HA2 := Lib.hid (HA.out.keep (below_regrown wA dq osq) HA.out.lt)
        clear c0 c1 c2 d0 d1 d2 b0 b1 b2 b3 b4 b5
        cases r
        · have HN := Lib.hid (show ∀ i (h : i + 1 < es.length), i + 1 < k + 1 → es[i].1.t ≠ es[i + 1].1.t from fun i h hi => by
            by_cases e : i + 1 = k
            · subst e
              obtain rfl : i = m := by have := HM.out; omega
              exact fun e => (isT_no _ _).1 HRR.out.symm e.symm
            · exact HALL.out i h (by omega))
          go_wp2_with fail
          exact ⟨⟨k + 1, by omega, by omega, by go_num, HA2.out, HN.out⟩, by simp [intOf]; omega⟩
        · have HC := Lib.hid (CompI.start (es := es) (k := k) (by omega) hlt HALL.out (by
            have h1 := (isT_iff _ _).1 HRR.out.symm
            obtain rfl : m = k - 1 := by have := HM.out; omega
            exact h1))
          have hkc : ¬ cap = k := by omega
          have hkc2 : (k : Int) ≤ (cap : Int) := by omega
          have hkn : (k : Int) ≤ (es.length : Int) := by omega
          have hsub : IntKind.i64.wrap ((es.length : Int) - (k : Int)) = ((es.length - k : Nat) : Int) := by rw [IntWalk.i64_in _ (by omega)]; omega
          go_wp2_with fail
          go_loopw [5, 7] (fun v5 v7 wr => ∃ (kk k2 : Nat) (L : List (ExIn W0)), v5 = .int .i64 kk ∧ v7 = .int .i64 k2 ∧ 1 ≤ k2 ∧ k + k2 ≤ es.length ∧ CompI es (k + k2) kk L ∧ BlkX W0 wr g cap L) (fun _ v7 _ => es.length - (k + (intOf v7).toNat))
          case atStart => exact ⟨k, 1, es, rfl, rfl, Nat.le_refl _, by omega, HC.out, HA2.out⟩
          case round =>
            rename World => wB
            obtain ⟨kk, k2, L, rfl, rfl, h21, h2e, hI, hL⟩ := hrel
            have hkk := hI.lt
            have hLs := hI.size
            have HI := Lib.hid hI
            have HL := Lib.hid hL
            clear hI hL
            by_cases hlt2 : k + k2 < es.length
            · obtain ⟨m2, hm2'⟩ : ∃ m, m + 1 = k2 := ⟨k2 - 1, by omega⟩
              have i1 : k + k2 < L.length := by omega
              have i2 : k + m2 < L.length := by omega
              have i3 : kk < L.length := by omega
              obtain ⟨c0, c1, c2⟩ := HL.out.get i1
              obtain ⟨d0, d1, d2⟩ := HL.out.get i2
              obtain ⟨o0, o1, o2⟩ := HL.out.get i3
              have f0 := HL.out.fr (kk * 3)
              have f1 := HL.out.fr (kk * 3 + 1)
              have f2 := HL.out.fr (kk * 3 + 2)
              rw [show (k + k2) * 3 = k * 3 + k2 * 3 by omega] at c0 c1 c2
              rw [show (k + m2) * 3 = k * 3 + m2 * 3 by omega] at d0 d1 d2
              have hx : L[k + k2] = es[k + k2] := by
                have h1 := HI.out.high (k + k2) (by omega)
                rw [List.getElem?_eq_getElem i1, List.getElem?_eq_getElem hlt2] at h1
                injection h1
              have hy : L[k + m2] = es[k + k2 - 1] := by
                have h1 := HI.out.high (k + m2) (by omega)
                rw [List.getElem?_eq_getElem i2, List.getElem?_eq_getElem (by omega)] at h1
                injection h1 with h1
                rw [h1]
                congr 1
                omega
              obtain ⟨r, hr⟩ : ∃ r, r = isT L[k + k2].1.t L[k + m2].1.t := ⟨_, rfl⟩
              have EQ2 := Lib.hid (equalE HL.out.bel L[k + k2] L[k + m2] r hr.symm)
              rw [hx, hy] at hr
              have HRR2 := Lib.hid hr
              have HX2 := Lib.hid hx
              obtain ⟨x2, hx2⟩ : ∃ x, x = L[k + k2] := ⟨_, rfl⟩
              obtain ⟨y2, hy2⟩ : ∃ x, x = L[k + m2] := ⟨_, rfl⟩
              obtain ⟨z2, hz2⟩ : ∃ x, x = L[kk] := ⟨_, rfl⟩
              rw [← hx2] at c0 c1 c2 EQ2
              rw [← hy2] at d0 d1 d2 EQ2
              rw [← hz2] at o0 o1 o2
              have HX3 := Lib.hid (hx2.trans hx)
              clear hx hy hx2 hy2 hz2 hr
              have g0 : (0 : Int) ≤ (k2 : Int) := by omega
              have g1 : (k2 : Int) < ((es.length - k : Nat) : Int) := by omega
              have g2 : (0 : Int) ≤ (m2 : Int) := by omega
              have g3 : (m2 : Int) < ((es.length - k : Nat) : Int) := by omega
              have g4 : IntKind.i64.wrap ((k2 : Int) - 1) = (m2 : Int) := by rw [IntWalk.i64_in _ (by omega)]; omega
              have g5 : IntKind.i64.wrap (k2 : Int) = (k2 : Int) := IntWalk.i64_in _ (by omega)
              have g6 : (0 : Int) ≤ (kk : Int) := by omega
              have g7 : (kk : Int) < (es.length : Int) := by omega
              have b0 := fun d os => cell_regrown c0 d os
              have b1 := fun d os => cell_regrown c1 d os
              have b2 := fun d os => cell_regrown c2 d os
              have b3 := fun d os => cell_regrown d0 d os
              have b4 := fun d os => cell_regrown d1 d os
              have b5 := fun d os => cell_regrown d2 d os
              have b6 := fun d os => cell_regrown o0 d os
              have b7 := fun d os => cell_regrown o1 d os
              have b8 := fun d os => cell_regrown o2 d os
              go_wp2_with fail
              refine wp_region_quiet_below (by kernel_rfl) (by kernel_rfl) ?_
              repeat (go_big_quiet_step (first | (with_reducible exact Calls.regrown_of (EQ2.out _ _))))
              refine wpQuiet_nil ?_
              intro _ hw'
              obtain ⟨⟨dq2, osq2⟩, hw''⟩ := hw'
              subst hw''
              have HL2 := Lib.hid (HL.out.keep (below_regrown wB dq2 osq2) HL.out.lt)
              have f0' := HL2.out.fr (kk * 3)
              have f1' := HL2.out.fr (kk * 3 + 1)
              have f2' := HL2.out.fr (kk * 3 + 2)
              clear c0 c1 c2 d0 d1 d2 o0 o1 o2 f0 f1 f2 b3 b4 b5
              cases r
              · have HN := Lib.hid (HI.out.put hlt2 ((isT_no _ _).1 HRR2.out.symm))
                have HP := Lib.hid (HL2.out.set i3 x2)
                go_wp2_with fail
                refine ⟨⟨kk + 1, k2 + 1, L.set kk x2, by go_num, by go_num, by omega, by omega, ?_, ?_⟩, by simp [intOf]; omega⟩
                · rw [HX3.out]; exact HN.out
                · exact HP.out
              · have HN := Lib.hid (HI.out.skip hlt2 ((isT_iff _ _).1 HRR2.out.symm))
                go_wp2_with fail
                exact ⟨⟨kk, k2 + 1, L, rfl, by go_num, by omega, by omega, HN.out, HL2.out⟩, by simp [intOf]; omega⟩
            · have hend : k + k2 = es.length := by omega
              obtain ⟨i0, hinf, hz0, hz1, hz2⟩ := info_parts infoE
              have g6 : (0 : Int) ≤ (kk : Int) := by omega
              have g7 : (kk : Int) ≤ (es.length : Int) := by omega
              have g8 : ¬ cap = kk := by omega
              have g9 : (kk : Int) ≤ (cap : Int) := by omega
              have hcl : ∀ ty, (Builtin.clear_ #[22] ty #[.slice (some ⟨g, kk * 3, none⟩) (es.length - kk) (cap - kk)]).run Try.prog wB = .ok (.tuple #[]) (wB.setCells g (kk * 3) (Builtin.zeroCells #[.int .i64 0, .int .i64 0, .slice none 0 0] (es.length - kk)).toList) := fun ty =>
                run_clear3 wB _ 24 ty (.agg #[.int .i64 0, .int .i64 0, .slice none 0 0]) Try.underlying22 (fun w => by simp [zeroValue, typeInfo, hinf, hz0]) (by intro u hu; simp [Value.cells] at hu; rcases hu with rfl | rfl <;> rfl) g (kk * 3) (es.length - kk) (cap - kk) (by omega) rfl (fun j hj => HL.out.is (by omega)) (fun j hj => HL.out.fr _)
              have HF := Lib.hid ((HL.out.pre kk).cut (kk * 3) (by simp; omega) (Builtin.zeroCells #[.int .i64 0, .int .i64 0, .slice none 0 0] (es.length - kk)).toList)
              have HT := Lib.hid (show (L.take kk).map (·.1.t) = runsT (es.map (·.1.t)) by
                rw [HI.out.low, hend, List.take_of_length_le (by simp)])
              have HLn := Lib.hid (show (L.take kk).length = kk by simp; omega)
              clear hinf hz0 hz1 hz2
              go_wp2
              go_ret
              exact ⟨L.take kk, by rw [HLn.out]; rfl, HF.out, HT.out⟩
      · obtain rfl : k = es.length := by omega
        have HR := Lib.hid (runs_none (es := es) fun i hi => HALL.out i hi (by omega))
        go_wp2_with fail
        go_ret
        exact ⟨es, rfl, HA.out, HR.out.symm⟩
end Go.Proofs.Ythmdndondlffeaa
