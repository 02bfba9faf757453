/- Contract: the reference's Count. -/
import Derived.Test.YtohoiebofkmjeabDfaCC
namespace Go.Proofs.Ytohoiebofkmjeab
open Go Go.RowKit
set_option linter.unusedVariables false
theorem infoI : (Try.prog.info? 3).map (fun i => (i.zero, i.size, i.bytes)) = some (some (.int .i64 0), 1, 8) := by kernel_rfl
def nsI (h : Nat → Nat) : Nat → Value := fun q => .int .i64 ((h q : Nat) : Int)
theorem nsI_set {h : Nat → Nat} {s x : Nat} (t : Nat) : (if t = s then Value.int .i64 (x : Int) else nsI h t) = nsI (fun t => if t = s then x else h t) t := by
  unfold nsI; by_cases e : t = s <;> simp [e]
theorem addAt_lt {h : Nat → Nat} (hh : ∀ s, h s < pr61) (s a : Nat) : ∀ t, addAt h s a t < pr61 := fun t => by
  unfold addAt; split
  · exact Nat.mod_lt _ (by unfold pr61; omega)
  · exact hh t
set_option maxRecDepth 100000 in
set_option maxHeartbeats 8000000 in
theorem rcount_ok (d : DF) (af : Option Addr) (cf : Nat) (an : Option Addr) (cn : Nat) (n : Nat) (w : World) (hin : InD w d af an) (hv : OkD d) (hn : n ≤ 10000) :
    Calls Try.prog 24 #[dV d af cf an cn, .int .i64 n] w fun e w' => e = .returned (.int .i64 ((d.cn n d.S.toNat % pr61 : Nat) : Int)) ∧ Below w.heap.size w w' := by
  obtain ⟨W0, HW⟩ : ∃ W0, BoxD w W0 d af cf an cn := ⟨_, ⟨rfl⟩⟩
  have HI := Lib.hid (HW.in hin)
  have HZ := Lib.hid (fun w' hb => @BoxD.cells w W0 d af cf an cn HW w' hb)
  have HOUT := Lib.hid (fun w' hb => @BoxD.out w W0 d af cf an cn HW w' hb)
  have HSZ := Lib.hid HW.size
  have HB0 := Lib.hid (show Below (w.heap.size + 1) W0 W0 from Below.refl _ _)
  have HWE := Lib.hid HW.eq
  obtain ⟨i0, hi, hz0, hz1, hz2⟩ := info_parts infoI
  have hst := hv.st.1
  have HSE := Lib.hid hv.st.2
  have hn2 := hv.n2
  have HV := Lib.hid hv
  have HMN := Lib.hid hv.mn
  have z2' : (w.alloc (dO d af cf an cn)).cell? ⟨w.heap.size, 2, none⟩ = some (.slice af d.n cf) := by rw [← HWE.out]; exact (HZ.out _ HB0.out).2.2.1
  obtain ⟨s0, hs0⟩ : ∃ s0, s0 = d.S.toNat := ⟨_, rfl⟩
  have HS0 := Lib.hid hs0
  have hs00 : (0 : Int) ≤ (s0 : Int) := by omega
  have hs0n : (s0 : Int) < (d.n : Int) := by omega
  have hws : IntKind.i64.wrap (s0 : Int) = (s0 : Int) := IntWalk.i64_in _ (by omega)
  have hst0 : s0 < d.n := by omega
  rw [← hs0]
  unfold dO at z2' HWE
  clear hin hv HW hst hs0
  go_enter Try.func24, Try.ntmps24
  go_wp2_with (refine wpList_make_full _ rfl _ _ 52 rfl (w.heap.size + 1) 3 i0 (.int .i64 0) 1 Try.underlying52 hi hz0 hz1 .i64 .i64 _ _ d.n rfl rfl (by simp) (by simp) ?c1 ?c2 ?c3 ?_)
  case c1 => rw [hz2]; omega
  case c2 => unfold maxLen; omega
  case c3 => simp
  intro w1 hown0 hg1
  rw [← HWE.out] at hg1
  have hb1 : Below (w.heap.size + 1) W0 w1 := HB0.out.grown hg1 (by rw [HSZ.out]; exact Nat.le_refl _) (by intro k hk; cases hk)
  have HO1 := Lib.hid (show OwnV w1 (w.heap.size + 1) 3 (w.heap.size + 1) d.n (nsI fun _ => 0) from OwnV.made (z := .int .i64 0) rfl (by simpa using hown0))
  have HB1 := Lib.hid hb1
  obtain ⟨z0, z1, z2, z3⟩ := HZ.out _ hb1
  have hse := HSE.out
  rw [← HS0.out] at hse
  rw [hse] at z1
  have HZ0 := Lib.hid (HO1.out.cell hst0)
  obtain ⟨v0, hcur⟩ : ∃ v0, w1.cell? ⟨w.heap.size + 1, s0, none⟩ = some v0 := ⟨_, HZ0.out⟩
  have hfr := HO1.out.free s0
  have HO2 := Lib.hid (show OwnV (w1.setCell ⟨w.heap.size + 1, s0, none⟩ (.int .i64 1)) (w.heap.size + 1) 3 (w.heap.size + 1) d.n (nsI fun t => if t = s0 then 1 else 0) from (HO1.out.set s0 (.int .i64 ((1 : Nat) : Int))).congr fun t _ => nsI_set t)
  have HB2 := Lib.hid (HB1.out.setCell (p := ⟨w.heap.size + 1, s0, none⟩) (Nat.le_refl _) (.int .i64 1))
  clear hown0 hg1 hb1 z2' hse
  go_wp2_with fail
  go_loopw [5, 6] (fun v5 vi wr => ∃ (k g : Nat) (h : Nat → Nat), k ≤ n ∧ vi = .int .i64 k ∧ v5 = .slice (some ⟨g, 0, none⟩) d.n d.n ∧ OwnV wr (w.heap.size + 1) 3 g d.n (nsI h) ∧ (∀ s, h s < pr61) ∧ (∀ G, dotN h G d.n % pr61 = d.it k G s0 % pr61) ∧ Below (w.heap.size + 1) W0 wr) (fun _ vi _ => n - (intOf vi).toNat)
  case atStart => exact ⟨0, _, fun t => if t = s0 then 1 else 0, Nat.zero_le _, rfl, rfl, HO2.out, fun s => by dsimp only; split <;> (unfold pr61; omega), fun G => by rw [dotN_unit, if_pos hst0]; rfl, HB2.out⟩
  case round =>
    rename World => wA
    obtain ⟨k, g, h, hk, rfl, rfl, ho, hlt, hdot, hb⟩ := hrel
    have HO := Lib.hid ho
    have HLT := Lib.hid hlt
    have HDOT := Lib.hid hdot
    have HB := Lib.hid hb
    clear z0 z1 z2 z3 hcur hfr
    obtain ⟨z0, z1, z2, z3⟩ := HZ.out _ hb
    clear ho hlt hdot hb
    by_cases hkn : k < n
    · have hsA : w.heap.size + 1 ≤ wA.heap.size := by have := HB.out.size; have := HSZ.out; omega
      have HSA := Lib.hid hsA
      have HGA := Lib.hid HO.out.lt
      go_wp2_with (refine wpList_make_full _ rfl _ _ 52 rfl (w.heap.size + 1) 3 i0 (.int .i64 0) 1 Try.underlying52 hi hz0 hz1 .i64 .i64 _ _ d.n rfl rfl (by simp) (by simp) ?c1 ?c2 ?c3 ?_)
      case c1 => rw [hz2]; omega
      case c2 => unfold maxLen; omega
      case c3 => exact hsA
      intro w4 hown0 hg1
      have hb4 : Below wA.heap.size wA w4 := (Below.refl wA.heap.size wA).grown hg1 (Nat.le_refl _) (by intro k hk; cases hk)
      have HB4 := Lib.hid hb4
      have HO4 := Lib.hid (show OwnV w4 (w.heap.size + 1) 3 wA.heap.size d.n (nsI fun _ => 0) from OwnV.made (z := .int .i64 0) rfl (by simpa using hown0))
      have HBT := Lib.hid (fun W (hW : Below wA.heap.size w4 W) => HB.out.trans ((HB4.out.trans hW).mono HSA.out))
      have HOH := Lib.hid (fun W (hW : Below wA.heap.size w4 W) => HO.out.keep (HB4.out.trans hW) HGA.out.2)
      clear hown0 hg1 hb4 hsA z0 z1 z2 z3
      go_wp2_with fail
      go_loopw [38] (fun vi wr => ∃ (q : Nat) (h' : Nat → Nat), q ≤ d.n ∧ vi = .int .i64 q ∧ OwnV wr (w.heap.size + 1) 3 wA.heap.size d.n (nsI h') ∧ (∀ s, h' s < pr61) ∧ d.fw h h' q ∧ Below wA.heap.size w4 wr) (fun vi _ => d.n - (intOf vi).toNat)
      case atStart => exact ⟨0, fun _ => 0, Nat.zero_le _, rfl, HO4.out, fun s => by show 0 < pr61; unfold pr61; omega, d.fw_start h, Below.refl _ _⟩
      case round =>
        rename World => wB
        obtain ⟨q, h', hq, rfl, ho, hlt, hfw, hb⟩ := hrel
        have HOq := Lib.hid ho
        have HLq := Lib.hid hlt
        have HFW := Lib.hid hfw
        have HBq := Lib.hid hb
        obtain ⟨z0, z1, z2, z3⟩ := HZ.out _ (HBT.out _ hb)
        clear ho hlt hfw hb
        by_cases hqn : q < d.n
        · obtain ⟨b, off, r, c', rfl, hbz, hcell0, hrow⟩ := HI.out.nxt.at (i := q) (by rw [HMN.out]; exact hqn)
          have hcell := ((HBT.out _ HBq.out).cell (p := ⟨b, off + q, none⟩) (by rw [← HSZ.out]; exact hbz)).trans hcell0
          have hlnq := HV.out.ln q hqn
          obtain ⟨m, hm⟩ : ∃ m, m = d.ln q := ⟨_, rfl⟩
          have hmL : m = d.L.toNat := by omega
          have hm6 : m ≤ 6 := by have := HV.out.l2; omega
          have HML := Lib.hid hmL
          have HX := Lib.hid hrow
          rw [← hm] at hcell HX
          have HNL := Lib.hid (fun x (hx : x < m) => HV.out.nxlt (q := q) (x := x) hqn (by rw [← hlnq, ← hm]; omega))
          have HNE := Lib.hid (fun x (hx : x < m) => HV.out.nxeq (q := q) (x := x) hqn (by rw [← hlnq, ← hm]; omega))
          have HF0 := Lib.hid (DF.fwx_start HFW.out)
          rw [HMN.out] at z3
          have hq0 : (0 : Int) ≤ (q : Int) := by omega
          have hqn2 : (q : Int) < (d.n : Int) := by omega
          have hwq : IntKind.i64.wrap (q : Int) = (q : Int) := IntWalk.i64_in _ (by omega)
          clear hrow hm hlnq hmL hcell0
          go_wp2_with fail
          go_loopw [47] (fun vj wr => ∃ (j : Nat) (h' : Nat → Nat), j ≤ m ∧ vj = .int .i64 j ∧ OwnV wr (w.heap.size + 1) 3 wA.heap.size d.n (nsI h') ∧ (∀ s, h' s < pr61) ∧ d.fwx h h' q j ∧ Below wA.heap.size w4 wr) (fun vj _ => m - (intOf vj).toNat)
          case atStart => exact ⟨0, h', Nat.zero_le _, rfl, HOq.out, HLq.out, HF0.out, HBq.out⟩
          case round =>
            rename World => wC
            obtain ⟨j, h2, hj, rfl, ho, hlt, hfw, hb⟩ := hrel
            have HOj := Lib.hid ho
            have HLj := Lib.hid hlt
            have HFj := Lib.hid hfw
            have HBj := Lib.hid hb
            clear z0 z1 z2 z3 hcell
            clear ho hlt hfw hb
            by_cases hjm : j < m
            · have hnl := HNL.out j hjm
              have hne := HNE.out j hjm
              obtain ⟨b2, off2, rfl, hb2, hc2⟩ := (HX.out.keep (by rw [HSZ.out]; exact HBT.out _ HBj.out)).at hjm
              rw [show rowsV d.N q j = .int .i64 (d.N q j) from rfl, hne] at hc2
              have HST := Lib.hid (DF.fwx_step HFj.out hnl)
              obtain ⟨t, ht⟩ : ∃ t, t = d.nx q j := ⟨_, rfl⟩
              rw [← ht] at hc2 hnl HST
              have hcu := HOj.out.cell hnl
              have hch := (HOH.out _ HBj.out).cell hqn
              rw [show nsI h2 t = .int .i64 ((h2 t : Nat) : Int) from rfl] at hcu
              rw [show nsI h q = .int .i64 ((h q : Nat) : Int) from rfl] at hch
              have hfr := HOj.out.free t
              have hl1 := HLj.out t
              have hl2 := HLT.out q
              unfold pr61 at hl1 hl2
              have HLX := Lib.hid (addAt_lt HLj.out t (h q))
              obtain ⟨x, hx⟩ : ∃ x, x = (h2 t + h q) % 2305843009213693951 := ⟨_, rfl⟩
              have HNX := Lib.hid (show OwnV (wC.drew.setCell ⟨wA.heap.size, t, none⟩ (.int .i64 (x : Int))) (w.heap.size + 1) 3 wA.heap.size d.n (nsI (addAt h2 t (h q))) from (HOj.out.drew.set t _).congr fun t' _ => by
                rw [hx]; unfold nsI addAt
                by_cases e : t' = t
                · subst e; rw [if_pos rfl, if_pos rfl]; rfl
                · rw [if_neg e, if_neg e])
              obtain ⟨u, hu⟩ : ∃ u, u = h2 t := ⟨_, rfl⟩
              obtain ⟨v, hv⟩ : ∃ v, v = h q := ⟨_, rfl⟩
              rw [← hu] at hcu hl1 hx
              rw [← hv] at hch hl2 hx
              have hsum : IntKind.i64.wrap ((u : Int) + (v : Int)) = (u : Int) + (v : Int) := IntWalk.i64_in _ (by omega)
              have hrem : ((u : Int) + (v : Int)) % 2305843009213693951 = (x : Int) := by rw [hx]; omega
              have htm : ((u : Int) + (v : Int)).tmod 2305843009213693951 = (x : Int) := by rw [Int.tmod_eq_emod_of_nonneg (by omega)]; exact hrem
              have hxw : IntKind.i64.wrap (x : Int) = (x : Int) := IntWalk.i64_in _ (by omega)
              have hj0 : (0 : Int) ≤ (j : Int) := by omega
              have hjn : (j : Int) < (m : Int) := by omega
              have hwj : IntKind.i64.wrap (j : Int) = (j : Int) := IntWalk.i64_in _ (by omega)
              have ht0 : (0 : Int) ≤ (t : Int) := by omega
              have htn : (t : Int) < (d.n : Int) := by omega
              have hwt : IntKind.i64.wrap (t : Int) = (t : Int) := IntWalk.i64_in _ (by omega)
              have HBX := Lib.hid (fun x => HBj.out.drew.setCell (p := ⟨wA.heap.size, t, none⟩) (Nat.le_refl _) x)
              clear hu hv hx hl1 hl2 ht hne
              go_wp2_with fail
              go_region
              all_goals
                go_wp2_with fail
                exact ⟨⟨j + 1, _, by omega, by go_num, HNX.out, HLX.out, HST.out, HBX.out _⟩, by simp [intOf]; omega⟩
            · obtain rfl : j = m := by omega
              have HE := Lib.hid (show d.fw h h2 (q + 1) from DF.fwx_end (by rw [← HML.out]; exact HFj.out))
              go_wp2_with fail
              exact ⟨⟨q + 1, h2, by omega, by go_num, HOj.out, HLj.out, HE.out, HBj.out⟩, by simp [intOf]; omega⟩
        · obtain rfl : q = d.n := by omega
          have HE := Lib.hid (DF.fw_all HDOT.out HFW.out)
          have HBE := Lib.hid (HBT.out _ HBq.out)
          go_wp2_with fail
          exact ⟨⟨k + 1, _, h', by omega, by go_num, rfl, HOq.out, HLq.out, HE.out, HBE.out⟩, by simp [intOf]; omega⟩
    · obtain rfl : k = n := by omega
      have HSUM := Lib.hid (sumF_cn (d := d) HDOT.out)
      go_wp2_with fail
      go_loopw [11, 69] (fun vs vi wr => ∃ q : Nat, q ≤ d.n ∧ vi = .int .i64 q ∧ vs = .int .i64 ((sumF d.F h q : Nat) : Int) ∧ wr = wA) (fun _ vi _ => d.n - (intOf vi).toNat)
      case atStart => exact ⟨0, Nat.zero_le _, rfl, rfl, rfl⟩
      case round =>
        rename World => wB
        obtain ⟨q, hq, rfl, rfl, rfl⟩ := hrel
        by_cases hqn : q < d.n
        · obtain ⟨ab, aoff, rfl, hab, hca⟩ := (HI.out.fin.keep (by rw [HSZ.out]; exact HB.out)).at hqn
          rw [show boolsV d.F q = .bool (d.F q) from rfl] at hca
          have hch := HO.out.cell hqn
          rw [show nsI h q = .int .i64 ((h q : Nat) : Int) from rfl] at hch
          have hl2 := HLT.out q
          have hl1 := sumF_lt d.F h q
          unfold pr61 at hl1 hl2
          have hq0 : (0 : Int) ≤ (q : Int) := by omega
          have hqn2 : (q : Int) < (d.n : Int) := by omega
          have hwq : IntKind.i64.wrap (q : Int) = (q : Int) := IntWalk.i64_in _ (by omega)
          cases hF : d.F q
          · rw [hF] at hca
            have HS := Lib.hid (show sumF d.F h (q + 1) = sumF d.F h q by rw [sumF, hF]; rfl)
            obtain ⟨u, hu⟩ : ∃ u, u = sumF d.F h q := ⟨_, rfl⟩
            rw [← hu] at HS
            clear hF hl1
            go_wp2_with fail
            exact ⟨⟨q + 1, by omega, by go_num, by rw [HS.out, hu], trivial⟩, by simp [intOf]; omega⟩
          · rw [hF] at hca
            have HS := Lib.hid (show sumF d.F h (q + 1) = (sumF d.F h q + h q) % 2305843009213693951 by rw [sumF, if_pos hF]; rfl)
            obtain ⟨u, hu⟩ : ∃ u, u = sumF d.F h q := ⟨_, rfl⟩
            obtain ⟨v, hv⟩ : ∃ v, v = h q := ⟨_, rfl⟩
            rw [← hu, ← hv] at HS
            rw [← hu] at hl1 ⊢
            rw [← hv] at hl2 hch
            obtain ⟨x, hx⟩ : ∃ x, x = (u + v) % 2305843009213693951 := ⟨_, rfl⟩
            rw [← hx] at HS
            have hsum : IntKind.i64.wrap ((u : Int) + (v : Int)) = (u : Int) + (v : Int) := IntWalk.i64_in _ (by omega)
            have hrem : ((u : Int) + (v : Int)) % 2305843009213693951 = (x : Int) := by rw [hx]; omega
            have htm : ((u : Int) + (v : Int)).tmod 2305843009213693951 = (x : Int) := by rw [Int.tmod_eq_emod_of_nonneg (by omega)]; exact hrem
            have hxw : IntKind.i64.wrap (x : Int) = (x : Int) := IntWalk.i64_in _ (by omega)
            clear hF hl1 hl2 hu hv hx
            go_wp2_with fail
            exact ⟨⟨q + 1, by omega, by go_num, by rw [HS.out], trivial⟩, by simp [intOf]; omega⟩
        · obtain rfl : q = d.n := by omega
          have HBE := Lib.hid (HOUT.out _ HB.out)
          go_wp2_with fail
          go_ret
          exact ⟨by rw [← HSUM.out]; rfl, HBE.out⟩
end Go.Proofs.Ytohoiebofkmjeab
