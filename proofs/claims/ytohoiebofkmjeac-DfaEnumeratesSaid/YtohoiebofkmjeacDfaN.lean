/- Contract: before. -/
import Derived.Test.YtohoiebofkmjeacDfaB
import Derived.Test.YtohoiebofkmjeacDfaW
import Derived.OwnWalk
namespace Go.Proofs.Ytohoiebofkmjeac
open Go Go.RowKit
set_option linter.unusedVariables false
theorem infoBo : (Try.prog.info? 4).map (fun i => (i.zero, i.size, i.bytes)) = some (some (.bool false), 1, 1) := by kernel_rfl
theorem OwnV.made {w : World} {base g n : Nat} {e : TypeId} {z : Value} (hz : z.oneCell' = true) (h : w.ownsRow base e 1 (.slice (some ⟨g, 0, none⟩) n n) n (madeCells #[z] n).toList) : OwnV w base e g n (fun _ => z) := by
  unfold OwnV; rw [← vals_made n z hz]; exact h
/-- row q while its letters are looked through -/
def midV (d : DF) (p : Nat → Bool) (q j : Nat) (t : Nat) : Value := if t = q then .bool (d.bfx p q j) else upV q (boolsV fun _ => false) (boolsV (d.bf p)) t
set_option maxRecDepth 100000 in
set_option maxHeartbeats 4000000 in
theorem before_ok (d : DF) (af : Option Addr) (cf : Nat) (an : Option Addr) (cn : Nat) (p : Nat → Bool) (a : Option Addr) (c : Nat) (w : World) (hin : InD w d af an) (hv : OkD d) (hr : RowV w a d.n (boolsV p)) :
    Calls Try.prog 25 #[dV d af cf an cn, .slice a d.n c] w fun e w' => ∃ g, e = .returned (.slice (some ⟨g, 0, none⟩) d.n d.n) ∧ OwnV w' w.heap.size 4 g d.n (boolsV (d.bf p)) ∧ Below w.heap.size w w' := by
  have hn2 := hv.n2
  have hmn := hv.mn
  have HV := Lib.hid hv
  obtain ⟨W0, HW⟩ : ∃ W0, BoxD w W0 d af cf an cn := ⟨_, ⟨rfl⟩⟩
  have HI := Lib.hid (HW.in hin)
  have HR := Lib.hid (hr.keep HW.below)
  have HZ := Lib.hid (fun w' hb => @BoxD.cells w W0 d af cf an cn HW w' hb)
  have HOUT := Lib.hid (fun w' hb => @BoxD.out w W0 d af cf an cn HW w' hb)
  have hsz := HW.size
  have HSZ := Lib.hid hsz
  have HB0 := Lib.hid (show Below (w.heap.size + 1) W0 W0 from Below.refl _ _)
  have HWE := Lib.hid HW.eq
  obtain ⟨i0, hi, hz0, hz1, hz2⟩ := info_parts infoBo
  have z3' : (w.alloc (dO d af cf an cn)).cell? ⟨w.heap.size, 3, none⟩ = some (.slice an d.m cn) := by rw [← HWE.out]; exact (HZ.out _ HB0.out).2.2.2
  have HMN := Lib.hid hmn
  obtain ⟨n, hn⟩ : ∃ n, n = d.n := ⟨_, rfl⟩
  have HN := Lib.hid hn
  rw [← hn] at hn2 HR HZ
  rw [HMN.out, ← hn] at HZ
  unfold dV
  rw [← hn, HMN.out, ← hn]
  unfold dO at HWE z3'
  rw [HMN.out, ← hn] at HWE z3'
  clear hin hv hr hmn HW hn hsz
  go_enter Try.func25, Try.ntmps25
  go_wp2_with (refine wpList_make_full _ rfl _ _ 22 rfl (w.heap.size + 1) 4 i0 (.bool false) 1 Try.underlying22 hi hz0 hz1 .i64 .i64 _ _ n rfl rfl (by simp) (by simp) ?c1 ?c2 ?c3 ?_)
  case c1 => rw [hz2]; omega
  case c2 => unfold maxLen; omega
  case c3 => simp
  intro w1 hown0 hg1
  rw [← HWE.out] at hg1
  have hb1 : Below (w.heap.size + 1) W0 w1 := HB0.out.grown hg1 (by rw [HSZ.out]; exact Nat.le_refl _) (by intro k hk; cases hk)
  have HO1 := Lib.hid (show OwnV w1 (w.heap.size + 1) 4 (w.heap.size + 1) n (upV 0 (boolsV fun _ => false) (boolsV (d.bf p))) from (OwnV.made rfl (by simpa using hown0)).congr fun t _ => (upV_zero _ _ t).symm)
  have HB1 := Lib.hid hb1
  obtain ⟨z0, z1, z2, z3⟩ := HZ.out _ hb1
  clear hown0 hg1 hb1 z3'
  go_wp2_with fail
  go_loopw [16] (fun vi wr => ∃ q : Nat, q ≤ n ∧ vi = .int .i64 q ∧ OwnV wr (w.heap.size + 1) 4 (w.heap.size + 1) n (upV q (boolsV fun _ => false) (boolsV (d.bf p))) ∧ Below (w.heap.size + 1) W0 wr) (fun vi _ => n - (intOf vi).toNat)
  case atStart => exact ⟨0, Nat.zero_le _, rfl, HO1.out, HB1.out⟩
  case round =>
    rename World => wA
    obtain ⟨q, hq, rfl, ho, hb⟩ := hrel
    have HO := Lib.hid ho
    have HB := Lib.hid hb
    clear ho hb z0 z1 z2 z3
    by_cases hlt : q < n
    · have hle : q < d.n := by rw [← HN.out]; exact hlt
      obtain ⟨b, off, r, c', rfl, hbz, hcell0, hrow⟩ := HI.out.nxt.at (i := q) (by rw [HMN.out]; exact hle)
      have hcell := (HB.out.cell (p := ⟨b, off + q, none⟩) (by rw [← HSZ.out]; exact hbz)).trans hcell0
      have hlnq := HV.out.ln q hle
      obtain ⟨k, hk⟩ : ∃ k, k = d.ln q := ⟨_, rfl⟩
      have hkL : k = d.L.toNat := by omega
      have hk6 : k ≤ 6 := by have := HV.out.l2; omega
      have HKL := Lib.hid hkL
      have HX := Lib.hid hrow
      rw [← hk] at hcell HX
      have HNL := Lib.hid (fun x (hx : x < k) => HV.out.nxlt (q := q) (x := x) hle (by rw [← hlnq, ← hk]; omega))
      have HNE := Lib.hid (fun x (hx : x < k) => HV.out.nxeq (q := q) (x := x) hle (by rw [← hlnq, ← hk]; omega))
      have HM0 := Lib.hid (show OwnV wA (w.heap.size + 1) 4 (w.heap.size + 1) n (midV d p q 0) from HO.out.congr fun t ht => by
        unfold midV
        by_cases e : t = q
        · subst e; rw [if_pos rfl, upV, if_neg (by omega)]; rfl
        · rw [if_neg e])
      have hq0 : (0 : Int) ≤ (q : Int) := by omega
      have hqn : (q : Int) < (n : Int) := by omega
      have hwq : IntKind.i64.wrap (q : Int) = (q : Int) := IntWalk.i64_in _ (by omega)
      clear hrow hk hlnq hkL hcell0
      go_wp2_with fail
      go_loopw [23] (fun vj wq => ∃ j : Nat, j ≤ k ∧ vj = .int .i64 j ∧ OwnV wq (w.heap.size + 1) 4 (w.heap.size + 1) n (midV d p q j) ∧ Below (w.heap.size + 1) W0 wq) (fun vj _ => k - (intOf vj).toNat)
      case atStart => exact ⟨0, Nat.zero_le _, rfl, HM0.out, HB.out⟩
      case round =>
        rename World => wB
        obtain ⟨j, hj, rfl, ho, hb⟩ := hrel
        have HO2 := Lib.hid ho
        have HB2 := Lib.hid hb
        clear ho hb hcell
        by_cases hjk : j < k
        · have hnl := HNL.out j hjk
          have hne := HNE.out j hjk
          obtain ⟨b2, off2, rfl, hb2, hc2⟩ := (HX.out.keep (by rw [HSZ.out]; exact HB2.out)).at hjk
          rw [show rowsV d.N q j = .int .i64 (d.N q j) from rfl, hne] at hc2
          have HS := Lib.hid (d.bfx_succ p q j)
          obtain ⟨t, ht⟩ : ∃ t, t = d.nx q j := ⟨_, rfl⟩
          rw [← ht] at hc2 hnl HS
          have hcur := HO2.out.cell hlt
          have hfr := HO2.out.free q
          rw [show midV d p q j q = .bool (d.bfx p q j) by simp [midV]] at hcur
          rw [← HN.out] at hnl
          obtain ⟨ab, aoff, rfl, hab, hca⟩ := (HR.out.keep (by rw [HSZ.out]; exact HB2.out)).at (i := t) hnl
          rw [show boolsV p t = .bool (p t) from rfl] at hca
          obtain ⟨v, hvv⟩ : ∃ v, v = p t := ⟨_, rfl⟩
          obtain ⟨u, huu⟩ : ∃ u, u = d.bfx p q j := ⟨_, rfl⟩
          rw [← hvv] at hca HS
          rw [← huu] at hcur HS
          have hj0 : (0 : Int) ≤ (j : Int) := by omega
          have hjn : (j : Int) < (k : Int) := by omega
          have hwj : IntKind.i64.wrap (j : Int) = (j : Int) := IntWalk.i64_in _ (by omega)
          have ht0 : (0 : Int) ≤ (t : Int) := by omega
          have htn : (t : Int) < (n : Int) := by omega
          have hwt : IntKind.i64.wrap (t : Int) = (t : Int) := IntWalk.i64_in _ (by omega)
          have HNX := Lib.hid (show ∀ x, x = Value.bool (u || v) → OwnV (wB.setCell ⟨w.heap.size + 1, q, none⟩ x) (w.heap.size + 1) 4 (w.heap.size + 1) n (midV d p q (j + 1)) from fun x hx => (HO2.out.set q x).congr fun t' _ => by
            unfold midV
            by_cases e : t' = q
            · rw [if_pos e, if_pos e, hx, HS.out]
            · rw [if_neg e, if_neg e, if_neg e])
          have HBX := Lib.hid (fun x => HB2.out.setCell (p := ⟨w.heap.size + 1, q, none⟩) (Nat.le_refl _) x)
          clear hvv huu ht hne
          cases u
          · go_wp2_with fail
            exact ⟨⟨j + 1, by omega, by go_num, HNX.out _ rfl, HBX.out _⟩, by simp [intOf]; omega⟩
          · go_wp2_with fail
            exact ⟨⟨j + 1, by omega, by go_num, HNX.out _ rfl, HBX.out _⟩, by simp [intOf]; omega⟩
        · obtain rfl : j = k := by omega
          have HNX := Lib.hid (show OwnV wB (w.heap.size + 1) 4 (w.heap.size + 1) n (upV (q + 1) (boolsV fun _ => false) (boolsV (d.bf p))) from HO2.out.congr fun t ht => by
            unfold midV upV
            by_cases e : t = q
            · subst e; rw [if_pos rfl, if_pos (by omega), HKL.out, DF.bfx_all]; rfl
            · rw [if_neg e]
              by_cases h2 : t < q
              · rw [if_pos h2, if_pos (by omega)]
              · rw [if_neg h2, if_neg (by omega)])
          go_wp2_with fail
          exact ⟨⟨q + 1, by omega, by go_num, HNX.out, HB2.out⟩, by simp [intOf]; omega⟩
    · obtain rfl : q = n := by omega
      have HF := Lib.hid ((HO.out.congr (f' := boolsV (d.bf p)) fun t ht => upV_all ht).base (Nat.le_succ w.heap.size))
      have HBF := Lib.hid (HOUT.out _ HB.out)
      go_wp2_with fail
      go_ret
      exact ⟨_, rfl, HF.out, HBF.out⟩
end Go.Proofs.Ytohoiebofkmjeac
