/- Contracts: bit, longer, Count. -/
import Derived.Test.YtohoiebofkmjeacDfaN
import Derived.Test.YtohoiebofkmjeacDfaC
import Derived.RegionTactic
import Derived.BigRegion
namespace Go.Proofs.Ytohoiebofkmjeac
open Go Go.RowKit
set_option linter.unusedVariables false
theorem infoU : (Try.prog.info? 35).map (fun i => (i.zero, i.size, i.bytes)) = some (some (.int .u64 0), 1, 8) := by kernel_rfl
def bitN (x : Bool) : Nat := if x = true then 1 else 0
theorem bit_any (x : Bool) (w : World) : Calls Try.prog 27 #[.bool x] w fun e w' => e = .returned (.int .i64 (bitN x)) ∧ w = w' := by
  cases x
  · go_enter Try.func27, Try.ntmps27
    go_wp2_with fail
    go_ret
    exact ⟨rfl, rfl⟩
  · go_enter Try.func27, Try.ntmps27
    go_wp2_with fail
    go_ret
    exact ⟨rfl, rfl⟩
def nsU (h : Nat → Nat) : Nat → Value := fun q => .int .u64 ((h q : Nat) : Int)
/-- sums while row q is added up -/
def midU (d : DF) (h : Nat → Nat) (q j : Nat) (t : Nat) : Value := if t = q then .int .u64 ((d.sxj h q j : Nat) : Int) else upV q (nsU fun _ => 0) (nsU fun s => d.sx h s % pr61) t
set_option maxRecDepth 100000 in
set_option maxHeartbeats 4000000 in
theorem longer_ok (d : DF) (af : Option Addr) (cf : Nat) (an : Option Addr) (cn : Nat) (h : Nat → Nat) (a : Option Addr) (c : Nat) (w : World) (hin : InD w d af an) (hv : OkD d) (hr : RowV w a d.n (nsU h)) (hlt : ∀ s, h s < pr61) :
    Calls Try.prog 28 #[dV d af cf an cn, .slice a d.n c] w fun e w' => ∃ g, e = .returned (.slice (some ⟨g, 0, none⟩) d.n d.n) ∧ OwnV w' w.heap.size 35 g d.n (nsU fun s => d.sx h s % pr61) ∧ Below w.heap.size w w' := by
  have hn2 := hv.n2
  have hmn := hv.mn
  have HV := Lib.hid hv
  obtain ⟨W0, HW⟩ : ∃ W0, BoxD w W0 d af cf an cn := ⟨_, ⟨rfl⟩⟩
  have HI := Lib.hid (HW.in hin)
  have HR := Lib.hid (hr.keep HW.below)
  have HZ := Lib.hid (fun w' hb => @BoxD.cells w W0 d af cf an cn HW w' hb)
  have HOUT := Lib.hid (fun w' hb => @BoxD.out w W0 d af cf an cn HW w' hb)
  have hsz := HW.size
  have HSZ := Lib.hid hsz
  have HB0 := Lib.hid (show Below (w.heap.size + 1) W0 W0 from Below.refl _ _)
  have HWE := Lib.hid HW.eq
  have HLT := Lib.hid hlt
  have HSX := Lib.hid (fun q j => d.sxj_le (g := h) (q := q) (b := 2305843009213693950) (fun s => by have := hlt s; unfold pr61 at this; omega) j)
  obtain ⟨i0, hi, hz0, hz1, hz2⟩ := info_parts infoU
  have z3' : (w.alloc (dO d af cf an cn)).cell? ⟨w.heap.size, 3, none⟩ = some (.slice an d.m cn) := by rw [← HWE.out]; exact (HZ.out _ HB0.out).2.2.2
  have HMN := Lib.hid hmn
  obtain ⟨n, hn⟩ : ∃ n, n = d.n := ⟨_, rfl⟩
  have HN := Lib.hid hn
  rw [← hn] at hn2 HR HZ
  rw [HMN.out, ← hn] at HZ
  unfold dV
  rw [← hn, HMN.out, ← hn]
  unfold dO at HWE z3'
  rw [HMN.out, ← hn] at HWE z3'
  clear hin hv hr hmn HW hn hsz hlt
  go_enter Try.func28, Try.ntmps28
  go_wp2_with (refine wpList_make_full _ rfl _ _ 43 rfl (w.heap.size + 1) 35 i0 (.int .u64 0) 1 Try.underlying43 hi hz0 hz1 .i64 .i64 _ _ n rfl rfl (by simp) (by simp) ?c1 ?c2 ?c3 ?_)
  case c1 => rw [hz2]; omega
  case c2 => unfold maxLen; omega
  case c3 => simp
  intro w1 hown0 hg1
  rw [← HWE.out] at hg1
  have hb1 : Below (w.heap.size + 1) W0 w1 := HB0.out.grown hg1 (by rw [HSZ.out]; exact Nat.le_refl _) (by intro k hk; cases hk)
  have HO1 := Lib.hid (show OwnV w1 (w.heap.size + 1) 35 (w.heap.size + 1) n (upV 0 (nsU fun _ => 0) (nsU fun s => d.sx h s % pr61)) from (OwnV.made rfl (by simpa using hown0)).congr fun t _ => (upV_zero _ _ t).symm)
  have HB1 := Lib.hid hb1
  obtain ⟨z0, z1, z2, z3⟩ := HZ.out _ hb1
  clear hown0 hg1 hb1 z3'
  go_wp2_with fail
  go_loopw [16] (fun vi wr => ∃ q : Nat, q ≤ n ∧ vi = .int .i64 q ∧ OwnV wr (w.heap.size + 1) 35 (w.heap.size + 1) n (upV q (nsU fun _ => 0) (nsU fun s => d.sx h s % pr61)) ∧ Below (w.heap.size + 1) W0 wr) (fun vi _ => n - (intOf vi).toNat)
  case atStart => exact ⟨0, Nat.zero_le _, rfl, HO1.out, HB1.out⟩
  case round =>
    rename World => wA
    obtain ⟨q, hq, rfl, ho, hb⟩ := hrel
    have HO := Lib.hid ho
    have HB := Lib.hid hb
    clear ho hb z0 z1 z2 z3
    by_cases hlt : q < n
    · have hle : q < d.n := by rw [← HN.out]; exact hlt
      obtain ⟨b, off, r, c', rfl, hbz, hcell0, hrow⟩ := HI.out.nxt.at (i := q) (by rw [HMN.out]; exact hle)
      have hcell := (HB.out.cell (p := ⟨b, off + q, none⟩) (by rw [← HSZ.out]; exact hbz)).trans hcell0
      have hlnq := HV.out.ln q hle
      obtain ⟨k, hk⟩ : ∃ k, k = d.ln q := ⟨_, rfl⟩
      have hkL : k = d.L.toNat := by omega
      have hk6 : k ≤ 6 := by have := HV.out.l2; omega
      have HKL := Lib.hid hkL
      have HX := Lib.hid hrow
      rw [← hk] at hcell HX
      have HNL := Lib.hid (fun x (hx : x < k) => HV.out.nxlt (q := q) (x := x) hle (by rw [← hlnq, ← hk]; omega))
      have HNE := Lib.hid (fun x (hx : x < k) => HV.out.nxeq (q := q) (x := x) hle (by rw [← hlnq, ← hk]; omega))
      have HM0 := Lib.hid (show OwnV wA (w.heap.size + 1) 35 (w.heap.size + 1) n (midU d h q 0) from HO.out.congr fun t ht => by
        unfold midU
        by_cases e : t = q
        · subst e; rw [if_pos rfl, upV, if_neg (by omega)]; rfl
        · rw [if_neg e])
      have hq0 : (0 : Int) ≤ (q : Int) := by omega
      have hqn : (q : Int) < (n : Int) := by omega
      have hwq : IntKind.i64.wrap (q : Int) = (q : Int) := IntWalk.i64_in _ (by omega)
      clear hrow hk hlnq hkL hcell0
      go_wp2_with fail
      go_loopw [23] (fun vj wq => ∃ j : Nat, j ≤ k ∧ vj = .int .i64 j ∧ OwnV wq (w.heap.size + 1) 35 (w.heap.size + 1) n (midU d h q j) ∧ Below (w.heap.size + 1) W0 wq) (fun vj _ => k - (intOf vj).toNat)
      case atStart => exact ⟨0, Nat.zero_le _, rfl, HM0.out, HB.out⟩
      case round =>
        rename World => wB
        obtain ⟨j, hj, rfl, ho, hb⟩ := hrel
        have HO2 := Lib.hid ho
        have HB2 := Lib.hid hb
        clear ho hb hcell
        have hcur := HO2.out.cell hlt
        have hfr := HO2.out.free q
        rw [show midU d h q j q = .int .u64 ((d.sxj h q j : Nat) : Int) by simp [midU]] at hcur
        by_cases hjk : j < k
        · have hnl := HNL.out j hjk
          have hne := HNE.out j hjk
          obtain ⟨b2, off2, rfl, hb2, hc2⟩ := (HX.out.keep (by rw [HSZ.out]; exact HB2.out)).at hjk
          rw [show rowsV d.N q j = .int .i64 (d.N q j) from rfl, hne] at hc2
          have HS := Lib.hid (show d.sxj h q (j + 1) = d.sxj h q j + h (d.nx q j) from rfl)
          have hsx := HSX.out q j
          have hsj : j * 2305843009213693950 ≤ 5 * 2305843009213693950 := Nat.mul_le_mul_right _ (by omega)
          obtain ⟨t, ht⟩ : ∃ t, t = d.nx q j := ⟨_, rfl⟩
          rw [← ht] at hc2 hnl HS
          have hht := HLT.out t
          unfold pr61 at hht
          rw [← HN.out] at hnl
          obtain ⟨ab, aoff, rfl, hab, hca⟩ := (HR.out.keep (by rw [HSZ.out]; exact HB2.out)).at (i := t) hnl
          rw [show nsU h t = .int .u64 ((h t : Nat) : Int) from rfl] at hca
          obtain ⟨v, hvv⟩ : ∃ v, v = h t := ⟨_, rfl⟩
          obtain ⟨u, huu⟩ : ∃ u, u = d.sxj h q j := ⟨_, rfl⟩
          rw [← hvv] at hca HS hht
          rw [← huu] at hcur HS hsx
          have hu64 : IntKind.u64.wrap ((u : Int) + (v : Int)) = ((u + v : Nat) : Int) := by simp [IntKind.wrap, IntKind.bits, IntKind.signed]; omega
          obtain ⟨x, hx⟩ : ∃ x, x = u + v := ⟨_, rfl⟩
          rw [← hx] at hu64 HS
          have hj0 : (0 : Int) ≤ (j : Int) := by omega
          have hjn : (j : Int) < (k : Int) := by omega
          have hwj : IntKind.i64.wrap (j : Int) = (j : Int) := IntWalk.i64_in _ (by omega)
          have ht0 : (0 : Int) ≤ (t : Int) := by omega
          have htn : (t : Int) < (n : Int) := by omega
          have hwt : IntKind.i64.wrap (t : Int) = (t : Int) := IntWalk.i64_in _ (by omega)
          have HNX := Lib.hid (show OwnV (wB.drew.setCell ⟨w.heap.size + 1, q, none⟩ (.int .u64 (x : Int))) (w.heap.size + 1) 35 (w.heap.size + 1) n (midU d h q (j + 1)) from (HO2.out.drew.set q _).congr fun t' _ => by
            unfold midU
            by_cases e : t' = q
            · rw [if_pos e, if_pos e, HS.out]
            · rw [if_neg e, if_neg e, if_neg e])
          have HBX := Lib.hid (fun x => HB2.out.drew.setCell (p := ⟨w.heap.size + 1, q, none⟩) (Nat.le_refl _) x)
          clear hvv huu ht hne hx hsx hsj hht
          go_wp2_with fail
          go_region
          all_goals
            go_wp2_with fail
            exact ⟨⟨j + 1, by omega, by go_num, HNX.out, HBX.out _⟩, by simp [intOf]; omega⟩
        · obtain rfl : j = k := by omega
          obtain ⟨u, huu⟩ : ∃ u, u = d.sxj h q j := ⟨_, rfl⟩
          have HU := Lib.hid (show u = d.sx h q by rw [huu, HKL.out]; rfl)
          have hsx := HSX.out q j
          have hsj : j * 2305843009213693950 ≤ 6 * 2305843009213693950 := Nat.mul_le_mul_right _ (by omega)
          rw [← huu] at hcur hsx
          obtain ⟨v, hv2⟩ : ∃ v, v = u % 2305843009213693951 := ⟨_, rfl⟩
          have hrem : (u : Int) % 2305843009213693951 = (v : Int) := by rw [hv2]; omega
          have htm : (u : Int).tmod 2305843009213693951 = (v : Int) := by rw [Int.tmod_eq_emod_of_nonneg (by omega)]; exact hrem
          have hvw : IntKind.u64.wrap (v : Int) = (v : Int) := by simp [IntKind.wrap, IntKind.bits, IntKind.signed]; omega
          have HNX := Lib.hid (fun W (hW : OwnV W (w.heap.size + 1) 35 (w.heap.size + 1) n (midU d h q j)) => show OwnV (W.setCell ⟨w.heap.size + 1, q, none⟩ (.int .u64 (v : Int))) (w.heap.size + 1) 35 (w.heap.size + 1) n (upV (q + 1) (nsU fun _ => 0) (nsU fun s => d.sx h s % pr61)) from (hW.set q _).congr fun t ht => by
            unfold midU upV
            by_cases e : t = q
            · subst e; rw [if_pos rfl, if_pos (by omega)]; show Value.int .u64 (v : Int) = Value.int .u64 ((d.sx h t % pr61 : Nat) : Int); rw [← HU.out, hv2]; rfl
            · rw [if_neg e, if_neg e]
              by_cases h2 : t < q
              · rw [if_pos h2, if_pos (by omega)]
              · rw [if_neg h2, if_neg (by omega)])
          have HBX := Lib.hid (fun x => HB2.out.setCell (p := ⟨w.heap.size + 1, q, none⟩) (Nat.le_refl _) x)
          clear huu hsx hsj hv2
          go_wp2_with fail
          exact ⟨⟨q + 1, by omega, by go_num, HNX.out _ HO2.out, HBX.out _⟩, by simp [intOf]; omega⟩
    · obtain rfl : q = n := by omega
      have HF := Lib.hid ((HO.out.congr (f' := nsU fun s => d.sx h s % pr61) fun t ht => upV_all ht).base (Nat.le_succ w.heap.size))
      have HBF := Lib.hid (HOUT.out _ HB.out)
      go_wp2_with fail
      go_ret
      exact ⟨_, rfl, HF.out, HBF.out⟩
end Go.Proofs.Ytohoiebofkmjeac
