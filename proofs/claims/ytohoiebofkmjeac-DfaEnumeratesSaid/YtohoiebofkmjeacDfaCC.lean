/- Contract: Count. -/
import Derived.Test.YtohoiebofkmjeacDfaCT
namespace Go.Proofs.Ytohoiebofkmjeac
open Go Go.RowKit
set_option linter.unusedVariables false
theorem cn_round (d : DF) (k : Nat) : (fun s => d.sx (fun q => d.cn k q % pr61) s % pr61) = fun s => d.cn (k + 1) s % pr61 := by
  funext s
  exact d.sxj_mod (d.cn k) s d.L.toNat
theorem cn0_lt (d : DF) (q : Nat) : d.cn 0 q < 2 := by unfold DF.cn; split <;> omega
theorem cn0_mod (d : DF) (q : Nat) : d.cn 0 q % pr61 = d.cn 0 q := Nat.mod_eq_of_lt (by have := cn0_lt d q; unfold pr61; omega)
theorem cn0_bit (d : DF) (q : Nat) : d.cn 0 q = bitN (d.F q) := by unfold DF.cn bitN; rfl
set_option maxRecDepth 100000 in
set_option maxHeartbeats 4000000 in
theorem count_ok (d : DF) (af : Option Addr) (cf : Nat) (an : Option Addr) (cn : Nat) (n : Nat) (w : World) (hin : InD w d af an) (hv : OkD d) (hn : n ≤ 10000) :
    Calls Try.prog 11 #[dV d af cf an cn, .int .i64 n] w fun e w' => e = .returned (.int .i64 ((d.cn n d.S.toNat % pr61 : Nat) : Int)) ∧ Below w.heap.size w w' := by
  obtain ⟨W0, HW⟩ : ∃ W0, BoxD w W0 d af cf an cn := ⟨_, ⟨rfl⟩⟩
  have HI := Lib.hid (HW.in hin)
  have HZ := Lib.hid (fun w' hb => @BoxD.cells w W0 d af cf an cn HW w' hb)
  have HOUT := Lib.hid (fun w' hb => @BoxD.out w W0 d af cf an cn HW w' hb)
  have HSZ := Lib.hid HW.size
  have HB0 := Lib.hid (show Below (w.heap.size + 1) W0 W0 from Below.refl _ _)
  have HWE := Lib.hid HW.eq
  have HQ := Lib.hid (fun W (h : InD W d af an) => dvalid_any d af cf an cn W h)
  rw [valD_iff.2 hv] at HQ
  have HLO := Lib.hid (fun k a c W (h : InD W d af an) (hr : RowV W a d.n (nsU fun q => d.cn k q % pr61)) => longer_ok d af cf an cn (fun q => d.cn k q % pr61) a c W h hv hr (fun s => Nat.mod_lt _ (by unfold pr61; omega)))
  obtain ⟨i0, hi, hz0, hz1, hz2⟩ := info_parts infoU
  have hst := hv.st.1
  have HSE := Lib.hid hv.st.2
  have hn2 := hv.n2
  have hnpos : 0 < d.n := by omega
  have HB64 := Lib.hid (fun q => cn0_bit d q)
  clear hin hv HW
  go_enter Try.func11, Try.ntmps11
  go_wp2_with fail
  rw [← HWE.out]
  refine (HQ.out _ HI.out).mono ?_
  rintro e w2 ⟨rfl, hB⟩
  have HB1 := Lib.hid (HB0.out.trans (hB.mono (by rw [HSZ.out]; exact Nat.le_refl _)))
  have hs2 : w.heap.size + 1 ≤ w2.heap.size := by have := HB1.out.size; have := HSZ.out; omega
  obtain ⟨z0, z1, z2, z3⟩ := HZ.out _ HB1.out
  clear hB
  go_wp2_with (refine wpList_make_full _ rfl _ _ 43 rfl (w.heap.size + 1) 35 i0 (.int .u64 0) 1 Try.underlying43 hi hz0 hz1 .i64 .i64 _ _ d.n rfl rfl (by simp) (by simp) ?c1 ?c2 ?c3 ?_)
  case c1 => rw [hz2]; omega
  case c2 => unfold maxLen; omega
  case c3 => exact hs2
  intro w3 hown0 hg1
  have hb3 : Below (w.heap.size + 1) W0 w3 := HB1.out.grown hg1 hs2 (by intro k hk; cases hk)
  have HO1 := Lib.hid (show OwnV w3 (w.heap.size + 1) 35 w2.heap.size d.n (upV 0 (nsU fun _ => 0) (nsU fun q => d.cn 0 q)) from (OwnV.made rfl (by simpa using hown0)).congr fun t _ => (upV_zero _ _ t).symm)
  have HB3 := Lib.hid hb3
  have HS2 := Lib.hid hs2
  clear z0 z1 z2 z3
  obtain ⟨z0, z1, z2, z3⟩ := HZ.out _ hb3
  clear hown0 hg1 hb3 hs2
  go_wp2_with fail
  go_loopw [26] (fun vi wr => ∃ q : Nat, q ≤ d.n ∧ vi = .int .i64 q ∧ OwnV wr (w.heap.size + 1) 35 w2.heap.size d.n (upV q (nsU fun _ => 0) (nsU fun q => d.cn 0 q)) ∧ Below (w.heap.size + 1) W0 wr) (fun vi _ => d.n - (intOf vi).toNat)
  case atStart => exact ⟨0, Nat.zero_le _, rfl, HO1.out, HB3.out⟩
  case round =>
    rename World => wA
    obtain ⟨q, hq, rfl, ho, hb⟩ := hrel
    have HO := Lib.hid ho
    have HB := Lib.hid hb
    clear ho hb z0 z1 z2 z3
    by_cases hlt : q < d.n
    · obtain ⟨ab, aoff, rfl, hab, hca⟩ := (HI.out.fin.keep (by rw [HSZ.out]; exact HB.out)).at hlt
      rw [show boolsV d.F q = .bool (d.F q) from rfl] at hca
      have HBI := Lib.hid (HB64.out q)
      obtain ⟨x, hx⟩ : ∃ x, x = d.F q := ⟨_, rfl⟩
      rw [← hx] at hca HBI
      obtain ⟨u, hu⟩ : ∃ u, u = bitN x := ⟨_, rfl⟩
      have HU := Lib.hid hu
      have hu2 : u < 2 := by rw [hu]; unfold bitN; split <;> omega
      have huw : IntKind.u64.wrap (u : Int) = (u : Int) := by simp [IntKind.wrap, IntKind.bits, IntKind.signed]; omega
      have hq0 : (0 : Int) ≤ (q : Int) := by omega
      have hqn : (q : Int) < (d.n : Int) := by omega
      have hwq : IntKind.i64.wrap (q : Int) = (q : Int) := IntWalk.i64_in _ (by omega)
      obtain ⟨v0, hcur⟩ : ∃ v0, wA.cell? ⟨w2.heap.size, q, none⟩ = some v0 := ⟨_, HO.out.cell hlt⟩
      have hfr := HO.out.free q
      have HNX := Lib.hid (HO.out.up (k := q) (x := .int .u64 (u : Int)) (by show Value.int .u64 (u : Int) = Value.int .u64 ((d.cn 0 q : Nat) : Int); rw [HBI.out, HU.out]))
      have HBX := Lib.hid (fun x => HB.out.setCell (p := ⟨w2.heap.size, q, none⟩) HS2.out x)
      clear hx hu
      go_wp2_with fail
      refine (bit_any _ _).mono ?_
      rintro e w' ⟨rfl, rfl⟩
      rw [← HU.out]
      go_wp2_with fail
      exact ⟨⟨q + 1, by omega, by go_num, HNX.out, HBX.out _⟩, by simp [intOf]; omega⟩
    · obtain rfl : q = d.n := by omega
      have HF := Lib.hid (HO.out.row.congr (g := nsU fun q => d.cn 0 q % pr61) fun t ht => by rw [upV_all ht]; show Value.int .u64 ((d.cn 0 t : Nat) : Int) = Value.int .u64 ((d.cn 0 t % pr61 : Nat) : Int); rw [cn0_mod])
      go_wp2_with fail
      go_loopw [5, 39] (fun v5 vi wr => ∃ (k : Nat) (r : Option Addr) (c : Nat), k ≤ n ∧ vi = .int .i64 k ∧ v5 = .slice r d.n c ∧ RowV wr r d.n (nsU fun q => d.cn k q % pr61) ∧ Below (w.heap.size + 1) W0 wr) (fun _ vi _ => n - (intOf vi).toNat)
      case atStart => exact ⟨0, _, _, Nat.zero_le _, rfl, rfl, HF.out, HB.out⟩
      case round =>
        rename World => wB
        obtain ⟨k, r, c, hk, rfl, rfl, hr, hb⟩ := hrel
        have HR := Lib.hid hr
        have HB2 := Lib.hid hb
        obtain ⟨z0, z1, z2, z3⟩ := HZ.out _ hb
        clear hr hb
        by_cases hkn : k < n
        · have HQL := Lib.hid (HLO.out k r c wB (HI.out.keep (by rw [HSZ.out]; exact HB2.out)) HR.out)
          rw [cn_round] at HQL
          have hk0 : (0 : Int) ≤ (k : Int) := by omega
          have hkn2 : (k : Int) < (n : Int) := by omega
          have hwk : IntKind.i64.wrap (k : Int) = (k : Int) := IntWalk.i64_in _ (by omega)
          go_wp2_with fail
          refine HQL.out.mono ?_
          rintro e w5 ⟨g, rfl, ho, hB⟩
          have HR5 := Lib.hid ho.row
          have HB5 := Lib.hid (HB2.out.trans (hB.mono (by have := HB2.out.size; have := HSZ.out; omega)))
          clear ho hB z0 z1 z2 z3
          go_wp2_with fail
          exact ⟨⟨k + 1, _, _, by omega, by go_num, rfl, HR5.out, HB5.out⟩, by simp [intOf]; omega⟩
        · obtain rfl : k = n := by omega
          obtain ⟨b, off, rfl, hbz, hc⟩ := HR.out.at hst
          rw [show nsU (fun q => d.cn k q % pr61) d.S.toNat = .int .u64 ((d.cn k d.S.toNat % pr61 : Nat) : Int) from rfl] at hc
          have hlt2 : d.cn k d.S.toNat % pr61 < pr61 := Nat.mod_lt _ (by unfold pr61; omega)
          unfold pr61 at hlt2
          obtain ⟨v, hvv⟩ : ∃ v, v = d.cn k d.S.toNat % pr61 := ⟨_, rfl⟩
          have HVV := Lib.hid hvv
          obtain ⟨s0, hs0⟩ : ∃ s0, s0 = d.S.toNat := ⟨_, rfl⟩
          rw [← hvv, ← hs0] at hc
          have hse := HSE.out
          rw [← hs0] at hse hst
          rw [hse] at z1
          have hv61 : v < 2305843009213693951 := by rw [hvv]; exact hlt2
          have hwv : IntKind.i64.wrap (v : Int) = (v : Int) := IntWalk.i64_in _ (by omega)
          have hs00 : (0 : Int) ≤ (s0 : Int) := by omega
          have hs0n : (s0 : Int) < (d.n : Int) := by omega
          have hws : IntKind.i64.wrap (s0 : Int) = (s0 : Int) := IntWalk.i64_in _ (by omega)
          clear hvv hs0 hlt2 hse
          go_wp2_with fail
          go_ret
          exact ⟨by rw [← HVV.out]; rfl, HOUT.out _ HB2.out⟩
set_option maxHeartbeats 1000000 in
theorem count_bad (d : DF) (af : Option Addr) (cf : Nat) (an : Option Addr) (cn : Nat) (n : Int) (w : World) (hin : InD w d af an) (hv : valD d = false ∨ n < 0 ∨ 10000 < n) :
    Calls Try.prog 11 #[dV d af cf an cn, .int .i64 n] w fun e w' => e = .returned (.int .i64 0) ∧ Below w.heap.size w w' := by
  have HI := Lib.hid (hin.box (dO d af cf an cn))
  have HB0 := Lib.hid ((Below.refl w.heap.size w).alloc (Nat.le_refl _) (dO d af cf an cn))
  have HQ := Lib.hid (fun W (h : InD W d af an) => dvalid_any d af cf an cn W h)
  clear hin
  cases hd : valD d
  · rw [hd] at HQ
    clear hd hv
    go_enter Try.func11, Try.ntmps11
    go_wp2_with fail
    refine (HQ.out _ HI.out).mono ?_
    rintro e w2 ⟨rfl, hB⟩
    have HB1 := Lib.hid (HB0.out.trans (hB.mono (by simp)))
    clear hB
    go_wp2_with fail
    go_ret
    exact ⟨rfl, HB1.out⟩
  · have hv2 : n < 0 ∨ (0 ≤ n ∧ 10000 < n) := by
      rcases hv with h | h | h
      · rw [hd] at h; cases h
      · exact .inl h
      · exact .inr ⟨by omega, h⟩
    rw [hd] at HQ
    clear hd hv
    rcases hv2 with h | ⟨h, h2⟩
    all_goals
      go_enter Try.func11, Try.ntmps11
      go_wp2_with fail
      refine (HQ.out _ HI.out).mono ?_
      rintro e w2 ⟨rfl, hB⟩
      have HB1 := Lib.hid (HB0.out.trans (hB.mono (by simp)))
      clear hB
      go_wp2_with fail
      go_ret
      exact ⟨rfl, HB1.out⟩
end Go.Proofs.Ytohoiebofkmjeac
