/- Contract: the reference's emit, by induction over the number of letters. -/
import Derived.Test.YtohoiebofkmjeabDfaF
import Derived.Laws.Concat
import Derived.Deep.RegionHeld3
import Derived.Deep.RegionHeld
namespace Go.Proofs.Ytohoiebofkmjeab
open Go Go.RowKit
set_option linter.unusedVariables false
theorem RowX.atX {X : Nat → Prop} {w : World} {a : Option Addr} {n : Nat} {f : Nat → Value} (h : RowX X w a n f) {i : Nat} (hi : i < n) : ∃ b off, a = some ⟨b, off, none⟩ ∧ (X b ∧ b < w.heap.size) ∧ w.cell? ⟨b, off + i, none⟩ = some (f i) := by
  rcases h with h | ⟨b, off, rfl, hl, hc⟩
  · omega
  · exact ⟨b, off, rfl, hl, hc i hi⟩
theorem RowsX.atX {X : Nat → Prop} {w : World} {a : Option Addr} {m : Nat} {ln : Nat → Nat} {g : Nat → Nat → Value} (h : RowsX X w a m ln g) {i : Nat} (hi : i < m) :
    ∃ b off r c, a = some ⟨b, off, none⟩ ∧ (X b ∧ b < w.heap.size) ∧ w.cell? ⟨b, off + i, none⟩ = some (.slice r (ln i) c) ∧ RowX X w r (ln i) (g i) := by
  rcases h with h | ⟨b, off, rfl, hl, hc⟩
  · omega
  · obtain ⟨r, c, h1, h2⟩ := hc i hi
    exact ⟨b, off, r, c, rfl, hl, h1, h2⟩
theorem own_byte (w : World) (c : Int) : (w.alloc (.cells #[.int .u8 c] 5)).ownsRow 0 5 1 (.slice (some ⟨w.heap.size, 0, none⟩) 1 1) 1 (rowB8 [c]) :=
  ⟨rfl, .inr ⟨w.heap.size, 1, #[.int .u8 c], rfl, Nat.zero_le _, by show (w.heap.push _)[w.heap.size]? = _; simp, Nat.le_refl _, by unfold maxLen; omega, rfl, rfl⟩⟩
set_option maxRecDepth 100000 in
set_option maxHeartbeats 8000000 in
theorem emit_any (d : DF) (hv : OkD d) (af : Option Addr) (cf : Nat) (an : Option Addr) (cn B : Nat) (al : Option Addr) (K cl most : Nat) (hm : most ≤ 200) (hK : K ≤ 2049) :
    ∀ (k q : Nat) (pre : List Int) (fs : List ByteArray) (v : Value) (w : World),
    w.ownsRow B 9 1 v fs.length (rowS fs) → B ≤ w.heap.size → RowsX (XV v) w an d.n d.ln (rowsV d.N) → RowsX (XV v) w al K (fun _ => d.n) (fun k => boolsV (d.lv k)) →
    q < d.n → k < K → fs.length ≤ most → pre.length + k ≤ 2048 →
    Calls Try.prog 46 #[dV d af cf an cn, .slice al K cl, .int .i64 q, .int .i64 k, .string (strOfNums pre), .int .i64 most, v] w (EmitE w B v (d.ext most k q pre fs)) := by
  intro k
  induction k with
  | zero =>
    intro q pre fs v w ho hB hnx hlv hq hk hlen hpre
    by_cases h : most ≤ fs.length ∨ d.lv 0 q = false
    · rw [d.ext_stop h]
      exact emit_stop d af cf an cn B al K cl most q 0 v _ fs w ho hlv hq hk h hv.n2 hK hm
    · rw [d.ext_zero h]
      exact emit_zero d af cf an cn B al K cl most q v _ fs w ho hB hlv hq hk (by omega) (by rw [← Bool.not_eq_false]; exact fun e => h (.inr e)) hv.n2 hK hm
  | succ k ih =>
    intro q pre fs v w ho hB hnx hlv hq hk hlen hpre
    by_cases h : most ≤ fs.length ∨ d.lv (k + 1) q = false
    · rw [d.ext_stop h]
      exact emit_stop d af cf an cn B al K cl most q (k + 1) v _ fs w ho hlv hq hk h hv.n2 hK hm
    rw [d.ext_succ h]
    have hst : d.lv (k + 1) q = true := by rw [← Bool.not_eq_false]; exact fun e => h (.inr e)
    have hlen2 : fs.length < most := by omega
    have hn := hv.n2
    have IH := Lib.hid ih
    have HV := Lib.hid hv
    have HEL := Lib.hid (fun j => d.extx_len (most := most) (k := k) (q := q) (pre := pre) (fs := fs) hlen j)
    have HES := Lib.hid (fun j => d.extx_succ most k q pre fs j)
    have HE0 := Lib.hid (d.extx_zero most k q pre fs)
    obtain ⟨W0, HW⟩ : ∃ W0, BoxD w W0 d af cf an cn := ⟨_, ⟨rfl⟩⟩
    have hst0 : StepX (XV v) w (XV v) W0 := ⟨by rw [HW.size]; omega, fun j hj hx => ⟨hx, by rw [HW.eq]; exact Below.heap_alloc _ _ _ hj⟩⟩
    have HNX := Lib.hid (hnx.step hst0)
    have HLV := Lib.hid (hlv.step hst0)
    have HSZ := Lib.hid HW.size
    have HWE := Lib.hid HW.eq
    have HZ := Lib.hid (HW.cells (Below.refl (w.heap.size + 1) W0))
    rw [hv.mn] at HZ
    have HO := Lib.hid (show W0.ownsRow B 9 1 v fs.length (rowS fs) by rw [HW.eq]; exact ho.alloc _)
    have HG0 := Lib.hid (show w.grownBy W0 v.ownBlock by rw [HW.eq]; exact World.grownBy_alloc _ _ _)
    have hvb : some w.heap.size ≠ v.ownBlock := fun e => by have := (World.ownsRow.lt ho _ e.symm).2; omega
    have HVB := Lib.hid hvb
    obtain ⟨fa, fc, hvf⟩ := ownsRow_shape ho
    obtain ⟨F, hF⟩ : ∃ F, F = fs.length := ⟨_, rfl⟩
    have t0 : ¬ (most : Int) ≤ (F : Int) := by omega
    obtain ⟨b, off, r, c, rfl, hc1, hrow⟩ := HLV.out.at hk
    obtain ⟨b2, off2, rfl, hc2⟩ := hrow.at hq
    rw [show boolsV (d.lv (k + 1)) q = .bool (d.lv (k + 1) q) from rfl, hst] at hc2
    obtain ⟨nb, noff, nr, nc, hnae, hnc, hnrow⟩ := HNX.out.at hq
    have hlnq := hv.ln q hq
    obtain ⟨kk, hkkk⟩ : ∃ kk, kk = d.ln q := ⟨_, rfl⟩
    have hkL : d.L = (kk : Int) := by omega
    have hkL2 : kk = d.L.toNat := by omega
    have hk6 : kk ≤ 6 := by have := hv.l2; omega
    have HKL := Lib.hid hkL
    have HLQ := Lib.hid hkkk
    have HKL2 := Lib.hid hkL2
    rw [← hkkk] at hnc hnrow
    have HNR := Lib.hid hnrow
    have HNC := Lib.hid hnc
    have HNL := Lib.hid (fun x (hx : x < kk) => hv.nxlt (q := q) (x := x) hq (by rw [← hlnq, ← hkkk]; omega))
    have HNE := Lib.hid (fun x (hx : x < kk) => hv.nxeq (q := q) (x := x) hq (by rw [← hlnq, ← hkkk]; omega))
    obtain ⟨k1, hk1⟩ : ∃ k1, k1 = k + 1 := ⟨_, rfl⟩
    rw [← hk1] at hc1 hk hpre
    rw [← hk1]
    have hsub : (k1 : Int) - 1 = (k : Int) := by omega
    have hws : IntKind.i64.wrap (k : Int) = (k : Int) := IntWalk.i64_in _ (by omega)
    have t1 : ((k1 : Int) == 0) = false := by simp; omega
    have hk0 : (0 : Int) ≤ (k1 : Int) := by omega
    have hkK : (k1 : Int) < (K : Int) := by omega
    have hq0 : (0 : Int) ≤ (q : Int) := by omega
    have hqn : (q : Int) < (d.n : Int) := by omega
    have hwq : IntKind.i64.wrap (q : Int) = (q : Int) := IntWalk.i64_in _ (by omega)
    have HKK := Lib.hid (show k < K ∧ pre.length + 1 + k ≤ 2048 by omega)
    have HBB := Lib.hid hB
    have HMN := Lib.hid hv.mn
    have HVF := Lib.hid hvf
    have HFL := Lib.hid hF
    have hHN : w.heap.size < W0.heap.size := by rw [HW.size]; omega
    have HCAT := Lib.hid (fun c => strs_snoc pre c)
    obtain ⟨ps, hps⟩ : ∃ ps, ps = strOfNums pre := ⟨_, rfl⟩
    have HPS := Lib.hid hps
    rw [← hps] at HCAT ⊢
    have hz := HZ.out
    rw [HW.eq] at hc1 hc2 hz
    obtain ⟨z0, z1, z2, z3⟩ := hz
    unfold dO at HWE hc1 hc2 z0 z1 z2 z3
    unfold dV at IH
    unfold dV
    rw [hv.mn] at HWE IH hc1 hc2 z0 z1 z2 z3
    rw [hv.mn]
    rw [show v = .slice fa F fc by rw [hvf, hF]]
    clear ih hv hnx hlv h hst hlen hrow hk1 hlnq hkkk hkL hkL2 hnrow hnc hF hps hst0 HW ho hB hHN
    subst hnae
    go_enter Try.func46, Try.ntmps46
    go_wp2_with fail
    rw [← HWE.out]
    go_loopw [6, 15] (fun s6 vi wr => ∃ (j : Nat) (v6 : Value), j ≤ kk ∧ vi = .int .i64 j ∧ s6 = v6 ∧ wr.ownsRow B 9 1 v6 (d.extx most k q pre fs j).length (rowS (d.extx most k q pre fs j)) ∧ W0.grownBy wr v.ownBlock ∧ NewB W0 v v6) (fun _ vi _ => kk - (intOf vi).toNat)
    case atStart => exact ⟨0, _, Nat.zero_le _, rfl, rfl, by rw [HE0.out, HFL.out, ← HVF.out]; exact HO.out, World.grownBy.refl _ _, by rw [HFL.out, ← HVF.out]; exact NewB.refl _ _⟩
    case round =>
      rename World => wA
      obtain ⟨j, v6, hj, rfl, hs6, ho, hg, hn⟩ := hrel
      have hs6' := hs6.symm
      clear hs6
      subst hs6'
      have HOA := Lib.hid ho
      have HGA := Lib.hid hg
      have HNA := Lib.hid hn
      clear z0 z1 z2 z3 hc1 hc2
      have z0 := hg.cell HZ.out.1 HVB.out
      have z1 := hg.cell HZ.out.2.1 HVB.out
      have z2 := hg.cell HZ.out.2.2.1 HVB.out
      have z3 := hg.cell HZ.out.2.2.2 HVB.out
      by_cases hjk : j < kk
      · have hjL : (j : Int) < d.L := by rw [HKL.out]; omega
        have hnl := HNL.out j hjk
        have hne := HNE.out j hjk
        have hstA := step_grown hg hn
        obtain ⟨nb', noff', nr', nc', hae, hXn, hnc, hnrow⟩ := (HNX.out.step hstA).atX hq
        injection hae with hae
        injection hae with hae1 hae2
        subst hae1 hae2
        rw [← HLQ.out] at hnc hnrow
        obtain ⟨rb, roff, rfl, hXr, hrc⟩ := hnrow.atX hjk
        rw [show rowsV d.N q j = .int .i64 (d.N q j) from rfl, hne] at hrc
        have HXN := Lib.hid hXn
        have HXR := Lib.hid hXr
        clear hXn hXr
        have HES1 := Lib.hid (HES.out j)
        obtain ⟨t, ht⟩ : ∃ t, t = d.nx q j := ⟨_, rfl⟩
        rw [← ht] at hrc hnl HES1
        have hst1 : StepX (XV v6) wA (XV v6) (wA.alloc (.cells #[.int .u8 (97 + (j : Int))] 5)).drew := ⟨by simp, fun i hi hx => ⟨hx, Below.heap_alloc _ _ _ hi⟩⟩
        have hBA : B ≤ wA.heap.size := Nat.le_trans HBB.out (Nat.le_trans HG0.out.size hg.size)
        have hst2 : StepX (XV v) W0 (XV v6) (wA.alloc (.cells #[.int .u8 (97 + (j : Int))] 5)).drew := ⟨Nat.le_trans hstA.1 hst1.1, fun i hi hx => ⟨(hst1.2 i (Nat.lt_of_lt_of_le hi hstA.1) (hstA.2 i hi hx).1).1, (hst1.2 i (Nat.lt_of_lt_of_le hi hstA.1) (hstA.2 i hi hx).1).2.trans (hstA.2 i hi hx).2⟩⟩
        have HQ := Lib.hid (IH.out t (pre ++ [97 + (j : Int)]) (d.extx most k q pre fs j) v6 (wA.alloc (.cells #[.int .u8 (97 + (j : Int))] 5)).drew (show World.ownsRow (World.drew _) _ _ _ _ _ _ from ho.alloc _) (by simp; omega) (HNX.out.step hst2) (HLV.out.step hst2) hnl HKK.out.1 (HEL.out j) (by have := HKK.out.2; simp; omega))
        rw [← HES1.out, ← HCAT.out] at HQ
        have hcv := run_convert_own (w := (wA.alloc (.cells #[.int .u8 (97 + (j : Int))] 5)).drew) (show World.ownsRow (World.drew _) _ _ _ _ _ _ from own_byte wA (97 + (j : Int))) 77 9 Try.underlying77 Try.underlying5 Try.underlying9
        have hsa := fun W => run_string_add_sum (P := Try.prog) (w := W) ps (strOfNums [97 + (j : Int)]) (by rw [HPS.out, strOfNums_size, strOfNums_size]; have := HKK.out.2; simp; omega)
        have y0 := cell_al (ob := .cells #[.int .u8 (97 + (j : Int))] 5) z0
        have y1 := cell_al (ob := .cells #[.int .u8 (97 + (j : Int))] 5) z1
        have y2 := cell_al (ob := .cells #[.int .u8 (97 + (j : Int))] 5) z2
        have y3 := cell_al (ob := .cells #[.int .u8 (97 + (j : Int))] 5) z3
        have yn := cell_al (ob := .cells #[.int .u8 (97 + (j : Int))] 5) hnc
        have yr := cell_al (ob := .cells #[.int .u8 (97 + (j : Int))] 5) hrc
        have hj0 : (0 : Int) ≤ (j : Int) := by omega
        have hjn : (j : Int) < (kk : Int) := by omega
        have hwj : IntKind.i64.wrap (j : Int) = (j : Int) := IntWalk.i64_in _ (by omega)
        have hw97 : IntKind.i64.wrap (97 + (j : Int)) = 97 + (j : Int) := IntWalk.i64_in _ (by omega)
        have hu9 : IntKind.u8.wrap (97 + (j : Int)) = 97 + (j : Int) := by simp [IntKind.wrap, IntKind.bits, IntKind.signed]; omega
        clear hne ht hst1 hst2 hstA hBA hnrow ho hg hn
        go_wp2_with fail
        go_region_held (fun w' => w'.cell? ⟨w.heap.size, 0, none⟩ = some (.int .i64 d.L) ∧ w'.cell? ⟨w.heap.size, 1, none⟩ = some (.int .i64 d.S) ∧ w'.cell? ⟨w.heap.size, 2, none⟩ = some (.slice af d.n cf) ∧ w'.cell? ⟨w.heap.size, 3, none⟩ = some (.slice (some ⟨nb, noff, none⟩) d.n cn) ∧ w'.cell? ⟨nb, noff + q, none⟩ = some (.slice (some ⟨rb, roff, none⟩) kk nc') ∧ w'.cell? ⟨rb, roff + j, none⟩ = some (.int .i64 (t : Int)))
          (go_keep)
          (first
            | (go_at_call 46
               refine HQ.out.mono ?_
               rintro e w5 ⟨v5, rfl, ho5, hg5, hn5⟩
               have hblk : ∀ i, i < wA.heap.size → XV v6 i → w5.heap[i]? = wA.heap[i]? := fun i hi hx => (hg5.block i (by simp; omega) (fun e => hx e.symm)).trans (Below.heap_alloc _ _ _ hi)
               have hg5b : W0.grownBy w5 v.ownBlock := grown_trans HGA.out HNA.out (grown_alloc (w := wA) (o := .cells #[.int .u8 (97 + (j : Int))] 5) ⟨hg5.os, hg5.tape, hg5.output, hg5.size, hg5.block⟩)
               have HO5 := Lib.hid ho5
               have HG5 := Lib.hid hg5b
               have HN5 := Lib.hid (HNA.out.trans HGA.out.size (newB_alloc (w := wA) (ob := .cells #[.int .u8 (97 + (j : Int))] 5) (show NewB (World.alloc wA _) v6 v5 from hn5)))
               have q0 := hg5b.cell HZ.out.1 HVB.out
               have q1 := hg5b.cell HZ.out.2.1 HVB.out
               have q2 := hg5b.cell HZ.out.2.2.1 HVB.out
               have q3 := hg5b.cell HZ.out.2.2.2 HVB.out
               have qn := (World.cell?_of_block (w := wA) (a := ⟨nb, noff + q, none⟩) (hblk nb HXN.out.2 HXN.out.1)).trans hnc
               have qr := (World.cell?_of_block (w := wA) (a := ⟨rb, roff + j, none⟩) (hblk rb HXR.out.2 HXR.out.1)).trans hrc
               clear ho5 hg5 hn5 hblk hg5b))
        all_goals
          go_wp2_with fail
          exact ⟨⟨j + 1, _, by omega, by go_num, rfl, HO5.out, HG5.out, HN5.out⟩, by simp [intOf]; omega⟩
      · have hjL : ¬ (j : Int) < d.L := by rw [HKL.out]; omega
        obtain rfl : j = kk := by omega
        have HF := Lib.hid (show EmitE w B (.slice fa F fc) (d.extx most k q pre fs d.L.toNat) (.returned v6) wA by
          rw [HFL.out, ← HVF.out]
          refine ⟨v6, rfl, by rw [← HKL2.out]; exact HOA.out, ?_, ?_⟩
          · exact ⟨HGA.out.os.trans HG0.out.os, HGA.out.tape.trans HG0.out.tape, HGA.out.output.trans HG0.out.output, Nat.le_trans HG0.out.size HGA.out.size, fun i hi hne => (HGA.out.block i (Nat.lt_of_lt_of_le hi HG0.out.size) hne).trans (HG0.out.block i hi hne)⟩
          · exact (NewB.refl w v).trans HG0.out.size HNA.out)
        clear ho hg hn
        go_wp2_with fail
        go_ret
        exact HF.out
end Go.Proofs.Ytohoiebofkmjeab
