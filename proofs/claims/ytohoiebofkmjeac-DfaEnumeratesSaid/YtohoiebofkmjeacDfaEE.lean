/- Contract: (*search).extend, by induction over the number of letters. -/
import Derived.Test.YtohoiebofkmjeacDfaE
namespace Go.Proofs.Ytohoiebofkmjeac
open Go Go.RowKit
set_option linter.unusedVariables false
set_option maxRecDepth 100000 in
set_option maxHeartbeats 8000000 in
theorem extend_any (d : DF) (hv : OkD d) (B bp : Nat) (c0 c1 c2 : Value) (an : Option Addr) (cn : Nat) (al : Option Addr) (K cl most : Nat) (hm : most ≤ 200) (hK : K ≤ 2049) :
    ∀ (k q : Nat) (pre : List Int) (fs : List ByteArray) (vw vf : Value) (w : World),
    SrW w B bp c0 c1 c2 (.slice an d.n cn) (.slice al K cl) most vw vf pre fs → RowsX (OX bp vw vf) w an d.n d.ln (rowsV d.N) → RowsX (OX bp vw vf) w al K (fun _ => d.n) (fun k => boolsV (d.lv k)) →
    q < d.n → k < K → fs.length ≤ most → pre.length + k ≤ 2048 →
    Calls Try.prog 24 #[.pointer (some ⟨bp, 0, none⟩), .int .i64 q, .int .i64 k] w (ExtE w B bp c0 c1 c2 (.slice an d.n cn) (.slice al K cl) most vw vf pre (d.ext most k q pre fs)) := by
  intro k
  induction k with
  | zero =>
    intro q pre fs vw vf w hs hnx hlv hq hk hlen hpre
    by_cases h : most ≤ fs.length ∨ d.lv 0 q = false
    · rw [d.ext_stop h]
      exact extend_stop d B bp c0 c1 c2 an cn al K cl most q 0 vw vf pre fs w hs hlv hq hk hlen h hv.n2 hK
    · rw [d.ext_zero h]
      exact extend_zero d B bp c0 c1 c2 an cn al K cl most q vw vf pre fs w hs hlv hq hk (by omega) hm (by rw [← Bool.not_eq_false]; exact fun e => h (.inr e)) hv.n2 hK (by omega)
  | succ k ih =>
    intro q pre fs vw vf w hs hnx hlv hq hk hlen hpre
    by_cases h : most ≤ fs.length ∨ d.lv (k + 1) q = false
    · rw [d.ext_stop h]
      exact extend_stop d B bp c0 c1 c2 an cn al K cl most q (k + 1) vw vf pre fs w hs hlv hq hk hlen h hv.n2 hK
    rw [d.ext_succ h]
    have hst : d.lv (k + 1) q = true := by rw [← Bool.not_eq_false]; exact fun e => h (.inr e)
    have hlen2 : fs.length < most := by omega
    have hn := hv.n2
    have IH := Lib.hid ih
    have HV := Lib.hid hv
    have HEL := Lib.hid (fun j => d.extx_len (most := most) (k := k) (q := q) (pre := pre) (fs := fs) hlen j)
    have HES := Lib.hid (fun j => d.extx_succ most k q pre fs j)
    have HE0 := Lib.hid (d.extx_zero most k q pre fs)
    obtain ⟨z3, z4, z5, z6, z7⟩ := hs.cells
    obtain ⟨fa, fc, hvf⟩ := ownsRow_shape hs.rf
    have HS := Lib.hid hs
    rw [hvf] at z6
    obtain ⟨F, hF⟩ : ∃ F, F = fs.length := ⟨_, rfl⟩
    rw [← hF] at z6 hlen2
    have t0 : ((F : Int) == (most : Int)) = false := by simp; omega
    obtain ⟨b, off, r, c, rfl, hc1, hrow⟩ := hlv.at hk
    obtain ⟨b2, off2, rfl, hc2⟩ := hrow.at hq
    rw [show boolsV (d.lv (k + 1)) q = .bool (d.lv (k + 1) q) from rfl, hst] at hc2
    obtain ⟨k1, hk1⟩ : ∃ k1, k1 = k + 1 := ⟨_, rfl⟩
    rw [← hk1] at hc1 hk hpre
    rw [← hk1]
    have hkk : k1 - 1 = k := by omega
    have hsub : (k1 : Int) - 1 = (k : Int) := by omega
    have hws : IntKind.i64.wrap (k : Int) = (k : Int) := IntWalk.i64_in _ (by omega)
    have t1 : ((k1 : Int) == 0) = false := by simp; omega
    have hk0 : (0 : Int) ≤ (k1 : Int) := by omega
    have hkK : (k1 : Int) < (K : Int) := by omega
    have hq0 : (0 : Int) ≤ (q : Int) := by omega
    have hqn : (q : Int) < (d.n : Int) := by omega
    have hwq : IntKind.i64.wrap (q : Int) = (q : Int) := IntWalk.i64_in _ (by omega)
    have hwk : IntKind.i64.wrap (k1 : Int) = (k1 : Int) := IntWalk.i64_in _ (by omega)
    have HK1 := Lib.hid hk1
    have HNX := Lib.hid hnx
    have HLV := Lib.hid hlv
    have HKK := Lib.hid (show k < K ∧ pre.length + 1 + k ≤ 2048 by omega)
    obtain ⟨nb, noff, nr, nc, hnae, hnc, hnrow⟩ := hnx.at hq
    have hlnq := hv.ln q hq
    obtain ⟨kk, hkkk⟩ : ∃ kk, kk = d.ln q := ⟨_, rfl⟩
    have hkL : kk = d.L.toNat := by omega
    have hk6 : kk ≤ 6 := by have := hv.l2; omega
    have HKL := Lib.hid hkL
    rw [← hkkk] at hnc hnrow
    have HNR := Lib.hid hnrow
    have HNL := Lib.hid (fun x (hx : x < kk) => hv.nxlt (q := q) (x := x) hq (by rw [← hlnq, ← hkkk]; omega))
    have HNE := Lib.hid (fun x (hx : x < kk) => hv.nxeq (q := q) (x := x) hq (by rw [← hlnq, ← hkkk]; omega))
    obtain ⟨P, hP⟩ : ∃ P, P = pre.length := ⟨_, rfl⟩
    have HPL := Lib.hid hP
    rw [← hP] at hpre
    obtain ⟨u0, hu, hu0, hu1, hu2⟩ := info_parts infoU8
    clear ih hv hnx hlv h hst hlen hrow hs hF hk1 hkk hlnq hkkk hkL hnrow hP hvf
    subst hnae
    go_enter Try.func24, Try.ntmps24
    go_wp2_with fail
    go_quiet (fail)
    have HSQ := Lib.hid (HS.out.below (below_drewN' w nq))
    have HKQ := Lib.hid (SKeep.of_below (bp := bp) (vw := vw) (vf := vf) (below_drewN' w nq))
    go_wp2_with fail
    go_loopw [56] (fun vi wr => ∃ (j : Nat) (vw' vf' : Value), j ≤ kk ∧ vi = .int .i64 j ∧ SrW wr B bp c0 c1 c2 (.slice (some ⟨nb, noff, none⟩) d.n cn) (.slice (some ⟨b, off, none⟩) K cl) most vw' vf' pre (d.extx most k q pre fs j) ∧ SKeep w wr bp vw vf ∧ NewB w vw vw' ∧ NewB w vf vf') (fun vi _ => kk - (intOf vi).toNat)
    case atStart => exact ⟨0, vw, vf, Nat.zero_le _, rfl, by rw [HE0.out]; exact HSQ.out, HKQ.out, NewB.refl _ _, NewB.refl _ _⟩
    case round =>
      rename World => wA
      obtain ⟨j, vw', vf', hj, rfl, hs, hkp, hn1, hn2⟩ := hrel
      have HSA := Lib.hid hs
      have HKP := Lib.hid hkp
      have HN1 := Lib.hid hn1
      have HN2 := Lib.hid hn2
      clear hs hkp hn1 hn2 z3 z4 z5 z6 z7 hc1 hc2 hnc
      by_cases hjk : j < kk
      · have hnl := HNL.out j hjk
        have hne := HNE.out j hjk
        have HST := Lib.hid (HKP.out.step HN1.out HN2.out)
        obtain ⟨rb, roff, rfl, hrc⟩ := (HNR.out.step HST.out).at hjk
        rw [show rowsV d.N q j = .int .i64 (d.N q j) from rfl, hne] at hrc
        have HES1 := Lib.hid (HES.out j)
        obtain ⟨t, ht⟩ : ∃ t, t = d.nx q j := ⟨_, rfl⟩
        rw [← ht] at hrc hnl HES1
        obtain ⟨z3, z4, z5, z6, z7⟩ := HSA.out.cells
        obtain ⟨wa, wc, hvw⟩ := ownsRow_shape HSA.out.rw
        have HVW := Lib.hid hvw
        rw [hvw] at z5
        have HRW := Lib.hid (show (wA.alloc (.cells #[.int .u8 (97 + (j : Int))] 5)).ownsRow B 5 1 (.slice wa P wc) P (rowB8 pre) by
          have := HSA.out.rw.alloc (.cells #[.int .u8 (97 + (j : Int))] 5)
          rw [hvw, ← HPL.out] at this
          exact this)
        rw [← HPL.out] at z5 HVW
        have hj0 : (0 : Int) ≤ (j : Int) := by omega
        have hjn : (j : Int) < (kk : Int) := by omega
        have hwj : IntKind.i64.wrap (j : Int) = (j : Int) := IntWalk.i64_in _ (by omega)
        have hu8 : IntKind.u8.wrap (j : Int) = (j : Int) := by simp [IntKind.wrap, IntKind.bits, IntKind.signed]; omega
        have hu9 : IntKind.u8.wrap (97 + (j : Int)) = 97 + (j : Int) := by simp [IntKind.wrap, IntKind.bits, IntKind.signed]; omega
        have HBW := Lib.hid (Nat.le_trans HSA.out.bl (Nat.le_of_lt HSA.out.lt))
        clear hne ht hvw
        go_wp2_with (at_builtin; refine wpList_append_own_at _ rfl _ _ 52 rfl B 5 u0 (.int .u8 0) 1 1 Try.underlying52 hu hu0 hu1 hu2 rfl (by decide) _ P (rowB8 pre) rfl HRW.out ⟨_, 0, none⟩ 1 1 [.int .u8 (97 + (j : Int))] rfl rfl (cell_one_new _ _ _) ?f2 ?f3 ?f4 ?f5 ?_)
        case f2 => simp [Value.oneCell']
        case f3 => unfold maxLen; omega
        case f4 => omega
        case f5 => have := HBW.out; simp; omega
        intro v' w3 h3 hg3 _ hat
        have hgx : wA.grownBy w3 vw'.ownBlock := by rw [HVW.out]; exact grown_alloc hg3
        have hnb : NewB wA vw' v' := by
          refine newB_at (g := wA.heap.size + 1) ?_ (Nat.le_succ _)
          rw [HVW.out]
          rcases hat with e | e
          · exact .inl e
          · exact .inr (by rw [e])
        obtain ⟨W4, hW4⟩ : ∃ W4, W4 = w3.setCell ⟨bp, 5, none⟩ v' := ⟨_, rfl⟩
        have hput := HSA.out.putW (pre' := pre ++ [97 + (j : Int)]) hgx (by rw [List.length_append, List.length_singleton, ← HPL.out, rowB8_append]; exact h3) hnb
        rw [← hW4] at hput
        have HP := Lib.hid hput
        have HNB := Lib.hid hnb
        have x5 : w3.cell? ⟨bp, 5, none⟩ = some (.slice wa P wc) := hgx.cell z5 (fun e => HSA.out.n1 e.symm)
        have xf : w3.frozen? ⟨bp, 5, none⟩ = false := (World.frozen?_of_block (w := wA) (hgx.block bp HSA.out.lt (fun e => HSA.out.n1 e.symm))).trans (HSA.out.free 5)
        have hst4 : StepX (OX bp vw vf) w (OX bp v' vf') W4 := by
          have h1 := hput.2.step hnb (NewB.refl wA vf')
          have h2 := HST.out
          exact ⟨Nat.le_trans h2.1 h1.1, fun k hk hx => by
            obtain ⟨e1, e2⟩ := h2.2 k hk hx
            obtain ⟨e3, e4⟩ := h1.2 k (Nat.lt_of_lt_of_le hk h2.1) e1
            exact ⟨e3, e4.trans e2⟩⟩
        have HQ := Lib.hid (IH.out t (pre ++ [97 + (j : Int)]) (d.extx most k q pre fs j) v' vf' W4 hput.1 (HNX.out.step hst4) (HLV.out.step hst4) hnl HKK.out.1 (HEL.out j) (by have := HKK.out.2; simp; omega))
        rw [← HES1.out] at HQ
        have HW4 := Lib.hid hW4
        obtain ⟨ra', rc', rfl⟩ := ownsRow_shape h3
        clear h3 hg3 hat hgx hnb hput hst4 hW4
        go_wp2_with fail
        rw [← HW4.out]
        refine HQ.out.mono ?_
        rintro e W5 ⟨rfl, vw5, vf5, hS5, hK5, hn51, hn52⟩
        obtain ⟨y3, y4, y5, y6, y7⟩ := hS5.cells
        obtain ⟨g5, c5, hv5, hc5⟩ := ownsRow_pos (n := P) (by have := hS5.rw; rw [List.length_append, List.length_singleton, ← HPL.out] at this; exact this)
        have hpop : W5.ownsRow B 5 1 (.slice (some ⟨g5, 0, none⟩) P c5) P (rowB8 pre) := by
          refine ownsRow_pop (last := rowB8 [97 + (j : Int)]) (by rw [HPL.out]; simp [rowB8]) ?_
          have := hS5.rw
          rw [List.length_append, List.length_singleton, ← HPL.out, hv5, rowB8_append] at this
          exact this
        rw [hv5] at y5
        have yf := hS5.free 5
        have hput5 := hS5.putW (w1 := W5.drew) (vw' := .slice (some ⟨g5, 0, none⟩) P c5) (pre' := pre) ⟨rfl, rfl, rfl, Nat.le_refl _, fun _ _ _ => rfl⟩ (by rw [← HPL.out]; exact hpop) (fun k hk => .inl (by rw [hv5]; exact hk))
        have HP5 := Lib.hid hput5
        have HK12 := Lib.hid (HP.out.2.trans HNB.out (NewB.refl wA vf') hK5)
        have HN5a := Lib.hid (HNB.out.trans HP.out.2.size hn51)
        have HN5b := Lib.hid ((NewB.refl wA vf').trans HP.out.2.size hn52)
        have HN6 := Lib.hid (show NewB W5 vw5 (.slice (some ⟨g5, 0, none⟩) P c5) from fun k hk => .inl (by rw [hv5]; exact hk))
        have hP1 : ((P : Int) + 1) - 1 = (P : Int) := by omega
        have hP0 : (0 : Int) ≤ (P : Int) := by omega
        have hPc : (P : Int) ≤ (c5 : Int) := by omega
        have hPc2 : P ≤ c5 := by omega
        have hwP : IntKind.i64.wrap (P : Int) = (P : Int) := IntWalk.i64_in _ (by omega)
        clear hS5 hK5 hn51 hn52 hpop hput5 hv5
        go_wp2_with fail
        go_region
        all_goals
          go_wp2_with fail
          have hKT := HK12.out.trans HN5a.out HN5b.out HP5.out.2
          exact ⟨⟨j + 1, _, _, by omega, by go_num, HP5.out.1, HKP.out.trans HN1.out HN2.out hKT, HN1.out.trans HKP.out.size (HN5a.out.trans HK12.out.size HN6.out), HN2.out.trans HKP.out.size HN5b.out⟩, by simp [intOf]; omega⟩
      · obtain rfl : j = kk := by omega
        have HF := Lib.hid (show SrW wA B bp c0 c1 c2 (.slice (some ⟨nb, noff, none⟩) d.n cn) (.slice (some ⟨b, off, none⟩) K cl) most vw' vf' pre (d.extx most k q pre fs d.L.toNat) by rw [← HKL.out]; exact HSA.out)
        go_wp2_with fail
        go_end0
        exact ⟨rfl, vw', vf', HF.out, HKP.out, HN1.out, HN2.out⟩
end Go.Proofs.Ytohoiebofkmjeac
