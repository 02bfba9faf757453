/- Contract: the reference's Words. -/
import Derived.Test.YtohoiebofkmjeabDfaFF
import Derived.Test.YtohoiebofkmjeabDfaXW
namespace Go.Proofs.Ytohoiebofkmjeab
open Go Go.RowKit
set_option linter.unusedVariables false
section
variable {w w' : World} {B bp m gl cl : Nat} {vw vf vw' vf' : Value} {d : DF} {R : Nat → Option Addr} {C : Nat → Nat}
/-- a further row: appended in w3 (from w1, behind the block of the new element) -/
theorem LiveW.push0 {w1 w2 w3 : World} {g gl' cl' : Nat} (h : LiveW w B bp vw vf d m gl cl R C) (hbp : bp < w.heap.size) (hvw : ∀ k, vw.ownBlock = some k → k < w.heap.size) (hvf : ∀ k, vf.ownBlock = some k → k < w.heap.size)
    (h1 : Below w.heap.size w w1) (hg : OwnV w1 w.heap.size 4 g d.n (boolsV (d.lv m))) (h2 : w2 = w1.alloc (.cells #[.slice (some ⟨g, 0, none⟩) d.n d.n] 22)) (h3 : w2.grownBy w3 (some gl))
    (ho : w3.ownsRow B 22 1 (.slice (some ⟨gl', 0, none⟩) (m + 1) cl') (m + 1) ((vals m fun k => .slice (R k) d.n (C k)) ++ [.slice (some ⟨g, 0, none⟩) d.n d.n])) (hat : gl' = gl ∨ gl' = w1.heap.size + 1) :
    LiveW w3 B bp vw vf d (m + 1) gl' cl' (fun k => if k = m then some ⟨g, 0, none⟩ else R k) (fun k => if k = m then d.n else C k) := by
  have hgl := h.lt
  have hglt := hg.lt
  have s1 := h1.size
  have hs2 : w2.heap.size = w1.heap.size + 1 := by rw [h2]; simp
  have hne : gl' ≠ bp := by
    rcases hat with e | e
    · rw [e]; exact h.off.1
    · omega
  have hblk : ∀ k, k < w1.heap.size → k ≠ gl → k ≠ bp → w3.heap[k]? = w1.heap[k]? := fun k hk e1 e2 => by
    rw [h3.block k (by omega) (fun e => e1 (by injection e)), h2, Below.heap_alloc _ _ _ hk]
  refine ⟨?_, ⟨hne, fun e => ?_, fun e => ?_⟩, fun k hk => ?_⟩
  · have := ho
    have e : vals (m + 1) (fun k => Value.slice (if k = m then some ⟨g, 0, none⟩ else R k) d.n (if k = m then d.n else C k)) = (vals m fun k => .slice (R k) d.n (C k)) ++ [.slice (some ⟨g, 0, none⟩) d.n d.n] := by
      rw [vals_snoc, if_pos rfl, if_pos rfl]
      congr 1
      exact vals_congr fun t ht => by rw [if_neg (by omega), if_neg (by omega)]
    rw [e]; exact this
  · rcases hat with e1 | e1
    · exact h.off.2.1 (by rw [← e1]; exact e)
    · have := hvw _ e; omega
  · rcases hat with e1 | e1
    · exact h.off.2.2 (by rw [← e1]; exact e)
    · have := hvf _ e; omega
  · by_cases e : k = m
    · subst e
      rw [if_pos rfl]
      rcases hg.row with h0 | ⟨b, off, hb, hl, hc⟩
      · exact .inl h0
      · injection hb with hb; injection hb with hb1 hb2
        subst hb1 hb2
        have h9 : ∀ j, vw.ownBlock = some j ∨ vf.ownBlock = some j → j ≠ g := fun j hj => by
          rcases hj with hj | hj
          · have := hvw j hj; omega
          · have := hvf j hj; omega
        refine .inr ⟨g, 0, rfl, ⟨⟨⟨by omega, fun e => h9 g (.inl e) rfl, fun e => h9 g (.inr e) rfl⟩, by omega⟩, by have := h3.size; omega⟩, fun i hi => ?_⟩
        rw [World.cell?_of_block (w := w1) (a := ⟨g, 0 + i, none⟩) (hblk g hl (by omega) (by omega))]
        exact hc i hi
    · rw [if_neg e]
      refine (h.rows k (by omega)).step ⟨by have := h3.size; omega, fun j hj hx => ⟨⟨hx.1, ?_⟩, ?_⟩⟩
      · rcases hat with e1 | e1
        · rw [e1]; exact hx.2
        · omega
      · rw [hblk j (by omega) hx.2 hx.1.1]
        exact h1.block j hj
end
abbrev vN : Value := .slice none 0 0
theorem ox_xv {bp : Nat} {v : Value} {k : Nat} (h : OX bp vN v k) : XV v k := h.2.2
theorem RowsX.mono {X X' : Nat → Prop} {w : World} {a : Option Addr} {m : Nat} {ln : Nat → Nat} {g : Nat → Nat → Value} (h : RowsX X w a m ln g) (hX : ∀ k, X k → X' k) : RowsX X' w a m ln g := by
  rcases h with h | ⟨b, off, rfl, hl, hc⟩
  · exact .inl h
  · refine .inr ⟨b, off, rfl, ⟨hX b hl.1, hl.2⟩, fun i hi => ?_⟩
    obtain ⟨r, c, h1, h2⟩ := hc i hi
    exact ⟨r, c, h1, h2.mono hX⟩
theorem live_start0 {w : World} {B bp : Nat} {d : DF} {af : Option Addr} {cf : Nat} (hB : B ≤ w.heap.size) (hbp : bp < w.heap.size) (hf : RowX (fun b => OX bp vN vN b ∧ b ≠ w.heap.size) (w.alloc (.cells #[.slice af d.n cf] 22)) af d.n (boolsV d.F)) :
    LiveW (w.alloc (.cells #[.slice af d.n cf] 22)) B bp vN vN d 1 w.heap.size 1 (fun _ => af) (fun _ => cf) := by
  refine ⟨⟨by simp [vals], .inr ⟨w.heap.size, 1, #[.slice af d.n cf], rfl, hB, heap_new1 _ _, Nat.le_refl _, by unfold maxLen; omega, rfl, by simp [vals]⟩⟩, ⟨by omega, by simp [Value.ownBlock], by simp [Value.ownBlock]⟩, fun k hk => ?_⟩
  obtain rfl : k = 0 := by omega
  exact hf
theorem step_ox {w w' : World} {bp : Nat} {v v' : Value} (hbp : bp < w.heap.size) (hg : w.grownBy w' v.ownBlock) (hn : NewB w v v') : StepX (OX bp vN v) w (OX bp vN v') w' := by
  have h := step_grown hg hn
  exact ⟨h.1, fun k hk hx => ⟨⟨hx.1, hx.2.1, (h.2 k hk hx.2.2).1⟩, (h.2 k hk hx.2.2).2⟩⟩
set_option maxRecDepth 100000 in
set_option maxHeartbeats 8000000 in
theorem rwords_ok (d : DF) (af : Option Addr) (cf : Nat) (an : Option Addr) (cn : Nat) (n : Nat) (w : World) (hin : InD w d af an) (hv : OkD d) (hn : n ≤ 200) :
    Calls Try.prog 27 #[dV d af cf an cn, .int .i64 n] w (GivesS w (d.words n)) := by
  obtain ⟨W0, HW⟩ : ∃ W0, BoxD w W0 d af cf an cn := ⟨_, ⟨rfl⟩⟩
  have HI := Lib.hid (HW.in hin)
  have HIW := Lib.hid hin
  have HZ := Lib.hid (fun w' hb => @BoxD.cells w W0 d af cf an cn HW w' hb)
  have HOUT := Lib.hid (fun w' hb => @BoxD.out w W0 d af cf an cn HW w' hb)
  have HSZ := Lib.hid HW.size
  have HB0 := Lib.hid (show Below (w.heap.size + 1) W0 W0 from Below.refl _ _)
  have HWE := Lib.hid HW.eq
  have HEM := Lib.hid (fun B al K cl hK k pre fs v W h1 h2 h3 h4 h5 h6 h7 h8 => emit_any d hv af cf an cn B al K cl n hn hK k d.S.toNat pre fs v W h1 h2 h3 h4 h5 h6 h7 h8)
  rw [show ((d.S.toNat : Nat) : Int) = d.S from hv.st.2.symm] at HEM
  have HMN := Lib.hid hv.mn
  unfold dV at HEM
  have z2' : (w.alloc (dO d af cf an cn)).cell? ⟨w.heap.size, 2, none⟩ = some (.slice af d.n cf) := by rw [← HWE.out]; exact (HZ.out _ HB0.out).2.2.1
  unfold dO at HWE z2'
  rw [HMN.out] at HEM HZ HWE z2'
  unfold dV
  rw [HMN.out]
  have HV := Lib.hid hv
  have hn2 := hv.n2
  have HNXT := Lib.hid (show RowsV w an d.n d.ln (rowsV d.N) by have := HIW.out.nxt; rw [HMN.out] at this; exact this)
  obtain ⟨i0, hi, hz0, hz1, hz2⟩ := info_parts infoSB
  obtain ⟨b0, hbi, hb0, hb1, hb2⟩ := info_parts infoBo
  have HST := Lib.hid hv.st.1
  clear hin hv HW
  go_enter Try.func27, Try.ntmps27
  go_wp2_with fail
  rw [← HWE.out]
  go_loopw [5, 6, 7] (fun s5 s6 vi wr => ∃ (l : Nat) (v : Value) (gl cl : Nat) (R : Nat → Option Addr) (C : Nat → Nat), l ≤ 2049 ∧ vi = .int .i64 l ∧ s5 = v ∧ s6 = .slice (some ⟨gl, 0, none⟩) (l + 1) cl ∧
      wr.ownsRow (w.heap.size + 1) 9 1 v (d.wds n l).length (rowS (d.wds n l)) ∧
      LiveW wr (w.heap.size + 1) w.heap.size vN v d (l + 1) gl cl R C ∧ Below (w.heap.size + 1) W0 wr) (fun _ _ vi _ => 2049 - (intOf vi).toNat)
  case atStart =>
    have hb2 := HB0.out.alloc (by rw [HSZ.out]; exact Nat.le_refl _) (.cells #[.slice af d.n cf] 22)
    have hl := live_start0 (w := W0) (bp := w.heap.size) (cf := cf) (d := d) (af := af) (B := w.heap.size + 1) (by rw [HSZ.out]; exact Nat.le_refl _) (by rw [HSZ.out]; omega) (HIW.out.fin.old (HOUT.out _ hb2) (Nat.le_refl _) fun k hk => ⟨⟨by omega, by simp [Value.ownBlock], by simp [Value.ownBlock]⟩, by rw [HSZ.out]; omega⟩)
    rw [HSZ.out] at hl
    exact ⟨0, vN, _, 1, fun _ => af, fun _ => cf, by omega, rfl, rfl, rfl, World.ownsRow_nil _ _ _ _, hl, hb2⟩
  case round =>
    rename World => wA
    obtain ⟨l, v, gl, cl, R, C, hl, rfl, hs5, rfl, ho, hlw, hb⟩ := hrel
    have hs5' := hs5.symm
    clear hs5
    subst hs5'
    have HO := Lib.hid ho
    have HL := Lib.hid hlw
    have HB := Lib.hid hb
    obtain ⟨fa, fc, hvf⟩ := ownsRow_shape ho
    have hwl := d.wds_len n l
    obtain ⟨F, hF⟩ : ∃ F, F = (d.wds n l).length := ⟨_, rfl⟩
    have HFL := Lib.hid hF
    rw [← hF] at hwl hvf
    have HVF := Lib.hid hvf
    obtain ⟨z0, z1, z2, z3⟩ := HZ.out _ hb
    have HFIN := Lib.hid (show n ≤ F ∨ l = 2049 → GivesS w (d.words n) (.returned (.slice fa F fc)) wA from fun h => by
      have e : d.words n = d.wds n l := by
        rcases h with h | h
        · exact d.words_full hl (by rw [← hF]; exact h)
        · rw [h]; rfl
      obtain ⟨a, c, he, hr⟩ := RowSt.of_own ho
      rw [hvf] at he
      injection he with e1 e2 e3
      exact ⟨fa, fc, by rw [e, hF], by rw [e, e1]; exact hr, HOUT.out _ hb⟩)
    have HNB := Lib.hid (fun k (e : v.ownBlock = some k) => (World.ownsRow.lt ho k e))
    clear ho hlw hb hF z2'
    rw [hvf]
    clear hvf
    by_cases h2048 : l ≤ 2048
    · by_cases hfn : F < n
      · have t1 : (l : Int) ≤ 2048 := by omega
        have t2 : (F : Int) < (n : Int) := by omega
        have hbase : w.heap.size + 1 ≤ wA.heap.size := by have := HB.out.size; have := HSZ.out; omega
        have HBASE := Lib.hid hbase
        have hnx : RowsX (XV v) wA an d.n d.ln (rowsV d.N) := HNXT.out.old (HOUT.out _ HB.out) (Nat.le_refl _) fun k hk e => by have := (HNB.out k e).1; omega
        have HQX := Lib.hid (HEM.out _ _ _ cl (by omega) l [] _ _ wA HO.out hbase hnx (HL.out.rowsX.mono fun k hk => ox_xv hk) HST.out (by omega) (d.wds_len n l) (by simpa using h2048))
        rw [show d.ext n l d.S.toNat [] (d.wds n l) = d.wds n (l + 1) from rfl, show strOfNums [] = ⟨#[]⟩ from rfl] at HQX
        rw [HVF.out] at HQX
        clear hnx hbase
        go_wp2_with fail
        refine HQX.out.mono ?_
        rintro e w5 ⟨v', rfl, ho5, hg5, hn5⟩
        rw [← HVF.out] at hg5 hn5
        have HO5 := Lib.hid ho5
        have HL5 := Lib.hid (HL.out.step (step_ox (by have := HBASE.out; omega) hg5 hn5))
        have HB5 := Lib.hid (HB.out.grown hg5 HBASE.out (fun k e => (HNB.out k e).1))
        have HS5 := Lib.hid (Nat.le_trans HBASE.out hg5.size)
        clear z0 z1 z2 z3 ho5 hg5 hn5
        obtain ⟨z0, z1, z2, z3⟩ := HZ.out _ HB5.out
        go_wp2_with (refine wpList_make_full _ rfl _ _ 22 rfl w5.heap.size 4 b0 (.bool false) 1 Try.underlying22 hbi hb0 hb1 .i64 .i64 _ _ d.n rfl rfl (by simp) (by simp) ?c1 ?c2 ?c3 ?_)
        case c1 => rw [hb2]; omega
        case c2 => unfold maxLen; omega
        case c3 => exact Nat.le_refl _
        intro w6 hown0 hg6
        have hb56 : Below w5.heap.size w5 w6 := (Below.refl _ _).grown hg6 (Nat.le_refl _) (by intro k hk; cases hk)
        have HB56 := Lib.hid hb56
        have HO6 := Lib.hid (show OwnV w6 w5.heap.size 4 w5.heap.size d.n (upV 0 (boolsV fun _ => false) (boolsV (d.bf (d.lv l)))) from (OwnV.made rfl (by simpa using hown0)).congr fun t _ => (upV_zero _ _ t).symm)
        have HBT := Lib.hid (fun W (hW : Below w5.heap.size w6 W) => HB5.out.trans ((HB56.out.trans hW).mono HS5.out))
        have HLT := Lib.hid (fun W (hW : Below w5.heap.size w6 W) => HL5.out.step (w' := W) (vw' := vN) (vf' := v') ⟨(HB56.out.trans hW).size, fun k hk hx => ⟨hx, (HB56.out.trans hW).block k hk⟩⟩)
        clear hown0 hg6 hb56 z0 z1 z2 z3
        go_wp2_with fail
        go_loopw [39] (fun vi wr => ∃ q : Nat, q ≤ d.n ∧ vi = .int .i64 q ∧ OwnV wr w5.heap.size 4 w5.heap.size d.n (upV q (boolsV fun _ => false) (boolsV (d.bf (d.lv l)))) ∧ Below w5.heap.size w6 wr) (fun vi _ => d.n - (intOf vi).toNat)
        case atStart => exact ⟨0, Nat.zero_le _, rfl, HO6.out, Below.refl _ _⟩
        case round =>
          rename World => wB
          obtain ⟨q, hq, rfl, ho, hb⟩ := hrel
          have HOq := Lib.hid ho
          have HBq := Lib.hid hb
          obtain ⟨z0, z1, z2, z3⟩ := HZ.out _ (HBT.out _ hb)
          clear ho hb
          by_cases hlt : q < d.n
          · obtain ⟨b, off, r, c', rfl, hbz, hcell0, hrow⟩ := HIW.out.nxt.at (i := q) (by rw [HMN.out]; exact hlt)
            have hcell := ((HOUT.out _ (HBT.out _ HBq.out)).cell (p := ⟨b, off + q, none⟩) hbz).trans hcell0
            have hlnq := HV.out.ln q hlt
            obtain ⟨k, hk⟩ : ∃ k, k = d.ln q := ⟨_, rfl⟩
            have hkL : k = d.L.toNat := by omega
            have hk6 : k ≤ 6 := by have := HV.out.l2; omega
            have HKL := Lib.hid hkL
            have HX := Lib.hid hrow
            rw [← hk] at hcell HX
            have HNL := Lib.hid (fun x (hx : x < k) => HV.out.nxlt (q := q) (x := x) hlt (by rw [← hlnq, ← hk]; omega))
            have HNE := Lib.hid (fun x (hx : x < k) => HV.out.nxeq (q := q) (x := x) hlt (by rw [← hlnq, ← hk]; omega))
            have HM0 := Lib.hid (show OwnV wB w5.heap.size 4 w5.heap.size d.n (midV d (d.lv l) q 0) from HOq.out.congr fun t ht => by
              unfold midV
              by_cases e : t = q
              · subst e; rw [if_pos rfl, upV, if_neg (by omega)]; rfl
              · rw [if_neg e])
            have hq0 : (0 : Int) ≤ (q : Int) := by omega
            have hqn : (q : Int) < (d.n : Int) := by omega
            have hwq : IntKind.i64.wrap (q : Int) = (q : Int) := IntWalk.i64_in _ (by omega)
            clear hrow hk hlnq hkL hcell0
            go_wp2_with fail
            go_loopw [48] (fun vj wr => ∃ j : Nat, j ≤ k ∧ vj = .int .i64 j ∧ OwnV wr w5.heap.size 4 w5.heap.size d.n (midV d (d.lv l) q j) ∧ Below w5.heap.size w6 wr) (fun vj _ => k - (intOf vj).toNat)
            case atStart => exact ⟨0, Nat.zero_le _, rfl, HM0.out, HBq.out⟩
            case round =>
              rename World => wC
              obtain ⟨j, hj, rfl, ho, hb⟩ := hrel
              have HO2 := Lib.hid ho
              have HB2 := Lib.hid hb
              clear ho hb hcell z0 z1 z2 z3
              by_cases hjk : j < k
              · have hnl := HNL.out j hjk
                have hne := HNE.out j hjk
                obtain ⟨b2, off2, rfl, hb2x, hc2⟩ := (HX.out.keep (HOUT.out _ (HBT.out _ HB2.out))).at hjk
                rw [show rowsV d.N q j = .int .i64 (d.N q j) from rfl, hne] at hc2
                have HS := Lib.hid (d.bfx_succ (d.lv l) q j)
                obtain ⟨t, ht⟩ : ∃ t, t = d.nx q j := ⟨_, rfl⟩
                rw [← ht] at hc2 hnl HS
                have hcur := HO2.out.cell hlt
                have hfr := HO2.out.free q
                rw [show midV d (d.lv l) q j q = .bool (d.bfx (d.lv l) q j) by simp [midV]] at hcur
                have hlc := (HLT.out _ HB2.out).cell (k := l) (by omega)
                obtain ⟨ab, aoff, hra, hab, hca⟩ := ((HLT.out _ HB2.out).rows l (by omega)).row.at (i := t) hnl
                rw [show boolsV (d.lv l) t = .bool (d.lv l t) from rfl] at hca
                rw [hra] at hlc
                obtain ⟨v0, hvv⟩ : ∃ v, v = d.lv l t := ⟨_, rfl⟩
                obtain ⟨u, huu⟩ : ∃ u, u = d.bfx (d.lv l) q j := ⟨_, rfl⟩
                rw [← hvv] at hca HS
                rw [← huu] at hcur HS
                have hj0 : (0 : Int) ≤ (j : Int) := by omega
                have hjn : (j : Int) < (k : Int) := by omega
                have hwj : IntKind.i64.wrap (j : Int) = (j : Int) := IntWalk.i64_in _ (by omega)
                have ht0 : (0 : Int) ≤ (t : Int) := by omega
                have htn : (t : Int) < (d.n : Int) := by omega
                have hwt : IntKind.i64.wrap (t : Int) = (t : Int) := IntWalk.i64_in _ (by omega)
                have hl0 : (0 : Int) ≤ (l : Int) := by omega
                have hll : (l : Int) < ((l : Int) + 1) := by omega
                have hwll : IntKind.i64.wrap (l : Int) = (l : Int) := IntWalk.i64_in _ (by omega)
                have HNX := Lib.hid (show ∀ x, x = Value.bool (u || v0) → OwnV (wC.setCell ⟨w5.heap.size, q, none⟩ x) w5.heap.size 4 w5.heap.size d.n (midV d (d.lv l) q (j + 1)) from fun x hx => (HO2.out.set q x).congr fun t' _ => by
                  unfold midV
                  by_cases e : t' = q
                  · rw [if_pos e, if_pos e, hx, HS.out]
                  · rw [if_neg e, if_neg e, if_neg e])
                have HBX := Lib.hid (fun x => HB2.out.setCell (p := ⟨w5.heap.size, q, none⟩) (Nat.le_refl _) x)
                clear hvv huu ht hne hra
                cases u
                · go_wp2_with fail
                  exact ⟨⟨j + 1, by omega, by go_num, HNX.out _ rfl, HBX.out _⟩, by simp [intOf]; omega⟩
                · go_wp2_with fail
                  exact ⟨⟨j + 1, by omega, by go_num, HNX.out _ rfl, HBX.out _⟩, by simp [intOf]; omega⟩
              · obtain rfl : j = k := by omega
                have HNX := Lib.hid (show OwnV wC w5.heap.size 4 w5.heap.size d.n (upV (q + 1) (boolsV fun _ => false) (boolsV (d.bf (d.lv l)))) from HO2.out.congr fun t ht => by
                  unfold midV upV
                  by_cases e : t = q
                  · subst e; rw [if_pos rfl, if_pos (by omega), HKL.out, DF.bfx_all]; rfl
                  · rw [if_neg e]
                    by_cases h2 : t < q
                    · rw [if_pos h2, if_pos (by omega)]
                    · rw [if_neg h2, if_neg (by omega)])
                go_wp2_with fail
                exact ⟨⟨q + 1, by omega, by go_num, HNX.out, HB2.out⟩, by simp [intOf]; omega⟩
          · obtain rfl : q = d.n := by omega
            have HOV := Lib.hid (show OwnV wB w5.heap.size 4 w5.heap.size d.n (boolsV (d.lv (l + 1))) from HOq.out.congr fun t ht => upV_all ht)
            have HB5B := Lib.hid (HB56.out.trans HBq.out)
            have HLB := Lib.hid (HLT.out _ HBq.out)
            have hsB : w.heap.size + 1 ≤ wB.heap.size := Nat.le_trans HS5.out HB5B.out.size
            have HSB := Lib.hid hsB
            have HOW := Lib.hid (HLB.out.own.alloc (.cells #[.slice (some ⟨w5.heap.size, 0, none⟩) d.n d.n] 22))
            have hnl5 : ∀ k, v'.ownBlock = some k → k < w5.heap.size := fun k e => (World.ownsRow.lt HO5.out k e).2
            have HNL5 := Lib.hid hnl5
            clear hnl5 z0 z1 z2 z3
            go_wp2_with (at_builtin; refine wpList_append_own_at _ rfl _ _ 76 rfl (w.heap.size + 1) 22 i0 (.slice none 0 0) 1 24 Try.underlying76 hi hz0 hz1 hz2 rfl (by decide) _ (l + 1) (vals (l + 1) fun k => .slice (R k) d.n (C k)) rfl HOW.out ⟨_, 0, none⟩ 1 1 [.slice (some ⟨w5.heap.size, 0, none⟩) d.n d.n] rfl rfl (cell_one_new _ _ _) ?f2 ?f3 ?f4 ?f5 ?_)
            case f2 => simp [Value.oneCell']
            case f3 => unfold maxLen; omega
            case f4 => omega
            case f5 => have := HSB.out; simp; omega
            intro vx w3 h3 hg3 _ hat
            obtain ⟨gl', cl', rfl, hcl'⟩ := ownsRow_pos h3
            have hgv : wB.grownBy w3 (some gl) := grown_alloc hg3
            have HLP := Lib.hid (LiveW.push0 (w := w5) (w1 := wB) (gl' := gl') (cl' := cl') HL5.out (by have := HS5.out; omega) (by intro k e; simp [Value.ownBlock] at e) HNL5.out HB5B.out HOV.out rfl hg3 h3 (by
              rcases hat with e | e
              · left; simpa [Value.ownBlock] using e
              · right; simpa [Value.ownBlock] using e))
            have HOP := Lib.hid (((HO5.out.kept (grownBy_below HB5B.out) (none_or _)).kept hgv (.inr HLB.out.off.2.2)))
            have HBP := Lib.hid ((HBT.out _ HBq.out).grown hgv HSB.out (fun k hk => by injection hk with hk; rw [← hk]; exact HLB.out.lt.1))
            clear h3 hg3 hat hgv
            go_wp2_with fail
            exact ⟨⟨l + 1, v', gl', cl', _, _, by omega, by go_num, rfl, rfl, HOP.out, HLP.out, HBP.out⟩, by simp [intOf]; omega⟩
      · have t1 : (l : Int) ≤ 2048 := by omega
        have t2 : ¬ (F : Int) < (n : Int) := by omega
        have HE := Lib.hid (HFIN.out (.inl (by omega)))
        go_wp2_with fail
        go_ret
        exact HE.out
    · obtain rfl : l = 2049 := by omega
      have HE := Lib.hid (HFIN.out (.inr rfl))
      go_wp2_with fail
      go_ret
      exact HE.out
end Go.Proofs.Ytohoiebofkmjeab
