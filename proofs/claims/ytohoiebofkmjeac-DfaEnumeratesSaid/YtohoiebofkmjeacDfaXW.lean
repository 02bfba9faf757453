/- Contract: Words. -/
import Derived.Test.YtohoiebofkmjeacDfaX
namespace Go.Proofs.Ytohoiebofkmjeac
open Go Go.RowKit
set_option linter.unusedVariables false
theorem heap_new1 (w : World) (o : Obj) : (w.alloc o).heap[w.heap.size]? = some o := by
  show (w.heap.push o)[w.heap.size]? = some o
  simp
theorem heap_new2 (w : World) (o1 o2 : Obj) : ((w.alloc o1).alloc o2).heap[w.heap.size + 1]? = some o2 := by
  have h : (w.alloc o1).heap.size = w.heap.size + 1 := by simp
  have := heap_new1 (w.alloc o1) o2
  rw [h] at this
  exact this
theorem live_start {w : World} {bo : Obj} {B : Nat} {d : DF} {af : Option Addr} {cf : Nat} (hB : B ≤ w.heap.size) (hf : RowX (fun b => OX (w.heap.size + 1) (.slice none 0 0) (.slice none 0 0) b ∧ b ≠ w.heap.size) ((w.alloc (.cells #[.slice af d.n cf] 22)).alloc bo) af d.n (boolsV d.F)) :
    LiveW ((w.alloc (.cells #[.slice af d.n cf] 22)).alloc bo) B (w.heap.size + 1) (.slice none 0 0) (.slice none 0 0) d 1 w.heap.size 1 (fun _ => af) (fun _ => cf) := by
  refine ⟨⟨by simp [vals], .inr ⟨w.heap.size, 1, #[.slice af d.n cf], rfl, hB, ?_, Nat.le_refl _, by unfold maxLen; omega, rfl, by simp [vals]⟩⟩, ⟨by omega, by simp [Value.ownBlock], by simp [Value.ownBlock]⟩, fun k hk => ?_⟩
  · rw [Below.heap_alloc _ _ _ (by simp)]
    show (w.heap.push _)[w.heap.size]? = _
    simp
  · obtain rfl : k = 0 := by omega
    exact hf
set_option maxRecDepth 100000 in
set_option maxHeartbeats 8000000 in
theorem words_ok (d : DF) (af : Option Addr) (cf : Nat) (an : Option Addr) (cn : Nat) (n : Nat) (w : World) (hin : InD w d af an) (hv : OkD d) (hn : n ≤ 200) :
    Calls Try.prog 8 #[dV d af cf an cn, .int .i64 n] w (GivesS w (d.words n)) := by
  obtain ⟨W0, HW⟩ : ∃ W0, BoxD w W0 d af cf an cn := ⟨_, ⟨rfl⟩⟩
  have HI := Lib.hid (HW.in hin)
  have HZ := Lib.hid (fun w' hb => @BoxD.cells w W0 d af cf an cn HW w' hb)
  have HOUT := Lib.hid (fun w' hb => @BoxD.out w W0 d af cf an cn HW w' hb)
  have HSZ := Lib.hid HW.size
  have HB0 := Lib.hid (show Below (w.heap.size + 1) W0 W0 from Below.refl _ _)
  have HWE := Lib.hid HW.eq
  have HQ := Lib.hid (fun W (h : InD W d af an) => dvalid_any d af cf an cn W h)
  rw [valD_iff.2 hv] at HQ
  have HBF := Lib.hid (fun p a c W (h : InD W d af an) (hr : RowV W a d.n (boolsV p)) => before_ok d af cf an cn p a c W h hv hr)
  have HEX := Lib.hid (fun B bp c0 c1 c2 al K cl hK k pre fs vw vf W h1 h2 h3 h4 h5 h6 h7 => extend_any d hv B bp c0 c1 c2 an cn al K cl n hn hK k d.S.toNat pre fs vw vf W h1 h2 h3 h4 h5 h6 h7)
  rw [show ((d.S.toNat : Nat) : Int) = d.S from hv.st.2.symm] at HEX
  have HMN := Lib.hid hv.mn
  unfold dV at HQ HBF
  unfold dO at HWE
  rw [HMN.out] at HQ HBF HZ HWE
  unfold dV
  rw [HMN.out]
  have HV := Lib.hid hv
  have hn2 := hv.n2
  have HNXT := Lib.hid (show RowsV W0 an d.n d.ln (rowsV d.N) by have := HI.out.nxt; rw [HMN.out] at this; exact this)
  obtain ⟨i0, hi, hz0, hz1, hz2⟩ := info_parts infoSB
  clear hin hv HW
  go_enter Try.func8, Try.ntmps8
  go_wp2_with fail
  rw [← HWE.out]
  refine (HQ.out _ HI.out).mono ?_
  rintro e w2 ⟨rfl, hB⟩
  have HB1 := Lib.hid (HB0.out.trans (hB.mono (by rw [HSZ.out]; exact Nat.le_refl _)))
  obtain ⟨z0, z1, z2, z3⟩ := HZ.out _ HB1.out
  clear hB
  go_wp2_with fail
  go_loopw [6] (fun vi wr => ∃ (l : Nat) (vw vf : Value) (gl cl : Nat) (R : Nat → Option Addr) (C : Nat → Nat), l ≤ 2049 ∧ vi = .int .i64 l ∧
      SrW wr (w.heap.size + 1) (w2.heap.size + 1) (.int .i64 d.L) (.int .i64 d.S) (.slice af d.n cf) (.slice an d.n cn) (.slice (some ⟨gl, 0, none⟩) (l + 1) cl) n vw vf [] (d.wds n l) ∧
      LiveW wr (w.heap.size + 1) (w2.heap.size + 1) vw vf d (l + 1) gl cl R C ∧ Below (w.heap.size + 1) W0 wr) (fun vi _ => 2049 - (intOf vi).toNat)
  case atStart =>
    have hb2 := (HB1.out.alloc (by have := HB1.out.size; have := HSZ.out; omega) (.cells #[.slice af d.n cf] 22)).alloc (by have := HB1.out.size; have := HSZ.out; simp; omega) (sO (.int .i64 d.L) (.int .i64 d.S) (.slice af d.n cf) (.slice an d.n cn) (.slice (some ⟨w2.heap.size, 0, none⟩) 1 1) (.slice none 0 0) (.slice none 0 0) n)
    have hs2 : w.heap.size + 1 ≤ w2.heap.size := by have := HB1.out.size; have := HSZ.out; omega
    refine ⟨0, .slice none 0 0, .slice none 0 0, w2.heap.size, 1, fun _ => af, fun _ => cf, by omega, rfl, ⟨heap_new2 _ _ _, World.ownsRow_nil _ _ _ _, World.ownsRow_nil _ _ _ _, by omega, by simp [Value.ownBlock], by simp [Value.ownBlock], by simp [Value.ownBlock]⟩, live_start hs2 (HI.out.fin.old hb2 (by rw [HSZ.out]; exact Nat.le_refl _) fun k hk => ⟨⟨by omega, by simp [Value.ownBlock], by simp [Value.ownBlock]⟩, by omega⟩), hb2⟩
  case round =>
    rename World => wA
    obtain ⟨l, vw, vf, gl, cl, R, C, hl, rfl, hs, hlw, hb⟩ := hrel
    have HS := Lib.hid hs
    have HL := Lib.hid hlw
    have HB := Lib.hid hb
    obtain ⟨fa, fc, hvf⟩ := ownsRow_shape hs.rf
    obtain ⟨y3, y4, y5, y6, y7⟩ := hs.cells
    rw [hvf] at y6
    have HVF := Lib.hid hvf
    have hwl := d.wds_len n l
    obtain ⟨F, hF⟩ : ∃ F, F = (d.wds n l).length := ⟨_, rfl⟩
    have HFL := Lib.hid hF
    rw [← hF] at y6 hwl
    obtain ⟨z0, z1, z2, z3⟩ := HZ.out _ hb
    have HFIN := Lib.hid (show n ≤ F ∨ l = 2049 → GivesS w (d.words n) (.returned (.slice fa F fc)) wA from fun h => by
      have e : d.words n = d.wds n l := by
        rcases h with h | h
        · exact d.words_full hl (by rw [← hF]; exact h)
        · rw [h]; rfl
      obtain ⟨a, c, he, hr⟩ := RowSt.of_own hs.rf
      rw [hvf] at he
      injection he with e1 e2 e3
      exact ⟨fa, fc, by rw [e, hF], by rw [e, e1]; exact hr, HOUT.out _ hb⟩)
    clear hs hlw hb hvf hF
    by_cases h2048 : l ≤ 2048
    · by_cases hfn : F < n
      · have t1 : (l : Int) ≤ 2048 := by omega
        have t2 : (F : Int) < (n : Int) := by omega
        have hold : ∀ k, k < w.heap.size + 1 → OX (w2.heap.size + 1) vw vf k := fun k hk => ⟨by have := HB1.out.size; have := HSZ.out; omega, fun e => by have := (World.ownsRow.lt HS.out.rw k e).1; omega, fun e => by have := (World.ownsRow.lt HS.out.rf k e).1; omega⟩
        have HQX := Lib.hid (HEX.out _ _ _ _ _ _ _ _ (by omega) l _ _ _ _ wA HS.out (HNXT.out.old HB.out (by rw [HSZ.out]; exact Nat.le_refl _) hold) HL.out.rowsX HV.out.st.1 (by omega) (d.wds_len n l) (by simpa using h2048))
        rw [show d.ext n l d.S.toNat [] (d.wds n l) = d.wds n (l + 1) from rfl] at HQX
        have hbase : w.heap.size + 1 ≤ wA.heap.size := by have := HB.out.size; have := HSZ.out; omega
        have HBASE := Lib.hid hbase
        clear hold hbase
        go_wp2_with fail
        refine HQX.out.mono ?_
        rintro e wB ⟨rfl, vw', vf', hs5, hk5, hn1, hn2⟩
        have HS5 := Lib.hid hs5
        have HL5 := Lib.hid (HL.out.step (hk5.step hn1 hn2))
        have HB5 := Lib.hid (hk5.old HB.out HBASE.out (by have := HB1.out.size; have := HSZ.out; omega) (fun k e => (World.ownsRow.lt HS.out.rw k e).1) (fun k e => (World.ownsRow.lt HS.out.rf k e).1))
        obtain ⟨x3, x4, x5, x6, x7⟩ := hs5.cells
        obtain ⟨z0, z1, z2, z3⟩ := HZ.out _ HB5.out
        have hlc := HL5.out.cell (k := l) (by omega)
        have hl0 : (0 : Int) ≤ (l : Int) := by omega
        have hll : (l : Int) < ((l : Int) + 1) := by omega
        have hwll : IntKind.i64.wrap (l : Int) = (l : Int) := IntWalk.i64_in _ (by omega)
        have HRL := Lib.hid ((HL5.out.rows l (by omega)).row.keep (Below.refl wB.heap.size wB).drew)
        have HID := Lib.hid (HI.out.keep (w' := wB.drew) ((HB5.out.mono (by rw [HSZ.out]; exact Nat.le_refl _)).drew))
        clear hs5 hk5 hn1 hn2 y3 y4 y5 y6 y7
        have HBE := Lib.hid (HBF.out (d.lv l) (R l) (C l) wB.drew HID.out HRL.out)
        have HCV := Lib.hid (show d.bf (d.lv l) = d.lv (l + 1) from rfl)
        have M1 := Lib.hid (show l + 1 + 1 ≤ maxLen by unfold maxLen; omega)
        have M2 := Lib.hid (show (l + 1 + 1) * 24 ≤ 140737488355328 by omega)
        go_wp2_with fail
        go_region_law (first
          | (go_simp
             go_at_call 25
             refine HBE.out.mono ?_
             rintro e v ⟨g, rfl, ho, hB⟩
             rw [HCV.out] at ho
             have hB : Below wB.heap.size wB v := (Below.refl wB.heap.size wB).drew.trans hB
             have HBV := Lib.hid hB
             have HOV := Lib.hid (show OwnV v wB.heap.size 4 g d.n (boolsV (d.lv (l + 1))) from ho)
             have u4 := ((HS5.out.below hB).cells).2.1
             have uu4 := ((HS5.out.below (hB.alloc hB.size (.cells #[.slice (some ⟨g, 0, none⟩) d.n d.n] 22))).cells).2.1
             have HLV := Lib.hid (HL5.out.step (w' := v) ⟨hB.size, fun k hk hx => ⟨hx, hB.block k hk⟩⟩)
             clear ho hB)
          | (refine step_push1 (w1 := v) rfl (.tmp 40) (.tmp 48) 51 rfl (w.heap.size + 1) 22 i0 (.slice none 0 0) 24 Try.underlying51 hi hz0 hz1 hz2 rfl (.slice (some ⟨gl, 0, none⟩) (l + 1) cl) (l + 1) (vals (l + 1) fun k => .slice (R k) d.n (C k)) rfl (.slice (some ⟨g, 0, none⟩) d.n d.n) rfl HLV.out.own rfl rfl M1.out M2.out ?_ ?_
             · have := HBASE.out; have := HBV.out.size; have := HB5.out.size; have := HSZ.out; omega
             intro v' w3 h3 hg3 hat
             obtain ⟨gl', cl', rfl, hcl'⟩ := ownsRow_pos h3
             have hgv : v.grownBy w3 (some gl) := grown_alloc hg3
             have HLP := Lib.hid (fun x => LiveW.push (w := wB) (w1 := v) (gl' := gl') (cl' := cl') HL5.out HS5.out.lt (fun k e => (World.ownsRow.lt HS5.out.rw k e).2) (fun k e => (World.ownsRow.lt HS5.out.rf k e).2) HBV.out HOV.out rfl hg3 h3 (by
               rcases hat with e | e
               · left; simpa [Value.ownBlock] using e
               · right; simpa [Value.ownBlock] using e) x)
             have HSP := Lib.hid (fun x => (HS5.out.below HBV.out).putL hgv HLV.out.off x)
             have HBP := Lib.hid (fun x => ((HB5.out.trans (HBV.out.mono (by have := HB5.out.size; have := HSZ.out; omega))).grown hgv (by have := HB5.out.size; have := HBV.out.size; have := HSZ.out; omega) (fun k hk => by injection hk with hk; rw [← hk]; exact HL5.out.lt.1)).setCell (p := ⟨w2.heap.size + 1, 4, none⟩) (show w.heap.size + 1 ≤ w2.heap.size + 1 by have := HB1.out.size; have := HSZ.out; omega) x)
             have x4' : w3.cell? ⟨w2.heap.size + 1, 4, none⟩ = some (.slice (some ⟨gl, 0, none⟩) (l + 1) cl) := hgv.cell u4 (fun e => HLV.out.off.1 (by injection e with e; exact e.symm))
             have xf' : w3.frozen? ⟨w2.heap.size + 1, 4, none⟩ = false := (World.frozen?_of_block (w := v) (hgv.block _ (HS5.out.below HBV.out).lt (fun e => HLV.out.off.1 (by injection e with e; exact e.symm)))).trans ((HS5.out.below HBV.out).free 4)
             clear h3 hg3 hat hgv))
        all_goals
          go_wp2_with fail
          exact ⟨⟨l + 1, vw', vf', gl', cl', _, _, by omega, by go_num, HSP.out _, HLP.out _, HBP.out _⟩, by simp [intOf]; omega⟩
      · have t1 : (l : Int) ≤ 2048 := by omega
        have t2 : ¬ (F : Int) < (n : Int) := by omega
        have HE := Lib.hid (HFIN.out (.inl (by omega)))
        go_wp2_with fail
        go_ret
        exact HE.out
    · obtain rfl : l = 2049 := by omega
      have HE := Lib.hid (HFIN.out (.inr rfl))
      go_wp2_with fail
      go_ret
      exact HE.out
end Go.Proofs.Ytohoiebofkmjeac
