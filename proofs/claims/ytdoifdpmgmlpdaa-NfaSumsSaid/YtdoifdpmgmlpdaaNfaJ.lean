/- Contract: visit. -/
import Derived.Test.YtdoifdpmgmlpdaaNfaI
namespace Go.Proofs.Ytdoifdpmgmlpdaa
open Go Go.RowKit
open Go.Proofs.Ytdoifdpmgmlpdaa.rel (mem mem_len u_or or_u)
set_option linter.unusedVariables false
theorem visT_4 (l : Int) (ks : List T) (s : PS) : visT (.node 4 l ks) s = unL ks s noP := by simp [visT]
theorem visT_5 (l : Int) (ks : List T) (s : PS) : visT (.node 5 l ks) s = caL ks s epsP := by simp [visT]
theorem visT_3 (l : Int) (ks : List T) (s : PS) : visT (.node 3 l ks) s = (letS s l.toNat, ⟨2 ^ s.F.length, 2 ^ s.F.length, false⟩) := by simp [visT]
theorem visT_2 (l : Int) (ks : List T) (s : PS) : visT (.node 2 l ks) s = (s, epsP) := by simp [visT]
theorem visT_1 (l : Int) (ks : List T) (s : PS) : visT (.node 1 l ks) s = (s, noP) := by simp [visT]
theorem visT_7 (l : Int) (k : T) (s : PS) : visT (.node 7 l [k]) s = (conS (visT k s).1 (visT k s).2.la (visT k s).2.fi, ⟨(visT k s).2.fi, (visT k s).2.la, true⟩) := by simp [visT, stL]
theorem good_op {L op l : Int} {ks : List T} (h : GoodT L (.node op l ks)) : op = 1 ∨ op = 2 ∨ op = 3 ∨ op = 4 ∨ op = 5 ∨ op = 7 := by
  have hw := (wfT_node.1 h.1).1
  have hp := plT_node.1 h.2
  simp only [kidsOk] at hw
  by_cases h1 : op = 1 ∨ op = 2 ∨ op = 3
  · omega
  by_cases h2 : op = 7 ∨ op = 8
  · have := hp.2.1; omega
  by_cases h3 : op = 4 ∨ op = 5 ∨ op = 6
  · have := hp.1; omega
  rw [if_neg h1, if_neg h2, if_neg h3] at hw
  cases hw
set_option maxRecDepth 100000 in
set_option maxHeartbeats 8000000 in
theorem visit_of (op l : Int) (ks : List T) : VisOf op l ks := by
  refine T.ind2 (P := fun op l ks => VisOf op l ks) ?_ op l ks
  clear op l ks
  intro op l ks ih a c w0 bp gN cN gF cF s w hin hb0 hpw hok h6 hg h64
  have hlen := hin.2.2.2
  have HI := Lib.hid hin
  have HB0 := Lib.hid hb0
  have HQ := Lib.hid (show bp < w.heap.size ∧ gN < w.heap.size ∧ gF < w.heap.size ∧ w0.heap.size ≤ bp ∧ w0.heap.size ≤ gN ∧ w0.heap.size ≤ gF from ⟨hpw.bl.2, hpw.gNlt.2, hpw.gFlt.2, hpw.bl.1, hpw.gNlt.1, hpw.gFlt.1⟩)
  obtain ⟨n, hn⟩ : ∃ n, n = ks.length := ⟨_, rfl⟩
  have HP2 := Lib.hid ((hpw.alloc (.cells #[.int .i64 op, .int .i64 l, .slice a n c] 49)).alloc (.cells #[.int .u64 0, .int .u64 0, .bool false] 73))
  have HK2 := Lib.hid (((KeepP.refl w bp gN gF).alloc (.cells #[.int .i64 op, .int .i64 l, .slice a n c] 49)).alloc (.cells #[.int .u64 0, .int .u64 0, .bool false] 73))
  have HB2 := Lib.hid ((hb0.alloc hb0.size (.cells #[.int .i64 op, .int .i64 l, .slice a n c] 49)).alloc (by have := hb0.size; simp; omega) (.cells #[.int .u64 0, .int .u64 0, .bool false] 73))
  have HX2 := Lib.hid (show ((w.alloc (.cells #[.int .i64 op, .int .i64 l, .slice a n c] 49)).alloc (.cells #[.int .u64 0, .int .u64 0, .bool false] 73)).heap[w.heap.size]? = _ from heap_old (heap_new _ _))
  have hr : ((w.alloc (.cells #[.int .i64 op, .int .i64 l, .slice a n c] 49)).alloc (.cells #[.int .u64 0, .int .u64 0, .bool false] 73)).heap[w.heap.size + 1]? = some (.cells #[.int .u64 0, .int .u64 0, .bool false] 73) := by
    have := heap_new (w.alloc (.cells #[.int .i64 op, .int .i64 l, .slice a n c] 49)) (.cells #[.int .u64 0, .int .u64 0, .bool false] 73)
    simpa using this
  have HR2 := Lib.hid hr
  have hsz : ((w.alloc (.cells #[.int .i64 op, .int .i64 l, .slice a n c] 49)).alloc (.cells #[.int .u64 0, .int .u64 0, .bool false] 73)).heap.size = w.heap.size + 2 := by simp
  have HS2 := Lib.hid hsz
  obtain ⟨x0, x1, x2⟩ := (cells_of HX2.out).1
  -- the end: three stores into the result
  have FIN := Lib.hid (show ∀ (v : World) (gF' cF' : Nat) (s' : PS) (p : Part) (x y z : Value), KeepP w v bp gN gF → PosW v w0.heap.size bp gN cN gF' cF' s' → (gF' = gF ∨ w.heap.size + 2 ≤ gF') → PosE w w0.heap.size bp gN cN gF s' (partV p) (.returned (partV p)) (((v.setCell ⟨w.heap.size + 1, 0, none⟩ x).setCell ⟨w.heap.size + 1, 1, none⟩ y).setCell ⟨w.heap.size + 1, 2, none⟩ z) from fun v gF' cF' s' p x y z hk hp hg => by
    have := HQ.out
    exact ⟨rfl, ((hk.set (.inr (.inr (.inr (by simp)))) _).set (.inr (.inr (.inr (by simp)))) _).set (.inr (.inr (.inr (by simp)))) _, gF', cF', hp.box3 (by omega) (by omega) (by omega), by omega⟩)
  -- what a callee leaves
  have BACK := Lib.hid (show ∀ (v : World) (gF' : Nat), KeepP ((w.alloc (.cells #[.int .i64 op, .int .i64 l, .slice a n c] 49)).alloc (.cells #[.int .u64 0, .int .u64 0, .bool false] 73)) v bp gN gF → v.heap[w.heap.size + 1]? = some (.cells #[.int .u64 0, .int .u64 0, .bool false] 73) ∧ KeepP w v bp gN gF ∧ w.heap.size + 2 ≤ v.heap.size from fun v gF' hk => by
    have := HQ.out
    exact ⟨tri_later rfl HR2.out (by rw [HS2.out]; omega) hk (by omega) (by omega) (by omega), HK2.out.trans hk (.inl rfl), by have := hk.size; rw [HS2.out] at this; exact this⟩)
  have hop := good_op hg
  have hgk : ∀ k, k ∈ ks → GoodT s.N.length k := fun k h => hg.kid h
  have hwf := wfT_node.1 hg.1
  have HIN := Lib.hid hn
  have HP0 := Lib.hid hpw
  rcases hop with rfl | rfl | rfl | rfl | rfl | rfl
  · -- empty
    have HF := Lib.hid (visT_1 l ks s)
    rw [HF.out]
    rw [← hn]
    clear hg hwf hgk hr hsz hpw hb0 hin ih hok h64 h6 hlen hn
    go_enter Try.func54, Try.ntmps54
    go_wp2_with fail
    refine bodyPost_ret (v := .agg #[.int .u64 0, .int .u64 0, .bool false]) (by simp [results, Try.results54, go_sem]) rfl ?_
    exact ⟨rfl, ((KeepP.refl w bp gN gF).alloc _).alloc _, gF, cF, (HP0.out.alloc _).alloc _, .inl rfl⟩
  · -- unit
    have HF := Lib.hid (visT_2 l ks s)
    rw [HF.out]
    rw [← hn]
    clear hg hwf hgk hr hsz hpw hb0 hin ih hok h64 h6 hlen hn
    go_enter Try.func54, Try.ntmps54
    go_wp2_with fail
    refine bodyPost_ret (v := .agg #[.int .u64 0, .int .u64 0, .bool true]) (by simp [results, Try.results54, go_sem]) rfl ?_
    exact ⟨rfl, ((KeepP.refl w bp gN gF).alloc _).alloc _, gF, cF, (HP0.out.alloc _).alloc _, .inl rfl⟩
  · -- a letter
    have hl := hwf.2.1
    rw [letOk, if_pos rfl, decide_eq_true_iff] at hl
    obtain ⟨ln, rfl⟩ : ∃ m : Nat, l = (m : Int) := ⟨l.toNat, by omega⟩
    have hlt : s.F.length < 64 := by simp [letT] at h64; omega
    have HC := Lib.hid (letter_any w0.heap.size bp gN cN gF cF s ln _ HP2.out hok hlt (by omega) h6)
    have HF := Lib.hid (visT_3 (ln : Int) ks s)
    rw [HF.out]
    rw [Int.toNat_natCast] at HF ⊢
    obtain ⟨p, hp⟩ : ∃ p, p = 2 ^ s.F.length := ⟨_, rfl⟩
    obtain ⟨S1, hS1⟩ : ∃ S1, S1 = letS s ln := ⟨_, rfl⟩
    rw [← hp, ← hS1] at HC ⊢
    rw [← hn]
    unfold partV at HC
    dsimp only at HC
    clear hg hwf hgk hr hsz hpw hb0 hin ih hok h64 h6 hlen hn hp hS1 hl hlt
    go_enter Try.func54, Try.ntmps54
    go_wp2_with fail
    refine HC.out.mono ?_
    rintro e v ⟨rfl, hk, gF', cF', hpv, hg2⟩
    obtain ⟨hrv, hkw, hvs⟩ := BACK.out v gF' hk
    obtain ⟨⟨r0, r1, r2⟩, z0, z1, z2⟩ := cells_of hrv
    have HG := Lib.hid (show gF' = gF ∨ w.heap.size + 2 ≤ gF' by rw [HS2.out] at hg2; exact hg2)
    have HKW := Lib.hid hkw
    have HPV := Lib.hid hpv
    clear hk hpv hg2 hrv hkw
    go_wp2_with fail
    refine bodyPost_ret (v := .agg #[.int .u64 p, .int .u64 p, .bool false]) (by simp [results, Try.results54, go_sem, r0, r1, r2]) rfl ?_
    exact FIN.out v gF' cF' S1 ⟨p, p, false⟩ _ _ _ HKW.out HPV.out HG.out
  · -- a union
    have h64' : s.F.length + letL ks ≤ 64 := by simpa [letT] using h64
    have HC := Lib.hid (union_of ks (fun i op' l' ls h => ih i op' l' ls h) a c w0 bp gN cN gF cF s _ HI.out.1 hlen HB2.out HP2.out hok h6 hgk h64')
    have HF := Lib.hid (visT_4 l ks s)
    rw [HF.out]
    obtain ⟨S1, hS1⟩ : ∃ S1, S1 = (unL ks s noP).1 := ⟨_, rfl⟩
    obtain ⟨P1, hP1⟩ : ∃ P1, P1 = (unL ks s noP).2 := ⟨_, rfl⟩
    rw [← hS1, ← hP1] at HC ⊢
    rw [← hn] at HC ⊢
    obtain ⟨pf, pl, pn⟩ := P1
    unfold partV at HC
    dsimp only at HC
    clear hg hwf hgk hr hsz hpw hb0 hin ih hok h64 h6 hlen hn hP1 hS1 h64'
    go_enter Try.func54, Try.ntmps54
    go_wp2_with fail
    refine HC.out.mono ?_
    rintro e v ⟨rfl, hk, gF', cF', hpv, hg2⟩
    obtain ⟨hrv, hkw, hvs⟩ := BACK.out v gF' hk
    obtain ⟨⟨r0, r1, r2⟩, z0, z1, z2⟩ := cells_of hrv
    have HG := Lib.hid (show gF' = gF ∨ w.heap.size + 2 ≤ gF' by rw [HS2.out] at hg2; exact hg2)
    have HKW := Lib.hid hkw
    have HPV := Lib.hid hpv
    clear hk hpv hg2 hrv hkw
    go_wp2_with fail
    refine bodyPost_ret (v := .agg #[.int .u64 pf, .int .u64 pl, .bool pn]) (by simp [results, Try.results54, go_sem, r0, r1, r2]) rfl ?_
    exact FIN.out v gF' cF' S1 ⟨pf, pl, pn⟩ _ _ _ HKW.out HPV.out HG.out
  · -- a concatenation
    have h64' : s.F.length + letL ks ≤ 64 := by simpa [letT] using h64
    have HC := Lib.hid (list_of ks (fun i op' l' ls h => ih i op' l' ls h) a c w0 bp gN cN gF cF s _ HI.out.1 hlen HB2.out HP2.out hok h6 hgk h64')
    have HF := Lib.hid (visT_5 l ks s)
    rw [HF.out]
    obtain ⟨S1, hS1⟩ : ∃ S1, S1 = (caL ks s epsP).1 := ⟨_, rfl⟩
    obtain ⟨P1, hP1⟩ : ∃ P1, P1 = (caL ks s epsP).2 := ⟨_, rfl⟩
    rw [← hS1, ← hP1] at HC ⊢
    rw [← hn] at HC ⊢
    obtain ⟨pf, pl, pn⟩ := P1
    unfold partV at HC
    dsimp only at HC
    clear hg hwf hgk hr hsz hpw hb0 hin ih hok h64 h6 hlen hn hP1 hS1 h64'
    go_enter Try.func54, Try.ntmps54
    go_wp2_with fail
    refine HC.out.mono ?_
    rintro e v ⟨rfl, hk, gF', cF', hpv, hg2⟩
    obtain ⟨hrv, hkw, hvs⟩ := BACK.out v gF' hk
    obtain ⟨⟨r0, r1, r2⟩, z0, z1, z2⟩ := cells_of hrv
    have HG := Lib.hid (show gF' = gF ∨ w.heap.size + 2 ≤ gF' by rw [HS2.out] at hg2; exact hg2)
    have HKW := Lib.hid hkw
    have HPV := Lib.hid hpv
    clear hk hpv hg2 hrv hkw
    go_wp2_with fail
    refine bodyPost_ret (v := .agg #[.int .u64 pf, .int .u64 pl, .bool pn]) (by simp [results, Try.results54, go_sem, r0, r1, r2]) rfl ?_
    exact FIN.out v gF' cF' S1 ⟨pf, pl, pn⟩ _ _ _ HKW.out HPV.out HG.out
  · -- a star
    have hn1 : ks.length = 1 := by have := hwf.1; simpa [kidsOk] using this
    have hlk : 0 < ks.length := by omega
    obtain ⟨ko, kl, kk, hk, hk2⟩ := kid_some hlk
    have hks : ks = [.node ko kl kk] := by
      obtain ⟨k, rfl⟩ := List.length_eq_one_iff.1 hn1
      have e : k = .node ko kl kk := hk2
      rw [e]
    obtain ⟨b, off, a', c', rfl, hbz, d1, d2, d3, g1, g2, g3, hin'⟩ := (HI.out.1.keep HB2.out).kid hk
    simp only [Nat.zero_mul, Nat.add_zero] at d1 d2 d3
    have e0 : InX w0 ko kl kk a' := by
      obtain ⟨b2, off2, a2, c2', e1, e2, e3, e4, e5, e6, e7, e8, e9⟩ := HI.out.1.kid hk
      injection e1 with e1; injection e1 with e1 e1'
      subst e1 e1'
      simp only [Nat.zero_mul, Nat.add_zero] at e5
      rw [HB2.out.cell (p := ⟨b, off + 2, none⟩) e2, e5] at d3
      injection d3 with d3; injection d3 with d3
      subst d3
      exact ⟨e9, e6, e7, e8⟩
    have hgk1 : GoodT s.N.length (.node ko kl kk) := hgk _ (List.mem_of_getElem? hk)
    have h64' : s.F.length + letT (.node ko kl kk) ≤ 64 := by
      rw [hks] at h64
      have e : letT (.node 7 l [.node ko kl kk]) = letT (.node ko kl kk) := by rw [letT, if_neg (by decide)]; simp [letL]
      rw [e] at h64; exact h64
    have HC := Lib.hid (ih 0 ko kl kk hk a' c' w0 bp gN cN gF cF s _ e0 HB2.out HP2.out hok h6 hgk1 h64')
    obtain ⟨_, v2, v3, v4⟩ := visT_ok s.N.length (.node ko kl kk) hgk1 s hok
    have HF := Lib.hid (visT_7 l (.node ko kl kk) s)
    rw [← hks] at HF
    rw [HF.out]
    obtain ⟨S1, hS1⟩ : ∃ S1, S1 = (visT (.node ko kl kk) s).1 := ⟨_, rfl⟩
    obtain ⟨P1, hP1⟩ : ∃ P1, P1 = (visT (.node ko kl kk) s).2 := ⟨_, rfl⟩
    rw [← hS1] at HC v2 v3 v4 ⊢
    rw [← hP1] at HC v4 ⊢
    obtain ⟨pf, pl, pn⟩ := P1
    dsimp only
    have hcc : ∀ gF'' cF'' W, PosW W w0.heap.size bp gN cN gF'' cF'' S1 → _ := fun gF'' cF'' W h => connect_any w0.heap.size bp gN cN gF'' cF'' S1 pl pf W h (by omega) v3.2 v4.2 v4.1
    have HCC := Lib.hid hcc
    obtain ⟨S2, hS2⟩ : ∃ S2, S2 = conS S1 pl pf := ⟨_, rfl⟩
    rw [← hS2] at HCC ⊢
    unfold partV at HC
    dsimp only at HC
    obtain ⟨kn, hkn⟩ : ∃ kn, kn = kk.length := ⟨_, rfl⟩
    rw [← hkn] at HC d3
    have hn0 : (0 : Int) < (n : Int) := by omega
    rw [← hn]
    clear hcc hg hwf hgk hr hsz hpw hb0 hin ih hok h64 h6 hlen hn hn1 hlk hk hk2 hks hin' e0 hgk1 h64' v2 v3 v4 hS1 hP1 hS2 hkn
    go_enter Try.func54, Try.ntmps54
    go_wp2_with fail
    refine HC.out.mono ?_
    rintro e v ⟨rfl, hk, gF', cF', hpv, hg2⟩
    obtain ⟨hrv, hkw, hvs⟩ := BACK.out v gF' hk
    have HG := Lib.hid (show gF' = gF ∨ w.heap.size + 2 ≤ gF' by rw [HS2.out] at hg2; exact hg2)
    have HKW := Lib.hid hkw
    have HPV := Lib.hid hpv
    have HRV := Lib.hid hrv
    have HVS := Lib.hid hvs
    clear hk hpv hg2 hrv hkw hvs d1 d2 d3
    go_wp2_with fail
    refine (HCC.out gF' cF' _ (HPV.out.alloc _)).mono ?_
    rintro e u ⟨rfl, hk, gF2, cF2, hpu, hg2⟩
    have hne : v.heap.size ≠ bp ∧ v.heap.size ≠ gN ∧ v.heap.size ≠ gF' := by
      have := HPV.out.bl.2; have := HPV.out.gNlt.2; have := HPV.out.gFlt.2; omega
    have hne1 : w.heap.size + 1 ≠ bp ∧ w.heap.size + 1 ≠ gN ∧ w.heap.size + 1 ≠ gF' := by
      have := HQ.out; have := HG.out; omega
    have hx := tri_later rfl (heap_new v (.cells #[.int .u64 pf, .int .u64 pl, .bool pn] 73)) (by simp) hk hne.1 hne.2.1 hne.2.2
    have hr := tri_later rfl (heap_old (o' := .cells #[.int .u64 pf, .int .u64 pl, .bool pn] 73) HRV.out) (by have := HVS.out; simp; omega) hk hne1.1 hne1.2.1 hne1.2.2
    obtain ⟨⟨q0, q1, q2⟩, _⟩ := cells_of hx
    obtain ⟨⟨r0, r1, r2⟩, z0, z1, z2⟩ := cells_of hr
    have HKU := Lib.hid ((HKW.out.alloc (.cells #[.int .u64 pf, .int .u64 pl, .bool pn] 73)).trans hk (by have := HG.out; omega))
    have HPU := Lib.hid hpu
    have HG2 := Lib.hid (show gF2 = gF ∨ w.heap.size + 2 ≤ gF2 by have := HG.out; have := HVS.out; simp at hg2; omega)
    clear hk hpu hg2 hne hne1 hx hr
    go_wp2_with fail
    refine bodyPost_ret (v := .agg #[.int .u64 pf, .int .u64 pl, .bool true]) (by simp [results, Try.results54, go_sem, r0, r1, r2]) rfl ?_
    exact FIN.out u gF2 cF2 S2 ⟨pf, pl, true⟩ _ _ _ HKU.out HPU.out HG2.out
end Go.Proofs.Ytdoifdpmgmlpdaa
