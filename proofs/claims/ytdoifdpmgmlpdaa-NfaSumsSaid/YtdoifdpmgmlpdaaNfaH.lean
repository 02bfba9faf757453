/- Contract: union, given the contract of visit for the kids. -/
import Derived.Test.YtdoifdpmgmlpdaaNfaG
import Derived.Test.YtdoifdpmgmlpdaaExprD
namespace Go.Proofs.Ytdoifdpmgmlpdaa
open Go Go.RowKit
open Go.Proofs.Ytdoifdpmgmlpdaa.rel (mem mem_len u_or or_u)
set_option linter.unusedVariables false
/-- what visit promises of a tree -/
def VisOf (op l : Int) (ks : List T) : Prop := ∀ (a : Option Addr) (c : Nat) (w0 : World) (bp gN cN gF cF : Nat) (s : PS) (w : World), InX w0 op l ks a → Below w0.heap.size w0 w → PosW w w0.heap.size bp gN cN gF cF s → OkS s → s.N.length ≤ 6 → GoodT s.N.length (.node op l ks) → s.F.length + letT (.node op l ks) ≤ 64 →
    Calls Try.prog 54 #[.pointer (some ⟨bp, 0, none⟩), .agg #[.int .i64 op, .int .i64 l, .slice a ks.length c]] w (PosE w w0.heap.size bp gN cN gF (visT (.node op l ks) s).1 (partV (visT (.node op l ks) s).2))
theorem set3_heap {w : World} {b t : Nat} {a b' c x y z : Value} (h : w.heap[b]? = some (.cells #[a, b', c] t)) : (((w.setCell ⟨b, 0, none⟩ x).setCell ⟨b, 1, none⟩ y).setCell ⟨b, 2, none⟩ z).heap[b]? = some (.cells #[x, y, z] t) := by
  have h1 := heap_setCell_same w b 0 #[a, b', c] t x h
  have h2 := heap_setCell_same _ b 1 _ t y h1
  have h3 := heap_setCell_same _ b 2 _ t z h2
  simpa using h3
theorem set3_far {w : World} {b k : Nat} {x y z : Value} (h : k ≠ b) : (((w.setCell ⟨b, 0, none⟩ x).setCell ⟨b, 1, none⟩ y).setCell ⟨b, 2, none⟩ z).heap[k]? = w.heap[k]? := by
  rw [Below.heap_setCell _ _ _ _ h, Below.heap_setCell _ _ _ _ h, Below.heap_setCell _ _ _ _ h]
set_option maxRecDepth 100000 in
set_option maxHeartbeats 4000000 in
theorem union_of (ks : List T) (hk : ∀ (i : Nat) (op l : Int) (ls : List T), ks[i]? = some (.node op l ls) → VisOf op l ls) (a : Option Addr) (c : Nat) (w0 : World) (bp gN cN gF cF : Nat) (s : PS) (w : World)
    (hin : InK w0 a ks) (hlen : ks.length ≤ 9223372036854775807) (hb0 : Below w0.heap.size w0 w) (hpw : PosW w w0.heap.size bp gN cN gF cF s) (hok : OkS s) (h6 : s.N.length ≤ 6) (hg : ∀ k, k ∈ ks → GoodT s.N.length k) (h64 : s.F.length + letL ks ≤ 64) :
    Calls Try.prog 73 #[.pointer (some ⟨bp, 0, none⟩), .slice a ks.length c] w (PosE w w0.heap.size bp gN cN gF (unL ks s noP).1 (partV (unL ks s noP).2)) := by
  have HI := Lib.hid hin
  have HKS := Lib.hid hk
  have HG := Lib.hid hg
  have H64 := Lib.hid h64
  have HOK := Lib.hid hok
  have H6 := Lib.hid h6
  have HB0 := Lib.hid hb0
  have HV := Lib.hid (fun i => unL_ok (L := s.N.length) (ks.take i) (fun k h s' hs' => visT_ok _ k (hg k (List.mem_of_mem_take h)) s' hs') s noP hok (OkP.no s))
  have HQ := Lib.hid (show bp < w.heap.size ∧ gN < w.heap.size ∧ gF < w.heap.size ∧ w0.heap.size ≤ bp ∧ w0.heap.size ≤ gN ∧ w0.heap.size ≤ gF from ⟨hpw.bl.2, hpw.gNlt.2, hpw.gFlt.2, hpw.bl.1, hpw.gNlt.1, hpw.gFlt.1⟩)
  have HP1 := Lib.hid ((hpw.alloc (.cells #[.int .u64 0, .int .u64 0, .bool false] 73)).alloc (.cells #[.int .u64 0, .int .u64 0, .bool false] 73))
  have HK1 := Lib.hid (((KeepP.refl w bp gN gF).alloc (.cells #[.int .u64 0, .int .u64 0, .bool false] 73)).alloc (.cells #[.int .u64 0, .int .u64 0, .bool false] 73))
  have hr : ((w.alloc (.cells #[.int .u64 0, .int .u64 0, .bool false] 73)).alloc (.cells #[.int .u64 0, .int .u64 0, .bool false] 73)).heap[w.heap.size]? = some (.cells #[.int .u64 0, .int .u64 0, .bool false] 73) := heap_old (heap_new _ _)
  have hx : ((w.alloc (.cells #[.int .u64 0, .int .u64 0, .bool false] 73)).alloc (.cells #[.int .u64 0, .int .u64 0, .bool false] 73)).heap[w.heap.size + 1]? = some (.cells #[.int .u64 0, .int .u64 0, .bool false] 73) := by
    have := heap_new (w.alloc (.cells #[.int .u64 0, .int .u64 0, .bool false] 73)) (.cells #[.int .u64 0, .int .u64 0, .bool false] 73)
    simpa using this
  have HR1 := Lib.hid hr
  have HX1 := Lib.hid hx
  obtain ⟨n, hn⟩ : ∃ n, n = ks.length := ⟨_, rfl⟩
  have HN := Lib.hid hn
  rw [← hn] at hlen ⊢
  clear hin hk hg h64 hok h6 hb0 hr hx hn hpw
  go_enter Try.func73, Try.ntmps73
  go_wp2_with fail
  go_loopw [10] (fun vi wr => ∃ i gF' cF' : Nat, i ≤ n ∧ vi = .int .i64 i ∧ PosW wr w0.heap.size bp gN cN gF' cF' (unL (ks.take i) s noP).1 ∧ KeepP w wr bp gN gF ∧ (gF' = gF ∨ w.heap.size + 2 ≤ gF') ∧ w.heap.size + 2 ≤ wr.heap.size ∧
      wr.heap[w.heap.size]? = some (.cells #[.int .u64 0, .int .u64 0, .bool false] 73) ∧
      wr.heap[w.heap.size + 1]? = some (.cells #[.int .u64 ((unL (ks.take i) s noP).2.fi : Nat), .int .u64 ((unL (ks.take i) s noP).2.la : Nat), .bool (unL (ks.take i) s noP).2.nu] 73)) (fun vi _ => n - (intOf vi).toNat)
  case atStart => exact ⟨0, gF, cF, Nat.zero_le _, rfl, HP1.out, HK1.out, .inl rfl, by simp, HR1.out, HX1.out⟩
  case round =>
    rename World => wA
    obtain ⟨i, gF', cF', hi, rfl, hp, hkp, hgf, hsz, hr, hx⟩ := hrel
    have HP := Lib.hid hp
    have HKP := Lib.hid hkp
    have HGF := Lib.hid hgf
    have HSZ := Lib.hid hsz
    have HR := Lib.hid hr
    have HX := Lib.hid hx
    by_cases hlt : i < n
    · have hlk : i < ks.length := by rw [← HN.out]; exact hlt
      obtain ⟨ko, kl, kk, hk, hk2⟩ := kid_some hlk
      have hbl : Below w0.heap.size w0 wA := by have := HQ.out; exact hkp.old HB0.out (by omega) (by omega) (by omega)
      obtain ⟨b, off, a', c', rfl, hbz, c1, c2, c3, g1, g2, g3, hin'⟩ := (HI.out.keep hbl).kid hk
      have e0 : InX w0 ko kl kk a' := by
        obtain ⟨b2, off2, a2, c2', e1, e2, e3, e4, e5, e6, e7, e8, e9⟩ := HI.out.kid hk
        injection e1 with e1; injection e1 with e1 e1'
        subst e1 e1'
        rw [hbl.cell (p := ⟨b, off + i * 3 + 2, none⟩) e2, e5] at c3
        injection c3 with c3; injection c3 with c3
        subst c3
        exact ⟨e9, e6, e7, e8⟩
      have hgk : GoodT s.N.length (.node ko kl kk) := HG.out _ (List.mem_of_getElem? hk)
      obtain ⟨o1, o2, o3, o4⟩ := HV.out i
      have hll := letL_take hlk
      have hll2 := letL_take_le ks (i + 1)
      have h64 := H64.out
      rw [hk2] at hll
      have hb64 : (unL (ks.take i) s noP).1.F.length + letT (.node ko kl kk) ≤ 64 := by omega
      have hq := HKS.out i ko kl kk hk a' c' w0 bp gN cN gF' cF' (unL (ks.take i) s noP).1 wA e0 hbl hp o3 (by rw [o1]; exact H6.out) (by rw [o1]; exact hgk) hb64
      have HU := Lib.hid (unL_take hlk s noP)
      rw [hk2] at HU
      obtain ⟨_, v2, v3, v4⟩ := visT_ok s.N.length (.node ko kl kk) hgk _ o3
      have hpu := o4.u (by omega)
      have hqu := v4.u (by omega)
      obtain ⟨⟨x0, x1, x2⟩, _⟩ := cells_of hx
      obtain ⟨S1, hS1⟩ : ∃ S1, S1 = (unL (ks.take i) s noP).1 := ⟨_, rfl⟩
      obtain ⟨P1, hP1⟩ : ∃ P1, P1 = (unL (ks.take i) s noP).2 := ⟨_, rfl⟩
      rw [← hS1] at hq HU hqu
      rw [← hP1] at hpu HU x0 x1 x2
      obtain ⟨S2, hS2⟩ : ∃ S2, S2 = (visT (.node ko kl kk) S1).1 := ⟨_, rfl⟩
      obtain ⟨P2, hP2⟩ : ∃ P2, P2 = (visT (.node ko kl kk) S1).2 := ⟨_, rfl⟩
      rw [← hS2] at hq HU
      rw [← hP2] at hq HU hqu
      obtain ⟨pf, pl, pn⟩ := P1
      obtain ⟨qf, ql, qn⟩ := P2
      dsimp only at x0 x1 x2 hpu hqu
      rw [← hP1] at HX
      dsimp only at HX
      have HQV := Lib.hid hq
      have ho1 := u_or hpu.1 hqu.1
      have ho2 := u_or hpu.2 hqu.2
      obtain ⟨oo1, e1⟩ : ∃ o, o = pf ||| qf := ⟨_, rfl⟩
      obtain ⟨oo2, e2⟩ : ∃ o, o = pl ||| ql := ⟨_, rfl⟩
      rw [← e1] at ho1
      rw [← e2] at ho2
      have HUN := Lib.hid (show uniP ⟨pf, pl, pn⟩ ⟨qf, ql, qn⟩ = ⟨oo1, oo2, pn || qn⟩ by rw [e1, e2]; rfl)
      obtain ⟨kn, hkn⟩ : ∃ kn, kn = kk.length := ⟨_, rfl⟩
      rw [← hkn] at c3 HQV
      have hi0 : (0 : Int) ≤ (i : Int) := by omega
      have hin2 : (i : Int) < (n : Int) := by omega
      have hwi : IntKind.i64.wrap (i : Int) = (i : Int) := IntWalk.i64_in _ (by omega)
      have hq6 := HQ.out
      have hne1 : w.heap.size ≠ bp ∧ w.heap.size ≠ gN ∧ w.heap.size ≠ gF' := by omega
      have hne2 : w.heap.size + 1 ≠ bp ∧ w.heap.size + 1 ≠ gN ∧ w.heap.size + 1 ≠ gF' := by omega
      have HNE1 := Lib.hid hne1
      have HNE2 := Lib.hid hne2
      clear hp hkp hgf hsz hr hx hq hk hk2 hbl hin' e0 hgk o1 o2 o3 o4 hll hll2 h64 hb64 v2 v3 v4 hpu hqu hS1 hP1 hS2 hP2 e1 e2 hkn hq6 hne1 hne2 hlk
      unfold partV at HQV
      dsimp only at HQV
      go_wp2_with fail
      refine HQV.out.mono ?_
      rintro e v ⟨rfl, hk, gF2, cF2, hpv, hg2⟩
      have hx := tri_later rfl HX.out (by have := HSZ.out; omega) hk HNE2.out.1 HNE2.out.2.1 HNE2.out.2.2
      have hr := tri_later rfl HR.out (by have := HSZ.out; omega) hk HNE1.out.1 HNE1.out.2.1 HNE1.out.2.2
      have HXV := Lib.hid hx
      have HRV := Lib.hid hr
      have X0 : ∀ o, (v.alloc o).cell? ⟨w.heap.size + 1, 0, none⟩ = _ := fun o => (cells_of (heap_old hx)).1.1
      have X1 : ∀ o, (v.alloc o).cell? ⟨w.heap.size + 1, 1, none⟩ = _ := fun o => (cells_of (heap_old hx)).1.2.1
      have X2 : ∀ o, (v.alloc o).cell? ⟨w.heap.size + 1, 2, none⟩ = _ := fun o => (cells_of (heap_old hx)).1.2.2
      have Z0 : ∀ o, (v.alloc o).frozen? ⟨w.heap.size + 1, 0, none⟩ = _ := fun o => (cells_of (heap_old hx)).2.1
      have Z1 : ∀ o, (v.alloc o).frozen? ⟨w.heap.size + 1, 1, none⟩ = _ := fun o => (cells_of (heap_old hx)).2.2.1
      have Z2 : ∀ o, (v.alloc o).frozen? ⟨w.heap.size + 1, 2, none⟩ = _ := fun o => (cells_of (heap_old hx)).2.2.2
      have HKV := Lib.hid (HKP.out.trans hk (by have := HGF.out; omega))
      have HPV := Lib.hid hpv
      have HG2 := Lib.hid (show gF2 = gF ∨ w.heap.size + 2 ≤ gF2 by have := HGF.out; have := HSZ.out; have := hk.size; omega)
      have HSV := Lib.hid (show w.heap.size + 2 ≤ v.heap.size by have := HSZ.out; have := hk.size; omega)
      clear hk hpv hg2 hx hr x0 x1 x2 c1 c2 c3
      cases pn
      · go_wp2_with fail
        refine ⟨⟨i + 1, gF2, cF2, by omega, by go_num, ?_, (((HKV.out.alloc _).set (.inr (.inr (.inr (by simp)))) _).set (.inr (.inr (.inr (by simp)))) _).set (.inr (.inr (.inr (by simp)))) _, HG2.out, by have := HSV.out; simp; omega, ?_, ?_⟩, by simp [intOf]; omega⟩
        · rw [HU.out]
          have := HQ.out; have h2 := HG2.out
          exact (HPV.out.alloc _).box3 (by omega) (by omega) (by omega)
        · rw [set3_far (by omega)]; exact heap_old HRV.out
        · rw [HU.out, HUN.out]; exact set3_heap (heap_old HXV.out)
      · go_wp2_with fail
        refine ⟨⟨i + 1, gF2, cF2, by omega, by go_num, ?_, (((HKV.out.alloc _).set (.inr (.inr (.inr (by simp)))) _).set (.inr (.inr (.inr (by simp)))) _).set (.inr (.inr (.inr (by simp)))) _, HG2.out, by have := HSV.out; simp; omega, ?_, ?_⟩, by simp [intOf]; omega⟩
        · rw [HU.out]
          have := HQ.out; have h2 := HG2.out
          exact (HPV.out.alloc _).box3 (by omega) (by omega) (by omega)
        · rw [set3_far (by omega)]; exact heap_old HRV.out
        · rw [HU.out, HUN.out]; exact set3_heap (heap_old HXV.out)
    · obtain rfl : i = n := by omega
      have hT : ks.take i = ks := by rw [HN.out, List.take_length]
      rw [hT] at HP HX hx
      obtain ⟨⟨x0, x1, x2⟩, _⟩ := cells_of hx
      obtain ⟨⟨r0, r1, r2⟩, z0, z1, z2⟩ := cells_of hr
      obtain ⟨S1, hS1⟩ : ∃ S1, S1 = (unL ks s noP).1 := ⟨_, rfl⟩
      obtain ⟨P1, hP1⟩ : ∃ P1, P1 = (unL ks s noP).2 := ⟨_, rfl⟩
      rw [← hS1] at HP
      rw [← hP1] at x0 x1 x2 HX
      have HS1 := Lib.hid hS1
      have HP1' := Lib.hid hP1
      obtain ⟨pf, pl, pn⟩ := P1
      dsimp only at x0 x1 x2 HX
      clear hp hkp hgf hsz hr hx hT hS1 hP1
      go_wp2_with fail
      refine bodyPost_ret (v := .agg #[.int .u64 pf, .int .u64 pl, .bool pn]) (by simp [results, Try.results73, go_sem, r0, r1, r2]) rfl ?_
      have h1 := HQ.out
      have h2 := HGF.out
      have h3 := HSZ.out
      refine ⟨by rw [← HP1'.out]; rfl, ((HKP.out.set (.inr (.inr (.inr (by simp)))) _).set (.inr (.inr (.inr (by simp)))) _).set (.inr (.inr (.inr (by simp)))) _, gF', cF', ?_, by omega⟩
      rw [← HS1.out]
      exact HP.out.box3 (by omega) (by omega) (by omega)
end Go.Proofs.Ytdoifdpmgmlpdaa
