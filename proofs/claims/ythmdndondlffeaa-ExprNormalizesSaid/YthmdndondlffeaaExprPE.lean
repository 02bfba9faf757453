/- Contract: list. -/
import Derived.Test.YthmdndondlffeaaExprPD
namespace Go.Proofs.Ythmdndondlffeaa
open Go Go.RowKit Go.Lib
set_option linter.unusedVariables false
theorem BO_lt {B N p : Nat} {v : Value} (h : ∀ g, v.ownBlock = some g → B ≤ g ∧ g < N) (e : some p = v.ownBlock) : B ≤ p := (h p e.symm).1
theorem grown_own {a b c : World} {r r' : Option Nat} (h : a.grownBy b r) (k : b.grownBy c r') (hr : ∀ g, r' = some g → a.heap.size ≤ g) : a.grownBy c r :=
  ⟨k.os.trans h.os, k.tape.trans h.tape, k.output.trans h.output, Nat.le_trans h.size k.size, fun i hi hne => (k.block i (Nat.lt_of_lt_of_le hi h.size) (fun e => by have := hr i e.symm; omega)).trans (h.block i hi hne)⟩
/-- the struct result is stored into its own block -/
theorem stored3 {p : Nat} {s : ByteArray} {L : Int} {i : Nat} {w w2 : World} {op l : Int} {ks : List T} {a : Option Addr} {o : Obj} (hg : (w.alloc o).grownBy w2 (some p)) (hP : PSt w2 p s L i) (hY : InY w2 (fun b => w.heap.size + 1 ≤ b) op l ks a) (hp : p < w.heap.size) (x y z : Value) :
    InY (((w2.setCell ⟨w.heap.size, 0, none⟩ x).setCell ⟨w.heap.size, 1, none⟩ y).setCell ⟨w.heap.size, 2, none⟩ z) (fun b => w.heap.size ≤ b) op l ks a ∧
    w.grownBy (((w2.setCell ⟨w.heap.size, 0, none⟩ x).setCell ⟨w.heap.size, 1, none⟩ y).setCell ⟨w.heap.size, 2, none⟩ z) (some p) ∧
    PSt (((w2.setCell ⟨w.heap.size, 0, none⟩ x).setCell ⟨w.heap.size, 1, none⟩ y).setCell ⟨w.heap.size, 2, none⟩ z) p s L i := by
  refine ⟨?_, ?_, ?_⟩
  · refine hY.keep (by simp [World.setCell]) fun b hb hq => ⟨?_, by omega⟩
    rw [Below.heap_setCell _ _ _ _ (by simp; omega), Below.heap_setCell _ _ _ _ (by simp; omega), Below.heap_setCell _ _ _ _ (by simp; omega)]
  · have h1 : w.grownBy w2 (some p) := World.grownBy.trans (World.grownBy_alloc w o (some p)) hg
    exact grown_set_new (grown_set_new (grown_set_new h1 (Nat.le_refl _) x) (Nat.le_refl _) y) (Nat.le_refl _) z
  · exact ((hP.setc (by omega) x).setc (by omega) y).setc (by omega) z
/-- the cells of the result's block -/
theorem res_cells {p : Nat} {w w2 : World} {x y z : Value} (hg : (w.alloc (.cells #[x, y, z] 24)).grownBy w2 (some p)) (hp : p < w.heap.size) :
    (w2.cell? ⟨w.heap.size, 0, none⟩ = some x ∧ w2.cell? ⟨w.heap.size, 1, none⟩ = some y ∧ w2.cell? ⟨w.heap.size, 2, none⟩ = some z) ∧ w2.frozen? ⟨w.heap.size, 0, none⟩ = false ∧ w2.frozen? ⟨w.heap.size, 1, none⟩ = false ∧ w2.frozen? ⟨w.heap.size, 2, none⟩ = false := by
  have hb := hg.block w.heap.size (by simp) (fun e => by injection e with e; omega)
  refine ⟨⟨?_, ?_, ?_⟩, ?_, ?_, ?_⟩
  · rw [World.cell?_of_block (w' := w2) (a := ⟨w.heap.size, 0, none⟩) hb]; simp [go_sem]
  · rw [World.cell?_of_block (w' := w2) (a := ⟨w.heap.size, 1, none⟩) hb]; simp [go_sem]
  · rw [World.cell?_of_block (w' := w2) (a := ⟨w.heap.size, 2, none⟩) hb]; simp [go_sem]
  · rw [World.frozen?_of_block (w' := w2) (a := ⟨w.heap.size, 0, none⟩) hb]; simp [go_sem]
  · rw [World.frozen?_of_block (w' := w2) (a := ⟨w.heap.size, 1, none⟩) hb]; simp [go_sem]
  · rw [World.frozen?_of_block (w' := w2) (a := ⟨w.heap.size, 2, none⟩) hb]; simp [go_sem]
def lenOf : Value → Nat | .slice _ n _ => n | _ => 0
theorem OwnE.len {w : World} {B : Nat} {v : Value} {ts : List T} (h : OwnE w B v ts) : lenOf v = ts.length := by
  obtain ⟨xs, ho, _⟩ := h.own
  rcases ho.2 with ⟨rfl, h0⟩ | ⟨g, cap, cur, rfl, _⟩
  · rw [h0]; rfl
  · rfl
set_option maxRecDepth 100000 in
set_option maxHeartbeats 1000000 in
theorem listU_any (p : Nat) (s : ByteArray) (L : Int) (ks : List T) (at0 at1 : Nat → Nat) (hn : 0 < ks.length) (hn2 : ks.length ≤ 100000)
    (HP : ∀ (j : Nat) (op l : Int) (ls : List T), ks[j]? = some (.node op l ls) → ∀ W, PSt W p s L (at0 j) → Calls Try.prog 57 #[.pointer (some ⟨p, 0, none⟩)] W (PTree p s L W op l ls (at1 j)))
    (HY : ∀ j, j + 1 < ks.length → ∀ W, PSt W p s L (at1 j) → Calls Try.prog 58 #[.pointer (some ⟨p, 0, none⟩)] W (PEnd p s L W (.bool true) (at0 (j + 1))))
    (HN : ∀ W, PSt W p s L (at1 (ks.length - 1)) → Calls Try.prog 58 #[.pointer (some ⟨p, 0, none⟩)] W (PEnd p s L W (.bool false) (at1 (ks.length - 1))))
    (w : World) (hp : PSt w p s L (at0 0)) (rop rl : Int) (rks : List T) (hr : T.node rop rl rks = if ks.length = 1 then ks[0] else .node 4 0 ks) :
    Calls Try.prog 56 #[.int .i64 4, .func (.func 57) #[.pointer (some ⟨p, 0, none⟩)] #[], .func (.func 58) #[.pointer (some ⟨p, 0, none⟩)] #[]] w (PTree p s L w rop rl rks (at1 (ks.length - 1))) := by
  have HPP := Lib.hid HP
  have HYY := Lib.hid HY
  have HNN := Lib.hid HN
  have H0 := Lib.hid (hp.alloc (.cells #[.int .i64 0, .int .i64 0, .slice none 0 0] 24))
  obtain ⟨ko, kl, kk, hk, hk2⟩ := kid_some hn
  have HQ := Lib.hid (HP 0 ko kl kk hk)
  have HK := Lib.hid hk
  have HR := Lib.hid hr
  have hplt := hp.lt
  clear HP HY HN hp hk hr
  go_enter Try.func56, Try.ntmps56
  go_wp2_with fail
  refine (HQ.out _ H0.out).mono ?_
  rintro e w1 ⟨a, c, rfl, hY, hg, hP⟩
  have hb1 : w.heap.size + 1 ≤ w1.heap.size := by have := hg.size; simp at this; omega
  have HE := Lib.hid (OwnE.one (B := w.heap.size + 1) (c := c) hb1 (hY.keep (Nat.le_refl _) fun b _ hq => ⟨rfl, by simp at hq; omega⟩))
  have HP1 := Lib.hid (hP.alloc (.cells #[.int .i64 ko, .int .i64 kl, .slice a kk.length c] 24))
  have HG1 := Lib.hid (grown_alloc hg (.cells #[.int .i64 ko, .int .i64 kl, .slice a kk.length c] 24))
  have HT1 := Lib.hid (show [T.node ko kl kk] = ks.take 1 by rw [take_snoc hn, hk2]; rfl)
  clear hY hg hP hk2
  go_wp2_with fail
  go_loopw [7] (fun v wr => ∃ j : Nat, 1 ≤ j ∧ j ≤ ks.length ∧ OwnE wr (w.heap.size + 1) v (ks.take j) ∧ PSt wr p s L (at1 (j - 1)) ∧ (w.alloc (.cells #[.int .i64 0, .int .i64 0, .slice none 0 0] 24)).grownBy wr (some p)) (fun v _ => ks.length - lenOf v)
  case atStart => exact ⟨1, by omega, hn, by have := HE.out; rw [HT1.out] at this; exact this, HP1.out, HG1.out⟩
  case round =>
    rename World => wA
    obtain ⟨j, hj1, hj, hE, hP, hg⟩ := hrel
    have HEA := Lib.hid hE
    have HPA := Lib.hid hP
    have HGA := Lib.hid hg
    clear hE hP hg
    by_cases hlt : j < ks.length
    · obtain ⟨op', l', ls, hk, hk2⟩ := kid_some hlt
      have HQ1 := Lib.hid (HYY.out (j - 1) (by omega) _ HPA.out)
      rw [show j - 1 + 1 = j by omega] at HQ1
      have HQ2 := Lib.hid (HPP.out j op' l' ls hk)
      have HTJ := Lib.hid (show ks.take j ++ [.node op' l' ls] = ks.take (j + 1) by rw [take_snoc hlt, hk2])
      obtain ⟨xs, ho, hx⟩ := HEA.out.own
      have hbo : ∀ g, _ → w.heap.size + 1 ≤ g ∧ g < wA.heap.size := ho.lt
      have HBO := Lib.hid hbo
      clear hk hk2 ho hx xs hbo
      go_wp2_with fail
      refine HQ1.out.mono ?_
      rintro e w2 ⟨rfl, hg2, hP2⟩
      have HP2 := Lib.hid hP2
      have HG2 := Lib.hid (World.grownBy.trans HGA.out hg2)
      have HE2 := Lib.hid (HEA.out.keep hg2 (by omega))
      have HS2 := Lib.hid hg2.size
      clear hg2 hP2
      go_wp2_with fail
      refine (HQ2.out _ HP2.out).mono ?_
      rintro e w3 ⟨a', c', rfl, hY3, hg3, hP3⟩
      have HE3 := Lib.hid (HE2.out.keep hg3 (by omega))
      have HG3 := Lib.hid (World.grownBy.trans HG2.out hg3)
      have HP3 := Lib.hid hP3
      obtain ⟨xs, ho, hx⟩ := HE3.out.own
      have hbw : w.heap.size + 1 ≤ w3.heap.size := by have := HG3.out.size; simp at this; omega
      have HYK := Lib.hid (hY3.keep (q' := fun b => w.heap.size + 1 ≤ b ∧ some b ≠ Value.ownBlock _) (Nat.le_refl _) fun b _ hq => ⟨rfl, by have := HG2.out.size; simp at this; omega, fun e => by have := (HBO.out _ e.symm).2; have := HS2.out; omega⟩)
      have HOW := Lib.hid ho
      have HX := Lib.hid hx
      obtain ⟨i0, hi, hz0, hz1, hz2⟩ := info_parts infoE
      have htl : (ks.take j).length = j := by rw [List.length_take]; omega
      have HTL := Lib.hid htl
      have hj6 : j + 1 ≤ 100000 := by omega
      clear hg3 hP3 hY3 ho hx htl
      go_wp2_with (at_builtin; refine wpList_append_own_at _ rfl _ _ 22 rfl (w.heap.size + 1) 24 i0 _ 3 40 Try.underlying22 hi hz0 hz1 hz2 rfl (by decide) _ _ _ rfl (HOW.out.alloc _) ⟨_, 0, none⟩ 1 1 [.int .i64 op', .int .i64 l', .slice a' ls.length c'] rfl rfl ?c1 ?c2 ?c3 ?c4 ?c5 ?_)
      case c1 => exact World.news_of_block (cs := #[.int .i64 op', .int .i64 l', .slice a' ls.length c']) (t := 24) (fr := (0, 0)) (heap_alloc_new _ _)
      case c2 => simp [Value.oneCell']
      case c3 => rw [HTL.out]; unfold maxLen; omega
      case c4 => rw [HTL.out]; omega
      case c5 => simp; omega
      intro v' w4 h4 hg4 _ hat
      have hE4 := OwnE.push (c := c') HOW.out HX.out HYK.out (by first | exact h4 | (rw [HTL.out]; exact h4)) hg4 (hat.imp id fun e => by first | exact e | (rw [e]; simp))
      rw [HTJ.out] at hE4
      have HE4 := Lib.hid hE4
      have HL4 := Lib.hid (show lenOf v' = j + 1 by rw [hE4.len, List.length_take]; omega)
      have HP4 := Lib.hid ((HP3.out.alloc _).keep hg4.size (hg4.block p (by have := HP3.out.lt; simp; omega) (fun e => by have := (BO_lt HBO.out e); omega)))
      have HG4 := Lib.hid (grown_own (grown_alloc HG3.out _) hg4 (fun g e => by have := (HBO.out g e).1; simp; omega))
      clear h4 hg4 hat hE4
      go_wp2_with fail
      exact ⟨⟨j + 1, by omega, by omega, HE4.out, HP4.out, HG4.out⟩, by rw [HL4.out, HEA.out.len, List.length_take]; omega⟩
    · have hjn : j = ks.length := by omega
      have htk : ks.take j = ks := by rw [hjn]; exact List.take_length
      rw [htk] at HEA
      rw [hjn] at HPA
      obtain ⟨g, cc, rfl, hg1, hg2, hq⟩ := HEA.out.form hn (by omega)
      have HQN := Lib.hid (HNN.out _ HPA.out)
      have HQQ := Lib.hid hq
      have hone : ∀ op l ls, ks[0]? = some (.node op l ls) → ∃ a' c', wA.cell? ⟨g, 0, none⟩ = some (.int .i64 op) ∧ wA.cell? ⟨g, 1, none⟩ = some (.int .i64 l) ∧ wA.cell? ⟨g, 2, none⟩ = some (.slice a' ls.length c') ∧ InY wA (fun b => w.heap.size + 1 ≤ b) op l ls a' := by
        intro op l ls h0
        cases hq with
        | zero => simp at hn
        | row b off ks A C hb hq hc hz hi =>
          obtain ⟨h1, h2, h3⟩ := hc 0 _ h0
          simp only [Nat.zero_add, Nat.zero_mul, Nat.add_zero] at h1 h2 h3
          exact ⟨A 0, C 0, h1, h2, h3, hi 0 _ h0, hz 0 _ h0⟩
      have HONE := Lib.hid hone
      clear hjn htk hq hone
      have hpg : p ≠ g := by omega
      have hpw : p ≠ w.heap.size := by omega
      by_cases h1 : ks.length = 1
      · have hr := HR.out
        rw [if_pos h1] at hr
        obtain ⟨a', c', k0, k1, k2, hy⟩ := HONE.out rop rl rks (by rw [hr, List.getElem?_eq_getElem hn])
        have HYA := Lib.hid hy
        have HAT := Lib.hid h1
        obtain ⟨n, hne⟩ : ∃ n, n = ks.length := ⟨_, rfl⟩
        have hn1 : n = 1 := by omega
        have HW1 := Lib.hid hne
        rw [← hne] at HQN ⊢
        subst hn1
        clear hy hr h1 hne
        go_wp2_with fail
        refine HQN.out.mono ?_
        rintro e w2 ⟨rfl, hgr, hP2⟩
        have HG2 := Lib.hid (World.grownBy.trans HGA.out hgr)
        have key : ∀ o, w2.cell? ⟨g, o, none⟩ = wA.cell? ⟨g, o, none⟩ := fun o => World.cell?_of_block (w := wA) (w' := w2) (a := ⟨g, o, none⟩) (hgr.block g hg2 (fun e => by injection e with e; omega))
        have m0 := (key 0).trans k0
        have m1 := (key 1).trans k1
        have m2 := (key 2).trans k2
        have HY2 := Lib.hid (HYA.out.keep hgr.size fun b hb hq => ⟨hgr.block b hb (fun e => by injection e with e; omega), hq⟩)
        have HP2 := Lib.hid hP2
        obtain ⟨⟨r0, r1, r2⟩, f0, f1, f2⟩ := res_cells HG2.out hplt
        clear hgr hP2 key k0 k1 k2
        go_wp2_with fail
        have hst := stored3 HG2.out HP2.out HY2.out hplt (.int .i64 rop) (.int .i64 rl) (.slice a' rks.length c')
        refine bodyPost_ret (v := .agg #[.int .i64 rop, .int .i64 rl, .slice a' rks.length c']) (by simp [results, Try.results56, go_sem, r0, r1, r2]) rfl ⟨a', c', rfl, hst.1, hst.2.1, ?_⟩
        rw [HAT.out]; exact hst.2.2
      · have hr := HR.out
        rw [if_neg h1] at hr
        injection hr with e1 e2 e3
        subst e1 e2 e3
        obtain ⟨n, hne⟩ : ∃ n, n = rks.length := ⟨_, rfl⟩
        have HW1 := Lib.hid hne
        have ht : ((n : Int) == 1) = false := ne_beq (by omega)
        rw [← hne] at HQN ⊢
        clear h1 hne
        go_wp2_with fail
        refine HQN.out.mono ?_
        rintro e w2 ⟨rfl, hgr, hP2⟩
        have HG2 := Lib.hid (World.grownBy.trans HGA.out hgr)
        have HY2 := Lib.hid (show InY w2 (fun b => w.heap.size + 1 ≤ b) 4 0 rks (some ⟨g, 0, none⟩) from ⟨HQQ.out.keep hgr.size fun b hb hq => ⟨hgr.block b hb (fun e => by injection e with e; omega), hq⟩, by unfold B64; omega, by unfold B64; omega, by omega⟩)
        have HP2 := Lib.hid hP2
        obtain ⟨⟨r0, r1, r2⟩, f0, f1, f2⟩ := res_cells HG2.out hplt
        clear hgr hP2
        go_wp2_with fail
        have hst := stored3 HG2.out HP2.out HY2.out hplt (.int .i64 4) (.int .i64 0) (.slice (some ⟨g, 0, none⟩) n cc)
        exact bodyPost_ret (v := .agg #[.int .i64 4, .int .i64 0, .slice (some ⟨g, 0, none⟩) n cc]) (by simp [results, Try.results56, go_sem, r0, r1, r2]) rfl ⟨_, cc, by rw [← HW1.out], hst.1, hst.2.1, by rw [← HW1.out]; exact hst.2.2⟩
end Go.Proofs.Ythmdndondlffeaa
