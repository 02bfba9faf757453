/- Contracts: atom in parentheses, postfix. -/
import Derived.Test.YthmdndondlffeaaExprPH
namespace Go.Proofs.Ythmdndondlffeaa
open Go Go.RowKit Go.Lib
set_option linter.unusedVariables false
set_option maxRecDepth 100000 in
set_option maxHeartbeats 1000000 in
theorem atom_paren (p : Nat) (s : ByteArray) (L : Int) (i j : Nat) (r r2 : List Int) (op l : Int) (ks : List T) (w : World) (hp : PSt w p s L i) (hd : (bytesI s).drop i = 40 :: r) (hbl : noBl r) (hd2 : (bytesI s).drop j = 41 :: r2) (hbl2 : noBl r2)
    (hu : ∀ W, PSt W p s L (i + 1) → Calls Try.prog 47 #[.pointer (some ⟨p, 0, none⟩)] W (PTree p s L W op l ks j)) :
    Calls Try.prog 90 #[.pointer (some ⟨p, 0, none⟩)] w (PTree p s L w op l ks (j + 1)) := by
  have HA1 := Lib.hid (accept_no p s L i 48 _ (hp.alloc (.cells #[.int .i64 0, .int .i64 0, .slice none 0 0] 24)) (by rw [hd]; intro r' e; injection e with e1 e2; omega))
  have HA2 := Lib.hid (fun W (h : PSt W p s L i) => accept_no p s L i 49 W h (by rw [hd]; intro r' e; injection e with e1 e2; omega))
  have HA3 := Lib.hid (fun W (h : PSt W p s L i) => accept_yes p s L i 40 r W h hd hbl)
  have HA4 := Lib.hid (fun W (h : PSt W p s L j) => accept_yes p s L j 41 r2 W h hd2 hbl2)
  have HU := Lib.hid hu
  have hplt := hp.lt
  clear hp hd hbl hu hd2 hbl2
  go_enter Try.func90, Try.ntmps90
  go_wp2_with fail
  refine HA1.out.mono ?_
  rintro e w1 ⟨rfl, hg1, hP1⟩
  have HG1 := Lib.hid hg1
  have HAA := Lib.hid (HA2.out _ hP1)
  clear hg1 hP1
  go_wp2_with fail
  refine HAA.out.mono ?_
  rintro e w2 ⟨rfl, hg2, hP2⟩
  have HG2 := Lib.hid (World.grownBy.trans HG1.out hg2)
  have HAB := Lib.hid (HA3.out _ hP2)
  clear hg2 hP2
  go_wp2_with fail
  refine HAB.out.mono ?_
  rintro e w3 ⟨rfl, hg3, hP3⟩
  have HG3 := Lib.hid (World.grownBy.trans HG2.out hg3)
  have HUU := Lib.hid (HU.out _ hP3)
  clear hg3 hP3
  go_wp2_with fail
  refine HUU.out.mono ?_
  rintro e w4 ⟨a, c, rfl, hY, hg4, hP4⟩
  have HG4 := Lib.hid (World.grownBy.trans HG3.out hg4)
  have HB4 := Lib.hid (show w.heap.size + 1 ≤ w4.heap.size by have := HG4.out.size; simp at this; omega)
  have HY4 := Lib.hid (hY.keep (w' := w4) (q' := fun b => w.heap.size + 1 ≤ b ∧ b < w4.heap.size) (Nat.le_refl _) fun b hb hq => ⟨rfl, by have := HG3.out.size; simp at this; omega, hb⟩)
  have HP4 := Lib.hid (((hP4.alloc (.cells #[.int .i64 op, .int .i64 l, .slice a ks.length c] 24))))
  have HP4' := Lib.hid hP4
  have hpw4 : p < w4.heap.size := hP4.lt
  clear hg4 hP4 hY
  go_wp2_with fail
  refine (HA4.out _ HP4.out).mono ?_
  rintro e w5 ⟨rfl, hg5, hP5⟩
  have HG5 := Lib.hid (World.grownBy.trans (grown_alloc HG4.out _) hg5)
  have HP5 := Lib.hid hP5
  have HY5 := Lib.hid (show InY w5 (fun b => w.heap.size + 1 ≤ b) op l ks a from HY4.out.keep (by have := hg5.size; simp at this; omega) fun b hb hq => ⟨(hg5.block b (by simp; omega) (fun e => by injection e with e; omega)).trans (Below.heap_alloc w4 _ b hb), hq.1⟩)
  obtain ⟨⟨m0, m1, m2⟩, _⟩ := res_cells hg5 hpw4
  obtain ⟨⟨r0, r1, r2⟩, f0, f1, f2⟩ := res_cells HG5.out hplt
  clear hg5 hP5
  go_wp2_with fail
  have hst := stored3 HG5.out HP5.out HY5.out hplt (.int .i64 op) (.int .i64 l) (.slice a ks.length c)
  exact bodyPost_ret (v := .agg #[.int .i64 op, .int .i64 l, .slice a ks.length c]) (by simp [results, Try.results90, go_sem, r0, r1, r2]) rfl ⟨a, c, rfl, hst.1, hst.2.1, hst.2.2⟩
/-! ### postfix -/
/-- where the parser stands -/
def atOf (w : World) (p : Nat) : Nat := (RowKit.intOf ((w.cell? ⟨p, 2, none⟩).getD (.int .i64 0))).toNat
theorem PSt.at {w : World} {p : Nat} {s : ByteArray} {L : Int} {i : Nat} (h : PSt w p s L i) : atOf w p = i := by
  unfold atOf
  rw [h.c2]
  simp [RowKit.intOf]
def starN : Nat → T → T
  | 0, u => u
  | n + 1, u => .node 7 0 [starN n u]
/-- the trees of the call's own, the block g aside -/
def StarP (w0 wr : World) (p g : Nat) (s : ByteArray) (L : Int) (i : Nat) (o : Obj) (op l : Int) (ks : List T) : Prop :=
  ∃ a c, wr.cell? ⟨g, 0, none⟩ = some (.int .i64 op) ∧ wr.cell? ⟨g, 1, none⟩ = some (.int .i64 l) ∧ wr.cell? ⟨g, 2, none⟩ = some (.slice a ks.length c) ∧ (wr.frozen? ⟨g, 0, none⟩ = false ∧ wr.frozen? ⟨g, 1, none⟩ = false ∧ wr.frozen? ⟨g, 2, none⟩ = false) ∧ g < wr.heap.size ∧
    InY wr (fun b => w0.heap.size + 1 ≤ b ∧ b ≠ g) op l ks a ∧ (w0.alloc o).grownBy wr (some p) ∧ PSt wr p s L i
theorem cells_set3 {w3 : World} {g : Nat} {x y z x' y' z' : Value} (h0 : w3.cell? ⟨g, 0, none⟩ = some x) (h1 : w3.cell? ⟨g, 1, none⟩ = some y) (h2 : w3.cell? ⟨g, 2, none⟩ = some z) :
    (((w3.setCell ⟨g, 0, none⟩ x').setCell ⟨g, 1, none⟩ y').setCell ⟨g, 2, none⟩ z').cell? ⟨g, 0, none⟩ = some x' ∧ (((w3.setCell ⟨g, 0, none⟩ x').setCell ⟨g, 1, none⟩ y').setCell ⟨g, 2, none⟩ z').cell? ⟨g, 1, none⟩ = some y' ∧ (((w3.setCell ⟨g, 0, none⟩ x').setCell ⟨g, 1, none⟩ y').setCell ⟨g, 2, none⟩ z').cell? ⟨g, 2, none⟩ = some z' := by
  have a1 : (w3.setCell ⟨g, 0, none⟩ x').cell? ⟨g, 1, none⟩ = some y := by rw [World.cell?_setCell_other _ _ _ _ (by simp)]; exact h1
  have a2 : ((w3.setCell ⟨g, 0, none⟩ x').setCell ⟨g, 1, none⟩ y').cell? ⟨g, 2, none⟩ = some z := by rw [World.cell?_setCell_other _ _ _ _ (by simp), World.cell?_setCell_other _ _ _ _ (by simp)]; exact h2
  refine ⟨?_, ?_, World.cell?_setCell_same _ _ _ a2⟩
  · rw [World.cell?_setCell_other _ _ _ _ (by simp), World.cell?_setCell_other _ _ _ _ (by simp)]
    exact World.cell?_setCell_same _ _ _ h0
  · rw [World.cell?_setCell_other _ _ _ _ (by simp)]
    exact World.cell?_setCell_same _ _ _ a1
theorem star_store {w0 w3 : World} {p g : Nat} {s : ByteArray} {L : Int} {i : Nat} {o : Obj} {op l : Int} {ks : List T} {a : Option Addr} {c : Nat} {x y z : Value} (h0 : w3.cell? ⟨g, 0, none⟩ = some x) (h1 : w3.cell? ⟨g, 1, none⟩ = some y) (h2 : w3.cell? ⟨g, 2, none⟩ = some z)
    (f0 : w3.frozen? ⟨g, 0, none⟩ = false) (f1 : w3.frozen? ⟨g, 1, none⟩ = false) (f2 : w3.frozen? ⟨g, 2, none⟩ = false) (hlt : g < w3.heap.size) (hY : InY w3 (fun b => w0.heap.size + 1 ≤ b ∧ b ≠ g) op l ks a) (hg : (w0.alloc o).grownBy w3 (some p)) (hP : PSt w3 p s L i) (hpg : p ≠ g) (hgw : w0.heap.size + 1 ≤ g) :
    StarP w0 (((w3.setCell ⟨g, 0, none⟩ (.int .i64 op)).setCell ⟨g, 1, none⟩ (.int .i64 l)).setCell ⟨g, 2, none⟩ (.slice a ks.length c)) p g s L i o op l ks := by
  obtain ⟨c0, c1, c2⟩ := cells_set3 (x' := .int .i64 op) (y' := .int .i64 l) (z' := .slice a ks.length c) h0 h1 h2
  refine ⟨a, c, c0, c1, c2, ⟨by simpa using f0, by simpa using f1, by simpa using f2⟩, by simpa using hlt, ?_, ?_, ?_⟩
  · refine hY.keep (by simp [World.setCell]) fun b hb hq => ⟨?_, hq⟩
    rw [Below.heap_setCell _ _ _ _ (by simpa using hq.2), Below.heap_setCell _ _ _ _ (by simpa using hq.2), Below.heap_setCell _ _ _ _ (by simpa using hq.2)]
  · exact grown_set_new (grown_set_new (grown_set_new hg (by simpa using hgw) _) (by simpa using hgw) _) (by simpa using hgw) _
  · exact ((hP.setc (Ne.symm hpg) _).setc (Ne.symm hpg) _).setc (Ne.symm hpg) _
set_option maxRecDepth 100000 in
set_option maxHeartbeats 1000000 in
theorem postfix_of (p : Nat) (s : ByteArray) (L : Int) (i j n : Nat) (op l : Int) (ks : List T) (rop rl : Int) (rks : List T) (hr : starN n (.node op l ks) = .node rop rl rks) (w : World) (hp : PSt w p s L i)
    (hs : ∀ k, k < n → ∃ r, (bytesI s).drop (j + k) = 42 :: r) (hend : ∀ r, (bytesI s).drop (j + n) ≠ 42 :: r) (hNB : ∀ b, b ∈ bytesI s → b ≠ 32)
    (hu : ∀ W, PSt W p s L i → Calls Try.prog 90 #[.pointer (some ⟨p, 0, none⟩)] W (PTree p s L W op l ks j)) :
    Calls Try.prog 86 #[.pointer (some ⟨p, 0, none⟩)] w (PTree p s L w rop rl rks (j + n)) := by
  have HU := Lib.hid (hu _ (hp.alloc (.cells #[.int .i64 0, .int .i64 0, .slice none 0 0] 24)))
  have HY := Lib.hid (fun k (hk : k < n) W (h : PSt W p s L (j + k)) => show Calls Try.prog 66 #[.pointer (some ⟨p, 0, none⟩), .int .u8 42] W (PEnd p s L W (.bool true) (j + (k + 1))) by
    obtain ⟨r, hr⟩ := hs k hk
    exact accept_yes p s L (j + k) 42 r W h hr (by rw [← (byte_at hr).2.2]; exact noBl_of hNB _))
  have HN := Lib.hid (fun W (h : PSt W p s L (j + n)) => accept_no p s L (j + n) 42 W h hend)
  have HR := Lib.hid hr
  have hplt := hp.lt
  clear hp hu hs hend hNB hr
  go_enter Try.func86, Try.ntmps86
  go_wp2_with fail
  refine HU.out.mono ?_
  rintro e w1 ⟨a, c, rfl, hY1, hg1, hP1⟩
  have HB1 := Lib.hid (show w.heap.size + 1 ≤ w1.heap.size by have := hg1.size; simp at this; omega)
  have hpw1 : p < w1.heap.size := hP1.lt
  have HS := Lib.hid (show StarP w (w1.alloc (.cells #[.int .i64 op, .int .i64 l, .slice a ks.length c] 24)) p w1.heap.size s L j (.cells #[.int .i64 0, .int .i64 0, .slice none 0 0] 24) op l ks from
    ⟨a, c, by simp [go_sem], by simp [go_sem], by simp [go_sem], ⟨by simp [go_sem], by simp [go_sem], by simp [go_sem]⟩, by simp,
      hY1.keep (by simp) (fun b hb hq => ⟨Below.heap_alloc w1 _ b hb, by simp at hq; omega, by omega⟩), grown_alloc hg1 _, hP1.alloc _⟩)
  clear hY1 hg1 hP1
  go_wp2_with fail
  go_loopw [] (fun wr => ∃ (k : Nat) (o' l' : Int) (ls : List T), k ≤ n ∧ starN k (.node op l ks) = .node o' l' ls ∧ StarP w wr p w1.heap.size s L (j + k) (.cells #[.int .i64 0, .int .i64 0, .slice none 0 0] 24) o' l' ls) (fun wr => j + n - atOf wr p)
  case atStart => exact ⟨0, op, l, ks, Nat.zero_le _, rfl, HS.out⟩
  case round =>
    rename World => wA
    obtain ⟨k, o', l', ls, hk, hst, a', c', k0, k1, k2, ⟨z0, z1, z2⟩, hlt, hY, hg, hP⟩ := hrel
    have HST := Lib.hid hst
    have HYA := Lib.hid hY
    have HGA := Lib.hid hg
    have HPA := Lib.hid hP
    have HK := Lib.hid (And.intro k0 (And.intro k1 k2))
    have HZ := Lib.hid (And.intro z0 (And.intro z1 z2))
    have hne : p ≠ w1.heap.size := by omega
    have hwA : w.heap.size + 1 ≤ wA.heap.size := by have := HGA.out.size; simp at this; omega
    clear hst hY hg hP k0 k1 k2 z0 z1 z2
    by_cases hkn : k < n
    · have HQ := Lib.hid (HY.out k hkn _ HPA.out)
      go_wp2_with fail
      refine HQ.out.mono ?_
      rintro e w2 ⟨rfl, hg2, hP2⟩
      have hb2 := hg2.block w1.heap.size hlt (fun e => by injection e with e; omega)
      have key : ∀ o, w2.cell? ⟨w1.heap.size, o, none⟩ = wA.cell? ⟨w1.heap.size, o, none⟩ := fun o => World.cell?_of_block (w := wA) (w' := w2) (a := ⟨w1.heap.size, o, none⟩) hb2
      have keyf : ∀ o, w2.frozen? ⟨w1.heap.size, o, none⟩ = wA.frozen? ⟨w1.heap.size, o, none⟩ := fun o => World.frozen?_of_block (w := wA) (w' := w2) (a := ⟨w1.heap.size, o, none⟩) hb2
      have m0 := (key 0).trans HK.out.1
      have m1 := (key 1).trans HK.out.2.1
      have m2 := (key 2).trans HK.out.2.2
      have f0 := (keyf 0).trans HZ.out.1
      have f1 := (keyf 1).trans HZ.out.2.1
      have f2 := (keyf 2).trans HZ.out.2.2
      have hlt2 : w1.heap.size < w2.heap.size := Nat.lt_of_lt_of_le hlt hg2.size
      have HY2 := Lib.hid (over_one (op' := 7) (c := c') (q := fun b => w.heap.size + 1 ≤ b ∧ b ≠ w1.heap.size) (HYA.out.keep hg2.size fun b hb hq => ⟨hg2.block b hb (fun e => by injection e with e; omega), hq⟩) ⟨by have := hg2.size; omega, by omega⟩ (by unfold B64; omega))
      have HG2 := Lib.hid (grown_alloc (World.grownBy.trans HGA.out hg2) (.cells #[.int .i64 o', .int .i64 l', .slice a' ls.length c'] 24))
      have HP2 := Lib.hid (hP2.alloc (.cells #[.int .i64 o', .int .i64 l', .slice a' ls.length c'] 24))
      clear hg2 hP2 hb2 key keyf
      go_wp2_with fail
      have hfin := star_store (op := 7) (l := 0) (ks := [T.node o' l' ls]) (a := some ⟨w2.heap.size, 0, none⟩) (c := 1) (cell_al m0) (cell_al m1) (cell_al m2) (by simpa using (World.frozen?_of_block (w := w2) (a := ⟨w1.heap.size, 0, none⟩) (Below.heap_alloc w2 _ _ hlt2)).trans f0) (by simpa using (World.frozen?_of_block (w := w2) (a := ⟨w1.heap.size, 1, none⟩) (Below.heap_alloc w2 _ _ hlt2)).trans f1) (by simpa using (World.frozen?_of_block (w := w2) (a := ⟨w1.heap.size, 2, none⟩) (Below.heap_alloc w2 _ _ hlt2)).trans f2) (by simp; omega) HY2.out HG2.out HP2.out hne HB1.out
      rw [World.setCell_alloc_past _ _ _ _ hlt2, World.setCell_alloc_past _ _ _ _ (by simp; omega), World.setCell_alloc_past _ _ _ _ (by simp; omega)] at hfin
      obtain ⟨_, _, _, _, _, _, _, _, _, hPF⟩ := id hfin
      refine ⟨⟨k + 1, 7, 0, [T.node o' l' ls], by omega, by rw [← HST.out]; rfl, hfin⟩, ?_⟩
      rw [HPA.out.at]
      have := hPF.at
      rw [show ([T.node o' l' ls] : List T).length = 1 from rfl] at this
      rw [this]; omega
    · have hkn2 : k = n := by omega
      subst hkn2
      have HQ := Lib.hid (HN.out _ HPA.out)
      have hrr := HST.out.symm.trans HR.out
      injection hrr with e1 e2 e3
      subst e1 e2 e3
      go_wp2_with fail
      refine HQ.out.mono ?_
      rintro e w2 ⟨rfl, hg2, hP2⟩
      have hb2 := hg2.block w1.heap.size hlt (fun e => by injection e with e; omega)
      have key : ∀ o, w2.cell? ⟨w1.heap.size, o, none⟩ = wA.cell? ⟨w1.heap.size, o, none⟩ := fun o => World.cell?_of_block (w := wA) (w' := w2) (a := ⟨w1.heap.size, o, none⟩) hb2
      have m0 := (key 0).trans HK.out.1
      have m1 := (key 1).trans HK.out.2.1
      have m2 := (key 2).trans HK.out.2.2
      have HY2 := Lib.hid (show InY w2 (fun b => w.heap.size + 1 ≤ b) o' l' ls a' from HYA.out.keep hg2.size fun b hb hq => ⟨hg2.block b hb (fun e => by injection e with e; omega), hq.1⟩)
      have HG2 := Lib.hid (World.grownBy.trans HGA.out hg2)
      have HP2 := Lib.hid hP2
      obtain ⟨⟨r0, r1, r2⟩, f0, f1, f2⟩ := res_cells HG2.out hplt
      clear hg2 hP2 hb2 key
      go_wp2_with fail
      have hst := stored3 HG2.out HP2.out HY2.out hplt (.int .i64 o') (.int .i64 l') (.slice a' ls.length c')
      exact bodyPost_ret (v := .agg #[.int .i64 o', .int .i64 l', .slice a' ls.length c']) (by simp [results, Try.results86, go_sem, r0, r1, r2]) rfl ⟨a', c', rfl, hst.1, hst.2.1, hst.2.2⟩
end Go.Proofs.Ythmdndondlffeaa
