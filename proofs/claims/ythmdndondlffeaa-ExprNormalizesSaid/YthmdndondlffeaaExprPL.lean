/- Contracts: all, the deferred closure, Parse (success alone). -/
import Derived.Test.YthmdndondlffeaaExprPK
import Derived.Defers
import Derived.Recover
namespace Go.Proofs.Ythmdndondlffeaa
open Go Go.RowKit Go.Lib
set_option linter.unusedVariables false
set_option maxRecDepth 100000 in
set_option maxHeartbeats 1000000 in
theorem all_ok (p : Nat) (s : ByteArray) (L : Int) (op l : Int) (ks : List T) (w : World) (hp : PSt w p s L 0) (hNB : ∀ b, b ∈ bytesI s → b ≠ 32)
    (hu : ∀ W, PSt W p s L 0 → Calls Try.prog 47 #[.pointer (some ⟨p, 0, none⟩)] W (PTree p s L W op l ks s.size)) :
    Calls Try.prog 36 #[.pointer (some ⟨p, 0, none⟩)] w (PTree p s L w op l ks s.size) := by
  have HS := Lib.hid (skip_any p s L 0 _ (hp.alloc (.cells #[.int .i64 0, .int .i64 0, .slice none 0 0] 24)) (noBl_of hNB 0))
  have HU := Lib.hid hu
  have hplt := hp.lt
  have hsz := hp.sz
  clear hp hu hNB
  go_enter Try.func36, Try.ntmps36
  go_wp2_with fail
  refine HS.out.mono ?_
  rintro e w1 ⟨rfl, hg1, hP1⟩
  have HG1 := Lib.hid hg1
  have HUU := Lib.hid (HU.out _ hP1)
  clear hg1 hP1
  go_wp2_with fail
  refine HUU.out.mono ?_
  rintro e w4 ⟨a, c, rfl, hY, hg4, hP4⟩
  have HG4 := Lib.hid (World.grownBy.trans HG1.out hg4)
  have HB4 := Lib.hid (show w.heap.size + 1 ≤ w4.heap.size by have := HG4.out.size; simp at this; omega)
  have HY4 := Lib.hid (hY.keep (w' := w4.alloc (.cells #[.int .i64 op, .int .i64 l, .slice a ks.length c] 24)) (q' := fun b => w.heap.size + 1 ≤ b) (by simp) fun b hb hq => ⟨Below.heap_alloc w4 _ b hb, by have := HG1.out.size; simp at this; omega⟩)
  have HP4 := Lib.hid (hP4.alloc (.cells #[.int .i64 op, .int .i64 l, .slice a ks.length c] 24))
  have h0 := HP4.out.c0
  have h2 := HP4.out.c2
  have hpw4 : p < w4.heap.size := hP4.lt
  have HGA := Lib.hid (grown_alloc HG4.out (.cells #[.int .i64 op, .int .i64 l, .slice a ks.length c] 24))
  have hlt : decide ((s.size : Int) < (s.size : Int)) = false := by simp
  obtain ⟨⟨r0, r1, r2⟩, f0, f1, f2⟩ := res_cells HGA.out hplt
  clear hg4 hP4 hY
  go_wp2_with fail
  go_quiet (fail)
  go_wp2_with fail
  have hst := stored3 (World.grownBy.trans HGA.out (grown_drewN _ _ nq)) (HP4.out.drewN nq) (HY4.out.keep (q' := fun b => w.heap.size + 1 ≤ b) (Nat.le_refl _) fun b hb hq => ⟨rfl, hq⟩) hplt (.int .i64 op) (.int .i64 l) (.slice a ks.length c)
  exact bodyPost_ret (v := .agg #[.int .i64 op, .int .i64 l, .slice a ks.length c]) (by simp [results, Try.results36, go_sem, r0, r1, r2]) rfl ⟨a, c, rfl, hst.1, hst.2.1, hst.2.2⟩
/-- the deferred closure, where nothing has panicked -/
theorem catch_idle (a b c : Addr) (w : World) :
    CallsD Try.prog 35 #[.pointer (some a), .pointer (some b), .pointer (some c)] .returning w fun e u' w' => e = .returned (.tuple #[]) ∧ u' = .returning ∧ w' = w := by
  refine callsD_of_wpS Try.func35 rfl fun c₀ cs hu => ?_
  apply wpS_seq
  apply wpS_region
  simp [wpOpsS, go_sem, recoverD, hu, Try.ntmps35, Exit.thenS]
  apply wpS_seq
  apply wpS_seq
  apply wpS_region
  simp [wpOpsS, go_sem, Exit.thenS]
  refine wpS_cond (t := true) (by simp [Act.eval, Array.replicate]) ?_
  simp only [if_true]
  refine wpS_of_wp (wp_ret ?_)
  cases c₀
  simp_all [Exit.thenS, bodyPostS, results, Try.results35]
/-- Parse returns the tree -/
def ParsP (op l : Int) (ks : List T) (w : World) (e : Ending) (w' : World) : Prop := ∃ a c, e = .returned (.tuple #[.agg #[.int .i64 op, .int .i64 l, .slice a ks.length c], .int .i64 0, .int .i64 0]) ∧ InX w' op l ks a ∧ Below w.heap.size w w'
set_option maxRecDepth 100000 in
set_option maxHeartbeats 1000000 in
theorem parse_ok (s : ByteArray) (L : Int) (op l : Int) (ks : List T) (w : World) (hL : 1 ≤ L ∧ L ≤ 6) (hsz : s.size ≤ 4096) (hwf : wfT L (.node op l ks) = true) (hin : withinB (.node op l ks) = true) (hs : bytesI s = fmtT (.node op l ks)) (hNB : ∀ b, b ∈ bytesI s → b ≠ 32) :
    Calls Try.prog 19 #[.string s, .int .i64 L] w (ParsP op l ks w) := by
  have hmf : ∀ (fn : Fn) (first cap : Array Value) (w : World), (Instr.makeFunc fn first cap).run Try.prog w = .ok (.func fn first cap) w := fun _ _ _ _ => rfl
  have HM := Lib.hid (mayB_yes hL.1 hL.2)
  have hgt : decide ((4096 : Int) < (s.size : Int)) = false := by simp; omega
  have hgt2 : decide (4096 < s.size) = false := by simp; omega
  obtain ⟨W, hW⟩ : ∃ W, W = ((((w.alloc (.cells #[.int .i64 0, .int .i64 0, .slice none 0 0] 24)).alloc (.cells #[.int .i64 0] 3)).alloc (.cells #[.int .i64 0] 29)).alloc (.cells #[.string s, .int .i64 L, .int .i64 0] 51)) := ⟨_, rfl⟩
  have hPS : PSt W (w.heap.size + 3) s L 0 := by
    rw [hW]
    exact ⟨by simp, by simp [go_sem], by simp [go_sem], by simp [go_sem], by simp [go_sem], Nat.zero_le _, hsz⟩
  have hsize : sizeT (.node op l ks) ≤ 400 := by simp only [withinB, decide_eq_true_eq] at hin; exact hin.1
  have hrd := (all_rd hL.2 hNB 400 _ hsize (Nat.le_refl _) hwf).r1
  have hK1 : fmtK ((1 : Nat) : Int) (.node op l ks) = fmtT (.node op l ks) := fmtK_in (by unfold lvl; split <;> (try split) <;> (try split) <;> (try split) <;> (try split) <;> omega)
  have hsl : (fmtT (.node op l ks)).length = s.size := by rw [← hs, bytesI_len]
  have HALL := Lib.hid (all_ok (w.heap.size + 3) s L op l ks W hPS hNB fun W' h => by
    have h2 := hrd (w.heap.size + 3) 0 [] W' h (by rw [List.drop_zero, hs, hK1, List.append_nil]) (Stop.nil _ _)
    rw [hK1, hsl, Nat.zero_add] at h2
    exact h2)
  have HW2 := Lib.hid (fun W' (a : Option Addr) (c : Nat) (h : InX W' op l ks a) => within_any op l ks a c W' h.1 h.2.1 h.2.2.1 h.2.2.2)
  have HIN := Lib.hid hin
  have HW := Lib.hid hW
  rw [hW] at HALL
  clear hPS hsize hrd hK1 hsl hs hNB hin hwf hW hL
  go_enter_defers Try.func19, Try.ntmps19
  go_wp2_with (go_at_call 24; refine (validLetters_any _ _).mono ?_; rintro e w' ⟨rfl, rfl⟩; rw [HM.out])
  refine HALL.out.mono ?_
  rintro e w2 ⟨a, c, rfl, hY, hg, hP⟩
  have hb0 := hg.block w.heap.size (by simp <;> omega) (fun e => by injection e with e; omega)
  have hb1 := hg.block (w.heap.size + 1) (by simp <;> omega) (fun e => by injection e with e; omega)
  have hb2 := hg.block (w.heap.size + 1 + 1) (by simp <;> omega) (fun e => by injection e with e; omega)
  have r0 : w2.cell? ⟨w.heap.size, 0, none⟩ = some (.int .i64 0) := by rw [World.cell?_of_block (w' := w2) (a := ⟨w.heap.size, 0, none⟩) hb0]; simp [go_sem]
  have r1 : w2.cell? ⟨w.heap.size, 1, none⟩ = some (.int .i64 0) := by rw [World.cell?_of_block (w' := w2) (a := ⟨w.heap.size, 1, none⟩) hb0]; simp [go_sem]
  have r2 : w2.cell? ⟨w.heap.size, 2, none⟩ = some (.slice none 0 0) := by rw [World.cell?_of_block (w' := w2) (a := ⟨w.heap.size, 2, none⟩) hb0]; simp [go_sem]
  have r3 : w2.cell? ⟨w.heap.size + 1, 0, none⟩ = some (.int .i64 0) := by rw [World.cell?_of_block (w' := w2) (a := ⟨w.heap.size + 1, 0, none⟩) hb1]; simp [go_sem]
  have r4 : w2.cell? ⟨w.heap.size + 1 + 1, 0, none⟩ = some (.int .i64 0) := by rw [World.cell?_of_block (w' := w2) (a := ⟨w.heap.size + 1 + 1, 0, none⟩) hb2]; simp [go_sem]
  have f0 : w2.frozen? ⟨w.heap.size, 0, none⟩ = false := by rw [World.frozen?_of_block (w' := w2) (a := ⟨w.heap.size, 0, none⟩) hb0]; simp [go_sem]
  have f1 : w2.frozen? ⟨w.heap.size, 1, none⟩ = false := by rw [World.frozen?_of_block (w' := w2) (a := ⟨w.heap.size, 1, none⟩) hb0]; simp [go_sem]
  have f2 : w2.frozen? ⟨w.heap.size, 2, none⟩ = false := by rw [World.frozen?_of_block (w' := w2) (a := ⟨w.heap.size, 2, none⟩) hb0]; simp [go_sem]
  have f3 : w2.frozen? ⟨w.heap.size + 1, 0, none⟩ = false := by rw [World.frozen?_of_block (w' := w2) (a := ⟨w.heap.size + 1, 0, none⟩) hb1]; simp [go_sem]
  have f4 : w2.frozen? ⟨w.heap.size + 1 + 1, 0, none⟩ = false := by rw [World.frozen?_of_block (w' := w2) (a := ⟨w.heap.size + 1 + 1, 0, none⟩) hb2]; simp [go_sem]
  have hsz2 : w.heap.size + 4 ≤ w2.heap.size := by have := hg.size; simp at this; omega
  have HB2 := Lib.hid (show Below w.heap.size w w2 from ((((((Below.refl _ w).alloc (Nat.le_refl _) _).alloc (by simp) _).alloc (by simp <;> omega) _).alloc (by simp <;> omega) _).grown hg (by simp <;> omega) (by intro k hk; injection hk with hk; omega)))
  have HY := Lib.hid (show InY w2 (fun b => w.heap.size + 4 ≤ b) op l ks a from hY.keep (Nat.le_refl _) fun b _ hq => ⟨rfl, by simp at hq; omega⟩)
  clear hY hg hP hb0 hb1 hb2
  go_wp2_with fail
  have HX3 := Lib.hid (show InX (((w2.setCell ⟨w.heap.size, 0, none⟩ (.int .i64 op)).setCell ⟨w.heap.size, 1, none⟩ (.int .i64 l)).setCell ⟨w.heap.size, 2, none⟩ (.slice a ks.length c)) op l ks a from (HY.out.keep (q' := fun _ => True) (by simp [World.setCell]) fun b hb hq => ⟨by
    rw [Below.heap_setCell _ _ _ _ (by simp; omega), Below.heap_setCell _ _ _ _ (by simp; omega), Below.heap_setCell _ _ _ _ (by simp; omega)], trivial⟩).toX)
  have HC3 := Lib.hid (cells_set3 (x' := .int .i64 op) (y' := .int .i64 l) (z' := .slice a ks.length c) r0 r1 r2)
  have HB3 := Lib.hid (((HB2.out.setCell (p := ⟨w.heap.size, 0, none⟩) (Nat.le_refl _) (.int .i64 op)).setCell (p := ⟨w.heap.size, 1, none⟩) (Nat.le_refl _) (.int .i64 l)).setCell (p := ⟨w.heap.size, 2, none⟩) (Nat.le_refl _) (.slice a ks.length c))
  refine (HW2.out _ a c HX3.out).mono ?_
  rintro e w4 ⟨rfl, hB⟩
  rw [HIN.out]
  have hs4 := hB.size
  have q0 := (hB.cell (p := ⟨w.heap.size, 0, none⟩) (by simp; omega)).trans HC3.out.1
  have q1 := (hB.cell (p := ⟨w.heap.size, 1, none⟩) (by simp; omega)).trans HC3.out.2.1
  have q2 := (hB.cell (p := ⟨w.heap.size, 2, none⟩) (by simp; omega)).trans HC3.out.2.2
  have q3 : w4.cell? ⟨w.heap.size + 1, 0, none⟩ = some (.int .i64 0) := by rw [hB.cell (p := ⟨w.heap.size + 1, 0, none⟩) (by simp; omega), World.cell?_setCell_other _ _ _ _ (by simp), World.cell?_setCell_other _ _ _ _ (by simp), World.cell?_setCell_other _ _ _ _ (by simp)]; exact r3
  have q4 : w4.cell? ⟨w.heap.size + 1 + 1, 0, none⟩ = some (.int .i64 0) := by rw [hB.cell (p := ⟨w.heap.size + 1 + 1, 0, none⟩) (by simp; omega), World.cell?_setCell_other _ _ _ _ (by simp <;> omega), World.cell?_setCell_other _ _ _ _ (by simp <;> omega), World.cell?_setCell_other _ _ _ _ (by simp <;> omega)]; exact r4
  have g0 : w4.frozen? ⟨w.heap.size, 0, none⟩ = false := by rw [hB.frozen (p := ⟨w.heap.size, 0, none⟩) (by simp; omega)]; simpa using f0
  have g1 : w4.frozen? ⟨w.heap.size, 1, none⟩ = false := by rw [hB.frozen (p := ⟨w.heap.size, 1, none⟩) (by simp; omega)]; simpa using f1
  have g2 : w4.frozen? ⟨w.heap.size, 2, none⟩ = false := by rw [hB.frozen (p := ⟨w.heap.size, 2, none⟩) (by simp; omega)]; simpa using f2
  have g3 : w4.frozen? ⟨w.heap.size + 1, 0, none⟩ = false := by rw [hB.frozen (p := ⟨w.heap.size + 1, 0, none⟩) (by simp; omega)]; simpa using f3
  have g4 : w4.frozen? ⟨w.heap.size + 1 + 1, 0, none⟩ = false := by rw [hB.frozen (p := ⟨w.heap.size + 1 + 1, 0, none⟩) (by simp; omega)]; simpa using f4
  have HX4 := Lib.hid (HY.out.keep (w' := w4) (q' := fun b => w.heap.size + 4 ≤ b) (by have := hB.size; simp [World.setCell] at this; exact this) fun b hb hq => ⟨by
    rw [hB.block b (by simp; omega), Below.heap_setCell _ _ _ _ (by simp; omega), Below.heap_setCell _ _ _ _ (by simp; omega), Below.heap_setCell _ _ _ _ (by simp; omega)], hq⟩)
  have HB4 := Lib.hid (HB3.out.trans (hB.mono (by simp; omega)))
  clear hB hs4 r0 r1 r2 r3 r4 f0 f1 f2 f3 f4
  go_wp2_with fail
  refine leaves_cons (f := 35) (args := #[.pointer (some ⟨w.heap.size, 0, none⟩), .pointer (some ⟨w.heap.size + 1, 0, none⟩), .pointer (some ⟨w.heap.size + 1 + 1, 0, none⟩)]) (by simp) (by simp [go_sem]) ?_
  refine (catch_idle _ _ _ _).mono ?_
  rintro e u' w'' ⟨rfl, rfl, rfl⟩
  have HFX := Lib.hid (show InX (((((w4.setCell ⟨w.heap.size, 0, none⟩ (.int .i64 op)).setCell ⟨w.heap.size, 1, none⟩ (.int .i64 l)).setCell ⟨w.heap.size, 2, none⟩ (.slice a ks.length c)).setCell ⟨w.heap.size + 1, 0, none⟩ (.int .i64 0)).setCell ⟨w.heap.size + 1 + 1, 0, none⟩ (.int .i64 0)) op l ks a from
    (HX4.out.keep (q' := fun _ => True) (by simp [World.setCell]) fun b hb hq => ⟨by
      rw [Below.heap_setCell _ _ _ _ (by simp; omega), Below.heap_setCell _ _ _ _ (by simp; omega), Below.heap_setCell _ _ _ _ (by simp; omega), Below.heap_setCell _ _ _ _ (by simp; omega), Below.heap_setCell _ _ _ _ (by simp; omega)], trivial⟩).toX)
  have HFB := Lib.hid (((((HB4.out.setCell (p := ⟨w.heap.size, 0, none⟩) (Nat.le_refl _) (.int .i64 op)).setCell (p := ⟨w.heap.size, 1, none⟩) (Nat.le_refl _) (.int .i64 l)).setCell (p := ⟨w.heap.size, 2, none⟩) (Nat.le_refl _) (.slice a ks.length c)).setCell (p := ⟨w.heap.size + 1, 0, none⟩) (by simp) (.int .i64 0)).setCell (p := ⟨w.heap.size + 1 + 1, 0, none⟩) (by simp <;> omega) (.int .i64 0))
  simp [Leaves, settle, results, Try.results19, go_sem, q0, q1, q2, q3, q4]
  exact ⟨a, c, rfl, HFX.out, HFB.out⟩
end Go.Proofs.Ythmdndondlffeaa
