/- Contract: normalStar. -/
import Derived.Test.YthmdndondlffeaaExprNL
import Derived.Test.YthmdndondlffeaaExprNR
import Derived.Test.YthmdndondlffeaaExprBX
import Derived.Deep.RegionWith
namespace Go.Proofs.Ythmdndondlffeaa
open Go Go.RowKit Go.Sort
set_option linter.unusedVariables false
/-- the second box, later -/
theorem box2 {w w2 : World} {o : Obj} {x y z : Value} (h : Below ((w.alloc o).alloc (.cells #[x, y, z] 24)).heap.size ((w.alloc o).alloc (.cells #[x, y, z] 24)) w2) :
    (w2.cell? ⟨w.heap.size + 1, 0, none⟩ = some x ∧ w2.cell? ⟨w.heap.size + 1, 1, none⟩ = some y ∧ w2.cell? ⟨w.heap.size + 1, 2, none⟩ = some z) ∧ w2.frozen? ⟨w.heap.size + 1, 0, none⟩ = false ∧ w2.frozen? ⟨w.heap.size + 1, 1, none⟩ = false ∧ w2.frozen? ⟨w.heap.size + 1, 2, none⟩ = false := by
  have e : (w.alloc o).heap.size = w.heap.size + 1 := by simp
  have h' : Below ((w.alloc o).heap.size + 1) ((w.alloc o).alloc (.cells #[x, y, z] 24)) w2 := h.mono (by simp)
  have h1 := box_cells h'
  have h2 := box_frozen h'
  rw [e] at h1 h2
  exact ⟨h1, h2⟩
/-- a box of one kid, its parent written into an own cell -/
theorem one_kid {w W : World} {b0 n c : Nat} {op l : Int} {ks : List T} {a : Option Addr} (hn : n = ks.length) (hx : InX w op l ks a) (hB : Below w.heap.size w W) (hb0 : w.heap.size ≤ b0) (hlt : b0 < W.heap.size) (o p : Int) (ho : B64 o) (hp : B64 p) (u v x : Value) :
    InX ((((W.alloc (.cells #[.int .i64 op, .int .i64 l, .slice a n c] 24)).setCell ⟨b0, 0, none⟩ u).setCell ⟨b0, 1, none⟩ v).setCell ⟨b0, 2, none⟩ x) o p [.node op l ks] (some ⟨W.heap.size, 0, none⟩) ∧
    Below w.heap.size w ((((W.alloc (.cells #[.int .i64 op, .int .i64 l, .slice a n c] 24)).setCell ⟨b0, 0, none⟩ u).setCell ⟨b0, 1, none⟩ v).setCell ⟨b0, 2, none⟩ x) := by
  subst hn
  have hb : Below w.heap.size w ((((W.alloc (.cells #[.int .i64 op, .int .i64 l, .slice a ks.length c] 24)).setCell ⟨b0, 0, none⟩ u).setCell ⟨b0, 1, none⟩ v).setCell ⟨b0, 2, none⟩ x) :=
    (((hB.alloc hB.size _).setCell (p := ⟨b0, 0, none⟩) hb0 u).setCell (p := ⟨b0, 1, none⟩) hb0 v).setCell (p := ⟨b0, 2, none⟩) hb0 x
  have hblk : ((((W.alloc (.cells #[.int .i64 op, .int .i64 l, .slice a ks.length c] 24)).setCell ⟨b0, 0, none⟩ u).setCell ⟨b0, 1, none⟩ v).setCell ⟨b0, 2, none⟩ x).heap[W.heap.size]? = (W.alloc (.cells #[.int .i64 op, .int .i64 l, .slice a ks.length c] 24)).heap[W.heap.size]? := by
    rw [Below.heap_setCell _ _ _ _ (by simp; omega), Below.heap_setCell _ _ _ _ (by simp; omega), Below.heap_setCell _ _ _ _ (by simp; omega)]
  refine ⟨⟨inK_one (op := op) (l := l) (ks := ks) (a := a) (c := c) (by simp [World.setCell]) ?_ ?_ ?_ (hx.keep hb), ho, hp, by simp⟩, hb⟩
  · rw [World.cell?_of_block (w := W.alloc (.cells #[.int .i64 op, .int .i64 l, .slice a ks.length c] 24)) (a := ⟨W.heap.size, 0, none⟩) hblk]; simp [go_sem]
  · rw [World.cell?_of_block (w := W.alloc (.cells #[.int .i64 op, .int .i64 l, .slice a ks.length c] 24)) (a := ⟨W.heap.size, 1, none⟩) hblk]; simp [go_sem]
  · rw [World.cell?_of_block (w := W.alloc (.cells #[.int .i64 op, .int .i64 l, .slice a ks.length c] 24)) (a := ⟨W.heap.size, 2, none⟩) hblk]; simp [go_sem]
set_option maxRecDepth 100000 in
set_option maxHeartbeats 2000000 in
theorem normalStar_any (op l : Int) (ks : List T) (a : Option Addr) (c : Nat) (w : World) (hin : InX w op l ks a) :
    Calls Try.prog 45 #[.agg #[.int .i64 op, .int .i64 l, .slice a ks.length c]] w (GiveT w (starT (.node op l ks))) := by
  have HX0 := Lib.hid (hin.box (.cells #[.int .i64 op, .int .i64 l, .slice a ks.length c] 24))
  have HX1 := Lib.hid (HX0.out.box (.cells #[.int .i64 0, .int .i64 0, .slice none 0 0] 24))
  have BX1 := Lib.hid ((Box.new w (.int .i64 op) (.int .i64 l) (.slice a ks.length c)).alloc (.cells #[.int .i64 0, .int .i64 0, .slice none 0 0] 24))
  have HB1 := Lib.hid (((Below.refl w.heap.size w).alloc (Nat.le_refl _) (.cells #[.int .i64 op, .int .i64 l, .slice a ks.length c] 24)).alloc (by simp) (.cells #[.int .i64 0, .int .i64 0, .slice none 0 0] 24))
  have EQ := Lib.hid (fun W a9 c9 (h1 : InX W op l ks a) (h2 : InX W 8 0 [emptyT] a9) => equalB_any op l ks 8 0 [emptyT] a a9 c c9 W h1 h2)
  by_cases h12 : op = 1 ∨ op = 2
  · have HF := Lib.hid (show starT (.node op l ks) = unitT from if_pos h12)
    obtain ⟨n, hn⟩ : ∃ n, n = ks.length := ⟨_, rfl⟩
    rw [← hn] at HX1 BX1 HB1 ⊢
    clear hn HX0 EQ
    rcases h12 with rfl | rfl
    all_goals
      go_enter Try.func45, Try.ntmps45
      go_wp2_with fail
      refine (unit_any _).mono ?_
      rintro e w2 ⟨rfl, hB⟩
      have HB2 := Lib.hid (HB1.out.trans (hB.mono HB1.out.size))
      obtain ⟨⟨x0, x1, x2⟩, f0, f1, f2⟩ := box2 hB
      clear hB
      go_wp2_with fail
      refine bodyPost_ret (v := .agg #[.int .i64 2, .int .i64 0, .slice none 0 0]) (by simp [results, Try.results45, go_sem, x0, x1, x2]) rfl ⟨none, 0, by rw [HF.out]; rfl, by rw [HF.out]; exact inX_unit _, ?_⟩
      exact ((HB2.out.setCell (by simp) _).setCell (by simp) _).setCell (by simp) _
  · by_cases h7 : op = 7
    · subst h7
      have HF := Lib.hid (show starT (.node 7 l ks) = .node 7 l ks from (if_neg h12).trans (if_pos (.inl rfl)))
      obtain ⟨n, hn⟩ : ∃ n, n = ks.length := ⟨_, rfl⟩
      rw [← hn] at HX1 BX1 HB1 ⊢
      have HN := Lib.hid hn
      clear hn HX0 EQ h12
      have HXK := Lib.hid hin
      clear hin
      go_enter Try.func45, Try.ntmps45
      go_wp2_with fail
      go_quiet (fail)
      rename Nat => nq
      go_wp2_with fail
      have hbf := (((below_drewN HB1.out nq).setCell (p := ⟨w.heap.size + 1, 0, none⟩) (by simp) (.int .i64 7)).setCell (p := ⟨w.heap.size + 1, 1, none⟩) (by simp) (.int .i64 l)).setCell (p := ⟨w.heap.size + 1, 2, none⟩) (by simp) (.slice a n c)
      refine bodyPost_ret (v := .agg #[.int .i64 7, .int .i64 l, .slice a n c]) (by simp [results, Try.results45, go_sem]) rfl ⟨a, c, by rw [HF.out, HN.out]; rfl, ?_, hbf⟩
      rw [HF.out]; exact HXK.out.keep hbf
    · obtain ⟨r, hr⟩ : ∃ r, r = isT (.node op l ks) (.node 8 0 [emptyT]) := ⟨_, rfl⟩
      rw [← hr] at EQ
      obtain ⟨n, hn⟩ : ∃ n, n = ks.length := ⟨_, rfl⟩
      rw [← hn] at HX0 HX1 BX1 HB1 EQ ⊢
      have HN := Lib.hid hn
      have t1 : (op == 1) = false := ne_beq fun e => h12 (.inl e)
      have t2 : (op == 2) = false := ne_beq fun e => h12 (.inr e)
      have t7 : (op == 7) = false := ne_beq h7
      cases r
      · have HF := Lib.hid (show starT (.node op l ks) = .node 7 0 [.node op l ks] from (if_neg h12).trans (if_neg (fun h => h.elim h7 (fun h => by rw [show isT (.node op l ks) allT = false from hr.symm] at h; cases h))))
        clear h12 h7 hr hn HX0
        have HXK := Lib.hid hin
        clear hin
        go_enter Try.func45, Try.ntmps45
        go_wp2_with fail
        go_region_with (first
          | (go_at_call 43; refine (universal_any _).mono ?_; rintro e w9 ⟨a9, c9, rfl, hx9, hb9⟩; obtain ⟨z0, z1, z2⟩ := BX1.out.keep (Below.trans (Below.refl _ _).drew hb9); obtain ⟨⟨y0, y1, y2⟩, u0, u1, u2⟩ := box2 (Below.trans (Below.refl _ _).drew hb9); have HX9 := Lib.hid (HX1.out.keep (Below.trans (Below.refl _ _).drew hb9)); have HB9 := Lib.hid (Below.trans (Below.refl _ _).drew hb9))
          | (go_at_call 52; refine (EQ.out _ a9 c9 ?_ ?_).mono ?_; exact HX9.out; exact hx9; rintro e w10 ⟨rfl, hb10⟩))
        all_goals
          have HC := Lib.hid (HB9.out.trans (hb10.mono (by have := HB9.out.size; simp at this ⊢; exact this)))
          have HC2 := Lib.hid (HB1.out.trans (HC.out.mono (by simp; omega)))
          clear z0 z1 z2 y0 y1 y2 u0 u1 u2
          obtain ⟨z0, z1, z2⟩ := BX1.out.keep HC.out
          have hs10 := HC.out.size
          obtain ⟨⟨y0, y1, y2⟩, u0, u1, u2⟩ := box2 (HC.out.alloc hs10 (.cells #[.int .i64 op, .int .i64 l, .slice a n c] 24))
          simp at hs10
          have HK := Lib.hid (one_kid (b0 := w.heap.size + 1) (c := c) HN.out HXK.out HC2.out (by omega) (by omega) 7 0 (by unfold B64; omega) (by unfold B64; omega) (.int .i64 7) (.int .i64 0) (.slice (some ⟨w10.heap.size, 0, none⟩) 1 1))
          clear hb9 hb10 hx9
          go_wp2_with fail
          refine bodyPost_ret (v := .agg #[.int .i64 7, .int .i64 0, .slice (some ⟨w10.heap.size, 0, none⟩) 1 1]) (by simp [results, Try.results45, go_sem, y0, y1, y2]) rfl ⟨some ⟨w10.heap.size, 0, none⟩, 1, by rw [HF.out]; rfl, by rw [HF.out]; exact HK.out.1, HK.out.2⟩
      · have HF := Lib.hid (show starT (.node op l ks) = .node op l ks from (if_neg h12).trans (if_pos (.inr hr.symm)))
        clear h12 h7 hr hn HX0
        have HXK := Lib.hid hin
        clear hin
        go_enter Try.func45, Try.ntmps45
        go_wp2_with fail
        go_region_with (first
          | (go_at_call 43; refine (universal_any _).mono ?_; rintro e w9 ⟨a9, c9, rfl, hx9, hb9⟩; obtain ⟨z0, z1, z2⟩ := BX1.out.keep (Below.trans (Below.refl _ _).drew hb9); obtain ⟨⟨y0, y1, y2⟩, u0, u1, u2⟩ := box2 (Below.trans (Below.refl _ _).drew hb9); have HX9 := Lib.hid (HX1.out.keep (Below.trans (Below.refl _ _).drew hb9)); have HB9 := Lib.hid (Below.trans (Below.refl _ _).drew hb9))
          | (go_at_call 52; refine (EQ.out _ a9 c9 ?_ ?_).mono ?_; exact HX9.out; exact hx9; rintro e w10 ⟨rfl, hb10⟩))
        all_goals
          have HC := Lib.hid (HB9.out.trans (hb10.mono (by have := HB9.out.size; simp at this ⊢; exact this)))
          have HC2 := Lib.hid (HB1.out.trans (HC.out.mono (by simp; omega)))
          clear z0 z1 z2 y0 y1 y2 u0 u1 u2
          obtain ⟨z0, z1, z2⟩ := BX1.out.keep HC.out
          obtain ⟨⟨y0, y1, y2⟩, u0, u1, u2⟩ := box2 HC.out
          have hs10 := HC.out.size
          simp at hs10
          have hbf := Lib.hid (((HC2.out.setCell (p := ⟨w.heap.size + 1, 0, none⟩) (by simp) (.int .i64 op)).setCell (p := ⟨w.heap.size + 1, 1, none⟩) (by simp) (.int .i64 l)).setCell (p := ⟨w.heap.size + 1, 2, none⟩) (by simp) (.slice a n c))
          clear hb9 hb10 hx9
          go_wp2_with fail
          refine bodyPost_ret (v := .agg #[.int .i64 op, .int .i64 l, .slice a n c]) (by simp [results, Try.results45, go_sem, y0, y1, y2]) rfl ⟨a, c, by rw [HF.out, HN.out]; rfl, by rw [HF.out]; exact HXK.out.keep hbf.out, hbf.out⟩
end Go.Proofs.Ythmdndondlffeaa
