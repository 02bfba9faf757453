/- Contracts: letter, concat. -/
import Derived.Test.YtdoifdpmgmlpdaaNfaE
import Derived.Laws.AppendOwn
namespace Go.Proofs.Ytdoifdpmgmlpdaa
open Go Go.RowKit
open Go.Proofs.Ytdoifdpmgmlpdaa.rel (mem mem_len u_or or_u cell_new)
set_option linter.unusedVariables false
theorem infoU : (Try.prog.info? 22).map (fun i => (i.zero, i.size, i.bytes)) = some (some (.int .u64 0), 1, 8) := by kernel_rfl
/-- a part as a value -/
def partV (p : Part) : Value := .agg #[.int .u64 (p.fi : Nat), .int .u64 (p.la : Nat), .bool p.nu]
theorem PosW.app {w w1 w2 : World} {B bp gN cN gF cF : Nat} {s : PS} (h : PosW w B bp gN cN gF cF s) {o : Obj} {g cap : Nat} (hw : w1 = w.alloc o)
    (hr : w2.ownsRow B 22 1 (.slice (some ⟨g, 0, none⟩) (s.F.length + 1) cap) (s.F.length + 1) (rowW s.F ++ [.int .u64 0])) (hg : w1.grownBy w2 (some gF)) (hat : some gF = some g ∨ g = w1.heap.size) :
    PosW (w2.setCell ⟨bp, 1, none⟩ (.slice (some ⟨g, 0, none⟩) (s.F.length + 1) cap)) B bp gN cN g cap ⟨s.N, s.F ++ [0]⟩ := by
  subst hw
  have h1 := h.alloc o
  have hgN := h1.gNlt
  have hgF := h1.gFlt
  have hgb : g ≠ bp := by
    rcases hat with e | e
    · injection e with e; rw [← e]; exact h.n2
    · rw [e]; have := h1.bl.2; omega
  have hgN2 : gN ≠ g := by
    rcases hat with e | e
    · injection e with e; rw [← e]; exact h.n3
    · rw [e]; omega
  have g2 := grown_cell w2 ⟨bp, 1, none⟩ (.slice (some ⟨g, 0, none⟩) (s.F.length + 1) cap)
  have hbs : bp < w2.heap.size := Nat.lt_of_lt_of_le h1.bl.2 hg.size
  have cf2 : w2.cell? ⟨bp, 1, none⟩ = some (.slice (some ⟨gF, 0, none⟩) s.F.length cF) := hg.cell h1.cf (fun e => h.n2 (by injection e with e; exact e.symm))
  have cn2 : w2.cell? ⟨bp, 0, none⟩ = some (.slice (some ⟨gN, 0, none⟩) s.N.length cN) := hg.cell h1.cn (fun e => h.n2 (by injection e with e; exact e.symm))
  have fz2 : w2.frozen? ⟨bp, 1, none⟩ = false := by rw [hg.frozen_far _ h1.bl.2 (fun e => h.n2 (by injection e with e; exact e.symm))]; exact h1.fz
  have rn2 := h1.rn.kept hg (.inr (fun e => h.n3 (by injection e)))
  have e : (s.F ++ [0]).length = s.F.length + 1 := by simp
  refine ⟨?_, ?_, rn2.kept g2 (.inr (fun e => h.n1 (by injection e))), ?_, ?_, ⟨h.bl.1, by simpa [World.setCell] using hbs⟩, h.n1, hgb, hgN2⟩
  · rw [World.cell?_setCell_other _ _ _ _ (by simp)]; exact cn2
  · dsimp only; rw [e]; exact World.cell?_setCell_same _ _ _ cf2
  · have := hr.kept g2 (.inr (fun e => hgb (by injection e)))
    dsimp only
    rw [e, show rowW (s.F ++ [0]) = rowW s.F ++ [.int .u64 0] from by simp [rowW]]
    exact this
  · rw [World.frozen?_setCell]; exact fz2
/-- three stores into a block of the call's own leave it -/
theorem PosW.box3 {w : World} {B bp gN cN gF cF : Nat} {s : PS} (h : PosW w B bp gN cN gF cF s) {b : Nat} {x y z : Value} (h1 : b ≠ bp) (h2 : b ≠ gN) (h3 : b ≠ gF) : PosW (((w.setCell ⟨b, 0, none⟩ x).setCell ⟨b, 1, none⟩ y).setCell ⟨b, 2, none⟩ z) B bp gN cN gF cF s :=
  ((h.far h1 h2 h3).far h1 h2 h3).far h1 h2 h3
set_option maxRecDepth 100000 in
set_option maxHeartbeats 2000000 in
/-- letter -/
theorem letter_any (B bp gN cN gF cF : Nat) (s : PS) (l : Nat) (w : World) (hpw : PosW w B bp gN cN gF cF s) (hok : OkS s) (h64 : s.F.length < 64) (hl : l < s.N.length) (hl6 : s.N.length ≤ 6) :
    Calls Try.prog 72 #[.pointer (some ⟨bp, 0, none⟩), .int .i64 l] w (PosE w B bp gN cN gF (letS s l) (partV ⟨2 ^ s.F.length, 2 ^ s.F.length, false⟩)) := by
  obtain ⟨i0, hi0, hz0, hz1, hz2⟩ := info_parts infoU
  have HP := Lib.hid (hpw.alloc (.cells #[.int .u64 0, .int .u64 0, .bool false] 73))
  have HB0 := Lib.hid ((KeepP.refl w bp gN gF).alloc (.cells #[.int .u64 0, .int .u64 0, .bool false] 73))
  have HQ := Lib.hid (show bp < w.heap.size ∧ gN < w.heap.size ∧ gF < w.heap.size ∧ B ≤ w.heap.size from ⟨hpw.bl.2, hpw.gNlt.2, hpw.gFlt.2, Nat.le_trans hpw.bl.1 (Nat.le_of_lt hpw.bl.2)⟩)
  have hcn := HP.out.cn
  have hcf := HP.out.cf
  have hcl := HP.out.cellN hl
  have hfl := World.ownsRow.frozenAt HP.out.rn l
  have hsh := rel.shl_u (j := s.F.length) h64
  have hpu := rel.pow_lt64 (j := s.F.length) h64
  have hnu : s.N.getD l 0 < 18446744073709551616 := Nat.lt_of_lt_of_le (getD_lt' hok.1) (Nat.le_trans (pow_le (Nat.le_of_lt h64)) (by decide))
  have hor := u_or hnu hpu
  have HX := Lib.hid (show letS s l = ⟨s.N.set l (s.N.getD l 0 ||| 2 ^ s.F.length), s.F ++ [0]⟩ from rfl)
  obtain ⟨N, F⟩ := s
  dsimp only at *
  obtain ⟨p, hpp⟩ : ∃ p, p = 2 ^ F.length := ⟨_, rfl⟩
  obtain ⟨z, hz⟩ : ∃ z, z = N.getD l 0 := ⟨_, rfl⟩
  rw [← hpp] at hsh hpu hor HX
  rw [← hpp]
  rw [← hz] at hcl hor hnu HX
  obtain ⟨q, hq⟩ : ∃ q, q = z ||| p := ⟨_, rfl⟩
  rw [← hq] at hor HX
  obtain ⟨m, hm⟩ : ∃ m, m = F.length := ⟨_, rfl⟩
  obtain ⟨n, hn⟩ : ∃ n, n = N.length := ⟨_, rfl⟩
  have HM := Lib.hid hm
  rw [← hm] at hcf hsh h64
  rw [← hn] at hcn hl hl6
  have hl0 : (0 : Int) ≤ (l : Int) := by omega
  have hln : (l : Int) < (n : Int) := by omega
  have hwl : IntKind.i64.wrap (l : Int) = (l : Int) := IntWalk.i64_in _ (by omega)
  have HP2 := Lib.hid (HP.out.setN l q)
  dsimp only at HP2
  have hcf2 := HP2.out.cf
  have HR := Lib.hid HP2.out.rf
  dsimp only at hcf2 HR
  rw [← HM.out] at hcf2 HR
  clear hpw hok hpp hz hq hm hn
  go_enter Try.func72, Try.ntmps72
  go_wp2_with (at_builtin; refine wpList_append_lies _ rfl _ _ 58 rfl B 22 i0 (.int .u64 0) 1 8 Try.underlying58 hi0 hz0 hz1 hz2 rfl (by decide) _ m _ rfl (HR.out.alloc _) _ 1 1 [.int .u64 0] rfl rfl (by simpa using cell_new ((w.alloc (.cells #[.int .u64 0, .int .u64 0, .bool false] 73)).setCell ⟨gN, l, none⟩ (.int .u64 q)) (.int .u64 0) 22) ?c2 (by omega) ?c3 ?c4 ?c5 _ rfl ?_)
  case c2 => simp [Value.oneCell']
  case c3 => unfold maxLen; omega
  case c4 => omega
  case c5 => have := HQ.out; simp; omega
  intro g cap w2 hown hg hat hlt
  have hgg : gF = g ∨ g = w.heap.size + 1 + 1 := by
    rcases hat with e | e
    · exact .inl (by injection e)
    · exact .inr e
  have blk : (w2.setCell ⟨bp, 1, none⟩ (.slice (some ⟨g, 0, none⟩) (m + 1) cap)).heap[w.heap.size]? = (w.alloc (.cells #[.int .u64 0, .int .u64 0, .bool false] 73)).heap[w.heap.size]? := by
    have := HQ.out
    rw [Below.heap_setCell _ _ _ _ (by dsimp only; omega), hg.block _ (by simp; omega) (by simp [Value.ownBlock]; omega), Below.heap_alloc _ _ _ (by simp), Below.heap_setCell _ _ _ _ (by dsimp only; omega)]
  have HW := Lib.hid (HP2.out.app (w1 := ((w.alloc (.cells #[.int .u64 0, .int .u64 0, .bool false] 73)).setCell ⟨gN, l, none⟩ (.int .u64 q)).alloc (.cells #[.int .u64 0] 22)) (o := .cells #[.int .u64 0] 22) (g := g) (cap := cap) (w2 := w2) rfl (by rw [← HM.out]; exact hown) hg (by
    rcases hgg with e | e
    · exact .inl (by rw [e])
    · exact .inr (by rw [e]; simp)))
  dsimp only at HW
  rw [← HM.out] at HW
  have HBB := Lib.hid ((((HB0.out.set (p := ⟨gN, l, none⟩) (.inr (.inl rfl)) (.int .u64 q)).alloc (.cells #[.int .u64 0] 22)).grown hg (by intro k hk; simp [Value.ownBlock] at hk; omega)).set (p := ⟨bp, 1, none⟩) (.inl rfl) (.slice (some ⟨g, 0, none⟩) (m + 1) cap))
  have c1 : w2.cell? ⟨bp, 1, none⟩ = some (.slice (some ⟨gF, 0, none⟩) m cF) := by
    have := HP2.out.n2
    exact hg.cell (((HP2.out.alloc _).cf).trans (by dsimp only; rw [← HM.out])) (fun e => this (by simp [Value.ownBlock] at e; exact e.symm))
  have f1 : w2.frozen? ⟨bp, 1, none⟩ = false := by
    have := HP2.out.n2
    rw [hg.frozen_far _ (HP2.out.alloc _).bl.2 (fun e => this (by simp [Value.ownBlock] at e; exact e.symm))]; exact (HP2.out.alloc _).fz
  have x0 : (w2.setCell ⟨bp, 1, none⟩ (.slice (some ⟨g, 0, none⟩) (m + 1) cap)).cell? ⟨w.heap.size, 0, none⟩ = some (.int .u64 0) := by rw [World.cell?_of_block (w := w.alloc (.cells #[.int .u64 0, .int .u64 0, .bool false] 73)) blk]; simp [go_sem]
  have x1 : (w2.setCell ⟨bp, 1, none⟩ (.slice (some ⟨g, 0, none⟩) (m + 1) cap)).cell? ⟨w.heap.size, 1, none⟩ = some (.int .u64 0) := by rw [World.cell?_of_block (w := w.alloc (.cells #[.int .u64 0, .int .u64 0, .bool false] 73)) blk]; simp [go_sem]
  have x2 : (w2.setCell ⟨bp, 1, none⟩ (.slice (some ⟨g, 0, none⟩) (m + 1) cap)).cell? ⟨w.heap.size, 2, none⟩ = some (.bool false) := by rw [World.cell?_of_block (w := w.alloc (.cells #[.int .u64 0, .int .u64 0, .bool false] 73)) blk]; simp [go_sem]
  have y0 : (w2.setCell ⟨bp, 1, none⟩ (.slice (some ⟨g, 0, none⟩) (m + 1) cap)).frozen? ⟨w.heap.size, 0, none⟩ = false := by rw [World.frozen?_of_block (w := w.alloc (.cells #[.int .u64 0, .int .u64 0, .bool false] 73)) blk]; simp [go_sem]
  have y1 : (w2.setCell ⟨bp, 1, none⟩ (.slice (some ⟨g, 0, none⟩) (m + 1) cap)).frozen? ⟨w.heap.size, 1, none⟩ = false := by rw [World.frozen?_of_block (w := w.alloc (.cells #[.int .u64 0, .int .u64 0, .bool false] 73)) blk]; simp [go_sem]
  have y2 : (w2.setCell ⟨bp, 1, none⟩ (.slice (some ⟨g, 0, none⟩) (m + 1) cap)).frozen? ⟨w.heap.size, 2, none⟩ = false := by rw [World.frozen?_of_block (w := w.alloc (.cells #[.int .u64 0, .int .u64 0, .bool false] 73)) blk]; simp [go_sem]
  clear hown hat hlt blk hg
  go_wp2_with fail
  refine bodyPost_ret (v := .agg #[.int .u64 p, .int .u64 p, .bool false]) (by simp [results, Try.results72, go_sem, x0, x1, x2]) rfl ?_
  have := HQ.out
  refine ⟨rfl, ((HBB.out.set (.inr (.inr (.inr (Nat.le_refl _)))) _).set (.inr (.inr (.inr (Nat.le_refl _)))) _).set (.inr (.inr (.inr (Nat.le_refl _)))) _, g, cap, ?_, by omega⟩
  rw [HX.out]
  exact HW.out.box3 (by omega) (by omega) (by omega)
end Go.Proofs.Ytdoifdpmgmlpdaa
