/- Contract: concat. -/
import Derived.Test.YtdoifdpmgmlpdaaNfaF
namespace Go.Proofs.Ytdoifdpmgmlpdaa
open Go Go.RowKit
open Go.Proofs.Ytdoifdpmgmlpdaa.rel (mem mem_len u_or or_u)
set_option linter.unusedVariables false
theorem OkP.u {s : PS} {p : Part} (h : OkP s p) (h64 : s.F.length ≤ 64) : p.fi < 18446744073709551616 ∧ p.la < 18446744073709551616 :=
  ⟨Nat.lt_of_lt_of_le h.1 (Nat.le_trans (pow_le h64) (by decide)), Nat.lt_of_lt_of_le h.2 (Nat.le_trans (pow_le h64) (by decide))⟩
/-- a box of three cells made in w, later -/
theorem tri_later {v : World} {bp gN gF t : Nat} {x y z : Value} {b : Nat} {o : Obj} {w1 : World} (ho : o = .cells #[x, y, z] t) (hw : w1.heap[b]? = some o) (hb : b < w1.heap.size) (hk : KeepP w1 v bp gN gF) (h1 : b ≠ bp) (h2 : b ≠ gN) (h3 : b ≠ gF) :
    v.heap[b]? = some (.cells #[x, y, z] t) := by rw [hk.block b hb h1 h2 h3, hw, ho]
theorem cells_of {v : World} {b t : Nat} {x y z : Value} (h : v.heap[b]? = some (.cells #[x, y, z] t)) :
    (v.cell? ⟨b, 0, none⟩ = some x ∧ v.cell? ⟨b, 1, none⟩ = some y ∧ v.cell? ⟨b, 2, none⟩ = some z) ∧ (v.frozen? ⟨b, 0, none⟩ = false ∧ v.frozen? ⟨b, 1, none⟩ = false ∧ v.frozen? ⟨b, 2, none⟩ = false) := by
  simp [World.cell?, World.frozen?, h]
theorem heap_new (w : World) (o : Obj) : (w.alloc o).heap[w.heap.size]? = some o := by
  show (w.heap.push o)[w.heap.size]? = some o
  simp
theorem heap_old {w : World} {o o' : Obj} {b : Nat} (h : w.heap[b]? = some o) : (w.alloc o').heap[b]? = some o := by
  have hb : b < w.heap.size := by
    apply Nat.lt_of_not_le; intro hle; rw [Array.getElem?_eq_none hle] at h; cases h
  rw [Below.heap_alloc _ _ _ hb]; exact h
set_option maxRecDepth 100000 in
set_option maxHeartbeats 4000000 in
/-- concat -/
theorem concat_any (B bp gN cN gF cF : Nat) (s : PS) (p q : Part) (w : World) (hpw : PosW w B bp gN cN gF cF s) (hok : OkS s) (h64 : s.F.length ≤ 64) (hp : OkP s p) (hq : OkP s q) :
    Calls Try.prog 53 #[.pointer (some ⟨bp, 0, none⟩), partV p, partV q] w (PosE w B bp gN cN gF (conS s p.la q.fi) (partV (catP p q))) := by
  obtain ⟨xf, xl, xn⟩ := p
  obtain ⟨yf, yl, yn⟩ := q
  have hpu := hp.u h64
  have hqu := hq.u h64
  have HP := Lib.hid (((hpw.alloc (.cells #[.int .u64 xf, .int .u64 xl, .bool xn] 73)).alloc (.cells #[.int .u64 yf, .int .u64 yl, .bool yn] 73)).alloc (.cells #[.int .u64 0, .int .u64 0, .bool false] 73))
  have HK := Lib.hid ((((KeepP.refl w bp gN gF).alloc (.cells #[.int .u64 xf, .int .u64 xl, .bool xn] 73)).alloc (.cells #[.int .u64 yf, .int .u64 yl, .bool yn] 73)).alloc (.cells #[.int .u64 0, .int .u64 0, .bool false] 73))
  have HC := Lib.hid (fun W h => connect_any B bp gN cN gF cF s xl yf W h h64 hok.2 hp.2 hq.1)
  have HQ := Lib.hid (show bp < w.heap.size ∧ gN < w.heap.size ∧ gF < w.heap.size from ⟨hpw.bl.2, hpw.gNlt.2, hpw.gFlt.2⟩)
  have hx : (((w.alloc (.cells #[.int .u64 xf, .int .u64 xl, .bool xn] 73)).alloc (.cells #[.int .u64 yf, .int .u64 yl, .bool yn] 73)).alloc (.cells #[.int .u64 0, .int .u64 0, .bool false] 73)).heap[w.heap.size]? = some (.cells #[.int .u64 xf, .int .u64 xl, .bool xn] 73) := heap_old (heap_old (heap_new _ _))
  have hy : (((w.alloc (.cells #[.int .u64 xf, .int .u64 xl, .bool xn] 73)).alloc (.cells #[.int .u64 yf, .int .u64 yl, .bool yn] 73)).alloc (.cells #[.int .u64 0, .int .u64 0, .bool false] 73)).heap[w.heap.size + 1]? = some (.cells #[.int .u64 yf, .int .u64 yl, .bool yn] 73) := by
    have := heap_old (o' := .cells #[.int .u64 0, .int .u64 0, .bool false] 73) (heap_new (w.alloc (.cells #[.int .u64 xf, .int .u64 xl, .bool xn] 73)) (.cells #[.int .u64 yf, .int .u64 yl, .bool yn] 73))
    simpa using this
  have hr : (((w.alloc (.cells #[.int .u64 xf, .int .u64 xl, .bool xn] 73)).alloc (.cells #[.int .u64 yf, .int .u64 yl, .bool yn] 73)).alloc (.cells #[.int .u64 0, .int .u64 0, .bool false] 73)).heap[w.heap.size + 2]? = some (.cells #[.int .u64 0, .int .u64 0, .bool false] 73) := by
    have := heap_new ((w.alloc (.cells #[.int .u64 xf, .int .u64 xl, .bool xn] 73)).alloc (.cells #[.int .u64 yf, .int .u64 yl, .bool yn] 73)) (.cells #[.int .u64 0, .int .u64 0, .bool false] 73)
    simpa using this
  have hsz : (((w.alloc (.cells #[.int .u64 xf, .int .u64 xl, .bool xn] 73)).alloc (.cells #[.int .u64 yf, .int .u64 yl, .bool yn] 73)).alloc (.cells #[.int .u64 0, .int .u64 0, .bool false] 73)).heap.size = w.heap.size + 3 := by simp
  have HX := Lib.hid hx
  have HY := Lib.hid hy
  have HR := Lib.hid hr
  have HSZ := Lib.hid hsz
  have ho1 := u_or hpu.1 hqu.1
  have ho2 := u_or hqu.2 hpu.2
  have HCAT := Lib.hid (show catP ⟨xf, xl, xn⟩ ⟨yf, yl, yn⟩ = ⟨if xn then xf ||| yf else xf, if yn then yl ||| xl else yl, xn && yn⟩ from rfl)
  dsimp only at hpu hqu ho1 ho2
  obtain ⟨o1, e1⟩ : ∃ o, o = xf ||| yf := ⟨_, rfl⟩
  obtain ⟨o2, e2⟩ : ∃ o, o = yl ||| xl := ⟨_, rfl⟩
  rw [← e1] at ho1 HCAT
  rw [← e2] at ho2 HCAT
  clear e1 e2 hpw hok hp hq h64 hx hy hr hsz hpu hqu
  unfold partV
  go_enter Try.func53, Try.ntmps53
  go_wp2_with fail
  refine (HC.out _ HP.out).mono ?_
  rintro e v ⟨rfl, hk, gF', cF', hpv, hg⟩
  have HKV := Lib.hid (HK.out.trans hk (.inl rfl))
  have HPV := Lib.hid hpv
  have hvs : w.heap.size + 3 ≤ v.heap.size := by have := hk.size; rw [HSZ.out] at this; exact this
  have hg' : gF' = gF ∨ w.heap.size + 3 ≤ gF' := by rcases hg with h | h; exact .inl h; rw [HSZ.out] at h; exact .inr h
  have HG := Lib.hid hg'
  have HVS := Lib.hid hvs
  have hq3 := HQ.out
  have hx := tri_later rfl HX.out (by rw [HSZ.out]; omega) hk (by omega) (by omega) (by omega)
  have hy := tri_later rfl HY.out (by rw [HSZ.out]; omega) hk (by omega) (by omega) (by omega)
  have hr := tri_later rfl HR.out (by rw [HSZ.out]; omega) hk (by omega) (by omega) (by omega)
  obtain ⟨⟨x0, x1, x2⟩, _⟩ := cells_of hx
  obtain ⟨⟨y0, y1, y2⟩, _⟩ := cells_of hy
  have X0 : ∀ o, (v.alloc o).cell? ⟨w.heap.size, 0, none⟩ = _ := fun o => (cells_of (heap_old hx)).1.1
  have X1 : ∀ o, (v.alloc o).cell? ⟨w.heap.size, 1, none⟩ = _ := fun o => (cells_of (heap_old hx)).1.2.1
  have X2 : ∀ o, (v.alloc o).cell? ⟨w.heap.size, 2, none⟩ = _ := fun o => (cells_of (heap_old hx)).1.2.2
  have Y0 : ∀ o, (v.alloc o).cell? ⟨w.heap.size + 1, 0, none⟩ = _ := fun o => (cells_of (heap_old hy)).1.1
  have Y1 : ∀ o, (v.alloc o).cell? ⟨w.heap.size + 1, 1, none⟩ = _ := fun o => (cells_of (heap_old hy)).1.2.1
  have Y2 : ∀ o, (v.alloc o).cell? ⟨w.heap.size + 1, 2, none⟩ = _ := fun o => (cells_of (heap_old hy)).1.2.2
  have R0 : ∀ o, (v.alloc o).cell? ⟨w.heap.size + 2, 0, none⟩ = _ := fun o => (cells_of (heap_old hr)).1.1
  have R1 : ∀ o, (v.alloc o).cell? ⟨w.heap.size + 2, 1, none⟩ = _ := fun o => (cells_of (heap_old hr)).1.2.1
  have R2 : ∀ o, (v.alloc o).cell? ⟨w.heap.size + 2, 2, none⟩ = _ := fun o => (cells_of (heap_old hr)).1.2.2
  have Z0 : ∀ o, (v.alloc o).frozen? ⟨w.heap.size + 2, 0, none⟩ = _ := fun o => (cells_of (heap_old hr)).2.1
  have Z1 : ∀ o, (v.alloc o).frozen? ⟨w.heap.size + 2, 1, none⟩ = _ := fun o => (cells_of (heap_old hr)).2.2.1
  have Z2 : ∀ o, (v.alloc o).frozen? ⟨w.heap.size + 2, 2, none⟩ = _ := fun o => (cells_of (heap_old hr)).2.2.2
  clear hk hpv hg hvs hg' hx hy hr hq3
  cases xn
  · cases yn
    · go_wp2_with fail
      refine bodyPost_ret (v := .agg #[.int .u64 xf, .int .u64 yl, .bool false]) (by simp [results, Try.results53, go_sem, R0, R1, R2]) rfl ?_
      have h1 := HQ.out
      have h2 := HG.out
      have h3 := HVS.out
      refine ⟨by rw [HCAT.out]; rfl, (((HKV.out.alloc _).set (.inr (.inr (.inr (by simp; omega)))) _).set (.inr (.inr (.inr (by simp; omega)))) _).set (.inr (.inr (.inr (by simp; omega)))) _, gF', cF', ?_, by omega⟩
      exact (HPV.out.alloc _).box3 (by omega) (by omega) (by omega)
    · go_wp2_with fail
      refine bodyPost_ret (v := .agg #[.int .u64 xf, .int .u64 o2, .bool false]) (by simp [results, Try.results53, go_sem, R0, R1, R2]) rfl ?_
      have h1 := HQ.out
      have h2 := HG.out
      have h3 := HVS.out
      refine ⟨by rw [HCAT.out]; rfl, (((HKV.out.alloc _).set (.inr (.inr (.inr (by simp; omega)))) _).set (.inr (.inr (.inr (by simp; omega)))) _).set (.inr (.inr (.inr (by simp; omega)))) _, gF', cF', ?_, by omega⟩
      exact (HPV.out.alloc _).box3 (by omega) (by omega) (by omega)
  · cases yn
    · go_wp2_with fail
      refine bodyPost_ret (v := .agg #[.int .u64 o1, .int .u64 yl, .bool false]) (by simp [results, Try.results53, go_sem, R0, R1, R2]) rfl ?_
      have h1 := HQ.out
      have h2 := HG.out
      have h3 := HVS.out
      refine ⟨by rw [HCAT.out]; rfl, (((HKV.out.alloc _).set (.inr (.inr (.inr (by simp; omega)))) _).set (.inr (.inr (.inr (by simp; omega)))) _).set (.inr (.inr (.inr (by simp; omega)))) _, gF', cF', ?_, by omega⟩
      exact (HPV.out.alloc _).box3 (by omega) (by omega) (by omega)
    · go_wp2_with fail
      refine bodyPost_ret (v := .agg #[.int .u64 o1, .int .u64 o2, .bool true]) (by simp [results, Try.results53, go_sem, R0, R1, R2]) rfl ?_
      have h1 := HQ.out
      have h2 := HG.out
      have h3 := HVS.out
      refine ⟨by rw [HCAT.out]; rfl, (((HKV.out.alloc _).set (.inr (.inr (.inr (by simp; omega)))) _).set (.inr (.inr (.inr (by simp; omega)))) _).set (.inr (.inr (.inr (by simp; omega)))) _, gF', cF', ?_, by omega⟩
      exact (HPV.out.alloc _).box3 (by omega) (by omega) (by omega)
end Go.Proofs.Ytdoifdpmgmlpdaa
