/- Contract: Position. -/
import Derived.Test.YtdoifdpmgmlpdaaNfaJ
import Derived.Test.YtdoifdpmgmlpdaaNfaK
import Derived.Test.YtdoifdpmgmlpdaaNfaN
import Derived.Deep.RegionLaw
import Derived.Deep.RegionWith
namespace Go.Proofs.Ytdoifdpmgmlpdaa
open Go Go.RowKit
set_option linter.unusedVariables false
/-- make, at a step of a region that draws -/
theorem step_make {P : Program} {ops : Array Oper} {o : Oper} {a : Act} {w : World} {K : Act → World → Prop} {Q : Exit → Act → World → Prop} {E : Prop} (hgd : o.guard = none) (l c : Operand) (t : TypeId) (hop : o.op = Op.makeSlice t l c)
    (e : TypeId) (i : TypeInfo) (z : Value) (h1 : P.underlying t = some (.slice e)) (h2 : P.info? e = some i) (h3 : i.zero = some z) (h4 : i.size = 1) (hz : z.cells = #[z]) (kl kc : IntKind) (n m : Nat) (hl : a.eval l = .int kl (n : Int)) (hc : a.eval c = .int kc (m : Int)) (hnm : n ≤ m) (b2 : i.bytes * m ≤ 281474976710656) (b3 : m ≤ 9223372036854775807)
    (h : K (a.put o.dst (.slice (some ⟨w.heap.size, 0, none⟩) n m)) (w.alloc (.cells (madeCells #[z] m) e))) :
    if Region.wanted o (yielded ops a.tmps) = true then Oper.wp P o a w K Q else E := by
  have hw : Region.wanted o (yielded ops a.tmps) = true := by simp [Region.wanted, hgd]
  rw [if_pos hw]
  have hb' : (i.bytes : Int) * (m : Int) ≤ 281474976710656 := by
    have h : ((i.bytes * m : Nat) : Int) ≤ 281474976710656 := by omega
    rwa [Int.natCast_mul] at h
  have hrun := run_make (P := P) w t e i z h1 h2 h3 kl kc n m (by omega) (by omega) hb' (by omega)
  simp only [Int.toNat_natCast, h4, Nat.mul_one, hz] at hrun
  unfold Oper.wp
  simp [execOp, hop, hl, hc, hrun, Result.andThen]
  exact h
theorem own_made {w : World} {B g n m : Nat} (hB : B ≤ g) (h : w.heap[g]? = some (.cells (madeCells #[.int .u64 0] m) 22 (0, 0))) (hn : n ≤ m) (hm : m ≤ 64) : w.ownsRow B 22 1 (.slice (some ⟨g, 0, none⟩) n m) n (rowW (List.replicate n 0)) := by
  refine ⟨by simp [rowW], .inr ⟨g, m, _, rfl, hB, h, hn, by unfold maxLen; omega, by simp [madeCells], ?_⟩⟩
  rw [toList_madeCells_one, List.take_replicate, Nat.mul_one, Nat.min_eq_left hn]
  simp [rowW]
theorem cells2_of {v : World} {b t : Nat} {x y : Value} (h : v.heap[b]? = some (.cells #[x, y] t)) : v.cell? ⟨b, 0, none⟩ = some x ∧ v.cell? ⟨b, 1, none⟩ = some y ∧ v.frozen? ⟨b, 1, none⟩ = false := by
  simp [World.cell?, World.frozen?, h]
/-- the letter nodes, just made, in either order -/
theorem PosW.new {v U : World} {L S gN gF : Nat} (hU : U.heap[v.heap.size + 2]? = some (.cells #[.slice (some ⟨gN, 0, none⟩) L L, .slice (some ⟨gF, 0, none⟩) 1 S] 71))
    (hN : U.heap[gN]? = some (.cells (madeCells #[.int .u64 0] L) 22 (0, 0))) (hF : U.heap[gF]? = some (.cells (madeCells #[.int .u64 0] S) 22 (0, 0)))
    (h1 : v.heap.size ≤ gN ∧ v.heap.size ≤ gF) (h2 : gN < v.heap.size + 2 ∧ gF < v.heap.size + 2) (h3 : gN ≠ gF) (hL : L ≤ 6) (hS : 1 ≤ S ∧ S ≤ 64) : PosW U v.heap.size (v.heap.size + 2) gN L gF S (posS0 L) := by
  obtain ⟨c0, c1, f1⟩ := cells2_of hU
  refine ⟨?_, ?_, ?_, ?_, f1, ⟨by omega, ?_⟩, by omega, by omega, h3⟩
  · simp only [posS0, List.length_replicate]; exact c0
  · simp only [posS0, List.length_singleton]; exact c1
  · simp only [posS0, List.length_replicate]; exact own_made h1.1 hN (Nat.le_refl _) (by omega)
  · simp only [posS0, List.length_singleton]
    exact own_made (n := 1) h1.2 hF hS.1 hS.2
  · apply Nat.lt_of_not_le; intro hle; rw [Array.getElem?_eq_none hle] at hU; cases hU
def zeroN : Value := .agg #[.int .i64 0, .int .i64 0, .int .u64 0, .int .u64 0, .slice none 0 0]
set_option maxRecDepth 100000 in
set_option maxHeartbeats 4000000 in
theorem position_err (op l : Int) (ks : List T) (L : Int) (a : Option Addr) (c : Nat) (w : World) (hin : InX w op l ks a) (he : errP (.node op l ks) L ≠ 0) :
    Calls Try.prog 33 #[.agg #[.int .i64 op, .int .i64 l, .slice a ks.length c], .int .i64 L] w fun e w' => e = .returned (.tuple #[zeroN, .int .i64 (errP (.node op l ks) L)]) ∧ Below w.heap.size w w' := by
  have HQ := Lib.hid (fun W (h : InX W op l ks a) => validateP_any op l ks L a c W h)
  have HI := Lib.hid hin
  obtain ⟨n, hn⟩ : ∃ n, n = ks.length := ⟨_, rfl⟩
  obtain ⟨r, hr⟩ : ∃ r, r = errP (.node op l ks) L := ⟨_, rfl⟩
  rw [← hr] at HQ he ⊢
  rw [← hn] at HQ ⊢
  have HI0 := Lib.hid ((HI.out.box (.cells #[.int .i64 op, .int .i64 l, .slice a n c] 49)).box (.cells #[.int .i64 0, .int .i64 0, .int .u64 0, .int .u64 0, .slice none 0 0] 25))
  have HB0 := Lib.hid (((Below.refl w.heap.size w).alloc (Nat.le_refl _) (.cells #[.int .i64 op, .int .i64 l, .slice a n c] 49)).alloc (by simp) (.cells #[.int .i64 0, .int .i64 0, .int .u64 0, .int .u64 0, .slice none 0 0] 25))
  have hr2 : ((w.alloc (.cells #[.int .i64 op, .int .i64 l, .slice a n c] 49)).alloc (.cells #[.int .i64 0, .int .i64 0, .int .u64 0, .int .u64 0, .slice none 0 0] 25)).heap[w.heap.size + 1]? = some (.cells #[.int .i64 0, .int .i64 0, .int .u64 0, .int .u64 0, .slice none 0 0] 25) := by
    have := heap_new (w.alloc (.cells #[.int .i64 op, .int .i64 l, .slice a n c] 49)) (.cells #[.int .i64 0, .int .i64 0, .int .u64 0, .int .u64 0, .slice none 0 0] 25)
    simpa using this
  have HR2 := Lib.hid hr2
  have x0 := (cells_of (heap_old (o' := .cells #[.int .i64 0, .int .i64 0, .int .u64 0, .int .u64 0, .slice none 0 0] 25) (heap_new w (.cells #[.int .i64 op, .int .i64 l, .slice a n c] 49)))).1
  obtain ⟨x0, x1, x2⟩ := x0
  have t0 : (r != 0) = true := by simpa using he
  clear hin hn hr he hr2
  go_enter Try.func33, Try.ntmps33
  go_wp2_with fail
  refine (HQ.out _ HI0.out).mono ?_
  rintro e v ⟨rfl, hB⟩
  have HB1 := Lib.hid (HB0.out.trans (hB.mono (by simp; omega)))
  obtain ⟨⟨r0, r1, r2, r3, r4⟩, z0, z1, z2, z3, z4⟩ := cells5_of ((hB.block (w.heap.size + 1) (by simp)).trans HR2.out)
  clear hB
  go_wp2_with fail
  refine bodyPost_ret (v := .tuple #[zeroN, .int .i64 r]) (by simp [zeroN, results, Try.results33, go_sem, r0, r1, r2, r3, r4]) rfl ⟨rfl, ?_⟩
  exact ((((HB1.out.setCell (by simp) _).setCell (by simp) _).setCell (by simp) _).setCell (by simp) _).setCell (by simp) _
set_option maxRecDepth 100000 in
set_option maxHeartbeats 4000000 in
theorem position_lim (op l : Int) (ks : List T) (L : Int) (a : Option Addr) (c : Nat) (w : World) (hin : InX w op l ks a) (he : errP (.node op l ks) L = 0) (hsz : sizeT (.node op l ks) ≤ 400) (hlim : 64 < 1 + letT (.node op l ks)) :
    Calls Try.prog 33 #[.agg #[.int .i64 op, .int .i64 l, .slice a ks.length c], .int .i64 L] w fun e w' => e = .returned (.tuple #[zeroN, .int .i64 3]) ∧ Below w.heap.size w w' := by
  have HQ := Lib.hid (fun W (h : InX W op l ks a) => validateP_any op l ks L a c W h)
  have HQ2 := Lib.hid (fun W (h : InX W op l ks a) => letterNodes_any op l ks a c W h hsz)
  have hle : letT (.node op l ks) ≤ 400 := Nat.le_trans (letT_size _) hsz
  have HI := Lib.hid hin
  obtain ⟨n, hn⟩ : ∃ n, n = ks.length := ⟨_, rfl⟩
  obtain ⟨k, hk⟩ : ∃ k, k = letT (.node op l ks) := ⟨_, rfl⟩
  rw [he] at HQ
  rw [← hk] at HQ2 hlim hle
  rw [← hn] at HQ HQ2 ⊢
  have HI0 := Lib.hid ((HI.out.box (.cells #[.int .i64 op, .int .i64 l, .slice a n c] 49)).box (.cells #[.int .i64 0, .int .i64 0, .int .u64 0, .int .u64 0, .slice none 0 0] 25))
  have HB0 := Lib.hid (((Below.refl w.heap.size w).alloc (Nat.le_refl _) (.cells #[.int .i64 op, .int .i64 l, .slice a n c] 49)).alloc (by simp) (.cells #[.int .i64 0, .int .i64 0, .int .u64 0, .int .u64 0, .slice none 0 0] 25))
  have hr2 : ((w.alloc (.cells #[.int .i64 op, .int .i64 l, .slice a n c] 49)).alloc (.cells #[.int .i64 0, .int .i64 0, .int .u64 0, .int .u64 0, .slice none 0 0] 25)).heap[w.heap.size + 1]? = some (.cells #[.int .i64 0, .int .i64 0, .int .u64 0, .int .u64 0, .slice none 0 0] 25) := by
    have := heap_new (w.alloc (.cells #[.int .i64 op, .int .i64 l, .slice a n c] 49)) (.cells #[.int .i64 0, .int .i64 0, .int .u64 0, .int .u64 0, .slice none 0 0] 25)
    simpa using this
  have HR2 := Lib.hid hr2
  have hx2 := heap_old (o' := .cells #[.int .i64 0, .int .i64 0, .int .u64 0, .int .u64 0, .slice none 0 0] 25) (heap_new w (.cells #[.int .i64 op, .int .i64 l, .slice a n c] 49))
  have HX2 := Lib.hid hx2
  obtain ⟨x0, x1, x2⟩ := (cells_of hx2).1
  clear hin hn hk he hr2 hx2 hsz
  go_enter Try.func33, Try.ntmps33
  go_wp2_with fail
  refine (HQ.out _ HI0.out).mono ?_
  rintro e v ⟨rfl, hB⟩
  have HB1 := Lib.hid (HB0.out.trans (hB.mono (by simp; omega)))
  have HI1 := Lib.hid (HI0.out.keep hB)
  have HR3 := Lib.hid ((hB.block (w.heap.size + 1) (by simp)).trans HR2.out)
  have hx3 := (hB.block w.heap.size (by simp; omega)).trans HX2.out
  have HSV := Lib.hid (show w.heap.size + 2 ≤ v.heap.size by have := hB.size; simp at this; omega)
  clear x0 x1 x2
  obtain ⟨x0, x1, x2⟩ := (cells_of hx3).1
  clear hB hx3
  go_wp2_with fail
  refine (HQ2.out _ HI1.out).mono ?_
  rintro e v2 ⟨rfl, hB⟩
  have HB2 := Lib.hid (HB1.out.trans (hB.mono (by have := HSV.out; omega)))
  obtain ⟨⟨r0, r1, r2, r3, r4⟩, z0, z1, z2, z3, z4⟩ := cells5_of ((hB.block (w.heap.size + 1) (by have := HSV.out; omega)).trans HR3.out)
  clear hB
  go_wp2_with fail
  refine bodyPost_ret (v := .tuple #[zeroN, .int .i64 3]) (by simp [zeroN, results, Try.results33, go_sem, r0, r1, r2, r3, r4]) rfl ⟨rfl, ?_⟩
  exact ((((HB2.out.setCell (by simp) _).setCell (by simp) _).setCell (by simp) _).setCell (by simp) _).setCell (by simp) _
end Go.Proofs.Ytdoifdpmgmlpdaa
