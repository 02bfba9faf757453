/- The letter nodes in memory; contract: connect. -/
import Derived.Test.YtdoifdpmgmlpdaaNfaB
import Derived.Test.YtdoifdpmgmlpdaaNfaQ
import Derived.Test.YtdoifdpmgmlpdaaRelN
import Derived.Deep.AppendLies
namespace Go.Proofs.Ytdoifdpmgmlpdaa
open Go Go.RowKit
open Go.Proofs.Ytdoifdpmgmlpdaa.rel (mem mem_len RowL GivesM members_own u_or or_u ownsRow_keep)
set_option linter.unusedVariables false
def rowW (l : List Nat) : List Value := l.map fun (x : Nat) => Value.int .u64 (x : Int)
theorem rowW_length (l : List Nat) : (rowW l).length = l.length := by simp [rowW]
theorem rowW_getD {l : List Nat} {i : Nat} (h : i < l.length) : (rowW l)[i]? = some (.int .u64 ((l.getD i 0 : Nat) : Int)) := by simp [rowW, List.getD, h]
theorem rowW_set (l : List Nat) (i x : Nat) : (rowW l).set i (.int .u64 (x : Int)) = rowW (l.set i x) := by simp [rowW, List.map_set]
theorem grown_of_below {w w' : World} (h : Below w.heap.size w w') : w.grownBy w' none := ⟨h.os, h.tape, h.output, h.size, fun k hk _ => h.block k hk⟩
theorem grown_cell (w : World) (p : Addr) (v : Value) : w.grownBy (w.setCell p v) (some p.block) :=
  ⟨rfl, rfl, rfl, by simp [World.setCell], fun k hk hne => Below.heap_setCell w p v k (fun e => hne (by rw [e]))⟩
/-- block bp holds the two rows -/
structure PosW (w : World) (B bp gN cN gF cF : Nat) (s : PS) : Prop where
  cn : w.cell? ⟨bp, 0, none⟩ = some (.slice (some ⟨gN, 0, none⟩) s.N.length cN)
  cf : w.cell? ⟨bp, 1, none⟩ = some (.slice (some ⟨gF, 0, none⟩) s.F.length cF)
  rn : w.ownsRow B 22 1 (.slice (some ⟨gN, 0, none⟩) s.N.length cN) s.N.length (rowW s.N)
  rf : w.ownsRow B 22 1 (.slice (some ⟨gF, 0, none⟩) s.F.length cF) s.F.length (rowW s.F)
  fz : w.frozen? ⟨bp, 1, none⟩ = false
  bl : B ≤ bp ∧ bp < w.heap.size
  n1 : gN ≠ bp
  n2 : gF ≠ bp
  n3 : gN ≠ gF
theorem PosW.kept {w w' : World} {B bp gN cN gF cF : Nat} {s : PS} (h : PosW w B bp gN cN gF cF s) {row : Option Nat} (hg : w.grownBy w' row) (h1 : some bp ≠ row) (h2 : some gN ≠ row) (h3 : some gF ≠ row) : PosW w' B bp gN cN gF cF s :=
  ⟨hg.cell h.cn h1, hg.cell h.cf h1, h.rn.kept hg (.inr h2), h.rf.kept hg (.inr h3), by rw [hg.frozen_far _ h.bl.2 h1]; exact h.fz, ⟨h.bl.1, Nat.lt_of_lt_of_le h.bl.2 hg.size⟩, h.n1, h.n2, h.n3⟩
theorem PosW.below {w w' : World} {B bp gN cN gF cF : Nat} {s : PS} (h : PosW w B bp gN cN gF cF s) (hb : Below w.heap.size w w') : PosW w' B bp gN cN gF cF s :=
  h.kept (grown_of_below hb) (by simp) (by simp) (by simp)
theorem PosW.alloc {w : World} {B bp gN cN gF cF : Nat} {s : PS} (h : PosW w B bp gN cN gF cF s) (o : Obj) : PosW (w.alloc o) B bp gN cN gF cF s :=
  h.below ((Below.refl _ w).alloc (Nat.le_refl _) o)
theorem PosW.drew {w : World} {B bp gN cN gF cF : Nat} {s : PS} (h : PosW w B bp gN cN gF cF s) : PosW w.drew B bp gN cN gF cF s := h.below (Below.refl _ w).drew
theorem PosW.far {w : World} {B bp gN cN gF cF : Nat} {s : PS} (h : PosW w B bp gN cN gF cF s) {p : Addr} {v : Value} (h1 : p.block ≠ bp) (h2 : p.block ≠ gN) (h3 : p.block ≠ gF) : PosW (w.setCell p v) B bp gN cN gF cF s :=
  h.kept (grown_cell w p v) (fun e => h1 (by injection e with e; exact e.symm)) (fun e => h2 (by injection e with e; exact e.symm)) (fun e => h3 (by injection e with e; exact e.symm))
theorem PosW.gFlt {w : World} {B bp gN cN gF cF : Nat} {s : PS} (h : PosW w B bp gN cN gF cF s) : B ≤ gF ∧ gF < w.heap.size := World.ownsRow.lt h.rf gF rfl
theorem PosW.gNlt {w : World} {B bp gN cN gF cF : Nat} {s : PS} (h : PosW w B bp gN cN gF cF s) : B ≤ gN ∧ gN < w.heap.size := World.ownsRow.lt h.rn gN rfl
/-- a store into the follow row -/
theorem PosW.setF {w : World} {B bp gN cN gF cF : Nat} {s : PS} (h : PosW w B bp gN cN gF cF s) (j x : Nat) : PosW (w.setCell ⟨gF, j, none⟩ (.int .u64 (x : Int))) B bp gN cN gF cF ⟨s.N, s.F.set j x⟩ := by
  have hg := grown_cell w ⟨gF, j, none⟩ (.int .u64 (x : Int))
  have e : (s.F.set j x).length = s.F.length := by simp
  refine ⟨hg.cell h.cn (fun e => h.n2 (by injection e with e; exact e.symm)), ?_, h.rn.kept hg (.inr (fun e => h.n3 (by injection e))), ?_, by rw [hg.frozen_far _ h.bl.2 (fun e => h.n2 (by injection e with e; exact e.symm))]; exact h.fz, ⟨h.bl.1, Nat.lt_of_lt_of_le h.bl.2 hg.size⟩, h.n1, h.n2, h.n3⟩
  · dsimp only; rw [e]; exact hg.cell h.cf (fun e => h.n2 (by injection e with e; exact e.symm))
  · have := (World.ownsRow.stored h.rf j (.int .u64 (x : Int))).1
    rw [rowW_set] at this
    dsimp only; rw [e]; exact this
theorem PosW.setN {w : World} {B bp gN cN gF cF : Nat} {s : PS} (h : PosW w B bp gN cN gF cF s) (j x : Nat) : PosW (w.setCell ⟨gN, j, none⟩ (.int .u64 (x : Int))) B bp gN cN gF cF ⟨s.N.set j x, s.F⟩ := by
  have hg := grown_cell w ⟨gN, j, none⟩ (.int .u64 (x : Int))
  have e : (s.N.set j x).length = s.N.length := by simp
  refine ⟨?_, hg.cell h.cf (fun e => h.n1 (by injection e with e; exact e.symm)), ?_, h.rf.kept hg (.inr (fun e => h.n3 (by injection e with e; exact e.symm))), by rw [hg.frozen_far _ h.bl.2 (fun e => h.n1 (by injection e with e; exact e.symm))]; exact h.fz, ⟨h.bl.1, Nat.lt_of_lt_of_le h.bl.2 hg.size⟩, h.n1, h.n2, h.n3⟩
  · dsimp only; rw [e]; exact hg.cell h.cn (fun e => h.n1 (by injection e with e; exact e.symm))
  · have := (World.ownsRow.stored h.rn j (.int .u64 (x : Int))).1
    rw [rowW_set] at this
    dsimp only; rw [e]; exact this
theorem PosW.cellF {w : World} {B bp gN cN gF cF : Nat} {s : PS} (h : PosW w B bp gN cN gF cF s) {j : Nat} (hj : j < s.F.length) : w.cell? ⟨gF, j, none⟩ = some (.int .u64 ((s.F.getD j 0 : Nat) : Int)) := by
  rw [World.ownsRow.cellAt h.rf j (by omega)]; exact rowW_getD hj
theorem PosW.cellN {w : World} {B bp gN cN gF cF : Nat} {s : PS} (h : PosW w B bp gN cN gF cF s) {j : Nat} (hj : j < s.N.length) : w.cell? ⟨gN, j, none⟩ = some (.int .u64 ((s.N.getD j 0 : Nat) : Int)) := by
  rw [World.ownsRow.cellAt h.rn j (by omega)]; exact rowW_getD hj
/-- all blocks of w but three are as they were -/
structure KeepP (w w' : World) (bp gN gF : Nat) : Prop where
  os : w'.os = w.os
  tape : w'.tape = w.tape
  output : w'.output = w.output
  size : w.heap.size ≤ w'.heap.size
  block : ∀ k, k < w.heap.size → k ≠ bp → k ≠ gN → k ≠ gF → w'.heap[k]? = w.heap[k]?
theorem KeepP.refl (w : World) (bp gN gF : Nat) : KeepP w w bp gN gF := ⟨rfl, rfl, rfl, Nat.le_refl _, fun _ _ _ _ _ => rfl⟩
theorem KeepP.below {a w w' : World} {bp gN gF : Nat} (h : KeepP a w bp gN gF) (hb : Below w.heap.size w w') : KeepP a w' bp gN gF :=
  ⟨hb.os.trans h.os, hb.tape.trans h.tape, hb.output.trans h.output, Nat.le_trans h.size hb.size, fun k hk h1 h2 h3 => (hb.block k (Nat.lt_of_lt_of_le hk h.size)).trans (h.block k hk h1 h2 h3)⟩
theorem KeepP.alloc {a w : World} {bp gN gF : Nat} (h : KeepP a w bp gN gF) (o : Obj) : KeepP a (w.alloc o) bp gN gF := h.below ((Below.refl _ w).alloc (Nat.le_refl _) o)
theorem KeepP.drew {a w : World} {bp gN gF : Nat} (h : KeepP a w bp gN gF) : KeepP a w.drew bp gN gF := h.below (Below.refl _ w).drew
theorem KeepP.set {a w : World} {bp gN gF : Nat} (h : KeepP a w bp gN gF) {p : Addr} (hp : p.block = bp ∨ p.block = gN ∨ p.block = gF ∨ a.heap.size ≤ p.block) (v : Value) : KeepP a (w.setCell p v) bp gN gF :=
  ⟨h.os, h.tape, h.output, by simpa [World.setCell] using h.size, fun k hk h1 h2 h3 => (Below.heap_setCell w p v k (by rintro rfl; omega)).trans (h.block k hk h1 h2 h3)⟩
theorem KeepP.grown {a w w' : World} {bp gN gF : Nat} {row : Option Nat} (h : KeepP a w bp gN gF) (hg : w.grownBy w' row) (hr : ∀ k, row = some k → k = bp ∨ k = gN ∨ k = gF ∨ a.heap.size ≤ k) : KeepP a w' bp gN gF :=
  ⟨hg.os.trans h.os, hg.tape.trans h.tape, hg.output.trans h.output, Nat.le_trans h.size hg.size, fun k hk h1 h2 h3 => (hg.block k (Nat.lt_of_lt_of_le hk h.size) (fun e => by have := hr k e.symm; omega)).trans (h.block k hk h1 h2 h3)⟩
theorem KeepP.trans {a b c : World} {bp gN gF gF' : Nat} (h : KeepP a b bp gN gF) (k : KeepP b c bp gN gF') (hg : gF' = gF ∨ a.heap.size ≤ gF') : KeepP a c bp gN gF :=
  ⟨k.os.trans h.os, k.tape.trans h.tape, k.output.trans h.output, Nat.le_trans h.size k.size, fun i hi h1 h2 h3 => (k.block i (Nat.lt_of_lt_of_le hi h.size) h1 h2 (by omega)).trans (h.block i hi h1 h2 h3)⟩
/-- seen from an older world -/
theorem KeepP.old {w0 w w' : World} {bp gN gF : Nat} (h : KeepP w w' bp gN gF) (hb : Below w0.heap.size w0 w) (h1 : w0.heap.size ≤ bp) (h2 : w0.heap.size ≤ gN) (h3 : w0.heap.size ≤ gF) : Below w0.heap.size w0 w' :=
  ⟨h.os.trans hb.os, h.tape.trans hb.tape, h.output.trans hb.output, Nat.le_trans hb.size h.size, fun k hk => (h.block k (Nat.lt_of_lt_of_le hk hb.size) (by omega) (by omega) (by omega)).trans (hb.block k hk)⟩
theorem KeepP.cell {w w' : World} {bp gN gF : Nat} (h : KeepP w w' bp gN gF) {p : Addr} (hp : p.block < w.heap.size) (h1 : p.block ≠ bp) (h2 : p.block ≠ gN) (h3 : p.block ≠ gF) : w'.cell? p = w.cell? p := World.cell?_of_block (w := w) (h.block p.block hp h1 h2 h3)
theorem KeepP.frozen {w w' : World} {bp gN gF : Nat} (h : KeepP w w' bp gN gF) {p : Addr} (hp : p.block < w.heap.size) (h1 : p.block ≠ bp) (h2 : p.block ≠ gN) (h3 : p.block ≠ gF) : w'.frozen? p = w.frozen? p := World.frozen?_of_block (w := w) (h.block p.block hp h1 h2 h3)
/-- what a method leaves: v returned, block bp holds s; bp and the nodes lie where they lay, the follow row there or in new memory -/
def PosE (w : World) (B bp gN cN gF : Nat) (s : PS) (v : Value) (e : Ending) (w' : World) : Prop :=
  e = .returned v ∧ KeepP w w' bp gN gF ∧ ∃ gF' cF', PosW w' B bp gN cN gF' cF' s ∧ (gF' = gF ∨ w.heap.size ≤ gF')
theorem mem_lt {s k i x n : Nat} (h : (mem s k)[i]? = some x) (hs : s < 2 ^ n) : x < n ∧ x < k := by
  have h1 := mem_testBit.1 (List.mem_of_getElem? h)
  refine ⟨?_, h1.1⟩
  apply Nat.lt_of_not_le; intro hle
  rw [Nat.testBit_lt_two_pow (Nat.lt_of_lt_of_le hs (pow_le hle))] at h1
  exact Bool.false_ne_true h1.2
set_option maxRecDepth 100000 in
set_option maxHeartbeats 2000000 in
/-- connect -/
theorem connect_any (B bp gN cN gF cF : Nat) (s : PS) (x y : Nat) (w : World) (hpw : PosW w B bp gN cN gF cF s) (h64 : s.F.length ≤ 64) (hF : ∀ z, z ∈ s.F → z < 2 ^ s.F.length) (hx : x < 2 ^ s.F.length) (hy : y < 2 ^ s.F.length) :
    Calls Try.prog 71 #[.pointer (some ⟨bp, 0, none⟩), .int .u64 x, .int .u64 y] w (PosE w B bp gN cN gF (conS s x y) (.tuple #[])) := by
  have hx64 : x < 18446744073709551616 := Nat.lt_of_lt_of_le hx (Nat.le_trans (pow_le h64) (by decide))
  have hy64 : y < 18446744073709551616 := Nat.lt_of_lt_of_le hy (Nat.le_trans (pow_le h64) (by decide))
  have HM := Lib.hid (fun W => members_own x W hx64)
  have HP := Lib.hid hpw
  have HU := Lib.hid (show ∀ i, ∀ z, z ∈ conL y s.F ((mem x 64).take i) → z < 2 ^ s.F.length from fun i => conL_lt hy _ _ hF)
  have HML := Lib.hid (show ∀ (i k : Nat), (mem x 64)[i]? = some k → k < s.F.length ∧ k < 64 from fun i k h => mem_lt h hx)
  have HCO := Lib.hid (show conF s.F x y = conL y s.F (mem x 64) from rfl)
  obtain ⟨M, hM⟩ : ∃ M, M = mem x 64 := ⟨_, rfl⟩
  have hml : M.length ≤ 64 := by rw [hM]; exact mem_len x 64
  obtain ⟨n, hn⟩ : ∃ n, n = M.length := ⟨_, rfl⟩
  rw [← hM] at HM HU HML HCO
  have HN := Lib.hid hn
  have hpl : 2 ^ s.F.length ≤ 18446744073709551616 := Nat.le_trans (pow_le h64) (by decide)
  have HPL := Lib.hid hpl
  unfold GivesM at HM
  rw [← hn] at HM hml
  clear hpw hx hy hF hM hn hx64 hpl
  go_enter Try.func71, Try.ntmps71
  go_wp2_with fail
  refine (HM.out _).mono ?_
  rintro e w1 ⟨r, c, rfl, hr, hB, hnew⟩
  have HR := Lib.hid hr
  have HB1 := Lib.hid ((KeepP.refl w bp gN gF).below hB)
  have HP1 := Lib.hid (HP.out.below hB)
  have HNE := Lib.hid (show ∀ p, r = some p → p.block ≠ gF from fun p hp h => by have := hnew p hp; have := HP.out.gFlt.2; omega)
  clear hr hB hnew
  go_wp2_with fail
  go_loopw [11] (fun vi wr => ∃ i : Nat, i ≤ n ∧ vi = .int .i64 i ∧ PosW wr B bp gN cN gF cF ⟨s.N, conL y s.F (M.take i)⟩ ∧ RowL wr r M ∧ KeepP w wr bp gN gF) (fun vi _ => n - (intOf vi).toNat)
  case atStart => exact ⟨0, Nat.zero_le _, rfl, HP1.out, HR.out, HB1.out⟩
  case round =>
    rename World => wA
    obtain ⟨i, hi, rfl, hpa, hrl, hb⟩ := hrel
    have HPA := Lib.hid hpa
    have HRL := Lib.hid hrl
    have HB := Lib.hid hb
    by_cases hlt : i < n
    · have hiM : i < M.length := by rw [← HN.out]; exact hlt
      rcases hrl with h0 | ⟨b, off, rfl, hbz, hc⟩
      · rw [h0] at hiM; simp at hiM
      obtain ⟨k, hk⟩ : ∃ k, k = M[i] := ⟨_, rfl⟩
      have hkk : M[i]? = some k := by rw [hk, List.getElem?_eq_getElem hiM]
      have hck := hc i k hkk
      obtain ⟨hk1, hk2⟩ := HML.out i k hkk
      have HT := Lib.hid (show M.take (i + 1) = M.take i ++ [k] by rw [List.take_succ_eq_append_getElem hiM, hk])
      obtain ⟨F', hF'⟩ : ∃ F', F' = conL y s.F (M.take i) := ⟨_, rfl⟩
      have hlen : F'.length = s.F.length := by rw [hF']; exact conL_length _ _ _
      have HUI := Lib.hid (HU.out i)
      rw [← hF'] at HPA HUI
      have hcf := HPA.out.cf
      have hcj := HPA.out.cellF (j := k) (by dsimp only; omega)
      have hfj := World.ownsRow.frozenAt HPA.out.rf k
      dsimp only at hcf hcj
      have hz : F'.getD k 0 < 18446744073709551616 := Nat.lt_of_lt_of_le (getD_lt' HUI.out) HPL.out
      obtain ⟨z, hzz⟩ : ∃ z, z = F'.getD k 0 := ⟨_, rfl⟩
      rw [← hzz] at hcj hz
      have hor := u_or hz hy64
      obtain ⟨q, hq⟩ : ∃ q, q = z ||| y := ⟨_, rfl⟩
      rw [← hq] at hor
      obtain ⟨m, hm⟩ : ∃ m, m = F'.length := ⟨_, rfl⟩
      have hkm : k < m := by omega
      have HX := Lib.hid (show conL y s.F (M.take (i + 1)) = F'.set k q by rw [HT.out, conL_snoc, ← hF', orAt, hq, hzz])
      rw [← hm] at hcf
      have hi0 : (0 : Int) ≤ (i : Int) := by omega
      have hin : (i : Int) < (n : Int) := by omega
      have hwi : IntKind.i64.wrap (i : Int) = (i : Int) := IntWalk.i64_in _ (by omega)
      have hk0 : (0 : Int) ≤ (k : Int) := by omega
      have hkn : (k : Int) < (m : Int) := by omega
      have hwk : IntKind.i64.wrap (k : Int) = (k : Int) := IntWalk.i64_in _ (by omega)
      clear hpa hb hc hk hkk hF' hlen hzz hq hm hiM hz
      go_wp2_with fail
      have HP2 := Lib.hid (HPA.out.setF k q)
      dsimp only at HP2
      rw [← HX.out] at HP2
      exact ⟨⟨i + 1, by omega, by go_num, HP2.out, HRL.out.setCell _ _ (fun p hp => HNE.out p hp), HB.out.set (.inr (.inr (.inl rfl))) _⟩, by simp [intOf]; omega⟩
    · obtain rfl : i = n := by omega
      have HT := Lib.hid (show PosW wA B bp gN cN gF cF (conS s x y) by
        have := HPA.out
        rw [HN.out, List.take_length] at this
        exact (show (⟨s.N, conL y s.F M⟩ : PS) = conS s x y by rw [← HCO.out]; rfl) ▸ this)
      clear hpa hrl hb
      go_wp2_with fail
      go_end0
      exact ⟨rfl, HB.out, gF, cF, HT.out, .inl rfl⟩
end Go.Proofs.Ytdoifdpmgmlpdaa
