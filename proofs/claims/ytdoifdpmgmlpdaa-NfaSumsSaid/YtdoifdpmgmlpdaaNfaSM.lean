/- Contract: the reference's Same. -/
import Derived.Test.YtdoifdpmgmlpdaaNfaD
import Derived.RegionTactic
import Derived.Laws.StructEq
namespace Go.Proofs.Ytdoifdpmgmlpdaa
open Go Go.RowKit
set_option linter.unusedVariables false
def sameB (L S : Int) (st fi : Nat) (es : List Ed) (L' S' : Int) (st' fi' : Nat) (es' : List Ed) : Bool := decide (L = L' ∧ S = S' ∧ st = st' ∧ fi = fi' ∧ es = es')
set_option maxRecDepth 100000 in
set_option maxHeartbeats 4000000 in
/-- equal automata are the same -/
theorem same_eq (L S : Int) (st fi : Nat) (es : List Ed) (a : Option Addr) (c : Nat) (a' : Option Addr) (c' : Nat) (w : World) (hin : InN w L S st fi a es) (hin' : InN w L S st fi a' es) :
    Calls Try.prog 25 #[.agg #[.int .i64 L, .int .i64 S, .int .u64 st, .int .u64 fi, .slice a es.length c], .agg #[.int .i64 L, .int .i64 S, .int .u64 st, .int .u64 fi, .slice a' es.length c']] w fun e w' => e = .returned (.bool true) ∧ Below w.heap.size w w' := by
  have hlen := hin.2.2.2.2.2
  have HI := Lib.hid hin
  have HI' := Lib.hid hin'
  obtain ⟨n, hn⟩ : ∃ n, n = es.length := ⟨_, rfl⟩
  have HN := Lib.hid hn
  rw [← hn] at hlen ⊢
  have HB2 := Lib.hid (((Below.refl w.heap.size w).alloc (Nat.le_refl _) (.cells #[.int .i64 L, .int .i64 S, .int .u64 st, .int .u64 fi, .slice a n c] 25)).alloc (by simp) (.cells #[.int .i64 L, .int .i64 S, .int .u64 st, .int .u64 fi, .slice a' n c'] 25))
  obtain ⟨x0, x1, x2, x3, x4⟩ := nbox_cells (w := w) (v0 := .int .i64 L) (v1 := .int .i64 S) (v2 := .int .u64 st) (v3 := .int .u64 fi) (v4 := .slice a n c) ((Below.refl _ _).alloc (by simp) (.cells #[.int .i64 L, .int .i64 S, .int .u64 st, .int .u64 fi, .slice a' n c'] 25))
  obtain ⟨y0, y1, y2, y3, y4⟩ := nbox_cells (w := w.alloc (.cells #[.int .i64 L, .int .i64 S, .int .u64 st, .int .u64 fi, .slice a n c] 25)) (v0 := .int .i64 L) (v1 := .int .i64 S) (v2 := .int .u64 st) (v3 := .int .u64 fi) (v4 := .slice a' n c') (Below.refl _ _)
  rw [show (w.alloc (.cells #[.int .i64 L, .int .i64 S, .int .u64 st, .int .u64 fi, .slice a n c] 25)).heap.size = w.heap.size + 1 from by simp] at y0 y1 y2 y3 y4
  have hm : Try.prog.eqGuardType Try.prog.depth 44 = false := by kernel_rfl
  have hsp : Try.prog.stoodInHeld 44 = false := by kernel_rfl
  have hne1 : (L != L) = false := by simp
  have hne2 : (S != S) = false := by simp
  have hne3 : ((st : Int) != (st : Int)) = false := by simp
  have hne4 : ((fi : Int) != (fi : Int)) = false := by simp
  have hne5 : ((n : Int) != (n : Int)) = false := by simp
  clear hin hin' hn
  go_enter Try.func25, Try.ntmps25
  go_wp2_with fail
  generalize hW : (w.alloc (.cells #[.int .i64 L, .int .i64 S, .int .u64 st, .int .u64 fi, .slice a n c] 25)).alloc (.cells #[.int .i64 L, .int .i64 S, .int .u64 st, .int .u64 fi, .slice a' n c'] 25) = W at *
  clear hW
  go_loopw [44] (fun vi wr => ∃ i : Nat, i ≤ n ∧ vi = .int .i64 i ∧ Below W.heap.size W wr) (fun vi _ => n - (intOf vi).toNat)
  case atStart => exact ⟨0, Nat.zero_le _, rfl, Below.refl _ _⟩
  case round =>
    rename World => wA
    obtain ⟨i, hi, rfl, hb⟩ := hrel
    have HB := Lib.hid hb
    have p4 : wA.cell? ⟨w.heap.size, 4, none⟩ = some (.slice a n c) := by rw [hb.cell (p := ⟨w.heap.size, 4, none⟩) (cell_lt (s := none) x4)]; exact x4
    have q4 : wA.cell? ⟨w.heap.size + 1, 4, none⟩ = some (.slice a' n c') := by rw [hb.cell (p := ⟨w.heap.size + 1, 4, none⟩) (cell_lt (s := none) y4)]; exact y4
    by_cases hlt : i < n
    · have hle : i < es.length := by rw [← HN.out]; exact hlt
      obtain ⟨b, off, rfl, hbz, c1, c2, c3, g1, g2, g3⟩ := ((HI.out.1.keep HB2.out).keep hb).at hle
      obtain ⟨b', off', rfl, hbz', d1, d2, d3, _⟩ := ((HI'.out.1.keep HB2.out).keep hb).at hle
      obtain ⟨e, he⟩ : ∃ e, e = es.getD i noE := ⟨_, rfl⟩
      rw [← he] at c1 c2 c3 d1 d2 d3
      obtain ⟨ef, el, et⟩ := e
      dsimp only at c1 c2 c3 d1 d2 d3
      have hi0 : (0 : Int) ≤ (i : Int) := by omega
      have hin2 : (i : Int) < (n : Int) := by omega
      have hwi : IntKind.i64.wrap (i : Int) = (i : Int) := IntWalk.i64_in _ (by omega)
      clear he hle hb
      go_wp2_with fail
      go_quiet (fail)
      go_wp2_with fail
      exact ⟨⟨i + 1, by omega, by go_num, below_drewN HB.out _⟩, by simp [intOf]; omega⟩
    · obtain rfl : i = n := by omega
      clear hb
      go_wp2_with fail
      go_ret
      exact ⟨rfl, HB2.out.trans (HB.out.mono HB2.out.size)⟩
end Go.Proofs.Ytdoifdpmgmlpdaa
