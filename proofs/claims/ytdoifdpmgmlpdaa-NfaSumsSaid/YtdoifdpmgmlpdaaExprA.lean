/- Trees in memory; contracts: spend, withinLimits. -/
import Derived.Test.YtdoifdpmgmlpdaaChecked
import Derived.Test.YtdoifdpmgmlpdaaExprM
import Derived.WalkSpells
import Derived.WalkLawsBesides
import Derived.WalkArith
import Derived.WalkKit
import Derived.StillTailTactics
import Derived.Deep.QuietTactic
import Derived.Laws.AppendOwnNone
import Derived.Maps.AppendAt
import Derived.IntWalk
import Derived.Lib.Hide
import Derived.Lib.MinMax
namespace Go.Proofs.Ytdoifdpmgmlpdaa
open Go Go.RowKit
set_option linter.unusedVariables false

def B64 (x : Int) : Prop := -9223372036854775808 ≤ x ∧ x ≤ 9223372036854775807
theorem B64.wf {x : Int} (h : B64 x) : (Lit.int .i64 x).wf = true := WalkArith.wf_i64 h
theorem cell_lt {w : World} {b o : Nat} {s : Option Nat} {v : Value} (h : w.cell? ⟨b, o, none⟩ = some v) : b < w.heap.size := by
  apply Nat.lt_of_not_le
  intro hle
  have : w.heap[b]? = none := by simp [hle]
  simp [World.cell?, this] at h
theorem below_drewN {B : Nat} {a w : World} (h : Below B a w) (n : Nat) : Below B a (w.drewN n) := ⟨h.os, h.tape, h.output, h.size, h.block⟩

/-- at a lie the trees ks (a slice of expressions) -/
inductive InK (w : World) : Option Addr → List T → Prop
  | zero (a : Option Addr) : InK w a []
  | row (b off : Nat) (ks : List T) (A : Nat → Option Addr) (C : Nat → Nat) (hb : b < w.heap.size)
      (hc : ∀ (i : Nat) (k : T), ks[i]? = some k → w.cell? ⟨b, off + i * 3, none⟩ = some (.int .i64 k.op) ∧ w.cell? ⟨b, off + i * 3 + 1, none⟩ = some (.int .i64 k.lt) ∧ w.cell? ⟨b, off + i * 3 + 2, none⟩ = some (.slice (A i) k.ks.length (C i)))
      (hz : ∀ (i : Nat) (k : T), ks[i]? = some k → B64 k.op ∧ B64 k.lt ∧ k.ks.length ≤ 9223372036854775807)
      (hi : ∀ (i : Nat) (k : T), ks[i]? = some k → InK w (A i) k.ks) : InK w (some ⟨b, off, none⟩) ks
theorem InK.keep {w w' : World} {a : Option Addr} {ks : List T} (h : InK w a ks) (hb : Below w.heap.size w w') : InK w' a ks := by
  induction h with
  | zero a => exact .zero a
  | row b off ks A C hlt hc hz hi ih =>
    refine .row b off ks A C (Nat.lt_of_lt_of_le hlt hb.size) (fun i k hk => ?_) hz (fun i k hk => ih i k hk)
    obtain ⟨h1, h2, h3⟩ := hc i k hk
    exact ⟨by rw [hb.cell (p := ⟨b, _, none⟩) hlt]; exact h1, by rw [hb.cell (p := ⟨b, _, none⟩) hlt]; exact h2, by rw [hb.cell (p := ⟨b, _, none⟩) hlt]; exact h3⟩
/-- the i-th kid -/
theorem InK.kid {w : World} {a : Option Addr} {ks : List T} (h : InK w a ks) {i : Nat} {op l : Int} {ls : List T} (hk : ks[i]? = some (.node op l ls)) :
    ∃ b off a' c', a = some ⟨b, off, none⟩ ∧ b < w.heap.size ∧ w.cell? ⟨b, off + i * 3, none⟩ = some (.int .i64 op) ∧ w.cell? ⟨b, off + i * 3 + 1, none⟩ = some (.int .i64 l) ∧ w.cell? ⟨b, off + i * 3 + 2, none⟩ = some (.slice a' ls.length c') ∧
      B64 op ∧ B64 l ∧ ls.length ≤ 9223372036854775807 ∧ InK w a' ls := by
  cases h with
  | zero => simp at hk
  | row b off ks A C hlt hc hz hi =>
    obtain ⟨h1, h2, h3⟩ := hc i _ hk
    obtain ⟨h4, h5, h6⟩ := hz i _ hk
    exact ⟨b, off, A i, C i, rfl, hlt, h1, h2, h3, h4, h5, h6, hi i _ hk⟩
/-- a box of an expression, later -/
theorem box_cells {w w' : World} {x y z : Value} (h : Below (w.heap.size + 1) (w.alloc (.cells #[x, y, z] 49)) w') :
    w'.cell? ⟨w.heap.size, 0, none⟩ = some x ∧ w'.cell? ⟨w.heap.size, 1, none⟩ = some y ∧ w'.cell? ⟨w.heap.size, 2, none⟩ = some z := by
  refine ⟨?_, ?_, ?_⟩ <;> rw [h.cell (p := ⟨w.heap.size, _, none⟩) (by simp)] <;> simp [go_sem]
theorem in_box {w : World} {a : Option Addr} {ks : List T} {o : Obj} (h : InK w a ks) : InK (w.alloc o) a ks := h.keep ((Below.refl _ _).alloc (Nat.le_refl _) _)
theorem below_box {w w' : World} {o : Obj} (h : Below (w.heap.size + 1) (w.alloc o) w') : Below w.heap.size w w' :=
  ((Below.refl _ w).alloc (Nat.le_refl _) o).trans (h.mono (Nat.le_succ _))
end Go.Proofs.Ytdoifdpmgmlpdaa
