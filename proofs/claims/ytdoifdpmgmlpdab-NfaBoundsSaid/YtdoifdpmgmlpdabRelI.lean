/- Contracts: Identity, the reference's Identity. -/
import Derived.Test.YtdoifdpmgmlpdabRelA
namespace Go.Proofs.Ytdoifdpmgmlpdab.rel
open Go Go.RowKit
set_option maxRecDepth 100000
set_option linter.unusedVariables false

theorem infoU : (Try.prog.info? 25).map (fun i => (i.zero, i.size, i.bytes)) = some (some (.int .u64 0), 1, 8) := by kernel_rfl
/-- the first j rows are f's, the others 0 -/
def upF (j : Nat) (f : Nat → Nat) (t : Nat) : Nat := if t < j then f t else 0
theorem upF_at (j : Nat) (f : Nat → Nat) : upF j f j = 0 := by simp [upF]
theorem upF_zero (f : Nat → Nat) (t : Nat) : upF 0 f t = 0 := by simp [upF]
theorem upF_all {n : Nat} {f : Nat → Nat} {t : Nat} (h : t < n) : upF n f t = f t := by simp [upF, h]
theorem ownsU_up {w : World} {base g n : Nat} {e : TypeId} {f : Nat → Nat} {j x : Nat} (h : ownsU w base g n e (upF j f)) (hx : x = f j) : ownsU (w.setCell ⟨g, j, none⟩ (.int .u64 (x : Int))) base g n e (upF (j + 1) f) := by
  refine ownsU_congr (ownsU_set h j x) fun t ht => ?_
  unfold upF
  by_cases et : t = j
  · subst et; rw [if_pos rfl, if_pos (by omega), hx]
  · rw [if_neg et]
    by_cases h2 : t < j
    · rw [if_pos h2, if_pos (by omega)]
    · rw [if_neg h2, if_neg (by omega)]
theorem Gives.own {w w' : World} {base n : Nat} {e : TypeId} {f : Nat → Nat} {g : Nat} (h : ownsU w' base g n e (upF n f)) (hf : ∀ i, i < n → f i < 18446744073709551616) (hb : Below w.heap.size w w') : Gives w n f (.returned (.slice (some ⟨g, 0, none⟩) n n)) w' :=
  ⟨_, _, rfl, Row.owned (ownsU_congr h fun t ht => upF_all ht) hf, hb⟩
/-- the call returns a new slice of its own with the n numbers f -/
def Fresh (w : World) (n : Nat) (f : Nat → Nat) (e : Ending) (w' : World) : Prop :=
  ∃ g, e = .returned (.slice (some ⟨g, 0, none⟩) n n) ∧ w.heap.size ≤ g ∧ ownsU w' w.heap.size g n 25 f ∧ Below w.heap.size w w'
theorem Fresh.gives {w w' : World} {n : Nat} {f : Nat → Nat} {e : Ending} (h : Fresh w n f e w') (hf : ∀ i, i < n → f i < 18446744073709551616) : Gives w n f e w' := by
  obtain ⟨g, rfl, hg, ho, hb⟩ := h
  exact ⟨_, _, rfl, Row.owned ho hf, hb⟩
theorem Fresh.own {w w' : World} {n : Nat} {f : Nat → Nat} (h : ownsU w' w.heap.size w.heap.size n 25 (upF n f)) (hb : Below w.heap.size w w') : Fresh w n f (.returned (.slice (some ⟨w.heap.size, 0, none⟩) n n)) w' :=
  ⟨_, rfl, Nat.le_refl _, ownsU_congr h fun t ht => upF_all ht, hb⟩

end Go.Proofs.Ytdoifdpmgmlpdab.rel
