/- Plain facts on the closure, step by step; rows of the call's own with any capacity. -/
import Derived.Test.YtbmbgdfnhbkelaaDoorRelI
namespace Go.Proofs.YtbmbgdfnhbkelaaDoor
open Go Go.RowKit
set_option linter.unusedVariables false

/-- one step of the closure: paths through k -/
def stF (f : Nat → Nat) (k i : Nat) : Nat := if (f i).testBit k then f i ||| f k else f i
/-- the first k steps -/
def warF (f : Nat → Nat) : Nat → Nat → Nat
  | 0 => f
  | k + 1 => stF (warF f k) k
/-- the rows within a step: those before i are done -/
def wsF (f : Nat → Nat) (k i t : Nat) : Nat := if t < i then stF f k t else f t
theorem stF_self (f : Nat → Nat) (k : Nat) : stF f k k = f k := by unfold stF; split <;> simp
theorem wsF_zero (f : Nat → Nat) (k t : Nat) : wsF f k 0 t = f t := by simp [wsF]
theorem wsF_at (f : Nat → Nat) (k i : Nat) : wsF f k i i = f i := by simp [wsF]
theorem wsF_mid (f : Nat → Nat) (k i : Nat) : wsF f k i k = f k := by unfold wsF; split; exact stF_self f k; rfl
theorem wsF_all {f : Nat → Nat} {k n t : Nat} (h : t < n) : wsF f k n t = stF f k t := by simp [wsF, h]
theorem stF_u {f : Nat → Nat} {k n : Nat} (hk : k < n) (hf : ∀ i, i < n → f i < 18446744073709551616) : ∀ i, i < n → stF f k i < 18446744073709551616 := by
  intro i hi
  unfold stF
  split
  · exact or_u (hf i hi) (hf k hk)
  · exact hf i hi
theorem warF_u {f : Nat → Nat} {n : Nat} (hf : ∀ i, i < n → f i < 18446744073709551616) : ∀ {k : Nat}, k ≤ n → ∀ i, i < n → warF f k i < 18446744073709551616
  | 0, _ => hf
  | k + 1, h => stF_u h (warF_u hf (Nat.le_of_succ_le h))

/-- the rows of the closure -/
def clF (n : Nat) (f : Nat → Nat) : Nat → Nat := warF (fun i => f i ||| 2 ^ i) n
theorem clF_u {n : Nat} {f : Nat → Nat} (hn : n ≤ 64) (hf : ∀ i, i < n → f i < 18446744073709551616) : ∀ i, i < n → clF n f i < 18446744073709551616 :=
  warF_u (fun i hi => or_u (hf i hi) (pow_lt64 (by omega))) (Nat.le_refl _)

/-- a row of 64-bit numbers of the call's own, of any capacity -/
def ownsC (w : World) (base g n cap : Nat) (e : TypeId) (f : Nat → Nat) : Prop := w.ownsRow base e 1 (.slice (some ⟨g, 0, none⟩) n cap) n (rowU n f)
theorem ownsC_cell {w : World} {base g n cap : Nat} {e : TypeId} {f : Nat → Nat} (h : ownsC w base g n cap e f) {j : Nat} (hj : j < n) : w.cell? ⟨g, j, none⟩ = some (.int .u64 (f j : Int)) := by
  have := World.ownsRow.cellAt h j (by omega)
  rw [this, rowU_get hj]
theorem ownsC_free {w : World} {base g n cap : Nat} {e : TypeId} {f : Nat → Nat} (h : ownsC w base g n cap e f) (j : Nat) : w.frozen? ⟨g, j, none⟩ = false := World.ownsRow.frozenAt h j
theorem ownsC_congr {w : World} {base g n cap : Nat} {e : TypeId} {f f' : Nat → Nat} (h : ownsC w base g n cap e f) (hf : ∀ t, t < n → f t = f' t) : ownsC w base g n cap e f' := by
  unfold ownsC at h ⊢
  rwa [← rowU_congr hf]
theorem ownsC_drew {w : World} {base g n cap : Nat} {e : TypeId} {f : Nat → Nat} (h : ownsC w base g n cap e f) : ownsC w.drew base g n cap e f := h
theorem ownsC_set {w : World} {base g n cap : Nat} {e : TypeId} {f : Nat → Nat} (h : ownsC w base g n cap e f) (j x : Nat) : ownsC (w.setCell ⟨g, j, none⟩ (.int .u64 (x : Int))) base g n cap e (fun t => if t = j then x else f t) := by
  have := (World.ownsRow.stored h j (.int .u64 (x : Int))).1
  unfold ownsC
  rwa [rowU_set] at this
theorem ownsC_ws {w : World} {base g n cap : Nat} {e : TypeId} {f : Nat → Nat} {k j x : Nat} (h : ownsC w base g n cap e (wsF f k j)) (hx : x = stF f k j) : ownsC (w.setCell ⟨g, j, none⟩ (.int .u64 (x : Int))) base g n cap e (wsF f k (j + 1)) := by
  refine ownsC_congr (ownsC_set h j x) fun t ht => ?_
  unfold wsF
  by_cases et : t = j
  · subst et; rw [if_pos rfl, if_pos (by omega), hx]
  · rw [if_neg et]
    by_cases h2 : t < j
    · rw [if_pos h2, if_pos (by omega)]
    · rw [if_neg h2, if_neg (by omega)]
theorem ownsC_pass {w : World} {base g n cap : Nat} {e : TypeId} {f : Nat → Nat} {k j : Nat} (h : ownsC w base g n cap e (wsF f k j)) (hx : stF f k j = f j) : ownsC w base g n cap e (wsF f k (j + 1)) := by
  refine ownsC_congr h fun t ht => ?_
  unfold wsF
  by_cases et : t = j
  · subst et; rw [if_neg (by omega), if_pos (by omega), hx]
  · by_cases h2 : t < j
    · rw [if_pos h2, if_pos (by omega)]
    · rw [if_neg h2, if_neg (by omega)]
theorem Row.ownedC {w : World} {base g n cap : Nat} {e : TypeId} {f : Nat → Nat} (h : ownsC w base g n cap e f) (hf : ∀ i, i < n → f i < 18446744073709551616) : Row w (some ⟨g, 0, none⟩) n f := by
  by_cases h0 : n = 0
  · exact .inl h0
  · refine .inr ⟨g, 0, rfl, cell_lt (s := none) (ownsC_cell h (show 0 < n by omega)), fun i hi => ⟨?_, hf i hi⟩⟩
    rw [Nat.zero_add]
    exact ownsC_cell h hi
end Go.Proofs.YtbmbgdfnhbkelaaDoor
