/- Facts: how many words are accepted. -/
import Derived.Test.YtohoiebofkmjeacDfaM
namespace Go.Proofs.Ytohoiebofkmjeac
set_option linter.unusedVariables false
def pr61 : Nat := 2305843009213693951
/-- sums over the first j letters -/
def DF.sxj (d : DF) (g : Nat → Nat) (q : Nat) : Nat → Nat
  | 0 => 0
  | j + 1 => d.sxj g q j + g (d.nx q j)
def DF.sx (d : DF) (g : Nat → Nat) (q : Nat) : Nat := d.sxj g q d.L.toNat
/-- the words of k letters that lead from q to a final state -/
def DF.cn (d : DF) : Nat → Nat → Nat
  | 0, q => if d.F q = true then 1 else 0
  | k + 1, q => d.sx (d.cn k) q
theorem DF.sxj_mod (d : DF) (g : Nat → Nat) (q : Nat) : ∀ j, d.sxj (fun s => g s % pr61) q j % pr61 = d.sxj g q j % pr61
  | 0 => rfl
  | j + 1 => by
    rw [DF.sxj, DF.sxj, Nat.add_mod, d.sxj_mod g q j, ← Nat.add_mod, Nat.add_mod, Nat.mod_mod, ← Nat.add_mod]
theorem DF.sxj_le (d : DF) {g : Nat → Nat} {q b : Nat} (h : ∀ s, g s ≤ b) : ∀ j, d.sxj g q j ≤ j * b
  | 0 => by simp [DF.sxj]
  | j + 1 => by rw [DF.sxj, Nat.succ_mul]; have := d.sxj_le h (q := q) j; have := h (d.nx q j); omega
theorem DF.sxj_congr (d : DF) {g h : Nat → Nat} {q : Nat} : ∀ j, (∀ x, x < j → g (d.nx q x) = h (d.nx q x)) → d.sxj g q j = d.sxj h q j
  | 0, _ => rfl
  | j + 1, hj => by rw [DF.sxj, DF.sxj, d.sxj_congr j (fun x hx => hj x (by omega)), hj j (by omega)]
/-- k rounds of sums -/
def DF.it (d : DF) : Nat → (Nat → Nat) → Nat → Nat
  | 0, g => g
  | k + 1, g => d.it k (d.sx g)
theorem DF.it_sx (d : DF) : ∀ (k : Nat) (g : Nat → Nat), d.it (k + 1) g = d.sx (d.it k g)
  | 0, g => rfl
  | k + 1, g => by rw [DF.it, d.it_sx k (d.sx g)]; rfl
theorem DF.it_cn (d : DF) : ∀ k, d.it k (d.cn 0) = d.cn k
  | 0 => rfl
  | k + 1 => by rw [d.it_sx, d.it_cn k]; rfl
/-! ### sums over the states -/
def dotN (h g : Nat → Nat) : Nat → Nat
  | 0 => 0
  | n + 1 => dotN h g n + h n * g n
/-- h with a added at s, modulo -/
def addAt (h : Nat → Nat) (s a : Nat) : Nat → Nat := fun t => if t = s then (h t + a) % pr61 else h t
theorem dotN_far {h g : Nat → Nat} {s a : Nat} : ∀ n, n ≤ s → dotN (addAt h s a) g n = dotN h g n
  | 0, _ => rfl
  | n + 1, hn => by rw [dotN, dotN, dotN_far n (by omega), addAt, if_neg (by omega)]
theorem mod_mul_add (x a b : Nat) : ((x + a) % pr61 * b) % pr61 = (x * b + a * b) % pr61 := by
  rw [← Nat.add_mul, Nat.mul_mod, Nat.mod_mod, ← Nat.mul_mod]
theorem dotN_add {h g : Nat → Nat} {s a : Nat} : ∀ n, s < n → dotN (addAt h s a) g n % pr61 = (dotN h g n + a * g s) % pr61
  | 0, hs => by omega
  | n + 1, hs => by
    rw [dotN, dotN]
    by_cases e : s = n
    · subst e
      rw [dotN_far s (Nat.le_refl _)]
      have e1 : addAt h s a s = (h s + a) % pr61 := by simp [addAt]
      rw [e1, Nat.add_mod, mod_mul_add, ← Nat.add_mod, Nat.add_assoc]
    · have e1 : addAt h s a n = h n := by rw [addAt, if_neg (fun x => e x.symm)]
      rw [e1, Nat.add_mod, dotN_add n (by omega), ← Nat.add_mod]
      congr 1; omega
theorem dotN_zero (g : Nat → Nat) : ∀ n, dotN (fun _ => 0) g n = 0
  | 0 => rfl
  | n + 1 => by rw [dotN, dotN_zero g n]; simp
theorem dotN_unit (g : Nat → Nat) (s : Nat) : ∀ n, dotN (fun t => if t = s then 1 else 0) g n = if s < n then g s else 0
  | 0 => by simp [dotN]
  | n + 1 => by
    rw [dotN, dotN_unit g s n]
    by_cases e : n = s
    · subst e; simp
    · rw [if_neg e]
      by_cases h2 : s < n
      · rw [if_pos h2, if_pos (by omega)]; simp
      · rw [if_neg h2, if_neg (by omega)]; simp
theorem dotN_congr {h h' g : Nat → Nat} : ∀ n, (∀ t, t < n → h t = h' t) → dotN h g n = dotN h' g n
  | 0, _ => rfl
  | n + 1, hh => by rw [dotN, dotN, dotN_congr n fun t ht => hh t (by omega), hh n (by omega)]
/-- what the reference's rounds keep: seen through every g, the new row is the old one's sums over the first q states -/
def DF.fw (d : DF) (h h' : Nat → Nat) (q : Nat) : Prop := ∀ g, dotN h' g d.n % pr61 = dotN h (d.sx g) q % pr61
/-- .. and over the first j letters of state q -/
def DF.fwx (d : DF) (h h' : Nat → Nat) (q j : Nat) : Prop := ∀ g, dotN h' g d.n % pr61 = (dotN h (d.sx g) q + h q * d.sxj g q j) % pr61
theorem DF.fw_start (d : DF) (h : Nat → Nat) : d.fw h (fun _ => 0) 0 := fun g => by rw [dotN_zero]; rfl
theorem DF.fwx_start {d : DF} {h h' : Nat → Nat} {q : Nat} (hf : d.fw h h' q) : d.fwx h h' q 0 := fun g => by rw [hf g]; simp [DF.sxj]
theorem DF.fwx_end {d : DF} {h h' : Nat → Nat} {q : Nat} (hf : d.fwx h h' q d.L.toNat) : d.fw h h' (q + 1) := fun g => by rw [hf g]; rfl
theorem DF.fwx_step {d : DF} {h h' : Nat → Nat} {q j : Nat} (hf : d.fwx h h' q j) (hs : d.nx q j < d.n) : d.fwx h (addAt h' (d.nx q j) (h q)) q (j + 1) := fun g => by
  rw [dotN_add d.n hs, Nat.add_mod, hf g, ← Nat.add_mod, DF.sxj, Nat.mul_add]
  congr 1; omega
theorem DF.fw_all {d : DF} {h h' : Nat → Nat} {k : Nat} {s : Nat} (h0 : ∀ g, dotN h g d.n % pr61 = d.it k g s % pr61) (hf : d.fw h h' d.n) : ∀ g, dotN h' g d.n % pr61 = d.it (k + 1) g s % pr61 := fun g => by
  rw [hf g, h0 (d.sx g)]; rfl
/-- the final sum -/
def sumF (F : Nat → Bool) (h : Nat → Nat) : Nat → Nat
  | 0 => 0
  | n + 1 => if F n = true then (sumF F h n + h n) % pr61 else sumF F h n
theorem sumF_dot (d : DF) (h : Nat → Nat) : ∀ n, sumF d.F h n % pr61 = dotN h (d.cn 0) n % pr61
  | 0 => rfl
  | n + 1 => by
    rw [sumF, dotN, DF.cn]
    cases d.F n
    · simp [sumF_dot d h n]
    · simp only [if_true, Nat.mul_one, Nat.mod_mod]
      rw [Nat.add_mod, sumF_dot d h n, ← Nat.add_mod]
theorem sumF_lt (F : Nat → Bool) (h : Nat → Nat) : ∀ n, sumF F h n < pr61
  | 0 => by unfold sumF pr61; decide
  | n + 1 => by
    rw [sumF]
    split
    · exact Nat.mod_lt _ (by decide)
    · exact sumF_lt F h n
/-- .. is the number of words -/
theorem sumF_cn {d : DF} {h : Nat → Nat} {k s : Nat} (h0 : ∀ g, dotN h g d.n % pr61 = d.it k g s % pr61) : sumF d.F h d.n = d.cn k s % pr61 := by
  rw [← Nat.mod_eq_of_lt (sumF_lt d.F h d.n), sumF_dot, h0, d.it_cn]
end Go.Proofs.Ytohoiebofkmjeac
