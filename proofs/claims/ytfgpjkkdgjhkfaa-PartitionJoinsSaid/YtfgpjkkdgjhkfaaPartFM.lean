/- Facts: meets, joins, trees of parents. No Go. -/
import Derived.Test.YtfgpjkkdgjhkfaaPartM
namespace Go.Proofs.Ytfgpjkkdgjhkfaa
open Go Go.RowKit Go.Maps
set_option linter.unusedVariables false


/-! ### meets -/
def metF (m : Nat) (p q : Nat → Int) (i : Nat) : Int := ((canN p i * m + canN q i : Nat) : Int)
theorem met_iff {m n : Nat} {p q : Nat → Int} (hm : n ≤ m) {i j : Nat} (hi : i < n) (hj : j < n) : metF m p q i = metF m p q j ↔ p i = p j ∧ q i = q j := by
  have h1 := canN_le q i
  have h2 := canN_le q j
  refine ⟨fun h => ?_, fun h => by unfold metF; rw [canN_inj.2 h.1, canN_inj.2 h.2]⟩
  have h3 : canN p i * m + canN q i = canN p j * m + canN q j := by unfold metF at h; omega
  have h4 : canN q i = canN q j := by
    have e1 : (canN p i * m + canN q i) % m = canN q i := by rw [Nat.mul_comm, Nat.mul_add_mod, Nat.mod_eq_of_lt (by omega)]
    have e2 : (canN p j * m + canN q j) % m = canN q j := by rw [Nat.mul_comm, Nat.mul_add_mod, Nat.mod_eq_of_lt (by omega)]
    rw [← e1, h3, e2]
  have h5 : canN p i * m = canN p j * m := by omega
  exact ⟨canN_inj.1 (Nat.eq_of_mul_eq_mul_right (by omega) h5), canN_inj.1 h4⟩
theorem met_pat {n m m' : Nat} (p q : Nat → Int) (h : n ≤ m) (h' : n ≤ m') : Pat n (metF m p q) (metF m' p q) := fun i j hi hj => (met_iff h hi hj).trans (met_iff h' hi hj).symm
/-- the meet -/
def meetF (n : Nat) (p q : Nat → Int) : Nat → Int := can (metF n p q)
theorem meetF_iff {n : Nat} {p q : Nat → Int} {i j : Nat} (hi : i < n) (hj : j < n) : meetF n p q i = meetF n p q j ↔ p i = p j ∧ q i = q j := can_inj.trans (met_iff (Nat.le_refl n) hi hj)
theorem meetR_eq {n : Nat} (hn : n ≤ 4096) (p q : Nat → Int) {i : Nat} (hi : i < n) : can (metF 4096 p q) i = meetF n p q i := pat_eq (met_pat p q hn (Nat.le_refl n)) hi

/-! ### least partitions with a property -/
/-- r respects P, and every h that respects P is equal where r is -/
def LeastI (n : Nat) (P : (Nat → Int) → Prop) (r : Nat → Int) : Prop := P r ∧ ∀ h, P h → ∀ k l, k < n → l < n → r k = r l → h k = h l
theorem LeastI.pat {n : Nat} {P Q : (Nat → Int) → Prop} {r s : Nat → Int} (a : LeastI n P r) (b : LeastI n Q s) (h : P s) (k : Q r) : Pat n r s :=
  fun i j hi hj => ⟨a.2 s h i j hi hj, b.2 r k i j hi hj⟩
/-- both refine h -/
def JP (n : Nat) (p q h : Nat → Int) : Prop := ∀ i, i < n → h i = h (fst p i) ∧ h i = h (fst q i)
theorem JP_iff {n : Nat} {p q h : Nat → Int} : JP n p q h ↔ refB n p h = true ∧ refB n q h = true := by
  rw [refB_iff0, refB_iff0]
  exact ⟨fun H => ⟨fun i hi => (H i hi).1, fun i hi => (H i hi).2⟩, fun H i hi => ⟨H.1 i hi, H.2 i hi⟩⟩
theorem JP_pat {n : Nat} {p q h g : Nat → Int} (e : Pat n h g) (H : JP n p q h) : JP n p q g := fun i hi => by
  have := fst_le p i
  have := fst_le q i
  exact ⟨(e i _ hi (by omega)).1 (H i hi).1, (e i _ hi (by omega)).1 (H i hi).2⟩

/-! ### merging two classes: the greater number becomes the less -/
def mrg (r : Nat → Nat) (i j k : Nat) : Nat := if r k = max (r i) (r j) then min (r i) (r j) else r k
theorem mrg_keep {r : Nat → Nat} {i j k l : Nat} (h : r k = r l) : mrg r i j k = mrg r i j l := by unfold mrg; rw [h]
theorem mrg_join (r : Nat → Nat) (i j : Nat) : mrg r i j i = mrg r i j j := by
  unfold mrg
  rcases Nat.le_total (r i) (r j) with h | h
  · rw [Nat.max_eq_right h, Nat.min_eq_left h, if_pos rfl]; split <;> rfl
  · rw [Nat.max_eq_left h, Nat.min_eq_right h, if_pos rfl]; split <;> rfl
theorem mrg_least {n i j : Nat} {r : Nat → Nat} {h : Nat → Int} (hr : ∀ k l, k < n → l < n → r k = r l → h k = h l) (hi : i < n) (hj : j < n) (e : h i = h j) :
    ∀ k l, k < n → l < n → mrg r i j k = mrg r i j l → h k = h l := by
  have key : ∀ k l, k < n → l < n → r k = max (r i) (r j) → r l = min (r i) (r j) → h k = h l := by
    intro k l hk hl h1 h2
    rcases Nat.le_total (r i) (r j) with h3 | h3
    · rw [Nat.max_eq_right h3] at h1; rw [Nat.min_eq_left h3] at h2
      rw [hr k j hk hj h1, hr l i hl hi h2, e]
    · rw [Nat.max_eq_left h3] at h1; rw [Nat.min_eq_right h3] at h2
      rw [hr k i hk hi h1, hr l j hl hj h2, e]
  intro k l hk hl h0
  unfold mrg at h0
  split at h0
  · rename_i h1
    split at h0
    · rename_i h2; exact hr k l hk hl (by rw [h1, h2])
    · exact key k l hk hl h1 h0.symm
  · split at h0
    · rename_i h2; exact (key l k hl hk h2 h0).symm
    · exact hr k l hk hl h0
def mrgI (p : Nat → Int) (i j k : Nat) : Int := if p k = p j then p i else p k
theorem mrgI_keep {p : Nat → Int} {i j k l : Nat} (h : p k = p l) : mrgI p i j k = mrgI p i j l := by unfold mrgI; rw [h]
theorem mrgI_join (p : Nat → Int) (i j : Nat) : mrgI p i j i = mrgI p i j j := by
  unfold mrgI; rw [if_pos rfl]; split <;> rfl
theorem mrgI_least {n i j : Nat} {p h : Nat → Int} (hr : ∀ k l, k < n → l < n → p k = p l → h k = h l) (hi : i < n) (hj : j < n) (e : h i = h j) :
    ∀ k l, k < n → l < n → mrgI p i j k = mrgI p i j l → h k = h l := by
  intro k l hk hl h0
  unfold mrgI at h0
  split at h0
  · rename_i h1
    split at h0
    · rename_i h2; exact hr k l hk hl (by rw [h1, h2])
    · rw [hr k j hk hj h1, ← e, hr i l hi hl h0]
  · split at h0
    · rename_i h2; rw [hr l j hl hj h2, ← e, hr k i hk hi h0]
    · exact hr k l hk hl h0

/-! ### the join -/
def rJ (p q : Nat → Int) : Nat → Nat → Nat
  | 0 => fun k => k
  | i + 1 => mrg (mrg (rJ p q i) i (fst p i)) i (fst q i)
def joinF (n : Nat) (p q : Nat → Int) (k : Nat) : Int := (rJ p q n k : Int)
theorem rJ_resp {p q : Nat → Int} : ∀ {i t : Nat}, t < i → rJ p q i t = rJ p q i (fst p t) ∧ rJ p q i t = rJ p q i (fst q t)
  | 0, t, h => by omega
  | i + 1, t, h => by
    by_cases e : t = i
    · subst e; exact ⟨mrg_keep (mrg_join _ _ _), mrg_join _ _ _⟩
    · have := rJ_resp (p := p) (q := q) (i := i) (t := t) (by omega)
      exact ⟨mrg_keep (mrg_keep this.1), mrg_keep (mrg_keep this.2)⟩
theorem rJ_least {n : Nat} {p q h : Nat → Int} (H : JP n p q h) : ∀ {i : Nat}, i ≤ n → ∀ k l, k < n → l < n → rJ p q i k = rJ p q i l → h k = h l
  | 0, _ => fun k l _ _ e => by rw [show k = l from e]
  | i + 1, hi => by
    have h1 := fst_le p i
    have h2 := fst_le q i
    have h3 := H i (by omega)
    exact mrg_least (mrg_least (rJ_least H (Nat.le_of_succ_le hi)) (by omega) (by omega) h3.1) (by omega) (by omega) h3.2
theorem joinF_least (n : Nat) (p q : Nat → Int) : LeastI n (JP n p q) (joinF n p q) :=
  ⟨fun i hi => by have := rJ_resp (p := p) (q := q) hi; unfold joinF; omega, fun h H k l hk hl e => rJ_least H (Nat.le_refl n) k l hk hl (by unfold joinF at e; omega)⟩
/-- the reference's join -/
def jR (p q : Nat → Int) : Nat → Nat → Int
  | 0 => p
  | i + 1 => if fst q i < i then mrgI (jR p q i) i (fst q i) else jR p q i
theorem jR_keep {p q : Nat → Int} {k l : Nat} (h : p k = p l) : ∀ i, jR p q i k = jR p q i l
  | 0 => h
  | i + 1 => by rw [jR]; split; exact mrgI_keep (jR_keep h i); exact jR_keep h i
theorem jR_resp {p q : Nat → Int} : ∀ {i t : Nat}, t < i → jR p q i t = jR p q i (fst q t)
  | 0, t, h => by omega
  | i + 1, t, h => by
    rw [jR]
    by_cases e : t = i
    · subst e
      split
      · exact mrgI_join _ _ _
      · rename_i h1
        have h2 := fst_le q t
        rw [show fst q t = t by omega]
    · have := jR_resp (p := p) (q := q) (i := i) (t := t) (by omega)
      split
      · exact mrgI_keep this
      · exact this
theorem jR_least {n : Nat} {p q h : Nat → Int} (H : JP n p q h) : ∀ {i : Nat}, i ≤ n → ∀ k l, k < n → l < n → jR p q i k = jR p q i l → h k = h l
  | 0, _ => fun k l hk hl e => refB_iff.1 (JP_iff.1 H).1 k l hk hl e
  | i + 1, hi => by
    have h2 := fst_le q i
    rw [jR]
    split
    · exact mrgI_least (jR_least H (Nat.le_of_succ_le hi)) (by omega) (by omega) (H i (by omega)).2
    · exact jR_least H (Nat.le_of_succ_le hi)
theorem jR_leastI (n : Nat) (p q : Nat → Int) : LeastI n (JP n p q) (jR p q n) :=
  ⟨fun i hi => ⟨jR_keep (fst_val p i).symm n, jR_resp hi⟩, fun h H => jR_least H (Nat.le_refl n)⟩
theorem joinR_eq (n : Nat) (p q : Nat → Int) {i : Nat} (hi : i < n) : can (jR p q n) i = can (joinF n p q) i :=
  pat_eq ((jR_leastI n p q).pat (joinF_least n p q) (joinF_least n p q).1 (jR_leastI n p q).1) hi

/-! ### the least partition of pairs -/
def PP (m : Nat) (A B : Nat → Nat) (h : Nat → Int) : Prop := ∀ t, t < m → h (A t) = h (B t)
def rP (A B : Nat → Nat) : Nat → Nat → Nat
  | 0 => fun k => k
  | i + 1 => mrg (rP A B i) (A i) (B i)
def pairF (m : Nat) (A B : Nat → Nat) (k : Nat) : Int := (rP A B m k : Int)
theorem rP_resp {A B : Nat → Nat} : ∀ {i t : Nat}, t < i → rP A B i (A t) = rP A B i (B t)
  | 0, t, h => by omega
  | i + 1, t, h => by
    by_cases e : t = i
    · subst e; exact mrg_join _ _ _
    · exact mrg_keep (rP_resp (by omega))
theorem rP_least {n m : Nat} {A B : Nat → Nat} {h : Nat → Int} (H : PP m A B h) (hA : ∀ t, t < m → A t < n ∧ B t < n) : ∀ {i : Nat}, i ≤ m → ∀ k l, k < n → l < n → rP A B i k = rP A B i l → h k = h l
  | 0, _ => fun k l _ _ e => by rw [show k = l from e]
  | i + 1, hi => mrg_least (rP_least H hA (Nat.le_of_succ_le hi)) (hA i hi).1 (hA i hi).2 (H i hi)
theorem pairF_least {n m : Nat} {A B : Nat → Nat} (hA : ∀ t, t < m → A t < n ∧ B t < n) : LeastI n (PP m A B) (pairF m A B) :=
  ⟨fun t ht => by have := rP_resp (A := A) (B := B) ht; unfold pairF; omega, fun h H k l hk hl e => rP_least H hA (Nat.le_refl m) k l hk hl (by unfold pairF at e; omega)⟩
def mP (A B : Nat → Nat) : Nat → Nat → Int
  | 0 => fun k => (k : Int)
  | i + 1 => mrgI (mP A B i) (A i) (B i)
theorem mP_resp {A B : Nat → Nat} : ∀ {i t : Nat}, t < i → mP A B i (A t) = mP A B i (B t)
  | 0, t, h => by omega
  | i + 1, t, h => by
    by_cases e : t = i
    · subst e; exact mrgI_join _ _ _
    · exact mrgI_keep (mP_resp (by omega))
theorem mP_least {n m : Nat} {A B : Nat → Nat} {h : Nat → Int} (H : PP m A B h) (hA : ∀ t, t < m → A t < n ∧ B t < n) : ∀ {i : Nat}, i ≤ m → ∀ k l, k < n → l < n → mP A B i k = mP A B i l → h k = h l
  | 0, _ => fun k l _ _ e => by
    have e' : (k : Int) = (l : Int) := e
    rw [show k = l by omega]
  | i + 1, hi => mrgI_least (mP_least H hA (Nat.le_of_succ_le hi)) (hA i hi).1 (hA i hi).2 (H i hi)
theorem mP_leastI {n m : Nat} {A B : Nat → Nat} (hA : ∀ t, t < m → A t < n ∧ B t < n) : LeastI n (PP m A B) (mP A B m) :=
  ⟨fun t ht => mP_resp ht, fun h H => mP_least H hA (Nat.le_refl m)⟩
theorem pairR_eq {n m : Nat} {A B : Nat → Nat} (hA : ∀ t, t < m → A t < n ∧ B t < n) {i : Nat} (hi : i < n) : can (mP A B m) i = can (pairF m A B) i :=
  pat_eq ((mP_leastI hA).pat (pairF_least hA) (pairF_least hA).1 (mP_leastI hA).1) hi

/-! ### trees of parents -/
/-- G gives parents; r the roots -/
def FI (n : Nat) (G r : Nat → Nat) : Prop := ∀ i, i < n → G i ≤ i ∧ r (G i) = r i ∧ (G i = i ↔ r i = i)
theorem FI.le {n : Nat} {G r : Nat → Nat} (h : FI n G r) : ∀ i, i < n → r i ≤ i := by
  intro i
  induction i using Nat.strongRecOn with
  | ind i ih =>
    intro hi
    obtain ⟨h1, h2, h3⟩ := h i hi
    by_cases e : G i = i
    · rw [h3.1 e]; exact Nat.le_refl _
    · have := ih (G i) (by omega) (by omega); omega
theorem FI.root {n : Nat} {G r : Nat → Nat} (h : FI n G r) : ∀ i, i < n → r (r i) = r i := by
  intro i
  induction i using Nat.strongRecOn with
  | ind i ih =>
    intro hi
    obtain ⟨h1, h2, h3⟩ := h i hi
    by_cases e : G i = i
    · rw [h3.1 e, h3.1 e]
    · rw [← h2]; exact ih (G i) (by omega) (by omega)
theorem FI.start (n : Nat) : FI n (fun k => k) (fun k => k) := fun i _ => ⟨Nat.le_refl _, rfl, Iff.rfl⟩
theorem FI.halve {n : Nat} {G r : Nat → Nat} (h : FI n G r) {x : Nat} (hx : x < n) (hne : G x ≠ x) : FI n (fun t => if t = x then G (G x) else G t) r := by
  intro i hi
  by_cases e : i = x
  · subst e
    simp only [if_true]
    obtain ⟨h1, h2, h3⟩ := h i hi
    obtain ⟨h4, h5, h6⟩ := h (G i) (by omega)
    refine ⟨by omega, by rw [h5, h2], ?_⟩
    constructor
    · intro e2; omega
    · intro e2; exact absurd (h3.2 e2) hne
  · simp only [if_neg e]
    exact h i hi
theorem FI.union {n : Nat} {G r : Nat → Nat} (h : FI n G r) {i j : Nat} (hi : i < n) (hj : j < n) : FI n (fun t => if t = max (r i) (r j) then min (r i) (r j) else G t) (mrg r i j) := by
  have ri := h.root i hi
  have rj := h.root j hj
  have li := h.le i hi
  have lj := h.le j hj
  obtain ⟨M, hM⟩ : ∃ M, M = max (r i) (r j) := ⟨_, rfl⟩
  obtain ⟨m, hm⟩ : ∃ m, m = min (r i) (r j) := ⟨_, rfl⟩
  have hmM : m ≤ M := by omega
  have hMn : M < n := by omega
  have rM : r M = M := by rcases Nat.le_total (r i) (r j) with e | e <;> simp [hM, e, ri, rj]
  have rm : r m = m := by rcases Nat.le_total (r i) (r j) with e | e <;> simp [hm, e, ri, rj]
  have hmrg : ∀ k, mrg r i j k = if r k = M then m else r k := fun k => by rw [hM, hm]; rfl
  rw [← hM, ← hm]
  intro k hk
  rw [hmrg]
  by_cases e : k = M
  · subst e
    simp only [if_true]
    rw [hmrg, rm, if_pos rM]
    refine ⟨hmM, ?_, Iff.rfl⟩
    split <;> rfl
  · simp only [if_neg e]
    obtain ⟨h1, h2, h3⟩ := h k hk
    rw [hmrg, h2]
    refine ⟨h1, rfl, h3.trans ?_⟩
    split
    · rename_i h4
      constructor
      · intro h5; omega
      · intro h5; rw [← h5, rm] at h4; omega
    · exact Iff.rfl
end Go.Proofs.Ytfgpjkkdgjhkfaa
