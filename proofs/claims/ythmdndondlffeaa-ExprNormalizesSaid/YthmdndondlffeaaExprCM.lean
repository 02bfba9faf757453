/- Facts: the order of trees. -/
import Derived.Test.YthmdndondlffeaaExprM
namespace Go.Proofs.Ythmdndondlffeaa
set_option linter.unusedVariables false
def sgn (a b : Int) : Int := if a < b then -1 else if b < a then 1 else 0
mutual
def cmpT : T → T → Int
  | .node o l ks, t => if o ≠ t.op then sgn o t.op else if l ≠ t.lt then sgn l t.lt else cmpL ks t.ks
def cmpL : List T → List T → Int
  | [], [] => 0
  | [], _ :: _ => -1
  | _ :: _, [] => 1
  | a :: as, b :: bs => if cmpT a b ≠ 0 then cmpT a b else cmpL as bs
end
theorem cmpT_node (o l : Int) (ks : List T) (o' l' : Int) (ks' : List T) : cmpT (.node o l ks) (.node o' l' ks') = if o ≠ o' then sgn o o' else if l ≠ l' then sgn l l' else cmpL ks ks' := by rw [cmpT]; rfl
theorem sgn_rng (a b : Int) : -1 ≤ sgn a b ∧ sgn a b ≤ 1 := by unfold sgn; split <;> (try split) <;> omega
theorem sgn_self (a : Int) : sgn a a = 0 := by unfold sgn; rw [if_neg (by omega), if_neg (by omega)]
theorem sgn_neg (a b : Int) : sgn b a = - sgn a b := by unfold sgn; split <;> split <;> (try split) <;> omega
theorem sgn_lt {a b : Int} (h : a < b) : sgn a b = -1 := by unfold sgn; rw [if_pos h]
theorem sgn_gt {a b : Int} (h : b < a) : sgn a b = 1 := by unfold sgn; rw [if_neg (by omega), if_pos h]
theorem cmpT_ops {o l : Int} {ks : List T} {o' l' : Int} {ks' : List T} (h : o ≠ o') : cmpT (.node o l ks) (.node o' l' ks') = sgn o o' := by rw [cmpT_node, if_pos h]
theorem cmpT_lts {o l : Int} {ks : List T} {l' : Int} {ks' : List T} (h : l ≠ l') : cmpT (.node o l ks) (.node o l' ks') = sgn l l' := by rw [cmpT_node, if_neg (by simp), if_pos h]
theorem cmpT_kids {o l : Int} {ks : List T} {ks' : List T} : cmpT (.node o l ks) (.node o l ks') = cmpL ks ks' := by rw [cmpT_node, if_neg (by simp), if_neg (by simp)]
theorem cmpL_rng_of : ∀ (as bs : List T), (∀ a, a ∈ as → ∀ b, -1 ≤ cmpT a b ∧ cmpT a b ≤ 1) → -1 ≤ cmpL as bs ∧ cmpL as bs ≤ 1 := by
  intro as
  induction as with
  | nil => intro bs _; cases bs <;> simp [cmpL]
  | cons a as ih =>
    intro bs h
    cases bs with
    | nil => simp [cmpL]
    | cons b bs =>
      rw [cmpL]
      split
      · exact h a (by simp) b
      · exact ih bs fun x hx => h x (by simp [hx])
theorem cmpT_rng : ∀ a b : T, -1 ≤ cmpT a b ∧ cmpT a b ≤ 1 := by
  intro a
  induction a using T.ind with
  | h o l ks ih =>
    intro b
    obtain ⟨o', l', ks'⟩ := b
    rw [cmpT_node]
    split
    · exact sgn_rng _ _
    split
    · exact sgn_rng _ _
    · exact cmpL_rng_of ks ks' ih
theorem cmpL_rng (as bs : List T) : -1 ≤ cmpL as bs ∧ cmpL as bs ≤ 1 := cmpL_rng_of as bs fun a _ => cmpT_rng a
theorem cmpL_neg_of : ∀ (as bs : List T), (∀ a, a ∈ as → ∀ b, cmpT b a = - cmpT a b) → cmpL bs as = - cmpL as bs := by
  intro as
  induction as with
  | nil => intro bs _; cases bs <;> simp [cmpL]
  | cons a as ih =>
    intro bs h
    cases bs with
    | nil => simp [cmpL]
    | cons b bs =>
      have h1 := h a (by simp) b
      have h2 := ih bs fun x hx => h x (by simp [hx])
      rw [cmpL, cmpL, h1, h2]
      split <;> split <;> omega
theorem cmpT_neg : ∀ a b : T, cmpT b a = - cmpT a b := by
  intro a
  induction a using T.ind with
  | h o l ks ih =>
    intro b
    obtain ⟨o', l', ks'⟩ := b
    rw [cmpT_node, cmpT_node]
    by_cases h1 : o = o'
    · subst h1
      by_cases h2 : l = l'
      · subst h2; simp; exact cmpL_neg_of ks ks' ih
      · rw [if_neg (by simp), if_pos (Ne.symm h2), if_neg (by simp), if_pos h2]; exact sgn_neg _ _
    · rw [if_pos (Ne.symm h1), if_pos h1]; exact sgn_neg _ _
theorem cmpT_self : ∀ a : T, cmpT a a = 0 := fun a => by have := cmpT_neg a a; omega
theorem sgn_zero {a b : Int} (h : sgn a b = 0) : a = b := by unfold sgn at h; split at h <;> (try split at h) <;> omega
theorem cmpL_zero_of : ∀ (as bs : List T), (∀ a, a ∈ as → ∀ b, cmpT a b = 0 → a = b) → cmpL as bs = 0 → as = bs := by
  intro as
  induction as with
  | nil => intro bs _ h; cases bs with
    | nil => rfl
    | cons b bs => simp [cmpL] at h
  | cons a as ih =>
    intro bs h h0
    cases bs with
    | nil => simp [cmpL] at h0
    | cons b bs =>
      rw [cmpL] at h0
      split at h0
      · rename_i hne; exact absurd h0 hne
      · rename_i he
        have he : cmpT a b = 0 := by omega
        rw [h a (by simp) b he, ih bs (fun x hx => h x (by simp [hx])) h0]
theorem cmpT_zero : ∀ a b : T, cmpT a b = 0 → a = b := by
  intro a
  induction a using T.ind with
  | h o l ks ih =>
    intro b h
    obtain ⟨o', l', ks'⟩ := b
    rw [cmpT_node] at h
    split at h
    · rename_i hne; exact absurd (sgn_zero h) hne
    split at h
    · rename_i _ hne; exact absurd (sgn_zero h) hne
    · rename_i h1 h2
      rw [cmpL_zero_of ks ks' ih h, show o = o' by omega, show l = l' by omega]
theorem cmpT_eq0 (a b : T) : cmpT a b = 0 ↔ a = b := ⟨cmpT_zero a b, fun h => by rw [h]; exact cmpT_self b⟩
theorem cmpL_trans_of : ∀ (as bs cs : List T), (∀ a, a ∈ as → ∀ b c, cmpT a b ≤ 0 → cmpT b c ≤ 0 → cmpT a c ≤ 0) → cmpL as bs ≤ 0 → cmpL bs cs ≤ 0 → cmpL as cs ≤ 0 := by
  intro as
  induction as with
  | nil => intro bs cs _ _ _; cases cs <;> simp [cmpL]
  | cons a as ih =>
    intro bs cs h h1 h2
    cases bs with
    | nil => simp [cmpL] at h1
    | cons b bs =>
      cases cs with
      | nil => simp [cmpL] at h2
      | cons c cs =>
        rw [cmpL] at h1 h2 ⊢
        have hab : cmpT a b ≤ 0 := by split at h1 <;> omega
        have hbc : cmpT b c ≤ 0 := by split at h2 <;> omega
        have hac := h a (by simp) b c hab hbc
        by_cases e : cmpT a c = 0
        · rw [if_neg (by omega)]
          have e1 := cmpT_zero _ _ e
          subst e1
          have e2 : cmpT a b = 0 := by have := cmpT_neg a b; omega
          have e3 := cmpT_zero _ _ e2
          subst e3
          rw [cmpT_self] at h1 h2
          simp at h1 h2
          exact ih bs cs (fun x hx => h x (by simp [hx])) h1 h2
        · rw [if_pos e]; exact hac
theorem sgn_le {a b : Int} (h : sgn a b ≤ 0) : a ≤ b := by unfold sgn at h; split at h <;> (try split at h) <;> omega
theorem le_sgn {a b : Int} (h : a ≤ b) : sgn a b ≤ 0 := by unfold sgn; split <;> (try split) <;> omega
theorem cmpT_trans : ∀ a b c : T, cmpT a b ≤ 0 → cmpT b c ≤ 0 → cmpT a c ≤ 0 := by
  intro a
  induction a using T.ind with
  | h o l ks ih =>
    intro b c h1 h2
    obtain ⟨o1, l1, k1⟩ := b
    obtain ⟨o2, l2, k2⟩ := c
    rw [cmpT_node] at h1 h2 ⊢
    have ho1 : o ≤ o1 := by split at h1; exact sgn_le h1; omega
    have ho2 : o1 ≤ o2 := by split at h2; exact sgn_le h2; omega
    by_cases e : o = o2
    · have e1 : o = o1 := by omega
      subst e; subst e1
      simp only [ne_eq, not_true_eq_false, if_false] at h1 h2 ⊢
      have hl1 : l ≤ l1 := by split at h1; exact sgn_le h1; omega
      have hl2 : l1 ≤ l2 := by split at h2; exact sgn_le h2; omega
      by_cases e : l = l2
      · have e1 : l = l1 := by omega
        subst e; subst e1
        simp only [not_true_eq_false, if_false] at h1 h2 ⊢
        exact cmpL_trans_of ks k1 k2 ih h1 h2
      · rw [if_pos e]; exact le_sgn (by omega)
    · rw [if_pos e]; exact le_sgn (by omega)
/-! ### round for round -/
theorem cmpL_at : ∀ (as bs : List T) (i : Nat) (ha : i < as.length) (hb : i < bs.length), (∀ j (h1 : j < as.length) (h2 : j < bs.length), j < i → cmpT as[j] bs[j] = 0) → cmpT as[i] bs[i] ≠ 0 → cmpL as bs = cmpT as[i] bs[i] := by
  intro as
  induction as with
  | nil => intro bs i ha; simp at ha
  | cons a as ih =>
    intro bs i ha hb h hne
    cases bs with
    | nil => simp at hb
    | cons b bs =>
      rw [cmpL]
      cases i with
      | zero => rw [if_pos (by simpa using hne)]; rfl
      | succ i =>
        rw [if_neg (by have := h 0 (by simp) (by simp) (by omega); simpa using this)]
        exact ih bs i (by simpa using ha) (by simpa using hb) (fun j h1 h2 hj => h (j + 1) (by simpa using h1) (by simpa using h2) (by omega)) (by simpa using hne)
theorem cmpL_all : ∀ (as bs : List T), (∀ j (h1 : j < as.length) (h2 : j < bs.length), cmpT as[j] bs[j] = 0) → cmpL as bs = sgn (as.length : Int) (bs.length : Int) := by
  intro as
  induction as with
  | nil =>
    intro bs h
    cases bs with
    | nil => simp [cmpL, sgn]
    | cons b bs => rw [cmpL, sgn_lt]; simp <;> omega
  | cons a as ih =>
    intro bs h
    cases bs with
    | nil => rw [cmpL, sgn_gt]; simp <;> omega
    | cons b bs =>
      rw [cmpL, if_neg (by have := h 0 (by simp) (by simp); simpa using this), ih bs fun j h1 h2 => h (j + 1) (by simpa using h1) (by simpa using h2)]
      unfold sgn
      simp
end Go.Proofs.Ythmdndondlffeaa
