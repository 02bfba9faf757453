/- Facts: normal forms of trees; strictly sorted lists. -/
import Derived.Test.YthmdndondlffeaaExprCM
namespace Go.Proofs.Ythmdndondlffeaa
set_option linter.unusedVariables false
/-- strictly ascending -/
def StrictT (l : List T) : Prop := l.Pairwise fun x y => cmpT x y < 0
theorem cmpT_lt_trans {a b c : T} (h1 : cmpT a b < 0) (h2 : cmpT b c < 0) : cmpT a c < 0 := by
  have h3 := cmpT_trans a b c (by omega) (by omega)
  have h4 : cmpT a c ≠ 0 := fun h => by
    have h5 := cmpT_zero _ _ h
    subst h5
    have h6 := cmpT_neg a b
    omega
  omega
theorem cmpT_le_lt {a b c : T} (h1 : cmpT a b ≤ 0) (h2 : cmpT b c < 0) : cmpT a c < 0 := by
  by_cases h : cmpT a b = 0
  · rw [cmpT_zero _ _ h]; exact h2
  · exact cmpT_lt_trans (by omega) h2
theorem strict_ext : ∀ (l m : List T), StrictT l → StrictT m → (∀ x, x ∈ l ↔ x ∈ m) → l = m := by
  intro l
  induction l with
  | nil =>
    intro m _ _ h
    cases m with
    | nil => rfl
    | cons y m => exact absurd ((h y).2 (by simp)) (by simp)
  | cons x l ih =>
    intro m h1 h2 h
    cases m with
    | nil => exact absurd ((h x).1 (by simp)) (by simp)
    | cons y m =>
      unfold StrictT at h1 h2
      rw [List.pairwise_cons] at h1 h2
      have hxy : x = y := by
        rcases List.mem_cons.1 ((h x).1 (by simp)) with e | e
        · exact e
        rcases List.mem_cons.1 ((h y).2 (by simp)) with e2 | e2
        · exact e2.symm
        · have a1 := h1.1 y e2
          have a2 := h2.1 x e
          have a3 := cmpT_neg x y
          omega
      subst hxy
      congr 1
      refine ih m h1.2 h2.2 fun z => ⟨fun hz => ?_, fun hz => ?_⟩
      · rcases List.mem_cons.1 ((h z).1 (by simp [hz])) with e | e
        · subst e; have := h1.1 z hz; rw [cmpT_self] at this; omega
        · exact e
      · rcases List.mem_cons.1 ((h z).2 (by simp [hz])) with e | e
        · subst e; have := h2.1 z hz; rw [cmpT_self] at this; omega
        · exact e
/-- a tree more in a strictly ascending list -/
def insT : List T → T → List T
  | [], x => [x]
  | y :: l, x => if cmpT x y < 0 then x :: y :: l else if cmpT x y = 0 then y :: l else y :: insT l x
theorem mem_insT : ∀ (l : List T) (x z : T), z ∈ insT l x ↔ z = x ∨ z ∈ l := by
  intro l
  induction l with
  | nil => intro x z; simp [insT]
  | cons y l ih =>
    intro x z
    rw [insT]
    split
    · simp
    split
    · rename_i h; rw [cmpT_zero _ _ h]; simp
    · simp only [List.mem_cons, ih]
      constructor
      · rintro (h | h | h)
        · exact .inr (.inl h)
        · exact .inl h
        · exact .inr (.inr h)
      · rintro (h | h | h)
        · exact .inr (.inl h)
        · exact .inl h
        · exact .inr (.inr h)
theorem strict_insT : ∀ (l : List T) (x : T), StrictT l → StrictT (insT l x) := by
  intro l
  induction l with
  | nil => intro x _; simp [insT, StrictT]
  | cons y l ih =>
    intro x h
    have h0 := h
    unfold StrictT at h
    rw [List.pairwise_cons] at h
    rw [insT]
    split
    · rename_i hlt
      unfold StrictT
      rw [List.pairwise_cons]
      refine ⟨fun z hz => ?_, h0⟩
      rcases List.mem_cons.1 hz with e | e
      · rw [e]; exact hlt
      · exact cmpT_lt_trans hlt (h.1 z e)
    split
    · exact h0
    · rename_i h1 h2
      unfold StrictT
      rw [List.pairwise_cons]
      refine ⟨fun z hz => ?_, ih x h.2⟩
      rcases (mem_insT l x z).1 hz with e | e
      · rw [e]; have := cmpT_neg x y; omega
      · exact h.1 z e
/-- the strictly ascending list of what lies in a list -/
def setT (l : List T) : List T := l.foldl insT []
theorem foldl_insT : ∀ (l a : List T), StrictT a → StrictT (l.foldl insT a) ∧ ∀ z, z ∈ l.foldl insT a ↔ z ∈ a ∨ z ∈ l := by
  intro l
  induction l with
  | nil => intro a h; exact ⟨h, by simp⟩
  | cons x l ih =>
    intro a h
    obtain ⟨h1, h2⟩ := ih (insT a x) (strict_insT a x h)
    refine ⟨h1, fun z => ?_⟩
    rw [List.foldl_cons, h2, mem_insT, List.mem_cons]
    constructor
    · rintro ((h | h) | h)
      · exact .inr (.inl h)
      · exact .inl h
      · exact .inr (.inr h)
    · rintro (h | h | h)
      · exact .inl (.inr h)
      · exact .inl (.inl h)
      · exact .inr h
theorem strict_setT (l : List T) : StrictT (setT l) := (foldl_insT l [] .nil).1
theorem mem_setT (l : List T) (z : T) : z ∈ setT l ↔ z ∈ l := by rw [setT, (foldl_insT l [] .nil).2]; simp
theorem setT_ext {l m : List T} (h : ∀ z, z ∈ l ↔ z ∈ m) : setT l = setT m := strict_ext _ _ (strict_setT l) (strict_setT m) fun z => by rw [mem_setT, mem_setT, h]
theorem setT_self {l : List T} (h : StrictT l) : setT l = l := strict_ext _ _ (strict_setT l) h (mem_setT l)
theorem setT_snoc (l : List T) (x : T) : setT (l ++ [x]) = insT (setT l) x := by simp [setT, List.foldl_append]
/-- what the insertion from the end makes -/
theorem insT_split {l a b : List T} {x : T} (h : StrictT l) (e : l = a ++ b) (hb : ∀ y, y ∈ b → cmpT x y < 0) (ha : ∀ y, y ∈ a → cmpT y x < 0) : insT l x = a ++ x :: b := by
  refine strict_ext _ _ (strict_insT l x h) ?_ fun z => ?_
  · subst e
    unfold StrictT at h ⊢
    rw [List.pairwise_append] at h ⊢
    refine ⟨h.1, List.pairwise_cons.2 ⟨hb, h.2.1⟩, fun y hy z hz => ?_⟩
    rcases List.mem_cons.1 hz with e | e
    · rw [e]; exact ha y hy
    · exact h.2.2 y hy z e
  · rw [mem_insT, e]
    simp only [List.mem_append, List.mem_cons]
    constructor
    · rintro (h | h | h)
      · exact .inr (.inl h)
      · exact .inl h
      · exact .inr (.inr h)
    · rintro (h | h | h)
      · exact .inr (.inl h)
      · exact .inl h
      · exact .inr (.inr h)
theorem insT_mem {l : List T} {x : T} (h : StrictT l) (hx : x ∈ l) : insT l x = l :=
  strict_ext _ _ (strict_insT l x h) h fun z => by
    rw [mem_insT]
    exact ⟨fun h => h.elim (fun e => by rw [e]; exact hx) id, .inr⟩
/-- the first of each run -/
def runsT : List T → List T
  | [] => []
  | [x] => [x]
  | x :: y :: l => if cmpT x y = 0 then runsT (y :: l) else x :: runsT (y :: l)
theorem mem_runsT : ∀ (l : List T) (z : T), z ∈ runsT l ↔ z ∈ l := by
  intro l
  induction l with
  | nil => intro z; simp [runsT]
  | cons x l ih =>
    intro z
    cases l with
    | nil => simp [runsT]
    | cons y l =>
      rw [runsT]
      split
      · rename_i h; rw [ih, cmpT_zero _ _ h]; simp
      · rw [List.mem_cons, ih]; simp
theorem runsT_strict : ∀ (l : List T), (l.Pairwise fun x y => cmpT x y ≤ 0) → StrictT (runsT l) := by
  intro l
  induction l with
  | nil => intro _; exact .nil
  | cons x l ih =>
    intro h
    rw [List.pairwise_cons] at h
    cases l with
    | nil => simp [runsT, StrictT]
    | cons y l =>
      rw [runsT]
      split
      · exact ih h.2
      · rename_i hne
        unfold StrictT
        rw [List.pairwise_cons]
        refine ⟨fun z hz => ?_, ih h.2⟩
        rw [mem_runsT] at hz
        have hxy : cmpT x y < 0 := by have := h.1 y (by simp); omega
        rcases List.mem_cons.1 hz with e | e
        · rw [e]; exact hxy
        · have h3 := (List.pairwise_cons.1 h.2).1 z e
          have h4 := cmpT_trans x y z (by omega) h3
          have h5 : cmpT x z ≠ 0 := fun h => by
            have h6 := cmpT_zero _ _ h
            subst h6
            have := cmpT_neg x y
            omega
          omega
/-- sorting and dropping repetitions is what the insertions make -/
theorem runs_setT {l m : List T} (h : l.Pairwise fun x y => cmpT x y ≤ 0) (hm : ∀ z, z ∈ l ↔ z ∈ m) : runsT l = setT m :=
  strict_ext _ _ (runsT_strict l h) (strict_setT m) fun z => by rw [mem_runsT, mem_setT, hm]
/-- sizes -/
theorem sizeL_insT : ∀ (l : List T) (x : T), sizeL (insT l x) ≤ sizeL l + sizeT x := by
  intro l
  induction l with
  | nil => intro x; simp [insT, sizeL]
  | cons y l ih =>
    intro x
    rw [insT]
    split
    · simp only [sizeL]; omega
    split
    · omega
    · have := ih x; simp only [sizeL]; omega
theorem sizeL_foldl : ∀ (l a : List T), sizeL (l.foldl insT a) ≤ sizeL a + sizeL l := by
  intro l
  induction l with
  | nil => intro a; simp [sizeL]
  | cons x l ih =>
    intro a
    have h1 := ih (insT a x)
    have h2 := sizeL_insT a x
    rw [List.foldl_cons]
    simp only [sizeL]
    omega
theorem sizeL_setT (l : List T) : sizeL (setT l) ≤ sizeL l := by have := sizeL_foldl l []; simp [sizeL] at this; exact this
end Go.Proofs.Ythmdndondlffeaa
