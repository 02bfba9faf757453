/- Facts: how a text is read: heads, what stops each rule of the grammar. -/
import Derived.Test.YthmdndondlffeaaExprPF
namespace Go.Proofs.Ythmdndondlffeaa
open Go Go.RowKit Go.Lib
set_option linter.unusedVariables false
theorem fmtK_node (n op l : Int) (ks : List T) : fmtK n (.node op l ks) = paren (decide (n ≤ lvl op)) (fmtT (.node op l ks)) := rfl
theorem fmtK_next {n op l : Int} {ks : List T} (h : lvl op ≠ n) : fmtK n (.node op l ks) = fmtK (n + 1) (.node op l ks) := by
  rw [fmtK_node, fmtK_node]
  congr 1
  rw [decide_eq_decide]; omega
theorem fmtK_in {n op l : Int} {ks : List T} (h : n ≤ lvl op) : fmtK n (.node op l ks) = fmtT (.node op l ks) := by
  rw [fmtK_node]; simp [paren, h]
theorem fmtK_out {n op l : Int} {ks : List T} (h : lvl op < n) : fmtK n (.node op l ks) = [40] ++ fmtT (.node op l ks) ++ [41] := by
  rw [fmtK_node]; simp [paren]; omega
/-- a byte that begins an expression -/
def Heads (L : Int) (l : List Int) : Prop := ∃ b r, l = b :: r ∧ begB L b = true
theorem paren_head {L : Int} {b : Bool} {l : List Int} (h : Heads L l) : Heads L (paren b l) := by
  unfold paren
  split
  · exact h
  · exact ⟨40, l ++ [41], by simp, by unfold begB inB; simp⟩
theorem Heads.app {L : Int} {l r : List Int} (h : Heads L l) : Heads L (l ++ r) := by
  obtain ⟨b, q, rfl, hb⟩ := h
  exact ⟨b, q ++ r, rfl, hb⟩
theorem fmt_head {L : Int} : ∀ t : T, wfT L t = true → Heads L (fmtT t) := by
  intro t
  induction t using T.ind with
  | h op l ks ih =>
    intro hwf
    obtain ⟨hk, hl, hks⟩ := wfT_node.1 hwf
    have hlist : ∀ sep least, 0 < ks.length → Heads L (fmtL sep least ks) := by
      intro sep least h0
      cases ks with
      | nil => simp at h0
      | cons x a => simp only [fmtL]; exact (paren_head (ih x (by simp) (hks x (by simp)))).app
    have hh : ∀ least, 0 < ks.length → Heads L (fmtH least ks) := by
      intro least h0
      cases ks with
      | nil => simp at h0
      | cons x a => exact paren_head (ih x (by simp) (hks x (by simp)))
    rw [fmtT]
    rcases op_cases op with h | h | h | h | h | h | h | h | h
    · subst h; exact ⟨48, [], rfl, by unfold begB inB; simp⟩
    · subst h; exact ⟨49, [], rfl, by unfold begB inB; simp⟩
    · subst h
      rw [letOk_3 rfl] at hl
      have hl2 : 0 ≤ l ∧ l < L := by simpa using hl
      exact ⟨97 + l, [], rfl, by unfold begB ltrB; simp; omega⟩
    · subst h; rw [kidsOk_2 _ (by omega)] at hk; exact hlist _ _ (by simp at hk; omega)
    · subst h; rw [kidsOk_2 _ (by omega)] at hk; exact hlist _ _ (by simp at hk; omega)
    · subst h; rw [kidsOk_2 _ (by omega)] at hk; exact hlist _ _ (by simp at hk; omega)
    · subst h; rw [kidsOk_1 _ (by omega)] at hk; exact (hh _ (by simp at hk; omega)).app
    · subst h; exact ⟨33, fmtH 4 ks, rfl, by unfold begB inB; simp⟩
    · rw [kidsOk_no _ h] at hk; cases hk
theorem fmtK_head {L n : Int} {t : T} (h : wfT L t = true) : Heads L (fmtK n t) := paren_head (fmt_head t h)
/-! ### all bytes of a text -/
def okB (b : Int) : Prop := 33 ≤ b ∧ b < 256
theorem okB_paren {c : Bool} {l : List Int} (h : ∀ b, b ∈ l → okB b) : ∀ b, b ∈ paren c l → okB b := by
  intro b hb
  unfold paren at hb
  split at hb
  · exact h b hb
  · simp only [List.mem_append, List.mem_singleton] at hb
    rcases hb with (rfl | hb) | rfl
    · unfold okB; omega
    · exact h b hb
    · unfold okB; omega
theorem okB_S {sep : List Int} {least : Int} (hs : ∀ b, b ∈ sep → okB b) : ∀ ks : List T, (∀ k, k ∈ ks → ∀ b, b ∈ fmtT k → okB b) → ∀ b, b ∈ fmtS sep least ks → okB b := by
  intro ks
  induction ks with
  | nil => intro _ b hb; simp [fmtS] at hb
  | cons x a ih =>
    intro h b hb
    simp only [fmtS, List.mem_append] at hb
    rcases hb with (hb | hb) | hb
    · exact hs b hb
    · exact okB_paren (h x (by simp)) b hb
    · exact ih (fun k hk => h k (by simp [hk])) b hb
theorem okB_L {sep : List Int} {least : Int} (hs : ∀ b, b ∈ sep → okB b) (ks : List T) (h : ∀ k, k ∈ ks → ∀ b, b ∈ fmtT k → okB b) : ∀ b, b ∈ fmtL sep least ks → okB b := by
  intro b hb
  cases ks with
  | nil => simp [fmtL] at hb
  | cons x a =>
    simp only [fmtL, List.mem_append] at hb
    rcases hb with hb | hb
    · exact okB_paren (h x (by simp)) b hb
    · exact okB_S hs a (fun k hk => h k (by simp [hk])) b hb
theorem okB_H {least : Int} (ks : List T) (h : ∀ k, k ∈ ks → ∀ b, b ∈ fmtT k → okB b) : ∀ b, b ∈ fmtH least ks → okB b := by
  intro b hb
  cases ks with
  | nil => simp [fmtH] at hb
  | cons x a => exact okB_paren (h x (by simp)) b hb
theorem okB_T : ∀ t : T, wfT 6 t = true → ∀ b, b ∈ fmtT t → okB b := by
  intro t
  induction t using T.ind with
  | h op l ks ih =>
    intro hwf b hb
    obtain ⟨hk, hl, hks⟩ := wfT_node.1 hwf
    have hih : ∀ k, k ∈ ks → ∀ b, b ∈ fmtT k → okB b := fun k hk => ih k hk (hks k hk)
    rw [fmtT] at hb
    rcases op_cases op with h | h | h | h | h | h | h | h | h
    · subst h; simp at hb; subst hb; unfold okB; omega
    · subst h; simp at hb; subst hb; unfold okB; omega
    · subst h
      rw [letOk_3 rfl] at hl
      have hl2 : 0 ≤ l ∧ l < 6 := by simpa using hl
      simp at hb; subst hb; unfold okB; omega
    · subst h; exact okB_L (by simp [okB]) ks hih b hb
    · subst h; exact okB_L (by simp) ks hih b hb
    · subst h; exact okB_L (by simp [okB]) ks hih b hb
    · subst h
      simp at hb
      rcases hb with hb | rfl
      · exact okB_H ks hih b hb
      · unfold okB; omega
    · subst h
      simp at hb
      rcases hb with rfl | hb
      · unfold okB; omega
      · exact okB_H ks hih b hb
    · rw [kidsOk_no _ h] at hk; cases hk
theorem bytes_of_nums {l : List Int} (h : ∀ b, b ∈ l → okB b) : bytesI (strOfNums l) = l := by
  unfold bytesI
  rw [strOfNums_data, List.map_map]
  conv => rhs; rw [← List.map_id l]
  apply List.map_congr_left
  intro b hb
  obtain ⟨h1, h2⟩ := h b hb
  simp only [Function.comp, id]
  rw [UInt8.toNat_ofNat']
  omega
/-! ### what stops a rule -/
def stopB (L : Int) (n : Nat) (b : Int) : Prop := (n ≤ 5 → b ≠ 42) ∧ (n ≤ 3 → begB L b = false) ∧ (n ≤ 2 → b ≠ 38) ∧ (n ≤ 1 → b ≠ 124)
def Stop (L : Int) (n : Nat) (r : List Int) : Prop := ∀ b q, r = b :: q → stopB L n b
theorem Stop.next {L : Int} {n : Nat} {r : List Int} (h : Stop L n r) : Stop L (n + 1) r := fun b q e => by
  obtain ⟨h1, h2, h3, h4⟩ := h b q e
  exact ⟨fun h => h1 (by omega), fun h => h2 (by omega), fun h => h3 (by omega), fun h => h4 (by omega)⟩
theorem Stop.nil (L : Int) (n : Nat) : Stop L n [] := fun b q e => by cases e
theorem Stop.cons {L : Int} {n : Nat} {b : Int} {q : List Int} (h : stopB L n b) : Stop L n (b :: q) := fun b' q' e => by injection e with e1 e2; subst e1; exact h
theorem begB_ne {L b : Int} (h1 : L ≤ 6) (h : begB L b = true) : b ≠ 42 := by
  intro e; subst e
  unfold begB ltrB inB at h
  simp at h
theorem Stop.heads {L : Int} {l r : List Int} (hL : L ≤ 6) (h : Heads L l) : Stop L 4 (l ++ r) := by
  obtain ⟨b, q, rfl, hb⟩ := h
  refine Stop.cons ⟨fun _ => begB_ne hL hb, fun h => by omega, fun h => by omega, fun h => by omega⟩
theorem notBeg {L b : Int} (hL : L ≤ 6) (h : b = 124 ∨ b = 38 ∨ b = 41) : begB L b = false := by
  unfold begB ltrB inB
  rcases h with rfl | rfl | rfl <;> simp <;> omega
/-- behind a first part -/
theorem drop_add {l A B : List Int} {i : Nat} (h : l.drop i = A ++ B) : l.drop (i + A.length) = B := by
  rw [← List.drop_drop, h, List.drop_left]
theorem noBl_of {s : ByteArray} (h : ∀ b, b ∈ bytesI s → b ≠ 32) (i : Nat) : noBl ((bytesI s).drop i) := fun b r e => h b (List.mem_of_mem_drop (by rw [e]; exact List.mem_cons_self))
theorem fmtL_split (sep : List Int) (least : Int) (ks : List T) (j : Nat) (hj : j < ks.length) : fmtL sep least ks = fmtL sep least (ks.take (j + 1)) ++ fmtS sep least (ks.drop (j + 1)) := by
  have e := List.take_append_drop (j + 1) ks
  cases ht : ks.take (j + 1) with
  | nil => have := congrArg List.length ht; simp only [List.length_take, List.length_nil] at this; omega
  | cons x a =>
    rw [ht] at e
    have h2 : fmtL sep least (x :: a ++ ks.drop (j + 1)) = fmtL sep least (x :: a) ++ fmtS sep least (ks.drop (j + 1)) := by simp [fmtL, fmtS_append, List.append_assoc]
    rw [e] at h2
    exact h2
theorem fmtS_drop (sep : List Int) (least : Int) (ks : List T) (j : Nat) (hj : j < ks.length) : fmtS sep least (ks.drop j) = sep ++ fmtK least ks[j] ++ fmtS sep least (ks.drop (j + 1)) := by
  rw [List.drop_eq_getElem_cons hj]; rfl
theorem fmtS_end (sep : List Int) (least : Int) (ks : List T) : fmtS sep least (ks.drop ks.length) = [] := by rw [List.drop_length]; rfl
/-- where part j begins, and ends -/
def atE (i : Nat) (sep : List Int) (least : Int) (ks : List T) (j : Nat) : Nat := i + (fmtL sep least (ks.take (j + 1))).length
def atB (i : Nat) (sep : List Int) (least : Int) (ks : List T) (j : Nat) : Nat := if j = 0 then i else atE i sep least ks (j - 1) + sep.length
theorem at_end {l r sep : List Int} {least : Int} {ks : List T} {i j : Nat} (h : l.drop i = fmtL sep least ks ++ r) (hj : j < ks.length) : l.drop (atE i sep least ks j) = fmtS sep least (ks.drop (j + 1)) ++ r := by
  rw [fmtL_split sep least ks j hj, List.append_assoc] at h
  exact drop_add h
theorem at_begin {l r sep : List Int} {least : Int} {ks : List T} {i j : Nat} (h : l.drop i = fmtL sep least ks ++ r) (hj : j < ks.length) : l.drop (atB i sep least ks j) = fmtK least ks[j] ++ (fmtS sep least (ks.drop (j + 1)) ++ r) := by
  unfold atB
  split
  · rename_i h0
    subst h0
    rw [h, fmtL_split sep least ks 0 hj, fmtL_take0 hj, List.append_assoc]
  · rename_i h0
    have h1 := at_end h (show j - 1 < ks.length by omega)
    rw [show j - 1 + 1 = j by omega, fmtS_drop sep least ks j hj] at h1
    have h2 : l.drop (atE i sep least ks (j - 1)) = sep ++ (fmtK least ks[j] ++ (fmtS sep least (ks.drop (j + 1)) ++ r)) := by rw [h1]; simp [List.append_assoc]
    exact drop_add h2
theorem at_next (i : Nat) (sep : List Int) (least : Int) (ks : List T) (j : Nat) (hj : j < ks.length) : atB i sep least ks j + (fmtK least ks[j]).length = atE i sep least ks j := by
  unfold atB
  split
  · rename_i h0
    subst h0
    unfold atE
    rw [fmtL_take0 hj]
  · rename_i h0
    unfold atE
    rw [fmtL_take hj (by omega), show j - 1 + 1 = j by omega]
    simp only [List.length_append]; omega
theorem at_last (i : Nat) (sep : List Int) (least : Int) (ks : List T) (h : 0 < ks.length) : atE i sep least ks (ks.length - 1) = i + (fmtL sep least ks).length := by
  unfold atE
  rw [show ks.length - 1 + 1 = ks.length by omega, List.take_length]
end Go.Proofs.Ythmdndondlffeaa
