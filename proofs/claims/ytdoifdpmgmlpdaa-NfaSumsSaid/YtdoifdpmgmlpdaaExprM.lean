/- Facts: trees (expressions), their size, depth, shape. -/
namespace Go.Proofs.Ytdoifdpmgmlpdaa
set_option linter.unusedVariables false
inductive T where | node (op l : Int) (ks : List T)
def T.op : T → Int | .node o _ _ => o
def T.lt : T → Int | .node _ l _ => l
def T.ks : T → List T | .node _ _ k => k
theorem T.eta (t : T) : t = .node t.op t.lt t.ks := by cases t; rfl
theorem T.ind {P : T → Prop} (h : ∀ op l ks, (∀ k, k ∈ ks → P k) → P (.node op l ks)) : ∀ t, P t
  | .node op l ks => h op l ks fun k hk => T.ind h k
termination_by t => sizeOf t
decreasing_by
  have := List.sizeOf_lt_of_mem hk
  simp
  omega
theorem T.ind2 {P : Int → Int → List T → Prop} (h : ∀ op l ks, (∀ (i : Nat) (op' l' : Int) (ks' : List T), ks[i]? = some (.node op' l' ks') → P op' l' ks') → P op l ks) (op l : Int) (ks : List T) : P op l ks := by
  have key : ∀ t : T, P t.op t.lt t.ks := by
    intro t
    induction t using T.ind with
    | h op l ks ih => exact h op l ks fun i op' l' ks' hi => ih (.node op' l' ks') (List.mem_of_getElem? hi)
  exact key (.node op l ks)
theorem kid_some {ks : List T} {i : Nat} (h : i < ks.length) : ∃ op l ls, ks[i]? = some (.node op l ls) ∧ ks[i] = .node op l ls := by
  refine ⟨ks[i].op, ks[i].lt, ks[i].ks, ?_, T.eta _⟩
  rw [List.getElem?_eq_getElem h, ← T.eta]
theorem take_snoc {α : Type} {l : List α} {i : Nat} (h : i < l.length) : l.take (i + 1) = l.take i ++ [l[i]] := by
  rw [List.take_succ_eq_append_getElem h]

mutual
def sizeT : T → Nat | .node _ _ ks => 1 + sizeL ks
def sizeL : List T → Nat | [] => 0 | k :: ks => sizeT k + sizeL ks
end
mutual
def depthT : T → Nat | .node _ _ ks => depthL ks + 1
def depthL : List T → Nat | [] => 0 | k :: ks => max (depthT k) (depthL ks)
end
theorem sizeL_append (a b : List T) : sizeL (a ++ b) = sizeL a + sizeL b := by
  induction a with
  | nil => simp [sizeL]
  | cons x a ih => simp [sizeL, ih]; omega
theorem depthL_append (a b : List T) : depthL (a ++ b) = max (depthL a) (depthL b) := by
  induction a with
  | nil => simp [depthL]
  | cons x a ih => simp [depthL, ih]
theorem sizeL_one (t : T) : sizeL [t] = sizeT t := by simp [sizeL]
theorem depthL_one (t : T) : depthL [t] = depthT t := by simp [depthL]
theorem sizeT_pos (t : T) : 1 ≤ sizeT t := by cases t; simp [sizeT]
theorem depthT_pos (t : T) : 1 ≤ depthT t := by cases t; simp [depthT]
theorem sizeL_take_succ {ks : List T} {i : Nat} (h : i < ks.length) : sizeL (ks.take (i + 1)) = sizeL (ks.take i) + sizeT ks[i] := by
  rw [take_snoc h, sizeL_append, sizeL_one]
theorem depthL_take_succ {ks : List T} {i : Nat} (h : i < ks.length) : depthL (ks.take (i + 1)) = max (depthL (ks.take i)) (depthT ks[i]) := by
  rw [take_snoc h, depthL_append, depthL_one]
theorem sizeL_take_le (ks : List T) (i : Nat) : sizeL (ks.take i) ≤ sizeL ks := by
  have h := sizeL_append (ks.take i) (ks.drop i)
  rw [List.take_append_drop] at h
  omega
theorem depthL_take_le (ks : List T) (i : Nat) : depthL (ks.take i) ≤ depthL ks := by
  have h := depthL_append (ks.take i) (ks.drop i)
  rw [List.take_append_drop] at h
  omega
theorem sizeL_mem {ks : List T} {k : T} (h : k ∈ ks) : sizeT k ≤ sizeL ks := by
  induction ks with
  | nil => cases h
  | cons x a ih =>
    simp only [sizeL]
    rcases List.mem_cons.1 h with rfl | h
    · omega
    · have := ih h; omega
theorem depthL_mem {ks : List T} {k : T} (h : k ∈ ks) : depthT k ≤ depthL ks := by
  induction ks with
  | nil => cases h
  | cons x a ih =>
    simp only [depthL]
    rcases List.mem_cons.1 h with rfl | h
    · omega
    · have := ih h; omega
theorem length_le_sizeL (ks : List T) : ks.length ≤ sizeL ks := by
  induction ks with
  | nil => simp [sizeL]
  | cons x a ih => have := sizeT_pos x; simp [sizeL]; omega
theorem depth_le_size : ∀ t, depthT t ≤ sizeT t := by
  intro t
  induction t using T.ind with
  | h op l ks ih =>
    have : depthL ks ≤ sizeL ks := by
      clear op l
      induction ks with
      | nil => simp [depthL]
      | cons x a ih2 =>
        have h1 := ih x (by simp)
        have h2 := ih2 fun k hk => ih k (by simp [hk])
        have h3 := sizeT_pos x
        simp only [depthL, sizeL]
        omega
    simp only [depthT, sizeT]
    omega
def spentL (ks : List T) (n d : Nat) : Int := if 1 + sizeL ks ≤ n ∧ depthL ks + 1 ≤ d then (n : Int) - (1 + sizeL ks : Nat) else -1
theorem spent_no {ks : List T} {n d : Nat} (h : n = 0 ∨ d = 0) : spentL ks n d = -1 := by
  rw [spentL, if_neg (by omega)]
theorem spent_bad {ks : List T} {i n d : Nat} (hi : i < ks.length) (h : ¬ (sizeT ks[i] + sizeL (ks.take i) ≤ n ∧ depthT ks[i] ≤ d)) : spentL ks (n + 1) (d + 1) = -1 := by
  have h1 := sizeL_take_succ hi
  have h2 := sizeL_take_le ks (i + 1)
  have h3 := depthL_take_succ hi
  have h4 := depthL_take_le ks (i + 1)
  rw [spentL, if_neg (by omega)]
theorem spent_end {ks : List T} {n d : Nat} (h : sizeL ks ≤ n) (h2 : depthL ks ≤ d) : spentL ks (n + 1) (d + 1) = (n : Int) - sizeL ks := by
  rw [spentL, if_pos (by omega)]; omega
/-- what spend returns -/
theorem spentL_node (op l : Int) (ks : List T) (n d : Nat) : spentL ks n d = if sizeT (.node op l ks) ≤ n ∧ depthT (.node op l ks) ≤ d then (n : Int) - sizeT (.node op l ks) else -1 := by
  rfl
def withinB (t : T) : Bool := decide (sizeT t ≤ 400 ∧ depthT t ≤ 40)

def kidsOk (op : Int) (n : Nat) : Bool := if op = 1 ∨ op = 2 ∨ op = 3 then decide (n = 0) else if op = 7 ∨ op = 8 then decide (n = 1) else if op = 4 ∨ op = 5 ∨ op = 6 then decide (2 ≤ n) else false
def letOk (op l L : Int) : Bool := if op = 3 then decide (0 ≤ l ∧ l < L) else decide (l = 0)
mutual
def wfT (L : Int) : T → Bool | .node op l ks => kidsOk op ks.length && letOk op l L && wfL L ks
def wfL (L : Int) : List T → Bool | [] => true | k :: ks => wfT L k && wfL L ks
end
theorem wfL_iff {L : Int} {ks : List T} : wfL L ks = true ↔ ∀ k, k ∈ ks → wfT L k = true := by
  induction ks with
  | nil => simp [wfL]
  | cons x a ih => simp [wfL, ih]
theorem wfT_node {L op l : Int} {ks : List T} : wfT L (.node op l ks) = true ↔ kidsOk op ks.length = true ∧ letOk op l L = true ∧ ∀ k, k ∈ ks → wfT L k = true := by
  simp [wfT, wfL_iff, and_assoc]
def mayB (L : Int) : Bool := decide (1 ≤ L ∧ L ≤ 6)
/-- what Validate returns -/
def errT (t : T) (L : Int) : Int := if mayB L = false then 1 else if withinB t = false then 3 else if wfT L t = false then 4 else 0
def valB (t : T) : Bool := withinB t && wfT 6 t
theorem errT_six (t : T) : errT t 6 = 0 ↔ valB t = true := by
  simp only [errT, valB, show mayB 6 = true from rfl]
  cases withinB t <;> cases wfT 6 t <;> simp
theorem errT_may {t : T} {L : Int} (h : mayB L = false) : errT t L = 1 := by simp [errT, h]
theorem errT_lim {t : T} {L : Int} (h : mayB L = true) (h1 : withinB t = false) : errT t L = 3 := by simp [errT, h, h1]
theorem errT_shape {t : T} {L : Int} (h : mayB L = true) (h1 : withinB t = true) (h2 : wfT L t = false) : errT t L = 4 := by simp [errT, h, h1, h2]
theorem errT_ok {t : T} {L : Int} (h : mayB L = true) (h1 : withinB t = true) (h2 : wfT L t = true) : errT t L = 0 := by simp [errT, h, h1, h2]
end Go.Proofs.Ytdoifdpmgmlpdaa
