/- Facts: the text of a tree. -/
import Derived.Test.YthmdndondlffeaaExprM
namespace Go.Proofs.Ythmdndondlffeaa
set_option linter.unusedVariables false
def lvl (op : Int) : Int := if op = 4 then 1 else if op = 6 then 2 else if op = 5 then 3 else if op = 8 then 4 else if op = 7 then 5 else 6
def paren (b : Bool) (l : List Int) : List Int := if b = true then l else [40] ++ l ++ [41]
mutual
def fmtT : T → List Int
  | .node op l ks => if op = 1 then [48] else if op = 2 then [49] else if op = 3 then [97 + l] else if op = 4 then fmtL [124] 2 ks else if op = 6 then fmtL [38] 3 ks else if op = 5 then fmtL [] 4 ks else if op = 8 then [33] ++ fmtH 4 ks else fmtH 5 ks ++ [42]
def fmtL (sep : List Int) (least : Int) : List T → List Int
  | [] => []
  | k :: ks => paren (decide (least ≤ lvl k.op)) (fmtT k) ++ fmtS sep least ks
def fmtS (sep : List Int) (least : Int) : List T → List Int
  | [] => []
  | k :: ks => sep ++ paren (decide (least ≤ lvl k.op)) (fmtT k) ++ fmtS sep least ks
def fmtH (least : Int) : List T → List Int
  | [] => []
  | k :: _ => paren (decide (least ≤ lvl k.op)) (fmtT k)
end
/-- the text of a kid -/
def fmtK (least : Int) (k : T) : List Int := paren (decide (least ≤ lvl k.op)) (fmtT k)
theorem fmtS_append (sep : List Int) (least : Int) (a b : List T) : fmtS sep least (a ++ b) = fmtS sep least a ++ fmtS sep least b := by
  induction a with
  | nil => rfl
  | cons x a ih => simp [fmtS, ih, List.append_assoc]
theorem fmtL_zero (sep : List Int) (least : Int) : fmtL sep least [] = [] := rfl
theorem fmtL_one (sep : List Int) (least : Int) (k : T) : fmtL sep least [k] = fmtK least k := by simp [fmtL, fmtS, fmtK]
theorem fmtL_snoc (sep : List Int) (least : Int) (a : List T) (k : T) (h : a ≠ []) : fmtL sep least (a ++ [k]) = fmtL sep least a ++ sep ++ fmtK least k := by
  cases a with
  | nil => exact absurd rfl h
  | cons x a => simp [fmtL, fmtS_append, fmtS, fmtK, List.append_assoc]
theorem fmtL_take {sep : List Int} {least : Int} {ks : List T} {i : Nat} (h : i < ks.length) (h0 : 0 < i) : fmtL sep least (ks.take (i + 1)) = fmtL sep least (ks.take i) ++ sep ++ fmtK least ks[i] := by
  rw [take_snoc h, fmtL_snoc]
  intro e
  have := congrArg List.length e
  simp only [List.length_take, List.length_nil] at this
  omega
theorem fmtL_take0 {sep : List Int} {least : Int} {ks : List T} (h : 0 < ks.length) : fmtL sep least (ks.take 1) = fmtK least ks[0] := by
  rw [take_snoc h]; simp [fmtL_one]
theorem fmtH_get {least : Int} {ks : List T} (h : 0 < ks.length) : fmtH least ks = fmtK least ks[0] := by
  cases ks with
  | nil => simp at h
  | cons x a => rfl
/-! ### lengths -/
theorem paren_len (b : Bool) (l : List Int) : (paren b l).length ≤ l.length + 2 := by
  unfold paren; split <;> simp
theorem fmtS_len {sep : List Int} {least : Int} (hs : sep.length ≤ 1) : ∀ ks : List T, (∀ k, k ∈ ks → (fmtT k).length + 3 ≤ 4 * sizeT k) → (fmtS sep least ks).length ≤ 4 * sizeL ks := by
  intro ks
  induction ks with
  | nil => intro _; simp [fmtS]
  | cons x a ih =>
    intro h
    have h1 := h x (by simp)
    have h2 := ih fun k hk => h k (by simp [hk])
    have h3 := paren_len (decide (least ≤ lvl x.op)) (fmtT x)
    simp only [fmtS, sizeL, List.length_append]
    omega
theorem fmtL_len {sep : List Int} {least : Int} (hs : sep.length ≤ 1) (ks : List T) (h : ∀ k, k ∈ ks → (fmtT k).length + 3 ≤ 4 * sizeT k) : (fmtL sep least ks).length ≤ 4 * sizeL ks := by
  cases ks with
  | nil => simp [fmtL]
  | cons x a =>
    have h1 := h x (by simp)
    have h2 := fmtS_len (least := least) hs a fun k hk => h k (by simp [hk])
    have h3 := paren_len (decide (least ≤ lvl x.op)) (fmtT x)
    simp only [fmtL, sizeL, List.length_append]
    omega
theorem fmtH_len {least : Int} (ks : List T) (h : ∀ k, k ∈ ks → (fmtT k).length + 3 ≤ 4 * sizeT k) : (fmtH least ks).length ≤ 4 * sizeL ks := by
  cases ks with
  | nil => simp [fmtH]
  | cons x a =>
    have h1 := h x (by simp)
    have h3 := paren_len (decide (least ≤ lvl x.op)) (fmtT x)
    simp only [fmtH, sizeL]
    omega
theorem fmtT_len : ∀ t : T, (fmtT t).length + 3 ≤ 4 * sizeT t := by
  intro t
  induction t using T.ind with
  | h op l ks ih =>
    have a1 := fmtL_len (sep := [124]) (least := 2) (by simp) ks ih
    have a2 := fmtL_len (sep := [38]) (least := 3) (by simp) ks ih
    have a3 := fmtL_len (sep := []) (least := 4) (by simp) ks ih
    have a4 := fmtH_len (least := 4) ks ih
    have a5 := fmtH_len (least := 5) ks ih
    simp only [fmtT, sizeT]
    split
    · simp; omega
    split
    · simp; omega
    split
    · simp; omega
    split
    · omega
    split
    · omega
    split
    · omega
    split
    · simp; omega
    · simp; omega
theorem fmtK_len (least : Int) (t : T) : (fmtK least t).length + 1 ≤ 4 * sizeT t := by
  have h := fmtT_len t
  have h3 := paren_len (decide (least ≤ lvl t.op)) (fmtT t)
  unfold fmtK; omega
end Go.Proofs.Ythmdndondlffeaa
