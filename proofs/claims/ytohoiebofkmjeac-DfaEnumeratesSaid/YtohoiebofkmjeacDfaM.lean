/- Facts: deterministic automata as functions. -/
import Derived.WalkKit
namespace Go.Proofs.Ytohoiebofkmjeac
set_option linter.unusedVariables false
/-- an automaton: letters, start, states, final states, rows, their lengths, their entries -/
structure DF where
  L : Int
  S : Int
  n : Nat
  F : Nat → Bool
  m : Nat
  ln : Nat → Nat
  N : Nat → Nat → Int
def inB (x : Int) (n : Nat) : Bool := decide (0 ≤ x ∧ x < (n : Int))
theorem inB_iff {x : Int} {n : Nat} : inB x n = true ↔ 0 ≤ x ∧ x < (n : Int) := by simp [inB]
def rowB (L : Int) (n k : Nat) (f : Nat → Int) : Bool := decide ((k : Int) = L) && (List.range k).all fun i => inB (f i) n
theorem rowB_iff {L : Int} {n k : Nat} {f : Nat → Int} : rowB L n k f = true ↔ (k : Int) = L ∧ ∀ i, i < k → inB (f i) n = true := by
  simp [rowB, List.all_eq_true]
def rowsB (d : DF) : Bool := decide (d.m = d.n) && (List.range d.m).all fun i => rowB d.L d.n (d.ln i) (d.N i)
theorem rowsB_iff {d : DF} : rowsB d = true ↔ d.m = d.n ∧ ∀ i, i < d.m → rowB d.L d.n (d.ln i) (d.N i) = true := by
  simp [rowsB, List.all_eq_true]
def hdB (d : DF) : Bool := decide (1 ≤ d.L ∧ d.L ≤ 6)
theorem hdB_iff {d : DF} : hdB d = true ↔ 1 ≤ d.L ∧ d.L ≤ 6 := by simp [hdB]
/-- the error of an automaton -/
def errD (d : DF) : Int := if hdB d = false then 1 else if 512 < d.n then 3 else if inB d.S d.n = false then 4 else if rowsB d = false then 4 else 0
theorem errD_head {d : DF} (h : hdB d = false) : errD d = 1 := by simp [errD, h]
theorem errD_many {d : DF} (h : hdB d = true) (h2 : 512 < d.n) : errD d = 3 := by simp [errD, h, h2]
theorem errD_start {d : DF} (h : hdB d = true) (h2 : ¬ 512 < d.n) (h3 : inB d.S d.n = false) : errD d = 4 := by simp [errD, h, h2, h3]
theorem errD_rows {d : DF} (h : hdB d = true) (h2 : ¬ 512 < d.n) (h3 : rowsB d = false) : errD d = 4 := by
  simp [errD, h, h2, h3]
theorem errD_good {d : DF} (h : hdB d = true) (h2 : ¬ 512 < d.n) (h3 : inB d.S d.n = true) (h4 : rowsB d = true) : errD d = 0 := by simp [errD, h, h2, h3, h4]
def valD (d : DF) : Bool := errD d == 0
theorem errD_eq0 (d : DF) : (errD d == 0) = valD d := rfl
/-- the successor -/
def DF.nx (d : DF) (q x : Nat) : Nat := (d.N q x).toNat
/-- what validity says -/
structure OkD (d : DF) : Prop where
  l1 : 1 ≤ d.L
  l2 : d.L ≤ 6
  n2 : d.n ≤ 512
  s1 : 0 ≤ d.S
  s2 : d.S < (d.n : Int)
  mn : d.m = d.n
  ln : ∀ q, q < d.n → (d.ln q : Int) = d.L
  nx : ∀ (q x : Nat), q < d.n → (x : Int) < d.L → 0 ≤ d.N q x ∧ d.N q x < (d.n : Int)
theorem valD_iff {d : DF} : valD d = true ↔ OkD d := by
  unfold valD errD
  rw [beq_iff_eq]
  cases h1 : hdB d
  · constructor
    · intro h; simp at h
    · intro h; rw [hdB_iff.2 ⟨h.l1, h.l2⟩] at h1; cases h1
  by_cases h2 : 512 < d.n
  · constructor
    · intro h; simp [h2] at h
    · intro h; have := h.n2; omega
  cases h3 : inB d.S d.n
  · constructor
    · intro h; simp [h2] at h
    · intro h; rw [inB_iff.2 ⟨h.s1, h.s2⟩] at h3; cases h3
  cases h4 : rowsB d
  · constructor
    · intro h; simp [h2] at h
    · intro h
      rw [rowsB_iff.2 ⟨h.mn, fun i hi => rowB_iff.2 ⟨h.ln i (by rw [← h.mn]; exact hi), fun x hx => inB_iff.2 (h.nx i x (by rw [← h.mn]; exact hi) (by have := h.ln i (by rw [← h.mn]; exact hi); omega))⟩⟩] at h4
      cases h4
  · constructor
    · intro _
      have e1 := hdB_iff.1 h1
      have e3 := inB_iff.1 h3
      have e4 := rowsB_iff.1 h4
      refine ⟨e1.1, e1.2, by omega, e3.1, e3.2, e4.1, fun q hq => (rowB_iff.1 (e4.2 q (by rw [e4.1]; exact hq))).1, fun q x hq hx => ?_⟩
      have e5 := rowB_iff.1 (e4.2 q (by rw [e4.1]; exact hq))
      exact inB_iff.1 (e5.2 x (by omega))
    · intro _; simp [h2]
theorem OkD.nxlt {d : DF} (h : OkD d) {q x : Nat} (hq : q < d.n) (hx : (x : Int) < d.L) : d.nx q x < d.n := by
  have := h.nx q x hq hx; unfold DF.nx; omega
theorem OkD.nxeq {d : DF} (h : OkD d) {q x : Nat} (hq : q < d.n) (hx : (x : Int) < d.L) : d.N q x = (d.nx q x : Int) := by
  have := h.nx q x hq hx; unfold DF.nx; omega
theorem OkD.st {d : DF} (h : OkD d) : d.S.toNat < d.n ∧ d.S = (d.S.toNat : Int) := by have := h.s1; have := h.s2; omega
/-! ### runs -/
def DF.run (d : DF) (q : Nat) (l : List Nat) : Nat := l.foldl d.nx q
theorem DF.run_snoc (d : DF) (q : Nat) (l : List Nat) (x : Nat) : d.run q (l ++ [x]) = d.nx (d.run q l) x := by simp [DF.run, List.foldl_append]
theorem DF.run_app (d : DF) (q : Nat) (l m : List Nat) : d.run q (l ++ m) = d.run (d.run q l) m := by simp [DF.run, List.foldl_append]
theorem OkD.runlt {d : DF} (h : OkD d) : ∀ (l : List Nat) (q : Nat), q < d.n → (∀ x, x ∈ l → (x : Int) < d.L) → d.run q l < d.n
  | [], q, hq, _ => hq
  | x :: l, q, hq, hl => h.runlt l _ (h.nxlt hq (hl x (by simp))) fun y hy => hl y (by simp [hy])
/-- the letters of a word as numbers -/
def letsD (s : ByteArray) : List Nat := s.data.toList.map fun b => b.toNat - 97
theorem letsD_len (s : ByteArray) : (letsD s).length = s.size := by unfold letsD; rw [List.length_map, Array.length_toList]; rfl
theorem letsD_take {s : ByteArray} {i : Nat} (h : i < s.size) : (letsD s).take (i + 1) = (letsD s).take i ++ [(s[i]'h).toNat - 97] := by
  have h2 : i < (letsD s).length := by rw [letsD_len]; exact h
  rw [List.take_succ_eq_append_getElem h2]
  simp [letsD]
  rfl
end Go.Proofs.Ytohoiebofkmjeac
