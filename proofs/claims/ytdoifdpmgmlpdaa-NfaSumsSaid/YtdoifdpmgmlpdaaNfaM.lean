/- Facts: edges, their order, valid automata. -/
import Derived.WalkKit
import Derived.Below
import Derived.OwnWalk
import Derived.Deep.Draws
import Derived.Deep.QuietTactic
import Derived.BigQuiet
import Derived.Lib.Hide
import Derived.Laws.BitsAllLaws
namespace Go.Proofs.Ytdoifdpmgmlpdaa
set_option linter.unusedVariables false
structure Ed where
  f : Int
  l : Int
  t : Int
deriving DecidableEq
theorem Ed.ext' {a b : Ed} (h1 : a.f = b.f) (h2 : a.l = b.l) (h3 : a.t = b.t) : a = b := by cases a; cases b; simp_all
/-- ascending: From, Letter, To -/
def ltE (a b : Ed) : Bool := decide (a.f < b.f ∨ a.f = b.f ∧ (a.l < b.l ∨ a.l = b.l ∧ a.t < b.t))
def cmpI (a b : Int) : Int := if a < b then -1 else if b < a then 1 else 0
/-- what compareEdges returns -/
def cmpE (a b : Ed) : Int := if cmpI a.f b.f ≠ 0 then cmpI a.f b.f else if cmpI a.l b.l ≠ 0 then cmpI a.l b.l else cmpI a.t b.t
theorem cmpI_lt {a b : Int} (h : a < b) : cmpI a b = -1 := by simp [cmpI, h]
theorem cmpI_gt {a b : Int} (h : b < a) : cmpI a b = 1 := by unfold cmpI; rw [if_neg (by omega), if_pos h]
theorem cmpI_self (a : Int) : cmpI a a = 0 := by simp [cmpI]
theorem cmpI_cases (a b : Int) : (a < b ∧ cmpI a b = -1) ∨ (b < a ∧ cmpI a b = 1) ∨ (a = b ∧ cmpI a b = 0) := by
  rcases Int.lt_trichotomy a b with h | h | h
  · exact .inl ⟨h, cmpI_lt h⟩
  · exact .inr (.inr ⟨h, by rw [h, cmpI_self]⟩)
  · exact .inr (.inl ⟨h, cmpI_gt h⟩)
theorem cmpI_swap (a b : Int) : cmpI b a = - cmpI a b := by
  rcases cmpI_cases a b with ⟨h, e⟩ | ⟨h, e⟩ | ⟨h, e⟩
  · rw [e, cmpI_gt h]; rfl
  · rw [e, cmpI_lt h]
  · rw [e, h, cmpI_self]; rfl
theorem cmpE_neg {a b : Ed} : cmpE a b < 0 ↔ ltE a b = true := by
  unfold cmpE ltE
  rw [decide_eq_true_iff]
  rcases cmpI_cases a.f b.f with ⟨h, e⟩ | ⟨h, e⟩ | ⟨h, e⟩ <;> rcases cmpI_cases a.l b.l with ⟨h2, e2⟩ | ⟨h2, e2⟩ | ⟨h2, e2⟩ <;> rcases cmpI_cases a.t b.t with ⟨h3, e3⟩ | ⟨h3, e3⟩ | ⟨h3, e3⟩ <;> rw [e, e2, e3] <;> simp <;> omega
theorem cmpE_zero {a b : Ed} : cmpE a b = 0 ↔ a = b := by
  unfold cmpE
  constructor
  · intro hh
    rcases cmpI_cases a.f b.f with ⟨h, e⟩ | ⟨h, e⟩ | ⟨h, e⟩ <;> rcases cmpI_cases a.l b.l with ⟨h2, e2⟩ | ⟨h2, e2⟩ | ⟨h2, e2⟩ <;> rcases cmpI_cases a.t b.t with ⟨h3, e3⟩ | ⟨h3, e3⟩ | ⟨h3, e3⟩ <;> rw [e, e2, e3] at hh <;> simp at hh
    exact Ed.ext' h h2 h3
  · rintro rfl; simp [cmpI_self]
theorem cmpE_swap (a b : Ed) : cmpE b a = - cmpE a b := by
  unfold cmpE
  rw [cmpI_swap a.f b.f, cmpI_swap a.l b.l, cmpI_swap a.t b.t]
  split <;> split <;> (try split) <;> (try split) <;> omega
theorem ltE_trans {a b c : Ed} (h1 : ltE a b = true) (h2 : ltE b c = true) : ltE a c = true := by
  unfold ltE at *; rw [decide_eq_true_iff] at *; omega
theorem ltE_irr (a : Ed) : ltE a a = false := by unfold ltE; rw [decide_eq_false_iff_not]; omega
theorem ltE_asymm {a b : Ed} (h1 : ltE a b = true) : ltE b a = false := by
  unfold ltE at *; rw [decide_eq_true_iff] at h1; rw [decide_eq_false_iff_not]; omega
theorem ltE_tri (a b : Ed) : ltE a b = true ∨ a = b ∨ ltE b a = true := by
  by_cases h : a = b
  · exact .inr (.inl h)
  · have h2 : ¬ (a.f = b.f ∧ a.l = b.l ∧ a.t = b.t) := fun ⟨h1, h2, h3⟩ => h (Ed.ext' h1 h2 h3)
    unfold ltE; rw [decide_eq_true_iff, decide_eq_true_iff]; omega
/-- not an edge that may stand behind: equal, or less -/
theorem ltE_bad {a b : Ed} : (decide (b = a) || decide (cmpE b a < 0)) = !ltE a b := by
  rcases ltE_tri a b with h | h | h
  · have h1 : b ≠ a := by rintro rfl; rw [ltE_irr] at h; cases h
    have h2 : ¬ cmpE b a < 0 := by rw [cmpE_neg, ltE_asymm h]; simp
    simp [h1, h2, h]
  · subst h; simp [ltE_irr]
  · have h2 : cmpE b a < 0 := cmpE_neg.2 h
    simp [h2, ltE_asymm h]

def noE : Ed := ⟨0, 0, 0⟩
def belowB (x n : Int) : Bool := decide (0 ≤ x) && decide (x < n)
def inE (L S : Int) (e : Ed) : Bool := belowB e.f S && belowB e.l L && belowB e.t S
theorem inE_iff {L S : Int} {e : Ed} : inE L S e = true ↔ 0 ≤ e.f ∧ e.f < S ∧ 0 ≤ e.l ∧ e.l < L ∧ 0 ≤ e.t ∧ e.t < S := by
  simp [inE, belowB, and_assoc]
/-- the i-th edge may stand where it stands -/
def okAt (L S : Int) (es : List Ed) (i : Nat) : Bool := inE L S (es.getD i noE) && (decide (i = 0) || ltE (es.getD (i - 1) noE) (es.getD i noE))
def edB (L S : Int) (es : List Ed) : Bool := (List.range es.length).all (okAt L S es)
theorem edB_iff {L S : Int} {es : List Ed} : edB L S es = true ↔ ∀ i, i < es.length → okAt L S es i = true := by
  simp [edB, List.all_eq_true]
theorem edB_no {L S : Int} {es : List Ed} {i : Nat} (hi : i < es.length) (h : okAt L S es i = false) : edB L S es = false := by
  rw [← Bool.not_eq_true, edB_iff]; intro h2; rw [h2 i hi] at h; cases h
theorem getD_of {es : List Ed} {i : Nat} {e : Ed} (h : es[i]? = some e) : es.getD i noE = e := by simp [List.getD, h]
theorem ed_some {es : List Ed} {i : Nat} (h : i < es.length) : es[i]? = some (es.getD i noE) := by
  simp [List.getD, h]
def hdB (L S : Int) : Bool := decide (1 ≤ L ∧ L ≤ 6 ∧ 0 ≤ S ∧ S ≤ 64)
/-- the sets fit -/
def setB (S : Int) (st fi : Nat) : Bool := decide (st < 2 ^ S.toNat ∧ fi < 2 ^ S.toNat)
def valN (L S : Int) (st fi : Nat) (es : List Ed) : Bool := hdB L S && setB S st fi && edB L S es
/-- what Validate returns -/
def errN (L S : Int) (st fi : Nat) (es : List Ed) : Int := if hdB L S = false then 1 else if (setB S st fi && edB L S es) = false then 4 else 0
theorem errN_ok {L S : Int} {st fi : Nat} {es : List Ed} : errN L S st fi es = 0 ↔ valN L S st fi es = true := by
  simp only [errN, valN]
  cases hdB L S <;> cases setB S st fi <;> cases edB L S es <;> simp
theorem valN_iff {L S : Int} {st fi : Nat} {es : List Ed} : valN L S st fi es = true ↔ (1 ≤ L ∧ L ≤ 6 ∧ 0 ≤ S ∧ S ≤ 64) ∧ (st < 2 ^ S.toNat ∧ fi < 2 ^ S.toNat) ∧ ∀ i, i < es.length → okAt L S es i = true := by
  simp [valN, hdB, setB, edB_iff, and_assoc]
theorem valN_in {L S : Int} {st fi : Nat} {es : List Ed} (h : valN L S st fi es = true) {e : Ed} (he : e ∈ es) : inE L S e = true := by
  obtain ⟨i, hi, rfl⟩ := List.mem_iff_getElem.1 he
  have := (valN_iff.1 h).2.2 i hi
  rw [okAt, Bool.and_eq_true, getD_of (List.getElem?_eq_getElem hi)] at this
  exact this.1
end Go.Proofs.Ytdoifdpmgmlpdaa
