/- Plain facts on borders and periods: no Go, no program. -/
import Derived.Test.YtnhfagolmafonaaWordM
namespace Go.Proofs.Ytnhfagolmafonaa.WordM
open Go Go.RowKit

theorem ext_data {u v : ByteArray} (h : u.data.toList = v.data.toList) : u = v := by
  obtain ⟨⟨a⟩⟩ := u; obtain ⟨⟨b⟩⟩ := v; simp at h; subst h; rfl

/-- byte t of s -/
def at' (s : ByteArray) (t : Nat) : UInt8 := s.data.toList.getD t 0
theorem at_eq {s : ByteArray} {t : Nat} (h : t < s.size) : at' s t = s[t] := by
  have h' : t < s.data.toList.length := by simpa using h
  simp [at', List.getD, List.getElem?_eq_getElem h']
  rfl

/-- b is the length of a border (shorter than n) of the first n bytes -/
def isB (f : Nat → UInt8) (n b : Nat) : Prop := b < n ∧ ∀ t, t < b → f t = f (n - b + t)
theorem isB_zero {f : Nat → UInt8} {n : Nat} (h : 0 < n) : isB f n 0 := ⟨h, fun t ht => by omega⟩
theorem isB_succ {f : Nat → UInt8} {n b : Nat} : isB f (n + 1) (b + 1) ↔ isB f n b ∧ f b = f n ∨ (n = b ∧ False) := by
  constructor
  · rintro ⟨h1, h2⟩
    refine .inl ⟨⟨by omega, fun t ht => ?_⟩, ?_⟩
    · have := h2 t (by omega)
      rwa [show n + 1 - (b + 1) + t = n - b + t by omega] at this
    · have := h2 b (by omega)
      rwa [show n + 1 - (b + 1) + b = n by omega] at this
  · rintro (⟨⟨h1, h2⟩, h3⟩ | ⟨_, h⟩)
    · refine ⟨by omega, fun t ht => ?_⟩
      by_cases e : t = b
      · subst e; rw [show n + 1 - (t + 1) + t = n by omega]; exact h3
      · rw [show n + 1 - (b + 1) + t = n - b + t by omega]; exact h2 t (by omega)
    · exact h.elim
theorem isB_chain {f : Nat → UInt8} {n a b : Nat} (h1 : isB f n b) (h2 : isB f b a) : isB f n a := by
  refine ⟨by have := h1.1; have := h2.1; omega, fun t ht => ?_⟩
  have e1 := h2.2 t ht
  have e2 := h1.2 (b - a + t) (by have := h2.1; omega)
  rw [e1, e2, show n - b + (b - a + t) = n - a + t by have := h1.1; have := h2.1; omega]
theorem isB_down {f : Nat → UInt8} {n a b : Nat} (h1 : isB f n b) (h2 : isB f n a) (hab : a < b) : isB f b a := by
  refine ⟨hab, fun t ht => ?_⟩
  have e1 := h2.2 t ht
  have e2 := h1.2 (b - a + t) (by omega)
  rw [e1, e2, show n - b + (b - a + t) = n - a + t by have := h1.1; omega]

instance (f : Nat → UInt8) (n b : Nat) : Decidable (isB f n b) := inferInstanceAs (Decidable (_ ∧ _))
/-- the greatest border of the first n bytes among those of length at most k -/
def bFrom (f : Nat → UInt8) (n : Nat) : Nat → Nat
  | 0 => 0
  | k + 1 => if isB f n (k + 1) then k + 1 else bFrom f n k
theorem bFrom_spec (f : Nat → UInt8) {n : Nat} (hn : 0 < n) : ∀ k, isB f n (bFrom f n k) ∧ ∀ c, c ≤ k → isB f n c → c ≤ bFrom f n k
  | 0 => ⟨isB_zero hn, fun c hc _ => hc⟩
  | k + 1 => by
    obtain ⟨h1, h2⟩ := bFrom_spec f hn k
    by_cases h : isB f n (k + 1)
    · simp only [bFrom, if_pos h]
      exact ⟨h, fun c hc _ => hc⟩
    · simp only [bFrom, if_neg h]
      refine ⟨h1, fun c hc hb => ?_⟩
      by_cases e : c = k + 1
      · subst e; exact absurd hb h
      · exact h2 c (by omega) hb
/-- the greatest border of the first n bytes -/
def bMax (f : Nat → UInt8) (n : Nat) : Nat := bFrom f n (n - 1)
theorem bMax_is (f : Nat → UInt8) {n : Nat} (hn : 0 < n) : isB f n (bMax f n) := (bFrom_spec f hn _).1
theorem bMax_le (f : Nat → UInt8) {n c : Nat} (h : isB f n c) : c ≤ bMax f n := (bFrom_spec f (by have := h.1; omega) _).2 c (by have := h.1; omega) h
theorem bMax_eq {f : Nat → UInt8} {n b : Nat} (h : isB f n b) (hm : ∀ c, isB f n c → c ≤ b) : bMax f n = b :=
  Nat.le_antisymm (hm _ (bMax_is f (by have := h.1; omega))) (bMax_le f h)
theorem bMax_one (f : Nat → UInt8) : bMax f 1 = 0 := rfl

/-! ### the search for the next border -/
/-- k is a border of the first i bytes, and no border of the first i + 1 is longer than k + 1 -/
def cand (f : Nat → UInt8) (i k : Nat) : Prop := isB f i k ∧ ∀ c, isB f (i + 1) (c + 1) → c ≤ k
theorem cand_start (f : Nat → UInt8) {i : Nat} (hi : 0 < i) : cand f i (bMax f i) :=
  ⟨bMax_is f hi, fun c h => by rcases isB_succ.1 h with ⟨h, _⟩ | ⟨_, h⟩; exact bMax_le f h; exact h.elim⟩
theorem cand_next {f : Nat → UInt8} {i k : Nat} (h : cand f i k) (hk : 0 < k) (hne : f k ≠ f i) : cand f i (bMax f k) := by
  refine ⟨isB_chain h.1 (bMax_is f hk), fun c hc => ?_⟩
  have h1 := h.2 c hc
  rcases isB_succ.1 hc with ⟨h2, h3⟩ | ⟨_, h2⟩
  · have h4 : c ≠ k := fun e => hne (e ▸ h3)
    exact bMax_le f (isB_down h.1 h2 (by omega))
  · exact h2.elim
theorem cand_hit {f : Nat → UInt8} {i k : Nat} (h : cand f i k) (he : f k = f i) : bMax f (i + 1) = k + 1 := by
  refine bMax_eq (isB_succ.2 (.inl ⟨h.1, he⟩)) fun c hc => ?_
  cases c with
  | zero => omega
  | succ c => have := h.2 c hc; omega
theorem cand_miss {f : Nat → UInt8} {i : Nat} (h : cand f i 0) (hne : f 0 ≠ f i) : bMax f (i + 1) = 0 := by
  refine bMax_eq (isB_zero (by omega)) fun c hc => ?_
  cases c with
  | zero => omega
  | succ c =>
    have h1 := h.2 c hc
    obtain rfl : c = 0 := by omega
    rcases isB_succ.1 hc with ⟨_, h3⟩ | ⟨_, h3⟩
    · exact absurd h3 hne
    · exact h3.elim

/-- the length of the longest border of s -/
def bord (s : ByteArray) : Nat := bMax (at' s) s.size
theorem bord_lt {s : ByteArray} (h : 0 < s.size) : bord s < s.size := (bMax_is (at' s) h).1
theorem bord_empty {s : ByteArray} (h : s.size = 0) : bord s = 0 := by simp [bord, bMax, bFrom, h]

theorem extract_list (s : ByteArray) (a b : Nat) : (s.extract a b).data.toList = (s.data.toList.drop a).take (b - a) := by
  rw [ByteArray.data_extract, Array.toList_extract, List.extract_eq_take_drop]
theorem extract_get {s : ByteArray} {a b t : Nat} (hb : b ≤ s.size) : (s.extract a b).data.toList[t]? = if t < b - a then some (at' s (a + t)) else none := by
  rw [extract_list, List.getElem?_take]
  by_cases h : t < b - a
  · rw [if_pos h, if_pos h, List.getElem?_drop]
    have h1 : a + t < s.data.toList.length := by have : s.data.toList.length = s.size := by simp
                                                 omega
    simp only [at', List.getD, List.getElem?_eq_getElem h1, Option.getD_some]
  · rw [if_neg h, if_neg h]
theorem extract_same {s : ByteArray} {a b c d : Nat} (hb : b ≤ s.size) (hd : d ≤ s.size) (hl : b - a = d - c) :
    (s.extract a b).data.toList = (s.extract c d).data.toList ↔ ∀ t, t < b - a → at' s (a + t) = at' s (c + t) := by
  constructor
  · intro h t ht
    have h2 := congrArg (fun l => l[t]?) h
    simp only [extract_get hb, extract_get hd] at h2
    rw [if_pos ht, if_pos (by omega)] at h2
    exact Option.some.inj h2
  · intro h
    apply List.ext_getElem?
    intro t
    rw [extract_get hb, extract_get hd]
    by_cases ht : t < b - a
    · rw [if_pos ht, if_pos (by omega), h t ht]
    · rw [if_neg ht, if_neg (by omega)]
theorem border_same {s : ByteArray} {b : Nat} (hb : b < s.size) :
    (s.extract 0 b).data.toList = (s.extract (s.size - b) s.size).data.toList ↔ isB (at' s) s.size b := by
  rw [extract_same (by omega) (Nat.le_refl _) (by omega)]
  constructor
  · intro h
    exact ⟨hb, fun t ht => by have := h t (by omega); rwa [Nat.zero_add] at this⟩
  · intro h t ht
    rw [Nat.zero_add]; exact h.2 t (by omega)
end Go.Proofs.Ytnhfagolmafonaa.WordM
