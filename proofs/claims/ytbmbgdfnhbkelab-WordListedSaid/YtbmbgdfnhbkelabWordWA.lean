/- Plain facts: the list of subwords up to a length. -/
import Derived.Test.YtbmbgdfnhbkelabWordSF
namespace Go.Proofs.Ytbmbgdfnhbkelab
open Go Go.RowKit Go.Maps Go.Sort
open WordM
set_option linter.unusedVariables false

/-- the list after k of the words of now: each that is short enough comes in again with c behind -/
def inS (n : Nat) (c : ByteArray) (now : List ByteArray) : Nat → List ByteArray
  | 0 => now
  | k + 1 => if (now.getD k ⟨#[]⟩).size < n then insF (inS n c now k) (now.getD k ⟨#[]⟩ ++ c) else inS n c now k
theorem inS_yes {n : Nat} {c : ByteArray} {now : List ByteArray} {k : Nat} (h : (now.getD k ⟨#[]⟩).size < n) : inS n c now (k + 1) = insF (inS n c now k) (now.getD k ⟨#[]⟩ ++ c) := by rw [inS, if_pos h]
theorem inS_no {n : Nat} {c : ByteArray} {now : List ByteArray} {k : Nat} (h : ¬ (now.getD k ⟨#[]⟩).size < n) : inS n c now (k + 1) = inS n c now k := by rw [inS, if_neg h]
/-- the subwords of the first i bytes of s, of at most n bytes -/
def subO (s : ByteArray) (n : Nat) : Nat → List ByteArray
  | 0 => [⟨#[]⟩]
  | i + 1 => inS n (s.extract i (i + 1)) (subO s n i) (subO s n i).length
theorem inS_sorted {n : Nat} {c : ByteArray} {now : List ByteArray} (h : now.Pairwise ltW) : ∀ k, (inS n c now k).Pairwise ltW
  | 0 => h
  | k + 1 => by
    rw [inS]; split
    · exact insF_sorted (inS_sorted h k)
    · exact inS_sorted h k
theorem inS_len {n : Nat} {c : ByteArray} {now : List ByteArray} : ∀ k, (inS n c now k).length ≤ now.length + k
  | 0 => Nat.le_refl _
  | k + 1 => by
    have h1 := inS_len (n := n) (c := c) (now := now) k
    rw [inS]; split
    · have := insF_len (l := inS n c now k) (x := now.getD k ⟨#[]⟩ ++ c); omega
    · omega
theorem inS_mem {n : Nat} {c : ByteArray} {now : List ByteArray} {y : ByteArray} : ∀ {k : Nat}, k ≤ now.length → (y ∈ inS n c now k ↔ y ∈ now ∨ ∃ x, x ∈ now.take k ∧ x.size < n ∧ y = x ++ c)
  | 0, _ => by simp [inS]
  | k + 1, hk => by
    have ih := inS_mem (n := n) (c := c) (now := now) (y := y) (k := k) (by omega)
    have hlt : k < now.length := by omega
    have hg : now.getD k ⟨#[]⟩ = now[k] := by rw [List.getD_eq_getElem?_getD, List.getElem?_eq_getElem hlt]; rfl
    have ht : now.take (k + 1) = now.take k ++ [now[k]] := by rw [List.take_add_one, List.getElem?_eq_getElem hlt]; rfl
    by_cases h : (now.getD k ⟨#[]⟩).size < n
    · rw [inS_yes h, insF_mem, ih, ht, hg]
      rw [hg] at h
      constructor
      · rintro ((a | ⟨x, h1, h2, h3⟩) | a)
        · exact .inl a
        · exact .inr ⟨x, List.mem_append_left _ h1, h2, h3⟩
        · exact .inr ⟨now[k], List.mem_append_right _ (List.mem_singleton.2 rfl), h, a⟩
      · rintro (a | ⟨x, h1, h2, h3⟩)
        · exact .inl (.inl a)
        · rcases List.mem_append.1 h1 with h1 | h1
          · exact .inl (.inr ⟨x, h1, h2, h3⟩)
          · rw [List.mem_singleton.1 h1] at h3; exact .inr h3
    · rw [inS_no h, ih, ht]
      rw [hg] at h
      constructor
      · rintro (a | ⟨x, h1, h2, h3⟩)
        · exact .inl a
        · exact .inr ⟨x, List.mem_append_left _ h1, h2, h3⟩
      · rintro (a | ⟨x, h1, h2, h3⟩)
        · exact .inl a
        · rcases List.mem_append.1 h1 with h1 | h1
          · exact .inr ⟨x, h1, h2, h3⟩
          · rw [List.mem_singleton.1 h1] at h2; exact absurd h2 h
theorem subO_mem {s : ByteArray} {n i : Nat} {y : ByteArray} : y ∈ subO s n (i + 1) ↔ y ∈ subO s n i ∨ ∃ x, x ∈ subO s n i ∧ x.size < n ∧ y = x ++ s.extract i (i + 1) := by
  rw [subO, inS_mem (Nat.le_refl _), List.take_length]
theorem subO_sorted (s : ByteArray) (n : Nat) : ∀ i, (subO s n i).Pairwise ltW
  | 0 => by simp [subO]
  | i + 1 => inS_sorted (subO_sorted s n i) _
theorem subO_len (s : ByteArray) (n : Nat) : ∀ i, (subO s n i).length ≤ 2 ^ i
  | 0 => Nat.le_refl _
  | i + 1 => by
    have h1 := subO_len s n i
    have h2 := inS_len (n := n) (c := s.extract i (i + 1)) (now := subO s n i) (subO s n i).length
    rw [subO, Nat.pow_succ]; omega
theorem subO_size (s : ByteArray) (n : Nat) : ∀ i, ∀ x, x ∈ subO s n i → x.size ≤ i
  | 0, x, h => by simp [subO] at h; subst h; exact Nat.le_refl _
  | i + 1, x, h => by
    rcases subO_mem.1 h with h | ⟨y, h1, _, rfl⟩
    · have := subO_size s n i x h; omega
    · have := subO_size s n i y h1
      rw [ByteArray.size_append, ByteArray.size_extract]; omega
theorem pow_le16 {i : Nat} (h : i ≤ 16) : 2 ^ i ≤ 65536 := Nat.pow_le_pow_right (n := 2) (by decide) h

/-- what a map of the words of L2 is, k rounds after L, over the row xs -/
def SetAt (n : Nat) (c : ByteArray) (L xs L2 : List ByteArray) (k : Nat) : Prop := ∀ y, y ∈ L2 ↔ y ∈ L ∨ ∃ x, x ∈ xs.take k ∧ x.size < n ∧ y = x ++ c
theorem SetAt.zero {n : Nat} {c : ByteArray} {L xs : List ByteArray} : SetAt n c L xs L 0 := fun y => by simp
theorem SetAt.yes {n : Nat} {c : ByteArray} {L xs L2 : List ByteArray} {k : Nat} {x : ByteArray} (h : SetAt n c L xs L2 k) (hx : xs[k]? = some x) (hn : x.size < n) : SetAt n c L xs (L2 ++ [x ++ c]) (k + 1) := fun y => by
  have ht : xs.take (k + 1) = xs.take k ++ [x] := by rw [List.take_add_one, hx]; rfl
  rw [List.mem_append, List.mem_singleton, h y, ht]
  constructor
  · rintro ((a | ⟨z, h1, h2, h3⟩) | a)
    · exact .inl a
    · exact .inr ⟨z, List.mem_append_left _ h1, h2, h3⟩
    · exact .inr ⟨x, List.mem_append_right _ (List.mem_singleton.2 rfl), hn, a⟩
  · rintro (a | ⟨z, h1, h2, h3⟩)
    · exact .inl (.inl a)
    · rcases List.mem_append.1 h1 with h1 | h1
      · exact .inl (.inr ⟨z, h1, h2, h3⟩)
      · rw [List.mem_singleton.1 h1] at h3; exact .inr h3
theorem SetAt.no {n : Nat} {c : ByteArray} {L xs L2 : List ByteArray} {k : Nat} {x : ByteArray} (h : SetAt n c L xs L2 k) (hx : xs[k]? = some x) (hn : ¬ x.size < n) : SetAt n c L xs L2 (k + 1) := fun y => by
  have ht : xs.take (k + 1) = xs.take k ++ [x] := by rw [List.take_add_one, hx]; rfl
  rw [h y, ht]
  constructor
  · rintro (a | ⟨z, h1, h2, h3⟩)
    · exact .inl a
    · exact .inr ⟨z, List.mem_append_left _ h1, h2, h3⟩
  · rintro (a | ⟨z, h1, h2, h3⟩)
    · exact .inl a
    · rcases List.mem_append.1 h1 with h1 | h1
      · exact .inr ⟨z, h1, h2, h3⟩
      · rw [List.mem_singleton.1 h1] at h2; exact absurd h2 hn
theorem SetAt.last {s : ByteArray} {n i : Nat} {L xs L2 : List ByteArray} (h : SetAt n (s.extract i (i + 1)) L xs L2 xs.length) (hL : ∀ y, y ∈ L ↔ y ∈ subO s n i) (hxs : ∀ y, y ∈ xs ↔ y ∈ subO s n i) : ∀ y, y ∈ L2 ↔ y ∈ subO s n (i + 1) := fun y => by
  rw [h y, List.take_length, subO_mem, hL y]
  constructor
  · rintro (a | ⟨z, h1, h2, h3⟩)
    · exact .inl a
    · exact .inr ⟨z, (hxs z).1 h1, h2, h3⟩
  · rintro (a | ⟨z, h1, h2, h3⟩)
    · exact .inl a
    · exact .inr ⟨z, (hxs z).2 h1, h2, h3⟩

/-- the strings of a collected row, as words -/
def wordsOf (ss : List (List UInt8)) : List ByteArray := ss.map fun l => ⟨l.toArray⟩
theorem rowS_words (ss : List (List UInt8)) : rowS (wordsOf ss) = ss.map encStr := by simp [rowS, wordsOf, List.map_map, Function.comp_def]
theorem words_length (ss : List (List UInt8)) : (wordsOf ss).length = ss.length := by simp [wordsOf]
theorem words_list (ss : List (List UInt8)) : (wordsOf ss).map (fun x => x.data.toList) = ss := by simp [wordsOf, List.map_map, Function.comp_def]
theorem words_perm {H : Type} {L m : List ByteArray} {ss : List (List UInt8)} (hm : m.Pairwise ltW) (hmem : ∀ x, x ∈ m ↔ x ∈ L) (hss : ss.Perm (strKeys (setW H L))) : (wordsOf ss).Perm m := by
  have hp : ss.Perm (m.map fun x => x.data.toList) := hss.trans (setW_perm hm hmem).symm
  have h2 := hp.map fun (l : List UInt8) => (⟨l.toArray⟩ : ByteArray)
  rw [List.map_map] at h2
  have e : m.map ((fun (l : List UInt8) => (⟨l.toArray⟩ : ByteArray)) ∘ fun x => x.data.toList) = m := by
    rw [List.map_congr_left (g := id) (fun x _ => by rfl), List.map_id]
  rwa [e] at h2

/-- the sort by Compare -/
theorem sorted_by {m l : List ByteArray} (hm : m.Pairwise ltW) (hp : l.Perm m) (hs : l.Pairwise fun x y => ¬ cmpW y x < 0) : l = m := by
  have hnd : m.Nodup := List.Pairwise.imp (fun {a b} (h : ltW a b) (e : a = b) => ltW_irrefl b (e ▸ h)) hm
  have hnd2 : l.Nodup := hp.nodup_iff.2 hnd
  refine sorted_unique ?_ hm fun x => hp.mem_iff
  refine (List.Pairwise.and hs hnd2).imp fun {a b} h => ?_
  exact gt_of_cmp h.1 h.2
end Go.Proofs.Ytbmbgdfnhbkelab
