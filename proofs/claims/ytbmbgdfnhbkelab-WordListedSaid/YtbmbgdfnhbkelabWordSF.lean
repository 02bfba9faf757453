/- Plain facts: ascending lists of words, insertion, the keys of a map of words. -/
import Derived.Test.YtbmbgdfnhbkelabWordSM
import Derived.Sort.KeysCollected
import Derived.Maps.Views
namespace Go.Proofs.Ytbmbgdfnhbkelab
open Go Go.RowKit Go.Maps Go.Sort
open WordM
set_option linter.unusedVariables false

theorem sorted_unique : ∀ {l m : List ByteArray}, l.Pairwise ltW → m.Pairwise ltW → (∀ x, x ∈ l ↔ x ∈ m) → l = m
  | [], [], _, _, _ => rfl
  | [], y :: m, _, _, h => by have := (h y).2 List.mem_cons_self; cases this
  | x :: l, [], _, _, h => by have := (h x).1 List.mem_cons_self; cases this
  | x :: l, y :: m, hl, hm, h => by
    rw [List.pairwise_cons] at hl hm
    have hxy : x = y := by
      rcases List.mem_cons.1 ((h x).1 List.mem_cons_self) with e | e
      · exact e
      · rcases List.mem_cons.1 ((h y).2 List.mem_cons_self) with e2 | e2
        · exact e2.symm
        · exact absurd (ltW_trans (hm.1 x e) (hl.1 y e2)) (ltW_irrefl _)
    subst hxy
    rw [sorted_unique hl.2 hm.2 (fun z => ?_)]
    constructor
    · intro hz
      rcases List.mem_cons.1 ((h z).1 (List.mem_cons_of_mem _ hz)) with e | e
      · subst e; exact absurd (hl.1 _ hz) (ltW_irrefl _)
      · exact e
    · intro hz
      rcases List.mem_cons.1 ((h z).2 (List.mem_cons_of_mem _ hz)) with e | e
      · subst e; exact absurd (hm.1 _ hz) (ltW_irrefl _)
      · exact e

theorem posN_above {l : List ByteArray} {x : ByteArray} : ∀ {k i : Nat}, posN l x k ≤ i → i < k → cmpW x (l.getD i ⟨#[]⟩) < 0
  | 0, i, _, h => by omega
  | k + 1, i, h1, h2 => by
    by_cases hc : cmpW x (l.getD k ⟨#[]⟩) < 0
    · rw [posN_yes hc] at h1
      by_cases e : i = k
      · subst e; exact hc
      · exact posN_above h1 (by omega)
    · rw [posN_no hc] at h1; omega
theorem posN_at {l : List ByteArray} {x : ByteArray} : ∀ {k : Nat}, 0 < posN l x k → ¬ cmpW x (l.getD (posN l x k - 1) ⟨#[]⟩) < 0
  | 0, h => by simp [posN] at h
  | k + 1, h => by
    by_cases hc : cmpW x (l.getD k ⟨#[]⟩) < 0
    · rw [posN_yes hc] at h ⊢; exact posN_at h
    · rw [posN_no hc]; exact hc
theorem lt_of_cmp {u v : ByteArray} (h : cmpW u v < 0) : ltW u v := by
  have := cmpW_cases u v
  exact (cmpW_iff u v).1.1 (by omega)
theorem gt_of_cmp {u v : ByteArray} (h : ¬ cmpW u v < 0) (hne : v ≠ u) : ltW v u := by
  rcases cmpW_cases u v with e | e | e
  · omega
  · exact absurd ((cmpW_iff u v).2.1.1 e).symm hne
  · exact (cmpW_iff u v).2.2.1 e
theorem insF_mem {l : List ByteArray} {x y : ByteArray} : y ∈ insF l x ↔ y ∈ l ∨ y = x := by
  rw [insF]
  split
  · rename_i h
    constructor
    · exact .inl
    · rintro (hy | rfl)
      · exact hy
      · have hlt : posN l y l.length - 1 < l.length := by have := posN_le l y l.length; omega
        have h2 := h.2
        rw [List.getD_eq_getElem?_getD, List.getElem?_eq_getElem hlt] at h2
        exact h2 ▸ List.getElem_mem hlt
  · rw [List.mem_append, List.mem_append, List.mem_singleton]
    have := List.take_append_drop (posN l x l.length) l
    constructor
    · rintro ((h | h) | h)
      · exact .inl (List.mem_of_mem_take h)
      · exact .inr h
      · exact .inl (List.mem_of_mem_drop h)
    · rintro (h | h)
      · rw [← this, List.mem_append] at h
        exact h.elim (fun h => .inl (.inl h)) .inr
      · exact .inl (.inr h)
theorem insF_sorted {l : List ByteArray} {x : ByteArray} (hl : l.Pairwise ltW) : (insF l x).Pairwise ltW := by
  rw [insF]
  split
  · exact hl
  · rename_i hn
    have hle := posN_le l x l.length
    have hgt : ∀ a, a ∈ l.take (posN l x l.length) → ltW a x := by
      intro a ha
      obtain ⟨i, hi, rfl⟩ := List.mem_iff_getElem.1 ha
      rw [List.length_take] at hi
      rw [List.getElem_take]
      have hp : 0 < posN l x l.length := by omega
      have hlt : posN l x l.length - 1 < l.length := by omega
      have hat := posN_at hp
      have hg : l.getD (posN l x l.length - 1) ⟨#[]⟩ = l[posN l x l.length - 1] := by rw [List.getD_eq_getElem?_getD, List.getElem?_eq_getElem hlt]; rfl
      rw [hg] at hat
      have hne : l[posN l x l.length - 1] ≠ x := fun e => hn ⟨hp, by rw [hg]; exact e⟩
      have h1 := gt_of_cmp hat hne
      by_cases e : i = posN l x l.length - 1
      · subst e; exact h1
      · exact ltW_trans (List.pairwise_iff_getElem.1 hl i _ (by omega) hlt (by omega)) h1
    have hlt : ∀ b, b ∈ l.drop (posN l x l.length) → ltW x b := by
      intro b hb
      obtain ⟨i, hi, rfl⟩ := List.mem_iff_getElem.1 hb
      rw [List.length_drop] at hi
      rw [List.getElem_drop]
      have := posN_above (l := l) (x := x) (k := l.length) (i := posN l x l.length + i) (by omega) (by omega)
      rw [List.getD_eq_getElem?_getD, List.getElem?_eq_getElem (by omega)] at this
      exact lt_of_cmp this
    rw [List.append_assoc, List.pairwise_append, List.singleton_append, List.pairwise_cons]
    refine ⟨hl.sublist (List.take_sublist _ _), ⟨hlt, hl.sublist (List.drop_sublist _ _)⟩, ?_⟩
    intro a ha b hb
    rcases List.mem_cons.1 hb with rfl | hb
    · exact hgt a ha
    · exact ltW_trans (hgt a ha) (hlt b hb)
theorem insF_len {l : List ByteArray} {x : ByteArray} : (insF l x).length ≤ l.length + 1 := by
  rw [insF]
  split
  · omega
  · have := posN_le l x l.length
    rw [List.length_append, List.length_append, List.length_take, List.length_drop, List.length_singleton]; omega

/-- the first k factors of length n, inserted one by one -/
def facN (s : ByteArray) (n : Nat) : Nat → List ByteArray
  | 0 => []
  | k + 1 => insF (facN s n k) (s.extract k (k + n))
theorem facN_sorted (s : ByteArray) (n : Nat) : ∀ k, (facN s n k).Pairwise ltW
  | 0 => List.Pairwise.nil
  | k + 1 => insF_sorted (facN_sorted s n k)
theorem facN_mem {s : ByteArray} {n : Nat} {y : ByteArray} : ∀ {k : Nat}, y ∈ facN s n k ↔ ∃ i, i < k ∧ y = s.extract i (i + n)
  | 0 => by simp [facN]
  | k + 1 => by
    rw [facN, insF_mem, facN_mem (k := k)]
    constructor
    · rintro (⟨i, hi, h⟩ | h)
      · exact ⟨i, by omega, h⟩
      · exact ⟨k, by omega, h⟩
    · rintro ⟨i, hi, h⟩
      by_cases e : i = k
      · subst e; exact .inr h
      · exact .inl ⟨i, by omega, h⟩
theorem facN_len (s : ByteArray) (n : Nat) : ∀ k, (facN s n k).length ≤ k
  | 0 => Nat.le_refl _
  | k + 1 => by have := facN_len s n k; have := insF_len (l := facN s n k) (x := s.extract k (k + n)); rw [facN]; omega

/-- the bytes of a word as a map's key -/
def keyW (x : ByteArray) : Lit := .string x.data.toList
theorem keyW_inj {x y : ByteArray} (h : keyW x = keyW y) : x = y := ext_list (by injection h)
/-- the map whose keys are the words of l -/
def setW (H : Type) (l : List ByteArray) : DataW H := setOf (.lit (.bool true)) (l.map keyW)
theorem setW_snoc {H : Type} (l : List ByteArray) (x : ByteArray) : setW H (l ++ [x]) = (setW H l).put (keyW x) (.lit (.bool true)) := by
  rw [setW, List.map_append, List.map_singleton, setOf_snoc]; rfl
theorem keys_lit {l : List ByteArray} : ∀ x ∈ l.map keyW, WideAt.IsKeyLit x := by
  intro x hx
  obtain ⟨y, _, rfl⟩ := List.mem_map.1 hx
  trivial
/-- is no string -/
def noStr : Lit → Bool
  | .string _ => false
  | _ => true
theorem fold_str {H : Type} (u : DataW H) : ∀ (acc : List Lit) (es : List (Lit × DataW H)), (es.any fun p => noStr p.1) = false → (acc.any noStr) = false → ∃ es', acc.foldl (fun (m : DataW H) x => m.put x u) (DataW.map es) = DataW.map es' ∧ (es'.any fun p => noStr p.1) = false
  | [], es, h, _ => ⟨es, rfl, h⟩
  | x :: acc, es, h, ha => by
    rw [List.any_cons, Bool.or_eq_false_iff] at ha
    refine fold_str u acc (DataW.insert (x, u) (es.filter fun p => !p.1.sameKey x)) ?_ ha.2
    rw [any_insert, ha.1, Bool.false_or, ← Bool.not_eq_true, List.any_eq_true]
    rintro ⟨p, hp, hq⟩
    rw [← Bool.not_eq_true, List.any_eq_true] at h
    exact h ⟨p, (List.mem_filter.1 hp).1, hq⟩
theorem key_str {H : Type} {l : List ByteArray} {es : List (Lit × DataW H)} (he : setOf (.lit (.bool true)) (l.map keyW) = .map es) : ∀ p ∈ es, ∃ x, p.1 = .string x := by
  obtain ⟨es', h1, h2⟩ := fold_str (H := H) (.lit (.bool true)) (l.map keyW) [] rfl (by
    rw [← Bool.not_eq_true, List.any_eq_true]
    rintro ⟨k, hk, h⟩
    obtain ⟨y, _, rfl⟩ := List.mem_map.1 hk
    cases h)
  have h3 : es = es' := by
    have : DataW.map es = .map es' := by rw [← he, ← h1]; rfl
    injection this
  subst h3
  intro p hp
  rw [← Bool.not_eq_true, List.any_eq_true] at h2
  cases hk : p.1 with
  | string x => exact ⟨x, rfl⟩
  | _ => exact absurd ⟨p, hp, by rw [hk]; rfl⟩ h2
theorem sameKey_iff {a b : Lit} : a.sameKey b = true → a = b := WideAt.sameKey_eq
theorem sameKey_self (x : ByteArray) : (keyW x).sameKey (keyW x) = true := by simp [keyW, Lit.sameKey]
theorem setW_perm {H : Type} {l m : List ByteArray} (hm : m.Pairwise ltW) (hmem : ∀ x, x ∈ m ↔ x ∈ l) : (m.map fun x => x.data.toList).Perm (strKeys (setW H l)) := by
  obtain ⟨es, he, hp⟩ := tidy_setOf (H := H) (.lit (.bool true)) (l.map keyW) keys_lit
  have hhas : ∀ k, has (.map es) k = (l.map keyW).any (fun x => x.sameKey k) := fun k => by rw [← he]; exact has_setOf _ _ _ keys_lit
  rw [setW, he]
  refine perm_strKeys hp (fun p hp' => ?_) ?_ (fun x => ?_)
  · exact key_str he p hp'
  · refine List.pairwise_map.2 (hm.imp fun {a b} h e => ?_)
    exact ltW_irrefl b ((ext_list e) ▸ h)
  · rw [hhas, List.any_eq_true, List.mem_map]
    constructor
    · rintro ⟨y, hy, rfl⟩
      exact ⟨keyW y, List.mem_map.2 ⟨y, (hmem y).1 hy, rfl⟩, sameKey_self y⟩
    · rintro ⟨k, hk, hs⟩
      obtain ⟨y, hy, rfl⟩ := List.mem_map.1 hk
      have := sameKey_iff hs
      refine ⟨y, (hmem y).2 hy, ?_⟩
      injection this
theorem sorted_keys {H : Type} {l m : List ByteArray} {ss : List (List UInt8)} {n : Nat} (hm : m.Pairwise ltW) (hmem : ∀ x, x ∈ m ↔ x ∈ l) (hsz : ∀ x, x ∈ m → x.size = n) (hss : ss.Perm (strKeys (setW H l))) :
    (ss.mergeSort fun x y => decide (x ≤ y)).map encStr = rowS m ∧ ss.length = m.length := by
  have hp : ss.Perm (m.map fun x => x.data.toList) := hss.trans (setW_perm hm hmem).symm
  have e1 := mergeSort_of_perm hp
  have e2 : (m.map fun x => x.data.toList).mergeSort leB = m.map fun x => x.data.toList := by
    refine List.mergeSort_of_pairwise (List.pairwise_map.2 (hm.imp_of_mem fun {a b} ha hb h => ?_))
    simp only [decide_eq_true_eq]
    rcases h with h | h
    · have := hsz a ha; have := hsz b hb; omega
    · exact List.le_of_lt h.2
  refine ⟨?_, by rw [hp.length_eq, List.length_map]⟩
  rw [show (ss.mergeSort fun x y => decide (x ≤ y)) = ss.mergeSort leB from rfl, e1, e2, List.map_map, rowS]
  refine List.map_congr_left fun x _ => ?_
  rfl
end Go.Proofs.Ytbmbgdfnhbkelab
