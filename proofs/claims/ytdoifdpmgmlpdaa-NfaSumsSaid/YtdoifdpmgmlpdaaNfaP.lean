/- Facts: the position automaton as numbers: what visit makes of a tree. -/
import Derived.Test.YtdoifdpmgmlpdaaExprM
import Derived.Test.YtdoifdpmgmlpdaaNfaM
import Derived.Test.YtdoifdpmgmlpdaaRelN
namespace Go.Proofs.Ytdoifdpmgmlpdaa
open Go.Proofs.Ytdoifdpmgmlpdaa.rel (mem mem_yes mem_no mem_len)
set_option linter.unusedVariables false
/-- for each letter its nodes; for each node those that follow it -/
structure PS where
  N : List Nat
  F : List Nat
structure Part where
  fi : Nat
  la : Nat
  nu : Bool
def orAt (F : List Nat) (i y : Nat) : List Nat := F.set i (F.getD i 0 ||| y)
def conL (y : Nat) (F : List Nat) (xs : List Nat) : List Nat := xs.foldl (fun F i => orAt F i y) F
/-- connect -/
def conF (F : List Nat) (x y : Nat) : List Nat := conL y F (mem x 64)
theorem orAt_length (F : List Nat) (i y : Nat) : (orAt F i y).length = F.length := by simp [orAt]
theorem conL_length (y : Nat) (xs : List Nat) : ∀ F : List Nat, (conL y F xs).length = F.length := by
  induction xs with
  | nil => intro F; rfl
  | cons x xs ih => intro F; exact (ih (orAt F x y)).trans (orAt_length F x y)
theorem conF_length (F : List Nat) (x y : Nat) : (conF F x y).length = F.length := conL_length _ _ _
theorem conL_snoc (y : Nat) (F : List Nat) (xs : List Nat) (x : Nat) : conL y F (xs ++ [x]) = orAt (conL y F xs) x y := by simp [conL, List.foldl_append]
theorem orAt_getD (F : List Nat) (i y j : Nat) : (orAt F i y).getD j 0 = if j = i ∧ i < F.length then F.getD i 0 ||| y else F.getD j 0 := by
  unfold orAt
  simp only [List.getD_eq_getElem?_getD, List.getElem?_set]
  by_cases e : i = j
  · subst e
    by_cases h : i < F.length
    · simp [h]
    · simp [h]
  · simp [e, Ne.symm e]
theorem mem_testBit {s k i : Nat} : i ∈ mem s k ↔ i < k ∧ s.testBit i = true := by simp [mem]
theorem conL_getD (y : Nat) (xs : List Nat) (j : Nat) : ∀ F : List Nat, j < F.length → (conL y F xs).getD j 0 = if j ∈ xs then F.getD j 0 ||| y else F.getD j 0 := by
  induction xs with
  | nil => intro F h; simp [conL]
  | cons x xs ih =>
    intro F h
    have e : conL y F (x :: xs) = conL y (orAt F x y) xs := rfl
    rw [e, ih (orAt F x y) (by rw [orAt_length]; exact h), orAt_getD]
    by_cases h1 : j = x
    · subst h1
      simp only [h, and_self, if_true, List.mem_cons, true_or]
      split
      · rw [Nat.or_assoc, Nat.or_self]
      · rfl
    · simp only [h1, false_and, if_false, List.mem_cons, false_or]
theorem conF_getD {F : List Nat} {x y j : Nat} (h : j < F.length) (h64 : F.length ≤ 64) : (conF F x y).getD j 0 = if x.testBit j = true then F.getD j 0 ||| y else F.getD j 0 := by
  unfold conF
  rw [conL_getD y _ j F h]
  have : j ∈ mem x 64 ↔ x.testBit j = true := by rw [mem_testBit]; exact ⟨fun h => h.2, fun h2 => ⟨by omega, h2⟩⟩
  by_cases h3 : x.testBit j = true
  · rw [if_pos h3, if_pos (this.2 h3)]
  · rw [if_neg h3, if_neg (fun h4 => h3 (this.1 h4))]
def conS (s : PS) (x y : Nat) : PS := ⟨s.N, conF s.F x y⟩
def letS (s : PS) (l : Nat) : PS := ⟨orAt s.N l (2 ^ s.F.length), s.F ++ [0]⟩
def uniP (p q : Part) : Part := ⟨p.fi ||| q.fi, p.la ||| q.la, p.nu || q.nu⟩
def catP (p q : Part) : Part := ⟨if p.nu then p.fi ||| q.fi else p.fi, if q.nu then q.la ||| p.la else q.la, p.nu && q.nu⟩
def noP : Part := ⟨0, 0, false⟩
def epsP : Part := ⟨0, 0, true⟩
mutual
def visT : T → PS → PS × Part
  | .node op l ks, s =>
    if op = 2 then (s, epsP) else if op = 3 then (letS s l.toNat, ⟨2 ^ s.F.length, 2 ^ s.F.length, false⟩)
    else if op = 4 then unL ks s noP else if op = 5 then caL ks s epsP else if op = 7 then stL ks s else (s, noP)
def unL : List T → PS → Part → PS × Part
  | [], s, p => (s, p)
  | k :: ks, s, p => unL ks (visT k s).1 (uniP p (visT k s).2)
def caL : List T → PS → Part → PS × Part
  | [], s, p => (s, p)
  | k :: ks, s, p => caL ks (conS (visT k s).1 p.la (visT k s).2.fi) (catP p (visT k s).2)
def stL : List T → PS → PS × Part
  | [], s => (s, epsP)
  | k :: _, s => (conS (visT k s).1 (visT k s).2.la (visT k s).2.fi, ⟨(visT k s).2.fi, (visT k s).2.la, true⟩)
end
theorem unL_append (b : List T) : ∀ (a : List T) (s : PS) (p : Part), unL (a ++ b) s p = unL b (unL a s p).1 (unL a s p).2
  | [], s, p => by simp [unL]
  | k :: a, s, p => by simp only [List.cons_append, unL]; exact unL_append b a _ _
theorem caL_append (b : List T) : ∀ (a : List T) (s : PS) (p : Part), caL (a ++ b) s p = caL b (caL a s p).1 (caL a s p).2
  | [], s, p => by simp [caL]
  | k :: a, s, p => by simp only [List.cons_append, caL]; exact caL_append b a _ _
theorem unL_take {ks : List T} {i : Nat} (h : i < ks.length) (s : PS) (p : Part) : unL (ks.take (i + 1)) s p = ((visT ks[i] (unL (ks.take i) s p).1).1, uniP (unL (ks.take i) s p).2 (visT ks[i] (unL (ks.take i) s p).1).2) := by
  rw [take_snoc h, unL_append]; simp [unL]
theorem caL_take {ks : List T} {i : Nat} (h : i < ks.length) (s : PS) (p : Part) : caL (ks.take (i + 1)) s p = (conS (visT ks[i] (caL (ks.take i) s p).1).1 (caL (ks.take i) s p).2.la (visT ks[i] (caL (ks.take i) s p).1).2.fi, catP (caL (ks.take i) s p).2 (visT ks[i] (caL (ks.take i) s p).1).2) := by
  rw [take_snoc h, caL_append]; simp [caL]
/-! ### letters and plain trees -/
mutual
def letT : T → Nat | .node op l ks => if op = 3 then 1 else letL ks
def letL : List T → Nat | [] => 0 | k :: ks => letT k + letL ks
end
mutual
def plT : T → Bool | .node op l ks => plL ks && !(decide (op = 6) || decide (op = 8))
def plL : List T → Bool | [] => true | k :: ks => plT k && plL ks
end
theorem letL_append (a b : List T) : letL (a ++ b) = letL a + letL b := by
  induction a with
  | nil => simp [letL]
  | cons x a ih => simp [letL, ih]; omega
theorem letL_take {ks : List T} {i : Nat} (h : i < ks.length) : letL (ks.take (i + 1)) = letL (ks.take i) + letT ks[i] := by
  rw [take_snoc h, letL_append]; simp [letL]
theorem letL_take_le (ks : List T) (i : Nat) : letL (ks.take i) ≤ letL ks := by
  have h := letL_append (ks.take i) (ks.drop i)
  rw [List.take_append_drop] at h
  omega
theorem letT_size : ∀ t, letT t ≤ sizeT t := by
  intro t
  induction t using T.ind with
  | h op l ks ih =>
    have : letL ks ≤ sizeL ks := by
      clear op l
      induction ks with
      | nil => simp [letL, sizeL]
      | cons x a ih2 =>
        have h1 := ih x (by simp)
        have h2 := ih2 fun k hk => ih k (by simp [hk])
        simp only [letL, sizeL]
        omega
    simp only [letT, sizeT]
    split <;> omega
theorem plL_iff {ks : List T} : plL ks = true ↔ ∀ k, k ∈ ks → plT k = true := by
  induction ks with
  | nil => simp [plL]
  | cons x a ih => simp [plL, ih]
theorem plL_take {ks : List T} {i : Nat} (h : i < ks.length) : plL (ks.take (i + 1)) = (plL (ks.take i) && plT ks[i]) := by
  rw [take_snoc h, Bool.eq_iff_iff, plL_iff]
  simp only [Bool.and_eq_true, plL_iff, List.mem_append, List.mem_singleton]
  exact ⟨fun h => ⟨fun k hk => h k (.inl hk), h _ (.inr rfl)⟩, fun h k hk => hk.elim (h.1 k) (fun e => by rw [e]; exact h.2)⟩
theorem plT_node {op l : Int} {ks : List T} : plT (.node op l ks) = true ↔ op ≠ 6 ∧ op ≠ 8 ∧ ∀ k, k ∈ ks → plT k = true := by
  simp [plT, plL_iff]; exact ⟨fun ⟨a, b, c⟩ => ⟨b, c, a⟩, fun ⟨a, b, c⟩ => ⟨c, a, b⟩⟩
/-- a tree that may become an automaton -/
def GoodT (L : Int) (t : T) : Prop := wfT L t = true ∧ plT t = true
theorem GoodT.kid {L op l : Int} {ks : List T} (h : GoodT L (.node op l ks)) {k : T} (hk : k ∈ ks) : GoodT L k :=
  ⟨(wfT_node.1 h.1).2.2 k hk, (plT_node.1 h.2).2.2 k hk⟩
/-! ### what visit keeps -/
def OkS (s : PS) : Prop := (∀ x, x ∈ s.N → x < 2 ^ s.F.length) ∧ ∀ x, x ∈ s.F → x < 2 ^ s.F.length
def OkP (s : PS) (p : Part) : Prop := p.fi < 2 ^ s.F.length ∧ p.la < 2 ^ s.F.length
theorem pow_le {a b : Nat} (h : a ≤ b) : 2 ^ a ≤ 2 ^ b := Nat.pow_le_pow_right (by decide) h
theorem OkP.mono {s s' : PS} {p : Part} (h : OkP s p) (hl : s.F.length ≤ s'.F.length) : OkP s' p :=
  ⟨Nat.lt_of_lt_of_le h.1 (pow_le hl), Nat.lt_of_lt_of_le h.2 (pow_le hl)⟩
theorem orAt_lt {F : List Nat} {i y m : Nat} (h : ∀ x, x ∈ F → x < 2 ^ m) (hy : y < 2 ^ m) : ∀ x, x ∈ orAt F i y → x < 2 ^ m := by
  intro x hx
  rcases List.mem_or_eq_of_mem_set hx with h1 | rfl
  · exact h x h1
  · refine Nat.or_lt_two_pow ?_ hy
    by_cases hi : i < F.length
    · rw [List.getD_eq_getElem?_getD, List.getElem?_eq_getElem hi]; exact h _ (List.getElem_mem hi)
    · rw [List.getD_eq_getElem?_getD, List.getElem?_eq_none (by omega)]; exact Nat.two_pow_pos m
theorem conL_lt {y m : Nat} (hy : y < 2 ^ m) (xs : List Nat) : ∀ F : List Nat, (∀ x, x ∈ F → x < 2 ^ m) → ∀ x, x ∈ conL y F xs → x < 2 ^ m := by
  induction xs with
  | nil => intro F h; exact h
  | cons z xs ih => intro F h; exact ih (orAt F z y) (orAt_lt h hy)
theorem OkS.con {s : PS} (h : OkS s) {x y : Nat} (hy : y < 2 ^ s.F.length) : OkS (conS s x y) := by
  have e : (conS s x y).F.length = s.F.length := conF_length _ _ _
  unfold OkS
  rw [e]
  exact ⟨h.1, conL_lt hy _ _ h.2⟩
theorem OkS.let {s : PS} (h : OkS s) (l : Nat) : OkS (letS s l) := by
  have e : (letS s l).F.length = s.F.length + 1 := by simp [letS]
  have p : 2 ^ s.F.length < 2 ^ (s.F.length + 1) := Nat.pow_lt_pow_right (by decide) (by omega)
  unfold OkS
  rw [e]
  refine ⟨orAt_lt (fun x hx => Nat.lt_trans (h.1 x hx) p) p, fun x hx => ?_⟩
  rcases List.mem_append.1 hx with h1 | h1
  · exact Nat.lt_trans (h.2 x h1) p
  · simp at h1; subst h1; exact Nat.two_pow_pos _
theorem OkP.uni {s : PS} {p q : Part} (h : OkP s p) (h2 : OkP s q) : OkP s (uniP p q) := ⟨Nat.or_lt_two_pow h.1 h2.1, Nat.or_lt_two_pow h.2 h2.2⟩
theorem OkP.cat {s : PS} {p q : Part} (h : OkP s p) (h2 : OkP s q) : OkP s (catP p q) := by
  constructor
  · unfold catP; dsimp only; split
    · exact Nat.or_lt_two_pow h.1 h2.1
    · exact h.1
  · unfold catP; dsimp only; split
    · exact Nat.or_lt_two_pow h2.2 h.2
    · exact h2.2
theorem OkP.no (s : PS) : OkP s noP := ⟨Nat.two_pow_pos _, Nat.two_pow_pos _⟩
theorem OkP.eps (s : PS) : OkP s epsP := ⟨Nat.two_pow_pos _, Nat.two_pow_pos _⟩
/-- what is known behind visit -/
def OkV (s : PS) (n : Nat) (r : PS × Part) : Prop := r.1.N.length = s.N.length ∧ r.1.F.length = s.F.length + n ∧ OkS r.1 ∧ OkP r.1 r.2
theorem unL_ok {L : Int} (ks : List T) (hk : ∀ k, k ∈ ks → ∀ s, OkS s → OkV s (letT k) (visT k s)) : ∀ (s : PS) (p : Part), OkS s → OkP s p → OkV s (letL ks) (unL ks s p) := by
  induction ks with
  | nil => intro s p hs hp; exact ⟨rfl, rfl, hs, hp⟩
  | cons k ks ih =>
    intro s p hs hp
    obtain ⟨a, b, c, d⟩ := hk k (by simp) s hs
    obtain ⟨a2, b2, c2, d2⟩ := ih (fun k h => hk k (by simp [h])) (visT k s).1 (uniP p (visT k s).2) c ((hp.mono (by omega)).uni d)
    exact ⟨a2.trans a, by simp only [unL, letL]; omega, c2, d2⟩
theorem caL_ok {L : Int} (ks : List T) (hk : ∀ k, k ∈ ks → ∀ s, OkS s → OkV s (letT k) (visT k s)) : ∀ (s : PS) (p : Part), OkS s → OkP s p → OkV s (letL ks) (caL ks s p) := by
  induction ks with
  | nil => intro s p hs hp; exact ⟨rfl, rfl, hs, hp⟩
  | cons k ks ih =>
    intro s p hs hp
    obtain ⟨a, b, c, d⟩ := hk k (by simp) s hs
    have e : (conS (visT k s).1 p.la (visT k s).2.fi).F.length = (visT k s).1.F.length := conF_length _ _ _
    obtain ⟨a2, b2, c2, d2⟩ := ih (fun k h => hk k (by simp [h])) (conS (visT k s).1 p.la (visT k s).2.fi) (catP p (visT k s).2) (c.con d.1) (((hp.mono (by omega)).cat d).mono (by omega))
    exact ⟨a2.trans a, by simp only [caL, letL]; omega, c2, d2⟩
theorem visT_ok (L : Int) : ∀ t, GoodT L t → ∀ s, OkS s → OkV s (letT t) (visT t s) := by
  intro t
  induction t using T.ind with
  | h op l ks ih =>
    intro hg s hs
    have hw := wfT_node.1 hg.1
    have hp := plT_node.1 hg.2
    have hk : ∀ k, k ∈ ks → ∀ s, OkS s → OkV s (letT k) (visT k s) := fun k h s hs => ih k h (hg.kid h) s hs
    have hk0 := hw.1
    simp only [kidsOk] at hk0
    simp only [visT, letT]
    by_cases h2 : op = 2
    · subst h2
      have : ks = [] := by simpa using hk0
      subst this
      exact ⟨rfl, rfl, hs, OkP.eps s⟩
    by_cases h3 : op = 3
    · subst h3
      rw [if_pos rfl, if_neg (by decide), if_pos rfl]
      refine ⟨orAt_length _ _ _, by simp [letS], hs.let _, ?_⟩
      have p : 2 ^ s.F.length < 2 ^ (s.F.length + 1) := Nat.pow_lt_pow_right (by decide) (by omega)
      have e : (letS s l.toNat).F.length = s.F.length + 1 := by simp [letS]
      exact ⟨by rw [e]; exact p, by rw [e]; exact p⟩
    rw [if_neg h2, if_neg h3, if_neg h3]
    by_cases h4 : op = 4
    · rw [if_pos h4]; exact unL_ok (L := L) ks hk s noP hs (OkP.no s)
    by_cases h5 : op = 5
    · rw [if_neg h4, if_pos h5]; exact caL_ok (L := L) ks hk s epsP hs (OkP.eps s)
    rw [if_neg h4, if_neg h5]
    by_cases h7 : op = 7
    · rw [if_pos h7]
      subst h7
      have : ks.length = 1 := by simpa using hk0
      obtain ⟨k, rfl⟩ := List.length_eq_one_iff.1 this
      obtain ⟨a, b, c, d⟩ := hk k (by simp) s hs
      have e : (conS (visT k s).1 (visT k s).2.la (visT k s).2.fi).F.length = (visT k s).1.F.length := conF_length _ _ _
      exact ⟨a, by simp only [stL, letL, e]; omega, c.con d.1, (OkP.mono (p := ⟨_, _, true⟩) d (by simp only [stL, e]; exact Nat.le_refl _))⟩
    · rw [if_neg h7]
      have h1 : op = 1 := by
        have := hp.1; have := hp.2.1
        by_cases e : op = 1
        · exact e
        · rw [if_neg (by omega), if_neg (by omega), if_neg (by omega)] at hk0; cases hk0
      subst h1
      have : ks = [] := by simpa using hk0
      subst this
      exact ⟨rfl, rfl, hs, OkP.no s⟩
/-! ### the table and its edges -/
def lettersE (i : Nat) (f : Nat → Nat) : Nat → List Ed
  | 0 => []
  | j + 1 => lettersE i f j ++ (mem (f j) 64).map fun (t : Nat) => ⟨(i : Int), (j : Int), (t : Int)⟩
def tabE (L : Nat) (g : Nat → Nat → Nat) : Nat → List Ed
  | 0 => []
  | i + 1 => tabE L g i ++ lettersE i (g i) L
def tabG (s : PS) (i j : Nat) : Nat := s.F.getD i 0 &&& s.N.getD j 0
theorem lettersE_len (i : Nat) (f : Nat → Nat) (j : Nat) : (lettersE i f j).length ≤ j * 64 := by
  induction j with
  | zero => simp [lettersE]
  | succ j ih => have := mem_len (f j) 64; simp [lettersE]; omega
theorem tabE_len (L : Nat) (g : Nat → Nat → Nat) (i : Nat) : (tabE L g i).length ≤ i * (L * 64) := by
  induction i with
  | zero => simp [tabE]
  | succ i ih => have := lettersE_len i (g i) L; simp [tabE, Nat.succ_mul]; omega
theorem lettersE_mem {i : Nat} {f : Nat → Nat} {j : Nat} {e : Ed} : e ∈ lettersE i f j ↔ ∃ x t : Nat, e = ⟨i, x, t⟩ ∧ x < j ∧ t < 64 ∧ (f x).testBit t = true := by
  induction j with
  | zero => simp [lettersE]
  | succ j ih =>
    simp only [lettersE, List.mem_append, ih, List.mem_map, mem_testBit]
    constructor
    · rintro (⟨x, t, h1, h2, h3⟩ | ⟨t, ⟨h1, h2⟩, rfl⟩)
      · exact ⟨x, t, h1, by omega, h3⟩
      · exact ⟨j, t, rfl, by omega, h1, h2⟩
    · rintro ⟨x, t, rfl, h2, h3, h4⟩
      by_cases e : x = j
      · subst e; exact .inr ⟨t, ⟨h3, h4⟩, rfl⟩
      · exact .inl ⟨x, t, rfl, by omega, h3, h4⟩
theorem tabE_mem {L : Nat} {g : Nat → Nat → Nat} {i : Nat} {e : Ed} : e ∈ tabE L g i ↔ ∃ q x t : Nat, e = ⟨q, x, t⟩ ∧ q < i ∧ x < L ∧ t < 64 ∧ (g q x).testBit t = true := by
  induction i with
  | zero => simp [tabE]
  | succ i ih =>
    simp only [tabE, List.mem_append, ih, lettersE_mem]
    constructor
    · rintro (⟨q, x, t, h1, h2, h3⟩ | ⟨x, t, rfl, h2, h3⟩)
      · exact ⟨q, x, t, h1, by omega, h3⟩
      · exact ⟨i, x, t, rfl, by omega, h2, h3⟩
    · rintro ⟨q, x, t, rfl, h2, h3⟩
      by_cases e : q = i
      · subst e; exact .inr ⟨x, t, rfl, h3⟩
      · exact .inl ⟨q, x, t, rfl, by omega, h3⟩
end Go.Proofs.Ytdoifdpmgmlpdaa
