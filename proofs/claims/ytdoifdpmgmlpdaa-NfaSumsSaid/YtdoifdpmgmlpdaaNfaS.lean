/- Facts: steps and runs as numbers. -/
import Derived.Test.YtdoifdpmgmlpdaaNfaM
import Derived.Test.YtdoifdpmgmlpdaaRelN
namespace Go.Proofs.Ytdoifdpmgmlpdaa
open Go.Proofs.Ytdoifdpmgmlpdaa.rel (mem mem_yes mem_no mem_len)
set_option linter.unusedVariables false
theorem takeE_snoc {es : List Ed} {i : Nat} (h : i < es.length) : es.take (i + 1) = es.take i ++ [es.getD i noE] := by
  rw [List.take_succ_eq_append_getElem h, getD_of (List.getElem?_eq_getElem h)]
def hitB (s : Nat) (x : Int) (e : Ed) : Bool := decide (e.l = x) && s.testBit e.f.toNat
def stepE (s : Nat) (x : Int) (acc : Nat) (e : Ed) : Nat := if hitB s x e then acc ||| 2 ^ e.t.toNat else acc
def stepL (es : List Ed) (s : Nat) (x : Int) : Nat := es.foldl (stepE s x) 0
theorem stepL_take {es : List Ed} {s : Nat} {x : Int} {i : Nat} (h : i < es.length) : stepL (es.take (i + 1)) s x = stepE s x (stepL (es.take i) s x) (es.getD i noE) := by
  rw [takeE_snoc h]; simp [stepL, List.foldl_append]
theorem stepL_snoc (es : List Ed) (e : Ed) (s : Nat) (x : Int) : stepL (es ++ [e]) s x = stepE s x (stepL es s x) e := by simp [stepL, List.foldl_append]
/-- all edges lead to states below n -/
def ToB (n : Nat) (es : List Ed) : Prop := ∀ e, e ∈ es → 0 ≤ e.f ∧ 0 ≤ e.t ∧ e.f.toNat < n ∧ e.t.toNat < n
theorem ToB.take {n : Nat} {es : List Ed} (h : ToB n es) (i : Nat) : ToB n (es.take i) := fun e he => h e (List.mem_of_mem_take he)
theorem ToB.at {n : Nat} {es : List Ed} (h : ToB n es) {i : Nat} (hi : i < es.length) : 0 ≤ (es.getD i noE).f ∧ 0 ≤ (es.getD i noE).t ∧ (es.getD i noE).f.toNat < n ∧ (es.getD i noE).t.toNat < n :=
  h _ (List.mem_of_getElem? (ed_some hi))
theorem valN_to {L S : Int} {st fi : Nat} {es : List Ed} (h : valN L S st fi es = true) : ToB S.toNat es := by
  intro e he
  have h1 := inE_iff.1 (valN_in h he)
  have h2 := (valN_iff.1 h).1
  omega
theorem pow_lt' {a b : Nat} (h : a < b) : 2 ^ a < 2 ^ b := Nat.pow_lt_pow_right (by decide) h
theorem stepL_lt {n : Nat} {es : List Ed} (h : ToB n es) (s : Nat) (x : Int) : stepL es s x < 2 ^ n := by
  suffices ∀ (es : List Ed) (acc : Nat), ToB n es → acc < 2 ^ n → es.foldl (stepE s x) acc < 2 ^ n from this es 0 h (Nat.two_pow_pos n)
  intro es
  induction es with
  | nil => intro acc _ ha; exact ha
  | cons e es ih =>
    intro acc h ha
    refine ih _ (fun e' he' => h e' (by simp [he'])) ?_
    unfold stepE
    split
    · exact Nat.or_lt_two_pow ha (pow_lt' (h e (by simp)).2.2.2)
    · exact ha
theorem stepL_bit {es : List Ed} {s : Nat} {x : Int} {j : Nat} : (stepL es s x).testBit j = true ↔ ∃ e, e ∈ es ∧ hitB s x e = true ∧ e.t.toNat = j := by
  suffices ∀ (es : List Ed) (acc : Nat), (es.foldl (stepE s x) acc).testBit j = true ↔ acc.testBit j = true ∨ ∃ e, e ∈ es ∧ hitB s x e = true ∧ e.t.toNat = j by
    have := this es 0; simpa [stepL] using this
  intro es
  induction es with
  | nil => intro acc; simp
  | cons e es ih =>
    intro acc
    rw [List.foldl_cons, ih]
    unfold stepE
    cases he : hitB s x e
    · simp [he]
    · simp only [if_true, Nat.testBit_or, Nat.testBit_two_pow, Bool.or_eq_true, decide_eq_true_eq, List.mem_cons]
      constructor
      · rintro ((h | h) | ⟨e', h1, h2⟩)
        · exact .inl h
        · exact .inr ⟨e, .inl rfl, he, h⟩
        · exact .inr ⟨e', .inr h1, h2⟩
      · rintro (h | ⟨e', rfl | h1, h2, h3⟩)
        · exact .inl (.inl h)
        · exact .inl (.inr h3)
        · exact .inr ⟨e', h1, h2, h3⟩
/-- no edge has a letter that is out of range -/
theorem stepL_none {es : List Ed} {s : Nat} {x : Int} (h : ∀ e, e ∈ es → e.l ≠ x) : stepL es s x = 0 := by
  apply Nat.eq_of_testBit_eq
  intro j
  rw [Nat.zero_testBit, ← Bool.not_eq_true, stepL_bit]
  rintro ⟨e, he, h1, _⟩
  simp [hitB] at h1
  exact h e he h1.1
theorem foldl_congr' {α β : Type} {f g : β → α → β} : ∀ (l : List α) (b : β), (∀ a, a ∈ l → ∀ b, f b a = g b a) → l.foldl f b = l.foldl g b
  | [], b, _ => rfl
  | a :: l, b, h => by
    rw [List.foldl_cons, List.foldl_cons, h a (by simp) b]
    exact foldl_congr' l _ fun a' h' b' => h a' (by simp [h']) b'
/-- bits of a set from States on are ignored -/
theorem stepL_and {n : Nat} {es : List Ed} (h : ToB n es) (s : Nat) (x : Int) : stepL es (s &&& (2 ^ n - 1)) x = stepL es s x := by
  refine foldl_congr' es 0 fun e he acc => ?_
  have h1 := (h e he).2.2.1
  unfold stepE hitB
  rw [Nat.testBit_and, Nat.testBit_two_pow_sub_one, decide_eq_true h1, Bool.and_true]
/-! ### words -/
def stepW (es : List Ed) : List Int → Nat → Nat
  | [], s => s
  | x :: w, s => stepW es w (stepL es s x)
theorem stepW_append (es : List Ed) (b : List Int) : ∀ (a : List Int) (s : Nat), stepW es (a ++ b) s = stepW es b (stepW es a s)
  | [], s => rfl
  | x :: a, s => stepW_append es b a _
theorem stepW_lt {n : Nat} {es : List Ed} (h : ToB n es) : ∀ (w : List Int) (s : Nat), s < 2 ^ n → stepW es w s < 2 ^ n
  | [], s, hs => hs
  | x :: w, s, hs => stepW_lt h w _ (stepL_lt h s x)
/-! ### runs -/
def satR (x : Nat) : Nat := min x 2147483648
/-- the runs that are longer by an edge -/
def longE (c : Nat → Nat) (x : Int) (acc : Nat → Nat) (e : Ed) : Nat → Nat := if e.l = x then fun q => if q = e.t.toNat then satR (acc q + c e.f.toNat) else acc q else acc
def longL (es : List Ed) (c : Nat → Nat) (x : Int) : Nat → Nat := es.foldl (longE c x) (fun _ => 0)
theorem longL_take {es : List Ed} {c : Nat → Nat} {x : Int} {i : Nat} (h : i < es.length) : longL (es.take (i + 1)) c x = longE c x (longL (es.take i) c x) (es.getD i noE) := by
  rw [takeE_snoc h]; simp [longL, List.foldl_append]
def longW (es : List Ed) : List Int → (Nat → Nat) → Nat → Nat
  | [], c => c
  | x :: w, c => longW es w (longL es c x)
theorem longW_append (es : List Ed) (b : List Int) : ∀ (a : List Int) (c : Nat → Nat), longW es (a ++ b) c = longW es b (longW es a c)
  | [], c => rfl
  | x :: a, c => longW_append es b a _
def cntS (st : Nat) (q : Nat) : Nat := if st.testBit q then 1 else 0
/-- the sum over the first k states of a set -/
def sumF (fi : Nat) (c : Nat → Nat) : Nat → Nat
  | 0 => 0
  | k + 1 => if fi.testBit k then satR (sumF fi c k + c k) else sumF fi c k
def runsN (es : List Ed) (S : Nat) (st fi : Nat) (w : List Int) : Nat := sumF fi (longW es w (cntS st)) S
theorem satR_le (x : Nat) : satR x ≤ 2147483648 := Nat.min_le_right _ _
theorem longE_le {c acc : Nat → Nat} {x : Int} (h : ∀ q, acc q ≤ 2147483648) (e : Ed) : ∀ q, longE c x acc e q ≤ 2147483648 := by
  intro q
  unfold longE
  split
  · dsimp only; split
    · exact satR_le _
    · exact h q
  · exact h q
theorem longL_le {c : Nat → Nat} {x : Int} (es : List Ed) : ∀ q, longL es c x q ≤ 2147483648 := by
  suffices ∀ (es : List Ed) (acc : Nat → Nat), (∀ q, acc q ≤ 2147483648) → ∀ q, es.foldl (longE c x) acc q ≤ 2147483648 from this es _ fun _ => by omega
  intro es
  induction es with
  | nil => intro acc h; exact h
  | cons e es ih => intro acc h; exact ih _ (longE_le h e)
theorem cntS_le (st q : Nat) : cntS st q ≤ 2147483648 := by unfold cntS; split <;> omega
theorem longW_le {es : List Ed} : ∀ (w : List Int) (c : Nat → Nat), (∀ q, c q ≤ 2147483648) → ∀ q, longW es w c q ≤ 2147483648
  | [], c, h => h
  | x :: w, c, h => longW_le w _ (longL_le es)
theorem sumF_le (fi : Nat) (c : Nat → Nat) : ∀ k, sumF fi c k ≤ 2147483648
  | 0 => by simp [sumF]
  | k + 1 => by unfold sumF; split; exact satR_le _; exact sumF_le fi c k
/-- the states that a word leads to are those at which runs end -/
theorem long_step {n : Nat} {es : List Ed} {c : Nat → Nat} {s : Nat} {x : Int} (h : ToB n es) (hc : ∀ q, 0 < c q ↔ s.testBit q = true) (q : Nat) : 0 < longL es c x q ↔ (stepL es s x).testBit q = true := by
  suffices ∀ (es : List Ed) (acc : Nat → Nat) (t : Nat), (∀ q, 0 < acc q ↔ t.testBit q = true) → (0 < es.foldl (longE c x) acc q ↔ (es.foldl (stepE s x) t).testBit q = true) from this es _ 0 (fun q => by simp)
  intro es
  induction es with
  | nil => intro acc t h; exact h q
  | cons e es ih =>
    intro acc t h
    refine ih _ _ fun q => ?_
    unfold longE stepE hitB
    by_cases hl : e.l = x
    · simp only [hl, if_true, decide_true, Bool.true_and]
      cases hb : s.testBit e.f.toNat
      · have hz : c e.f.toNat = 0 := by
          apply Nat.eq_zero_of_not_pos; intro h0; rw [(hc _).1 h0] at hb; cases hb
        simp only [hz, Nat.add_zero, Bool.false_eq_true, if_false]
        split
        · rw [← h q]; unfold satR; omega
        · exact h q
      · have hz : 0 < c e.f.toNat := (hc _).2 hb
        simp only [if_true, Nat.testBit_or, Nat.testBit_two_pow, Bool.or_eq_true, decide_eq_true_eq]
        by_cases e1 : q = e.t.toNat
        · rw [if_pos e1]; unfold satR
          exact ⟨fun _ => .inr e1.symm, fun _ => by omega⟩
        · rw [if_neg e1, h q]
          exact ⟨fun h => .inl h, fun h => h.resolve_right fun h => e1 h.symm⟩
    · simp only [hl, if_false, decide_false, Bool.false_and, Bool.false_eq_true]
      exact h q
theorem long_stepW {n : Nat} {es : List Ed} (h : ToB n es) : ∀ (w : List Int) (c : Nat → Nat) (s : Nat), (∀ q, 0 < c q ↔ s.testBit q = true) → ∀ q, 0 < longW es w c q ↔ (stepW es w s).testBit q = true
  | [], c, s, hc => hc
  | x :: w, c, s, hc => long_stepW h w _ _ (long_step h hc)
theorem cntS_pos (st q : Nat) : 0 < cntS st q ↔ st.testBit q = true := by unfold cntS; split <;> simp_all
theorem sumF_pos (fi : Nat) (c : Nat → Nat) : ∀ k, 0 < sumF fi c k ↔ ∃ q, q < k ∧ fi.testBit q = true ∧ 0 < c q
  | 0 => by simp [sumF]
  | k + 1 => by
    have ih := sumF_pos fi c k
    unfold sumF
    cases hb : fi.testBit k
    · rw [if_neg (by decide), ih]
      exact ⟨fun ⟨q, a, b⟩ => ⟨q, by omega, b⟩, fun ⟨q, a, b, c⟩ => ⟨q, by
        by_cases e : q = k
        · subst e; rw [hb] at b; cases b
        · omega, b, c⟩⟩
    · rw [if_pos rfl]
      constructor
      · intro h
        by_cases h1 : 0 < sumF fi c k
        · obtain ⟨q, a, b⟩ := ih.1 h1
          exact ⟨q, by omega, b⟩
        · exact ⟨k, by omega, hb, by unfold satR at h; omega⟩
      · rintro ⟨q, a, b, d⟩
        by_cases e : q = k
        · subst e; unfold satR; omega
        · have := ih.2 ⟨q, by omega, b, d⟩
          unfold satR; omega
theorem accepts_runs {n : Nat} {es : List Ed} {st fi : Nat} (h : ToB n es) (hst : st < 2 ^ n) (hfi : fi < 2 ^ n) (w : List Int) : (stepW es w st &&& fi ≠ 0) ↔ 0 < runsN es n st fi w := by
  unfold runsN
  rw [sumF_pos]
  have hl := long_stepW h w (cntS st) st (cntS_pos st)
  constructor
  · intro hne
    obtain ⟨q, hq⟩ := Nat.exists_testBit_of_ne_zero hne
    rw [Nat.testBit_and, Bool.and_eq_true] at hq
    refine ⟨q, ?_, hq.2, (hl q).2 hq.1⟩
    apply Nat.lt_of_not_le; intro hle
    rw [Nat.testBit_lt_two_pow (Nat.lt_of_lt_of_le hfi (Nat.pow_le_pow_right (by decide) hle))] at hq
    exact Bool.false_ne_true hq.2
  · rintro ⟨q, _, h1, h2⟩ h0
    have h3 := (hl q).1 h2
    have : (stepW es w st &&& fi).testBit q = true := by rw [Nat.testBit_and, h3, h1]; rfl
    rw [h0] at this; simp at this
end Go.Proofs.Ytdoifdpmgmlpdaa
