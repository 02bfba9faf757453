/- Facts: the edges of a table ascend; no edge leads to the start state; a table's automaton is valid. -/
import Derived.Test.YtdoifdpmgmlpdaaNfaP
namespace Go.Proofs.Ytdoifdpmgmlpdaa
open Go.Proofs.Ytdoifdpmgmlpdaa.rel (mem mem_yes mem_no mem_len)
set_option linter.unusedVariables false
def Asc (es : List Ed) : Prop := es.Pairwise fun a b => ltE a b = true
theorem mem_asc (s k : Nat) : (mem s k).Pairwise (· < ·) := List.Pairwise.filter _ List.pairwise_lt_range
theorem lettersE_asc (i : Nat) (f : Nat → Nat) (j : Nat) : Asc (lettersE i f j) := by
  induction j with
  | zero => exact List.Pairwise.nil
  | succ j ih =>
    refine List.pairwise_append.2 ⟨ih, ?_, ?_⟩
    · refine List.pairwise_map.2 ((mem_asc (f j) 64).imp fun h => ?_)
      unfold ltE; rw [decide_eq_true_iff]; simp; omega
    · intro a ha b hb
      obtain ⟨x, t, rfl, h1, _⟩ := lettersE_mem.1 ha
      obtain ⟨t', _, rfl⟩ := List.mem_map.1 hb
      unfold ltE; rw [decide_eq_true_iff]; simp; omega
theorem tabE_asc (L : Nat) (g : Nat → Nat → Nat) (i : Nat) : Asc (tabE L g i) := by
  induction i with
  | zero => exact List.Pairwise.nil
  | succ i ih =>
    refine List.pairwise_append.2 ⟨ih, lettersE_asc i (g i) L, ?_⟩
    intro a ha b hb
    obtain ⟨q, x, t, rfl, h1, _⟩ := tabE_mem.1 ha
    obtain ⟨x', t', rfl, _⟩ := lettersE_mem.1 hb
    unfold ltE; rw [decide_eq_true_iff]; simp; omega
theorem asc_edB {L S : Int} {es : List Ed} (ha : Asc es) (hin : ∀ e, e ∈ es → inE L S e = true) : edB L S es = true := by
  refine edB_iff.2 fun i hi => ?_
  rw [okAt, Bool.and_eq_true, getD_of (List.getElem?_eq_getElem hi)]
  refine ⟨hin _ (List.getElem_mem hi), ?_⟩
  by_cases h0 : i = 0
  · simp [h0]
  · have h1 : i - 1 < es.length := by omega
    rw [getD_of (List.getElem?_eq_getElem h1)]
    have := List.pairwise_iff_getElem.1 ha (i - 1) i h1 hi (by omega)
    simp [this]
/-- no node is the start -/
def Lo (s : PS) : Prop := 1 ≤ s.F.length ∧ ∀ x, x ∈ s.N → x.testBit 0 = false
theorem orAt_bit {F : List Nat} {i y b : Nat} (h : ∀ x, x ∈ F → x.testBit b = false) (hy : y.testBit b = false) : ∀ x, x ∈ orAt F i y → x.testBit b = false := by
  intro x hx
  rcases List.mem_or_eq_of_mem_set hx with h1 | rfl
  · exact h x h1
  · rw [Nat.testBit_or, hy, Bool.or_false]
    by_cases hi : i < F.length
    · rw [List.getD_eq_getElem?_getD, List.getElem?_eq_getElem hi]; exact h _ (List.getElem_mem hi)
    · rw [List.getD_eq_getElem?_getD, List.getElem?_eq_none (by omega)]; simp
theorem unL_lo (ks : List T) (hk : ∀ k, k ∈ ks → ∀ s, Lo s → Lo (visT k s).1) : ∀ (s : PS) (p : Part), Lo s → Lo (unL ks s p).1 := by
  induction ks with
  | nil => intro s p h; exact h
  | cons k ks ih => intro s p h; exact ih (fun k h => hk k (by simp [h])) _ _ (hk k (by simp) s h)
theorem Lo.con {s : PS} (h : Lo s) (x y : Nat) : Lo (conS s x y) := by
  have e : (conS s x y).F.length = s.F.length := conF_length _ _ _
  exact ⟨by rw [e]; exact h.1, h.2⟩
theorem caL_lo (ks : List T) (hk : ∀ k, k ∈ ks → ∀ s, Lo s → Lo (visT k s).1) : ∀ (s : PS) (p : Part), Lo s → Lo (caL ks s p).1 := by
  induction ks with
  | nil => intro s p h; exact h
  | cons k ks ih => intro s p h; exact ih (fun k h => hk k (by simp [h])) _ _ ((hk k (by simp) s h).con _ _)
theorem visT_lo : ∀ t s, Lo s → Lo (visT t s).1 := by
  intro t
  induction t using T.ind with
  | h op l ks ih =>
    intro s hs
    simp only [visT]
    by_cases h2 : op = 2
    · rw [if_pos h2]; exact hs
    rw [if_neg h2]
    by_cases h3 : op = 3
    · rw [if_pos h3]
      refine ⟨by simp [letS], orAt_bit hs.2 ?_⟩
      rw [Nat.testBit_two_pow, decide_eq_false_iff_not]; have := hs.1; omega
    rw [if_neg h3]
    by_cases h4 : op = 4
    · rw [if_pos h4]; exact unL_lo ks (fun k h s hs => ih k h s hs) s _ hs
    rw [if_neg h4]
    by_cases h5 : op = 5
    · rw [if_pos h5]; exact caL_lo ks (fun k h s hs => ih k h s hs) s _ hs
    rw [if_neg h5]
    by_cases h7 : op = 7
    · rw [if_pos h7]
      cases ks with
      | nil => exact hs
      | cons k ks => exact (ih k (by simp) s hs).con _ _
    · rw [if_neg h7]; exact hs
/-! ### the position automaton -/
def posS0 (L : Nat) : PS := ⟨List.replicate L 0, [0]⟩
/-- the state and the part of the whole -/
def posV (t : T) (L : Nat) : PS × Part := (conS (visT t (posS0 L)).1 1 (visT t (posS0 L)).2.fi, catP ⟨0, 1, false⟩ (visT t (posS0 L)).2)
theorem posS0_ok (L : Nat) : OkS (posS0 L) := by
  refine ⟨fun x hx => ?_, fun x hx => ?_⟩
  · rw [List.eq_of_mem_replicate hx]; exact Nat.two_pow_pos _
  · simp [posS0] at hx; subst hx; exact Nat.two_pow_pos _
theorem posS0_lo (L : Nat) : Lo (posS0 L) := by
  refine ⟨by simp [posS0], fun x hx => ?_⟩
  rw [List.eq_of_mem_replicate hx]; simp
theorem posV_ok {L : Nat} {t : T} (hg : GoodT L t) : OkV (posS0 L) (letT t) (posV t L) := by
  obtain ⟨a, b, c, d⟩ := visT_ok L t hg _ (posS0_ok L)
  have e : (conS (visT t (posS0 L)).1 1 (visT t (posS0 L)).2.fi).F.length = (visT t (posS0 L)).1.F.length := conF_length _ _ _
  have h1 : OkP (visT t (posS0 L)).1 ⟨0, 1, false⟩ := by
    have : 1 ≤ (visT t (posS0 L)).1.F.length := by rw [b]; simp [posS0]
    refine ⟨Nat.two_pow_pos _, ?_⟩
    exact Nat.lt_of_lt_of_le (by decide) (pow_le this)
  refine ⟨a, by simp only [posV, e]; exact b, c.con d.1, ?_⟩
  exact (OkP.cat h1 d).mono (by simp only [posV, e]; exact Nat.le_refl _)
theorem posV_lo (t : T) (L : Nat) : Lo (posV t L).1 := (visT_lo t _ (posS0_lo L)).con _ _
def posE (t : T) (L : Nat) : List Ed := tabE L (tabG (posV t L).1) (1 + letT t)
theorem posV_F {L : Nat} {t : T} (hg : GoodT L t) : (posV t L).1.F.length = 1 + letT t ∧ (posV t L).1.N.length = L := by
  obtain ⟨a, b, c, d⟩ := posV_ok hg
  exact ⟨by rw [b]; simp [posS0], by rw [a]; simp [posS0]⟩
theorem getD_lt' {F : List Nat} {m i : Nat} (h : ∀ x, x ∈ F → x < 2 ^ m) : F.getD i 0 < 2 ^ m := by
  by_cases hi : i < F.length
  · rw [List.getD_eq_getElem?_getD, List.getElem?_eq_getElem hi]; exact h _ (List.getElem_mem hi)
  · rw [List.getD_eq_getElem?_getD, List.getElem?_eq_none (by omega)]; exact Nat.two_pow_pos m
theorem getD_bit {F : List Nat} {b i : Nat} (h : ∀ x, x ∈ F → x.testBit b = false) : (F.getD i 0).testBit b = false := by
  by_cases hi : i < F.length
  · rw [List.getD_eq_getElem?_getD, List.getElem?_eq_getElem hi]; exact h _ (List.getElem_mem hi)
  · rw [List.getD_eq_getElem?_getD, List.getElem?_eq_none (by omega)]; simp
theorem posE_edge {L : Nat} {t : T} (hg : GoodT L t) {e : Ed} (he : e ∈ posE t L) : inE L (1 + letT t : Nat) e = true ∧ 1 ≤ e.t := by
  obtain ⟨q, x, u, rfl, h1, h2, h3, h4⟩ := tabE_mem.1 he
  obtain ⟨_, b, c, _⟩ := posV_ok hg
  have hf := (posV_F hg).1
  rw [tabG, Nat.testBit_and, Bool.and_eq_true] at h4
  have hu : u < 1 + letT t := by
    apply Nat.lt_of_not_le; intro hle
    have h5 := getD_lt' (i := x) c.1
    rw [hf] at h5
    have := Nat.testBit_lt_two_pow (Nat.lt_of_lt_of_le h5 (pow_le hle))
    rw [this] at h4; exact Bool.false_ne_true h4.2
  have hu1 : u ≠ 0 := by
    rintro rfl
    rw [getD_bit (posV_lo t L).2] at h4; exact Bool.false_ne_true h4.2
  rw [inE_iff]
  dsimp only
  omega
theorem posE_ok {L : Nat} {t : T} (hg : GoodT L t) : edB L (1 + letT t : Nat) (posE t L) = true :=
  asc_edB (tabE_asc _ _ _) fun e he => (posE_edge hg he).1
theorem pos_valid {L : Nat} {t : T} (hL : 1 ≤ L ∧ L ≤ 6) (hg : GoodT L t) (hl : 1 + letT t ≤ 64) : valN L (1 + letT t : Nat) 1 (posV t L).2.la (posE t L) = true := by
  rw [valN_iff]
  refine ⟨by omega, ⟨?_, ?_⟩, edB_iff.1 (posE_ok hg)⟩
  · rw [Int.toNat_natCast]
    exact Nat.lt_of_lt_of_le (by decide) (pow_le (a := 1) (by omega))
  · have := (posV_ok hg).2.2.2.2
    rw [(posV_F hg).1] at this
    rw [Int.toNat_natCast]; exact this
end Go.Proofs.Ytdoifdpmgmlpdaa
