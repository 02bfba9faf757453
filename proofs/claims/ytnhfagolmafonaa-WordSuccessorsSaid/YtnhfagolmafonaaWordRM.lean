/- Plain facts on ranks of words: no Go, no program. -/
import Derived.Test.YtnhfagolmafonaaWordM
import Derived.Test.YtnhfagolmafonaaWordCM
namespace Go.Proofs.Ytnhfagolmafonaa.WordM
open Go Go.RowKit

/-- the rank of a list of letters, from r on -/
def rkFrom (k : Nat) (r : Nat) (l : List UInt8) : Nat := l.foldl (fun r c => r * k + (c.toNat - 96)) r
def rkN (k : Nat) (l : List UInt8) : Nat := rkFrom k 0 l

theorem rkFrom_cons (k r : Nat) (c : UInt8) (l : List UInt8) : rkFrom k r (c :: l) = rkFrom k (r * k + (c.toNat - 96)) l := by simp only [rkFrom, List.foldl_cons]
theorem rkFrom_eq (k : Nat) (l : List UInt8) : ∀ r : Nat, rkFrom k r l = r * k ^ l.length + rkN k l := by
  induction l with
  | nil => intro r; simp [rkFrom, rkN]
  | cons c l ih =>
    intro r
    have h1 := ih (r * k + (c.toNat - 96))
    have h2 := ih (0 * k + (c.toNat - 96))
    have h3 : rkN k (c :: l) = rkFrom k (0 * k + (c.toNat - 96)) l := by simp only [rkN, rkFrom, List.foldl_cons]
    rw [rkFrom_cons, h1, h3, h2, List.length_cons, Nat.pow_succ, Nat.zero_mul, Nat.zero_add, Nat.add_mul, Nat.mul_assoc, Nat.mul_comm k (k ^ l.length), Nat.add_assoc]
theorem rkN_snoc (k : Nat) (l : List UInt8) (c : UInt8) : rkN k (l ++ [c]) = rkN k l * k + (c.toNat - 96) := by
  simp [rkN, rkFrom]
theorem rkN_cons (k : Nat) (c : UInt8) (l : List UInt8) : rkN k (c :: l) = (c.toNat - 96) * k ^ l.length + rkN k l := by
  show rkFrom k 0 (c :: l) = _
  rw [rkFrom_cons, rkFrom_eq]; simp
theorem rkN_take_le {k : Nat} (hk : 1 ≤ k) (l m : List UInt8) : rkN k l ≤ rkN k (l ++ m) := by
  have : rkN k (l ++ m) = rkFrom k (rkN k l) m := by simp [rkN, rkFrom, List.foldl_append]
  rw [this, rkFrom_eq]
  have hp : 1 ≤ k ^ m.length := Nat.one_le_pow _ _ hk
  have := Nat.mul_le_mul_left (rkN k l) hp
  omega

theorem let_iff {κ : Nat} {c : UInt8} : letB (κ : Int) c = true ↔ 97 ≤ c.toNat ∧ c.toNat < 97 + κ := by rw [letB_iff]; omega

/-- the digits of a word's rank are the word's letters, turned round -/
theorem digs_rk {κ : Nat} (hk : 1 ≤ κ) : ∀ (l : List UInt8), l.all (letB κ) = true → digs κ (rkN κ l) = (l.map fun c => (c.toNat : Int)).reverse := by
  intro l
  generalize hn : l.length = n
  induction n generalizing l with
  | zero =>
    intro _
    obtain rfl : l = [] := List.length_eq_zero_iff.1 hn
    rfl
  | succ n ih =>
    intro hall
    have hne : l ≠ [] := by intro e; subst e; simp at hn
    have hl : l.dropLast ++ [l.getLast hne] = l := List.dropLast_concat_getLast hne
    generalize l.dropLast = m at hl
    generalize l.getLast hne = c at hl
    subst hl
    rw [List.all_append, Bool.and_eq_true] at hall
    have hc : letB (κ : Int) c = true := by simpa using hall.2
    have hc' := let_iff.1 hc
    have hm : m.length = n := by simpa using hn
    have e1 : rkN κ (m ++ [c]) = (rkN κ m * κ + (c.toNat - 97)) + 1 := by rw [rkN_snoc]; omega
    have e2 : (rkN κ m * κ + (c.toNat - 97)) % κ = c.toNat - 97 := by
      rw [Nat.mul_comm, Nat.mul_add_mod]; exact Nat.mod_eq_of_lt (by omega)
    have e3 : (rkN κ m * κ + (c.toNat - 97)) / κ = rkN κ m := by
      rw [Nat.mul_comm, Nat.mul_add_div (by omega)]
      rw [Nat.div_eq_of_lt (by omega)]; omega
    rw [e1, digs_succ, e2, e3, ih m hm hall.1]
    simp
    omega

theorem strOf_map (s : ByteArray) : strOfNums (s.data.toList.map fun c => (c.toNat : Int)) = s := by
  apply ext_list
  rw [strOfNums_data, List.map_map]
  have : ((fun n : Int => UInt8.ofNat n.toNat) ∘ fun c : UInt8 => (c.toNat : Int)) = id := by
    funext c; simp
  rw [this, List.map_id]

/-- the word of a word's rank is that word -/
theorem ur_rk {κ : Nat} (hk : 1 ≤ κ) {s : ByteArray} (hall : s.data.toList.all (letB κ) = true) (hs : s.size ≤ 2048) :
    urB κ (rkN κ s.data.toList) = true ∧ urS κ (rkN κ s.data.toList) = s := by
  have hd := digs_rk hk _ hall
  have h := ur_short (k := κ) (n := rkN κ s.data.toList) (xs := (s.data.toList.map fun c => (c.toNat : Int)).reverse) hd.symm (by simp; exact hs)
  refine ⟨h.1, h.2.trans ?_⟩
  rw [List.reverse_reverse, strOf_map]

/-- byte numbers of digits -/
theorem digs_range (κ : Nat) (hk : 1 ≤ κ) (hk6 : κ ≤ 6) : ∀ (f n : Nat), ∀ x ∈ low κ f n, 97 ≤ x ∧ x < 97 + (κ : Int)
  | 0, _, _, h => by simp [low] at h
  | f + 1, n, x, h => by
    by_cases hn : n = 0
    · simp [low, hn] at h
    · simp only [low, if_neg hn, List.mem_cons] at h
      rcases h with rfl | h
      · have := Nat.mod_lt (n - 1) (show κ > 0 by omega); omega
      · exact digs_range κ hk hk6 f _ x h

theorem rkN_digs {κ : Nat} (hk : 1 ≤ κ) (hk6 : κ ≤ 6) : ∀ (n : Nat), rkN κ (strOfNums (digs κ n).reverse).data.toList = n := by
  intro n
  induction n using Nat.strongRecOn with
  | _ n ih =>
    cases n with
    | zero => rfl
    | succ m =>
      have hd : m / κ ≤ m := Nat.div_le_self _ _
      have hlt := Nat.mod_lt m (show κ > 0 by omega)
      have e : (strOfNums (digs κ (m + 1)).reverse).data.toList = (strOfNums (digs κ (m / κ)).reverse).data.toList ++ [UInt8.ofNat (97 + m % κ)] := by
        rw [strOfNums_data, strOfNums_data, digs_succ, List.reverse_cons, List.map_append]
        congr 1
      rw [e, rkN_snoc, ih (m / κ) (by omega)]
      have h2 : (UInt8.ofNat (97 + m % κ)).toNat = 97 + m % κ := by
        rw [UInt8.toNat_ofNat']; exact Nat.mod_eq_of_lt (by omega)
      rw [h2]
      have := Nat.div_add_mod m κ
      have hc : m / κ * κ = κ * (m / κ) := Nat.mul_comm _ _
      omega

theorem all_digs {κ : Nat} (hk : 1 ≤ κ) (hk6 : κ ≤ 6) (n : Nat) : (strOfNums (digs κ n).reverse).data.toList.all (letB κ) = true := by
  rw [strOfNums_data, List.all_eq_true]
  intro c hc
  simp only [List.mem_map, List.mem_reverse] at hc
  obtain ⟨x, hx, rfl⟩ := hc
  have hr := digs_range κ hk hk6 n n x hx
  rw [let_iff]
  have h2 : (UInt8.ofNat x.toNat).toNat = x.toNat := by
    rw [UInt8.toNat_ofNat']; exact Nat.mod_eq_of_lt (by omega)
  omega

theorem digs_pow {κ : Nat} (hk : 2 ≤ κ) : ∀ (n : Nat), 2 ^ (digs κ n).length ≤ n + 1 := by
  intro n
  induction n using Nat.strongRecOn with
  | _ n ih =>
    cases n with
    | zero => simp [digs_zero]
    | succ m =>
      have hd : m / κ ≤ m := Nat.div_le_self _ _
      have h := ih (m / κ) (by omega)
      rw [digs_succ, List.length_cons, Nat.pow_succ]
      have h2 : 2 * (m / κ) ≤ m := Nat.le_trans (Nat.mul_le_mul_right _ hk) (Nat.mul_div_le m κ)
      omega
theorem digs_one : ∀ (n : Nat), (digs 1 n).length = n
  | 0 => rfl
  | n + 1 => by rw [digs_succ, List.length_cons, Nat.div_one, digs_one n]
theorem urB_small {κ n : Nat} (hk : 2 ≤ κ) (hn : n ≤ 2 ^ 62) : urB κ n = true := by
  have h := digs_pow hk n
  have : (digs κ n).length < 63 := by
    rcases Nat.lt_or_ge (digs κ n).length 63 with h' | h'
    · exact h'
    · have := Nat.pow_le_pow_right (show 2 > 0 by omega) h'
      omega
  simp only [urB, decide_eq_true_eq]; omega
theorem urB_one (n : Nat) : urB 1 n = decide (n ≤ 2048) := by simp only [urB, digs_one]

/-! ### the order of the ranks is that of the words -/
/-- how many words are shorter than j letters -/
def cnt (k : Nat) : Nat → Nat
  | 0 => 0
  | j + 1 => cnt k j + k ^ j
theorem rkN_range {κ : Nat} : ∀ (l : List UInt8), l.all (letB κ) = true → cnt κ l.length ≤ rkN κ l ∧ rkN κ l < cnt κ l.length + κ ^ l.length
  | [], _ => by simp [cnt, rkN, rkFrom]
  | c :: l, h => by
    rw [List.all_cons, Bool.and_eq_true] at h
    have ih := rkN_range l h.2
    have hc := let_iff.1 h.1
    rw [rkN_cons, List.length_cons, cnt, Nat.pow_succ]
    have h1 : 1 * κ ^ l.length ≤ (c.toNat - 96) * κ ^ l.length := Nat.mul_le_mul_right _ (by omega)
    have h2 : (c.toNat - 96) * κ ^ l.length ≤ κ * κ ^ l.length := Nat.mul_le_mul_right _ (by omega)
    have h3 : κ ^ l.length * κ = κ * κ ^ l.length := Nat.mul_comm _ _
    omega
theorem cnt_mono {k : Nat} : ∀ {i j : Nat}, i < j → cnt k i + k ^ i ≤ cnt k j
  | i, j + 1, h => by
    rcases Nat.lt_or_ge i j with h' | h'
    · have := cnt_mono (k := k) h'
      simp only [cnt]; omega
    · obtain rfl : i = j := by omega
      simp only [cnt]; omega
theorem rk_lex {κ : Nat} : ∀ (u v : List UInt8), u.all (letB κ) = true → v.all (letB κ) = true → u.length = v.length → u < v → rkN κ u < rkN κ v
  | [], [], _, _, _, h => absurd h (List.lt_irrefl _)
  | [], _ :: _, _, _, hl, _ => by simp at hl
  | _ :: _, [], _, _, hl, _ => by simp at hl
  | a :: u, b :: v, hu, hv, hl, h => by
    rw [List.all_cons, Bool.and_eq_true] at hu hv
    have ha := let_iff.1 hu.1
    have hb := let_iff.1 hv.1
    have hl' : u.length = v.length := by simpa using hl
    rw [rkN_cons, rkN_cons, hl']
    rw [List.cons_lt_cons_iff] at h
    rcases h with h | ⟨rfl, h⟩
    · have hab : a.toNat < b.toNat := UInt8.lt_iff_toNat_lt.1 h
      have r1 := rkN_range u hu.2
      have r2 := rkN_range v hv.2
      rw [hl'] at r1
      have h1 : (a.toNat - 96 + 1) * κ ^ v.length ≤ (b.toNat - 96) * κ ^ v.length := Nat.mul_le_mul_right _ (by omega)
      rw [Nat.add_mul] at h1
      omega
    · have := rk_lex u v hu.2 hv.2 hl' h
      omega
theorem rk_mono {κ : Nat} {u v : ByteArray} (hu : u.data.toList.all (letB κ) = true) (hv : v.data.toList.all (letB κ) = true) (h : ltW u v) : rkN κ u.data.toList < rkN κ v.data.toList := by
  rcases h with h | ⟨h1, h2⟩
  · have r1 := rkN_range _ hu
    have r2 := rkN_range _ hv
    have := cnt_mono (k := κ) (show u.data.toList.length < v.data.toList.length by simpa using h)
    omega
  · exact rk_lex _ _ hu hv (by simpa using h1) h2
end Go.Proofs.Ytnhfagolmafonaa.WordM
