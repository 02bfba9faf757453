/- Facts: all accepted words of a length, and what is listed of them. -/
import Derived.Test.YtohoiebofkmjeacDfaW
import Derived.Test.YtohoiebofkmjeacDfaC
import Derived.Test.YtohoiebofkmjeacWordM
import Derived.Test.YtohoiebofkmjeacWordCM
namespace Go.Proofs.Ytohoiebofkmjeac
open Go
open Go.Proofs.Ytohoiebofkmjeac.wrd.WordM (wordB letB mayB ltW ltW_trans ltW_irrefl ext_list cmpW cmpW_lt cmpW_gt)
set_option linter.unusedVariables false
/-- all accepted words of k further letters from q behind pre, ascending -/
def DF.full (d : DF) : Nat → Nat → List Int → List ByteArray
  | 0, q, pre => if d.F q = true then [strOfNums pre] else []
  | k + 1, q, pre => (List.range d.L.toNat).flatMap fun x => d.full k (d.nx q x) (pre ++ [97 + (x : Int)])
/-- pruning drops nothing -/
theorem DF.full_dead (d : DF) : ∀ (k q : Nat) (pre : List Int), d.lv k q = false → d.full k q pre = []
  | 0, q, pre, h => by
    have h : d.F q = false := h
    rw [DF.full, if_neg (by rw [h]; simp)]
  | k + 1, q, pre, h => by
    rw [DF.full, List.flatMap_eq_nil_iff]
    intro x hx
    apply DF.full_dead
    rw [← Bool.not_eq_true]
    intro h2
    have : d.lv (k + 1) q = true := by
      show d.bf (d.lv k) q = true
      unfold DF.bf
      rw [List.any_eq_true]
      exact ⟨x, hx, h2⟩
    rw [this] at h; cases h
theorem take_append_take {α : Type} (n : Nat) (l m : List α) (A : List α) : A ++ (l ++ m).take (n - A.length) = (A ++ l.take (n - A.length)) ++ m.take (n - (A ++ l.take (n - A.length)).length) := by
  rw [List.take_append, List.append_assoc]
  congr 2
  rw [List.length_append, List.length_take]
  by_cases h : n - A.length ≤ l.length
  · rw [Nat.min_eq_left h]
    have e1 : n - A.length - l.length = 0 := by omega
    have e2 : n - (A.length + (n - A.length)) = 0 := by omega
    rw [e1, e2]
  · rw [Nat.min_eq_right (by omega)]
    congr 1; omega
/-- the search is the list of all words, cut off -/
theorem DF.ext_full (d : DF) (most : Nat) : ∀ (k q : Nat) (pre : List Int) (fs : List ByteArray), d.ext most k q pre fs = fs ++ (d.full k q pre).take (most - fs.length)
  | 0, q, pre, fs => by
    by_cases h : most ≤ fs.length ∨ d.lv 0 q = false
    · rw [d.ext_stop h]
      rcases h with h | h
      · rw [show most - fs.length = 0 by omega]; simp
      · rw [d.full_dead 0 q pre h]; simp
    · rw [d.ext_zero h, DF.full]
      have h2 : d.F q = true := by rw [← Bool.not_eq_false]; exact fun e => h (.inr e)
      rw [if_pos h2, List.take_of_length_le (by simp; omega)]
  | k + 1, q, pre, fs => by
    by_cases h : most ≤ fs.length ∨ d.lv (k + 1) q = false
    · rw [d.ext_stop h]
      rcases h with h | h
      · rw [show most - fs.length = 0 by omega]; simp
      · rw [d.full_dead (k + 1) q pre h]; simp
    · rw [d.ext_succ h, DF.full]
      suffices ∀ j, d.extx most k q pre fs j = fs ++ ((List.range j).flatMap fun x => d.full k (d.nx q x) (pre ++ [97 + (x : Int)])).take (most - fs.length) from this _
      intro j
      induction j with
      | zero => simp [DF.extx]
      | succ j ih =>
        rw [d.extx_succ, DF.ext_full d most k, ih, List.range_succ, List.flatMap_append, take_append_take]
        simp
/-- all accepted words of fewer than k letters -/
def DF.allw (d : DF) (k : Nat) : List ByteArray := (List.range k).flatMap fun j => d.full j d.S.toNat []
theorem DF.allw_succ (d : DF) (k : Nat) : d.allw (k + 1) = d.allw k ++ d.full k d.S.toNat [] := by simp [DF.allw, List.range_succ, List.flatMap_append]
theorem DF.wds_allw (d : DF) (most : Nat) : ∀ k, d.wds most k = (d.allw k).take most
  | 0 => by simp [DF.wds, DF.allw]
  | k + 1 => by
    rw [DF.wds, d.ext_full, DF.wds_allw d most k, d.allw_succ]
    have := take_append_take most (d.allw k) (d.full k d.S.toNat []) []
    simpa using this.symm
/-- how many there are -/
theorem DF.full_len (d : DF) : ∀ (k q : Nat) (pre : List Int), (d.full k q pre).length = d.cn k q
  | 0, q, pre => by rw [DF.full, DF.cn]; split <;> rfl
  | k + 1, q, pre => by
    rw [DF.full, DF.cn, DF.sx]
    suffices ∀ j, ((List.range j).flatMap fun x => d.full k (d.nx q x) (pre ++ [97 + (x : Int)])).length = d.sxj (d.cn k) q j from this _
    intro j
    induction j with
    | zero => rfl
    | succ j ih => rw [List.range_succ, List.flatMap_append, List.length_append, ih, DF.sxj]; simp [DF.full_len d k]
theorem DF.cn_le (d : DF) (hL : d.L.toNat ≤ 6) : ∀ (k q : Nat), d.cn k q ≤ 6 ^ k
  | 0, q => by rw [DF.cn]; split <;> simp
  | k + 1, q => by
    rw [DF.cn, DF.sx]
    have h1 := d.sxj_le (g := d.cn k) (q := q) (b := 6 ^ k) (fun s => DF.cn_le d hL k s) d.L.toNat
    have h2 : d.L.toNat * 6 ^ k ≤ 6 * 6 ^ k := Nat.mul_le_mul_right _ hL
    rw [Nat.pow_succ]; omega
/-- which words they are: xs are the further letters -/
theorem DF.full_mem (d : DF) : ∀ (k q : Nat) (pre : List Int) (u : ByteArray), u ∈ d.full k q pre ↔ ∃ xs : List Nat, xs.length = k ∧ (∀ x, x ∈ xs → x < d.L.toNat) ∧ u = strOfNums (pre ++ xs.map fun (x : Nat) => 97 + (x : Int)) ∧ d.F (d.run q xs) = true
  | 0, q, pre, u => by
    rw [DF.full]
    constructor
    · intro h
      split at h
      · rename_i hf
        rw [List.mem_singleton] at h
        exact ⟨[], rfl, by simp, by simp [h], hf⟩
      · simp at h
    · rintro ⟨xs, h1, _, h3, h4⟩
      obtain rfl := List.length_eq_zero_iff.1 h1
      have h4 : d.F q = true := h4
      rw [if_pos h4, h3]; simp
  | k + 1, q, pre, u => by
    rw [DF.full, List.mem_flatMap]
    constructor
    · rintro ⟨x, hx, h⟩
      obtain ⟨xs, h1, h2, h3, h4⟩ := (DF.full_mem d k _ _ u).1 h
      refine ⟨x :: xs, by simp [h1], ?_, by rw [h3]; simp, h4⟩
      intro y hy
      rcases List.mem_cons.1 hy with rfl | hy
      · exact List.mem_range.1 hx
      · exact h2 y hy
    · rintro ⟨xs, h1, h2, h3, h4⟩
      cases xs with
      | nil => simp at h1
      | cons x xs =>
        refine ⟨x, List.mem_range.2 (h2 x (by simp)), (DF.full_mem d k _ _ u).2 ⟨xs, by simpa using h1, fun y hy => h2 y (by simp [hy]), by rw [h3]; simp, h4⟩⟩
theorem DF.full_size (d : DF) {k q : Nat} {pre : List Int} {u : ByteArray} (h : u ∈ d.full k q pre) : u.size = pre.length + k := by
  obtain ⟨xs, h1, _, rfl, _⟩ := (d.full_mem k q pre u).1 h
  rw [strOfNums_size]; simp [h1]
/-! ### ascending -/
theorem bytes_lt (pre : List Int) {x y : Nat} (hxy : x < y) (hy : y < 6) (a b : List Int) : (strOfNums (pre ++ [97 + (x : Int)] ++ a)).data.toList < (strOfNums (pre ++ [97 + (y : Int)] ++ b)).data.toList := by
  rw [strOfNums_data, strOfNums_data]
  simp only [List.map_append, List.append_assoc, List.map_cons, List.cons_append, List.nil_append]
  have key : UInt8.ofNat (97 + (x : Int)).toNat < UInt8.ofNat (97 + (y : Int)).toNat := by
    rw [UInt8.lt_iff_toNat_lt]
    simp only [UInt8.toNat_ofNat']
    omega
  induction pre with
  | nil => simp only [List.map_nil, List.nil_append]; exact List.cons_lt_cons_iff.2 (.inl key)
  | cons p pre ih => simp only [List.map_cons, List.cons_append]; exact List.cons_lt_cons_iff.2 (.inr ⟨rfl, ih⟩)
theorem DF.full_asc (d : DF) (hL : d.L.toNat ≤ 6) : ∀ (k q : Nat) (pre : List Int), (d.full k q pre).Pairwise ltW
  | 0, q, pre => by rw [DF.full]; split <;> simp
  | k + 1, q, pre => by
    rw [DF.full]
    suffices ∀ j, j ≤ d.L.toNat → ((List.range j).flatMap fun x => d.full k (d.nx q x) (pre ++ [97 + (x : Int)])).Pairwise ltW from this _ (Nat.le_refl _)
    intro j
    induction j with
    | zero => intro _; simp
    | succ j ih =>
      intro hj
      rw [List.range_succ, List.flatMap_append, List.pairwise_append]
      refine ⟨ih (by omega), by simpa using DF.full_asc d hL k _ _, ?_⟩
      intro u hu v hv
      obtain ⟨x, hx, hu⟩ := List.mem_flatMap.1 hu
      have hxj := List.mem_range.1 hx
      simp only [List.flatMap_cons, List.flatMap_nil, List.append_nil] at hv
      refine .inr ⟨by rw [d.full_size hu, d.full_size hv]; simp, ?_⟩
      obtain ⟨xs, _, _, rfl, _⟩ := (d.full_mem _ _ _ u).1 hu
      obtain ⟨ys, _, _, rfl, _⟩ := (d.full_mem _ _ _ v).1 hv
      exact bytes_lt pre hxj (by omega) _ _
theorem DF.allw_size (d : DF) {k : Nat} {u : ByteArray} (h : u ∈ d.allw k) : u.size < k := by
  obtain ⟨j, hj, hu⟩ := List.mem_flatMap.1 h
  rw [d.full_size hu]
  have := List.mem_range.1 hj
  simpa using this
theorem DF.allw_asc (d : DF) (hL : d.L.toNat ≤ 6) : ∀ k, (d.allw k).Pairwise ltW
  | 0 => by simp [DF.allw]
  | k + 1 => by
    rw [d.allw_succ, List.pairwise_append]
    refine ⟨DF.allw_asc d hL k, d.full_asc hL k _ _, fun u hu v hv => .inl ?_⟩
    have h1 := d.allw_size hu
    have h2 := d.full_size hv
    simp at h2; omega
/-! ### counts by length -/
def cntK (l : List ByteArray) (k : Nat) : Nat := l.countP fun u => u.size == k
theorem cntK_append (l m : List ByteArray) (k : Nat) : cntK (l ++ m) k = cntK l k + cntK m k := by simp [cntK, List.countP_append]
theorem cntK_none {l : List ByteArray} {k : Nat} (h : ∀ u, u ∈ l → u.size ≠ k) : cntK l k = 0 := by
  unfold cntK; rw [List.countP_eq_zero]; intro u hu; simpa using h u hu
theorem cntK_all {l : List ByteArray} {k : Nat} (h : ∀ u, u ∈ l → u.size = k) : cntK l k = l.length := by
  unfold cntK; rw [List.countP_eq_length]; intro u hu; simpa using h u hu
theorem DF.allw_split (d : DF) {k n : Nat} (h : k ≤ n) : ∃ r, d.allw n = d.allw k ++ r ∧ ∀ u, u ∈ r → k ≤ u.size := by
  induction n with
  | zero => obtain rfl : k = 0 := by omega
            exact ⟨[], by simp, by simp⟩
  | succ n ih =>
    by_cases e : k = n + 1
    · subst e; exact ⟨[], by simp, by simp⟩
    · obtain ⟨r, h1, h2⟩ := ih (by omega)
      refine ⟨r ++ d.full n d.S.toNat [], by rw [d.allw_succ, h1, List.append_assoc], fun u hu => ?_⟩
      rcases List.mem_append.1 hu with hu | hu
      · exact h2 u hu
      · rw [d.full_size hu]; simp; omega
/-- a list that reaches beyond the words of k letters holds them all -/
theorem DF.words_cnt (d : DF) {n m k : Nat} (hk : k + 1 ≤ n) (h : ((d.allw n).take m).length < m ∨ ∃ u, u ∈ (d.allw n).take m ∧ k < u.size) : cntK ((d.allw n).take m) k = d.cn k d.S.toNat := by
  obtain ⟨r, h1, h2⟩ := d.allw_split hk
  have hle : (d.allw (k + 1)).length ≤ m := by
    apply Nat.le_of_not_lt
    intro hlt
    rcases h with h | ⟨u, hu, hk2⟩
    · rw [List.length_take] at h
      have : (d.allw n).length = (d.allw (k + 1)).length + r.length := by rw [h1, List.length_append]
      omega
    · rw [h1, List.take_append_of_le_length (by omega)] at hu
      have := d.allw_size (List.mem_of_mem_take hu)
      omega
  rw [h1, List.take_append, List.take_of_length_le hle, cntK_append, d.allw_succ, cntK_append]
  rw [cntK_none (l := d.allw k) (fun u hu => by have := d.allw_size hu; omega), cntK_all (l := d.full k d.S.toNat []) (fun u hu => by have := d.full_size hu; simpa using this), cntK_none (l := r.take _) (fun u hu => by have := h2 u (List.mem_of_mem_take hu); omega), d.full_len]
  omega
end Go.Proofs.Ytohoiebofkmjeac
