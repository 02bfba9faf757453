/- Plain facts on rotations: no Go, no program. -/
import Derived.Test.YtnhfagolmafonaaWordPM
import Derived.Lib.IndexMore
import Derived.Lib.IndexLaws
namespace Go.Proofs.Ytnhfagolmafonaa.WordM
open Go Go.RowKit

/-- is v a rotation of u? -/
def conjB (u v : ByteArray) : Bool := decide (u.size = v.size) && Lib.contains (u ++ u).data.toList v.data.toList
theorem size_list (u : ByteArray) : u.data.toList.length = u.size := by simp
theorem contains_iff (s sub : List UInt8) : Lib.contains s sub = true ↔ ∃ i, i ≤ s.length ∧ sub <+: s.drop i := by
  have hsp := Lib.index_spec s sub
  simp only [Lib.contains, decide_eq_true_eq]
  constructor
  · intro h
    rcases hsp with ⟨h1, _⟩ | ⟨i, h1, h2, h3, _⟩
    · omega
    · exact ⟨i, h2, List.isPrefixOf_iff_prefix.1 h3⟩
  · rintro ⟨i, h1, h2⟩
    rcases hsp with ⟨_, h4⟩ | ⟨j, h4, _⟩
    · have := h4 i h1
      rw [Lib.occAt, List.isPrefixOf_iff_prefix.2 h2] at this
      cases this
    · omega
theorem rot_take {l : List UInt8} {i : Nat} (hi : i ≤ l.length) : ((l ++ l).drop i).take l.length = l.drop i ++ l.take i := by
  rw [List.drop_append_of_le_length hi, List.take_append, List.length_drop, List.take_of_length_le (by rw [List.length_drop]; omega), show l.length - (l.length - i) = i by omega]
theorem conj_iff (u v : ByteArray) : conjB u v = true ↔ ∃ i, i ≤ u.size ∧ v.data.toList = u.data.toList.drop i ++ u.data.toList.take i := by
  have hu := size_list u
  have hv := size_list v
  have h2 : (u ++ u).data.toList = u.data.toList ++ u.data.toList := by simp
  simp only [conjB, Bool.and_eq_true, decide_eq_true_eq, h2, contains_iff]
  generalize u.data.toList = l at *
  generalize v.data.toList = k at *
  constructor
  · rintro ⟨hs, i, hi, hp⟩
    have hk : k.length = l.length := by omega
    have hpl := hp.length_le
    rw [List.length_drop, List.length_append] at hpl
    rw [List.length_append] at hi
    by_cases hi2 : i ≤ l.length
    · refine ⟨i, by omega, ?_⟩
      rw [← rot_take hi2, ← hk]
      exact (List.prefix_iff_eq_take.1 hp)
    · have hk0 : k = [] := List.length_eq_zero_iff.1 (by omega)
      have hl0 : l = [] := List.length_eq_zero_iff.1 (by rw [hk0] at hk; simpa using hk.symm)
      subst hk0; subst hl0
      exact ⟨0, by omega, rfl⟩
  · rintro ⟨i, hi, he⟩
    have hlen := congrArg List.length he
    rw [List.length_append, List.length_drop, List.length_take] at hlen
    refine ⟨by omega, i, by rw [List.length_append]; omega, ?_⟩
    rw [he, ← rot_take (by omega)]
    exact List.take_prefix _ _
theorem conj_half {u v : ByteArray} (h : conjB u v = true) : conjB v u = true := by
  obtain ⟨i, hi, he⟩ := (conj_iff u v).1 h
  refine (conj_iff v u).2 ⟨u.size - i, ?_, ?_⟩
  · have := congrArg List.length he
    rw [List.length_append, List.length_drop, List.length_take, size_list, size_list] at this
    omega
  · have hd : (u.data.toList.drop i).length = u.size - i := by rw [List.length_drop, size_list]
    rw [he, ← hd, List.drop_left, List.take_left, List.take_append_drop]
theorem conj_comm (u v : ByteArray) : conjB v u = conjB u v := by
  rw [Bool.eq_iff_iff]
  exact ⟨conj_half, conj_half⟩
theorem conj_parts (x y : ByteArray) : conjB (x ++ y) (y ++ x) = true := by
  refine (conj_iff _ _).2 ⟨x.size, by rw [ByteArray.size_append]; omega, ?_⟩
  have h1 : (x ++ y).data.toList = x.data.toList ++ y.data.toList := by simp
  have h2 : (y ++ x).data.toList = y.data.toList ++ x.data.toList := by simp
  rw [h1, h2, ← size_list x, List.drop_left, List.take_left]

/-! ### rotations have equally long roots -/
theorem per_rot {f g : Nat → UInt8} {n a d : Nat} (hn : 0 < n) (hg : ∀ t, t < n → g t = f ((t + a) % n)) (hp : per f n d) (hd : d ∣ n) : per g n d := by
  refine per_of_mod hp.1 fun t ht => ?_
  have h1 : t % d < n := Nat.lt_of_le_of_lt (Nat.mod_le _ _) ht
  rw [hg t ht, hg (t % d) h1, per_mod hp (Nat.mod_lt _ hn), per_mod hp (Nat.mod_lt (t % d + a) hn), Nat.mod_mod_of_dvd _ hd, Nat.mod_mod_of_dvd _ hd, Nat.mod_add_mod]
theorem rlen_rot {f g : Nat → UInt8} {n a : Nat} (hn : 0 < n) (ha : a ≤ n) (hg : ∀ t, t < n → g t = f ((t + a) % n)) : rlen g n = rlen f n := by
  have hf : ∀ t, t < n → f t = g ((t + (n - a)) % n) := fun t ht => by
    rw [hg _ (Nat.mod_lt _ hn), Nat.mod_add_mod, show t + (n - a) + a = t + n by omega, Nat.add_mod_right, Nat.mod_eq_of_lt ht]
  obtain ⟨f1, f2⟩ := rlen_is f hn
  obtain ⟨g1, g2⟩ := rlen_is g hn
  exact Nat.dvd_antisymm (rlen_dvd hn (per_rot hn hg f1 f2) f2) (rlen_dvd hn (per_rot hn hf g1 g2) g2)
theorem at_app {u v : ByteArray} {t : Nat} : at' (u ++ v) t = if t < u.size then at' u t else at' v (t - u.size) := by
  have hu : u.data.toList.length = u.size := by simp
  have h : (u ++ v).data.toList = u.data.toList ++ v.data.toList := by simp
  simp only [at', h, List.getD]
  by_cases c : t < u.size
  · rw [if_pos c, List.getElem?_append_left (by omega)]
  · rw [if_neg c, List.getElem?_append_right (by omega), hu]
theorem rlen_parts (x y : ByteArray) : rlen (at' (y ++ x)) (y ++ x).size = rlen (at' (x ++ y)) (x ++ y).size := by
  have hz : (y ++ x).size = (x ++ y).size := by simp only [ByteArray.size_append]; omega
  by_cases h0 : (x ++ y).size = 0
  · rw [hz]; simp [rlen, lper, h0]
  · have hn : 0 < (x ++ y).size := by omega
    rw [hz]
    refine rlen_rot (a := x.size) hn (by rw [ByteArray.size_append]; omega) fun t ht => ?_
    rw [ByteArray.size_append] at ht ⊢
    rw [at_app]
    by_cases c : t < y.size
    · rw [if_pos c, Nat.mod_eq_of_lt (by omega), at_app, if_neg (by omega), show t + x.size - x.size = t by omega]
    · rw [if_neg c]
      have e : (t + x.size) % (x.size + y.size) = t - y.size := by
        rw [show t + x.size = (t - y.size) + (x.size + y.size) by omega, Nat.add_mod_right, Nat.mod_eq_of_lt (by omega)]
      rw [e, at_app, if_pos (by omega)]
end Go.Proofs.Ytnhfagolmafonaa.WordM
