/- Plain facts on the shortlex order of strings: no Go, no program. -/
import Derived.WalkKit
import Derived.Lib.Bytealg
import Derived.Lib.Strings
namespace Go.Proofs.Ytohoiebofkmjeac.wrd.WordM
open Go Go.RowKit
set_option maxRecDepth 100000

theorem bytesLess_lt : ∀ (x y : List UInt8), Op.bytesLess x y = decide (x < y)
  | [], [] => by simp [Op.bytesLess]
  | _ :: _, [] => by simp [Op.bytesLess]
  | [], _ :: _ => by simp [Op.bytesLess]
  | a :: x, b :: y => by
    rw [Op.bytesLess, bytesLess_lt x y]
    simp only [List.cons_lt_cons_iff]
    by_cases h1 : a < b <;> by_cases h2 : a = b <;> by_cases h3 : x < y <;> simp [h1, h2, h3]

theorem compareBytes_lt : ∀ (x y : List UInt8), Lib.compareBytes x y = if x < y then -1 else if x = y then 0 else 1
  | [], [] => by simp [Lib.compareBytes]
  | _ :: _, [] => by simp [Lib.compareBytes]
  | [], _ :: _ => by simp [Lib.compareBytes]
  | a :: x, b :: y => by
    rw [Lib.compareBytes, compareBytes_lt x y]
    simp only [List.cons_lt_cons_iff, List.cons.injEq]
    by_cases h1 : a < b
    · simp [h1]
    · by_cases h2 : b < a
      · have h3 : a ≠ b := fun e => h1 (by rw [e] at h2; exact absurd h2 (UInt8.lt_irrefl _))
        simp [h1, h2, h3]
      · have h3 : a = b := UInt8.le_antisymm (UInt8.not_lt.1 h2) (UInt8.not_lt.1 h1)
        subst h3
        simp [h1]

/-- u before v, equal, or behind it in shortlex order: -1, 0, 1 -/
def cmpW (u v : ByteArray) : Int := if u.size < v.size then -1 else if v.size < u.size then 1 else Lib.compareBytes u.data.toList v.data.toList
/-- shortlex order -/
def ltW (u v : ByteArray) : Prop := u.size < v.size ∨ u.size = v.size ∧ u.data.toList < v.data.toList

theorem ext_list {u v : ByteArray} (h : u.data.toList = v.data.toList) : u = v := by
  obtain ⟨⟨a⟩⟩ := u; obtain ⟨⟨b⟩⟩ := v; simp at h; subst h; rfl

theorem cmpW_lt {u v : ByteArray} (h : ltW u v) : cmpW u v = -1 := by
  rcases h with h | ⟨h1, h2⟩
  · simp [cmpW, h]
  · simp [cmpW, h1, compareBytes_lt, h2]
theorem cmpW_self (u : ByteArray) : cmpW u u = 0 := by simp [cmpW, compareBytes_lt, List.lt_irrefl]
theorem ltW_irrefl (u : ByteArray) : ¬ ltW u u := by
  rintro (h | ⟨_, h⟩)
  · omega
  · exact List.lt_irrefl _ h
theorem ltW_trans {u v w : ByteArray} (h : ltW u v) (k : ltW v w) : ltW u w := by
  rcases h with h | ⟨h1, h2⟩ <;> rcases k with k | ⟨k1, k2⟩
  · exact .inl (by omega)
  · exact .inl (by omega)
  · exact .inl (by omega)
  · exact .inr ⟨by omega, List.lt_trans h2 k2⟩
theorem ltW_tri (u v : ByteArray) : ltW u v ∨ u = v ∨ ltW v u := by
  rcases Nat.lt_trichotomy u.size v.size with h | h | h
  · exact .inl (.inl h)
  · by_cases e : u.data.toList = v.data.toList
    · exact .inr (.inl (ext_list e))
    · by_cases l : u.data.toList < v.data.toList
      · exact .inl (.inr ⟨h, l⟩)
      · exact .inr (.inr (.inr ⟨h.symm, by
          rcases List.le_iff_lt_or_eq.1 (List.not_lt.1 l) with l' | l'
          · exact l'
          · exact absurd l'.symm e⟩))
  · exact .inr (.inr (.inl h))
theorem cmpW_gt {u v : ByteArray} (h : ltW v u) : cmpW u v = 1 := by
  rcases h with h | ⟨h1, h2⟩
  · have : ¬ u.size < v.size := by omega
    simp [cmpW, h, this]
  · have a1 : ¬ u.size < v.size := by omega
    have a2 : ¬ v.size < u.size := by omega
    have a3 : ¬ u.data.toList < v.data.toList := fun h => List.lt_irrefl _ (List.lt_trans h h2)
    have a4 : ¬ u.data.toList = v.data.toList := fun h => by rw [h] at h2; exact List.lt_irrefl _ h2
    simp only [cmpW, if_neg a1, if_neg a2, compareBytes_lt, if_neg a3, if_neg a4]
theorem cmpW_iff (u v : ByteArray) : (cmpW u v = -1 ↔ ltW u v) ∧ (cmpW u v = 0 ↔ u = v) ∧ (cmpW u v = 1 ↔ ltW v u) := by
  rcases ltW_tri u v with h | rfl | h
  · have n1 : u ≠ v := fun e => ltW_irrefl v (e ▸ h)
    have n2 : ¬ ltW v u := fun k => ltW_irrefl _ (ltW_trans h k)
    rw [cmpW_lt h]; simp [h, n1, n2]
  · rw [cmpW_self]; simp [ltW_irrefl]
  · have n1 : u ≠ v := fun e => ltW_irrefl v (e ▸ h)
    have n2 : ¬ ltW u v := fun k => ltW_irrefl _ (ltW_trans h k)
    rw [cmpW_gt h]; simp [h, n1, n2]
theorem cmpW_cases (u v : ByteArray) : cmpW u v = -1 ∨ cmpW u v = 0 ∨ cmpW u v = 1 := by
  have h := cmpW_iff u v
  rcases ltW_tri u v with k | k | k
  · exact .inl (h.1.2 k)
  · exact .inr (.inl (h.2.1.2 k))
  · exact .inr (.inr (h.2.2.2 k))
theorem cmpW_neg (u v : ByteArray) : cmpW v u = -cmpW u v := by
  rcases ltW_tri u v with h | rfl | h
  · rw [cmpW_lt h, cmpW_gt h]; rfl
  · rw [cmpW_self]; rfl
  · rw [cmpW_lt h, cmpW_gt h]
theorem cmpW_chain {u v w : ByteArray} (h : cmpW u v ≤ 0) (k : cmpW v w ≤ 0) : cmpW u w ≤ 0 := by
  rcases ltW_tri u v with a | rfl | a
  · rcases ltW_tri v w with b | rfl | b
    · rw [cmpW_lt (ltW_trans a b)]; omega
    · exact h
    · rw [cmpW_gt b] at k; omega
  · exact k
  · rw [cmpW_gt a] at h; omega
end Go.Proofs.Ytohoiebofkmjeac.wrd.WordM
