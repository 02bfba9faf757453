/- Plain facts on occurrences of subwords: no Go, no program. -/
import Derived.Test.YtbmbgdfnhbkelabWordM
import Derived.Below
import Derived.OwnWalk
import Derived.Deep.Draws
namespace Go.Proofs.Ytbmbgdfnhbkelab.WordM
open Go Go.RowKit

/-- how often the list is a subword of the other one, both read from the end -/
def occR : List UInt8 → List UInt8 → Nat
  | [], _ => 1
  | _ :: _, [] => 0
  | a :: u, b :: v => occR (a :: u) v + if a = b then occR u v else 0
/-- how often u is a subword of v -/
def occ (u v : List UInt8) : Nat := occR u.reverse v.reverse

theorem occ_nil (v : List UInt8) : occ [] v = 1 := by simp [occ, occR]
theorem occ_none (u : List UInt8) (a : UInt8) : occ (u ++ [a]) [] = 0 := by simp [occ, occR]
theorem occ_snoc (u v : List UInt8) (a b : UInt8) : occ (u ++ [a]) (v ++ [b]) = occ (u ++ [a]) v + if a = b then occ u v else 0 := by
  simp [occ, occR]
theorem occR_long : ∀ (u v : List UInt8), v.length < u.length → occR u v = 0
  | [], _, h => by simp at h
  | _ :: _, [], _ => by simp [occR]
  | a :: u, b :: v, h => by
    have h1 : occR (a :: u) v = 0 := occR_long (a :: u) v (by simp at h ⊢; omega)
    have h2 : occR u v = 0 := occR_long u v (by simpa using h)
    simp [occR, h1, h2]
theorem occ_long {u v : List UInt8} (h : v.length < u.length) : occ u v = 0 := occR_long _ _ (by simpa using h)

/-- the number modulo m for the first t bytes of u and the first i bytes of v -/
def occF (m : Int) (u v : ByteArray) (t i : Nat) : Int := (occ (u.data.toList.take t) (v.data.toList.take i) : Int) % m
theorem occF_range {m : Int} (hm : 1 ≤ m) (u v : ByteArray) (t i : Nat) : 0 ≤ occF m u v t i ∧ occF m u v t i < m :=
  ⟨Int.emod_nonneg _ (by omega), Int.emod_lt_of_pos _ (by omega)⟩
theorem occF_zero (m : Int) (u v : ByteArray) (i : Nat) : occF m u v 0 i = 1 % m := by
  simp [occF, occ_nil]
theorem occF_start (m : Int) (u v : ByteArray) (t : Nat) (ht : t < u.size) : occF m u v (t + 1) 0 = 0 := by
  rw [occF, take_snoc u t ht]
  simp [occ_none]
theorem occF_long {m : Int} {u v : ByteArray} {t i : Nat} (ht : t ≤ u.size) (h : i < t) : occF m u v t i = 0 := by
  rw [occF, occ_long]
  · simp
  · rw [List.length_take, List.length_take]
    have : u.data.toList.length = u.size := by simp
    omega
theorem occF_same {m : Int} {u v : ByteArray} {t i : Nat} (ht : t < u.size) (hi : i < v.size) (h : u[t] = v[i]) : occF m u v (t + 1) (i + 1) = (occF m u v (t + 1) i + occF m u v t i) % m := by
  simp only [occF]
  rw [take_snoc u t ht, take_snoc v i hi, occ_snoc, if_pos h, Int.natCast_add, ← Int.add_emod]
theorem occF_other {m : Int} {u v : ByteArray} {t i : Nat} (ht : t < u.size) (hi : i < v.size) (h : u[t] ≠ v[i]) : occF m u v (t + 1) (i + 1) = occF m u v (t + 1) i := by
  simp only [occF]
  rw [take_snoc u t ht, take_snoc v i hi, occ_snoc, if_neg h, Nat.add_zero]

/-! ### rows of integers given by a function -/
def rowF (n : Nat) (f : Nat → Int) : List Value := (List.range n).map fun t => Value.int .i64 (f t)
theorem rowF_length (n : Nat) (f : Nat → Int) : (rowF n f).length = n := by simp [rowF]
theorem rowF_get {n : Nat} {f : Nat → Int} {j : Nat} (h : j < n) : (rowF n f)[j]? = some (Value.int .i64 (f j)) := by simp [rowF, h]
theorem rowF_congr {n : Nat} {f g : Nat → Int} (h : ∀ t, t < n → f t = g t) : rowF n f = rowF n g := by
  apply List.ext_getElem?
  intro j
  by_cases hj : j < n
  · rw [rowF_get hj, rowF_get hj, h j hj]
  · rw [List.getElem?_eq_none (by rw [rowF_length]; omega), List.getElem?_eq_none (by rw [rowF_length]; omega)]
theorem rowF_set {n : Nat} {f : Nat → Int} {j : Nat} {x : Int} : (rowF n f).set j (.int .i64 x) = rowF n fun t => if t = j then x else f t := by
  apply List.ext_getElem?
  intro k
  rw [List.getElem?_set]
  by_cases hk : k < n
  · rw [rowF_get hk, rowF_get hk]
    by_cases e : j = k
    · subst e; simp [rowF_length, hk]
    · rw [if_neg e, if_neg (Ne.symm e)]
  · rw [List.getElem?_eq_none (by rw [rowF_length]; omega), List.getElem?_eq_none (by rw [rowF_length]; omega), rowF_length]
    simp
    omega
theorem rowF_made (n : Nat) : (madeCells #[Value.int .i64 0] n).toList = rowF n fun _ => 0 := by
  rw [toList_madeCells_one]
  apply List.ext_getElem?
  intro k
  by_cases hk : k < n
  · rw [rowF_get hk]; simp [hk]
  · rw [List.getElem?_eq_none (by simp; omega), List.getElem?_eq_none (by rw [rowF_length]; omega)]

/-- a row of integers of the call's own -/
def ownsF (w : World) (base g n : Nat) (e : TypeId) (f : Nat → Int) : Prop := w.ownsRow base e 1 (.slice (some ⟨g, 0, none⟩) n n) n (rowF n f)
theorem ownsF_cell {w : World} {base g n : Nat} {e : TypeId} {f : Nat → Int} (h : ownsF w base g n e f) {j : Nat} (hj : j < n) : w.cell? ⟨g, j, none⟩ = some (.int .i64 (f j)) := by
  have := World.ownsRow.cellAt h j (by omega)
  rw [this, rowF_get hj]
theorem ownsF_free {w : World} {base g n : Nat} {e : TypeId} {f : Nat → Int} (h : ownsF w base g n e f) (j : Nat) : w.frozen? ⟨g, j, none⟩ = false := World.ownsRow.frozenAt h j
theorem ownsF_congr {w : World} {base g n : Nat} {e : TypeId} {f f' : Nat → Int} (h : ownsF w base g n e f) (hf : ∀ t, t < n → f t = f' t) : ownsF w base g n e f' := by
  unfold ownsF at h ⊢
  rwa [← rowF_congr hf]
theorem ownsF_drewN {w : World} {base g n q : Nat} {e : TypeId} {f : Nat → Int} (h : ownsF w base g n e f) : ownsF (w.drewN q) base g n e f := h
theorem ownsF_drew {w : World} {base g n : Nat} {e : TypeId} {f : Nat → Int} (h : ownsF w base g n e f) : ownsF w.drew base g n e f := h
theorem ownsF_set {w : World} {base g n : Nat} {e : TypeId} {f : Nat → Int} (h : ownsF w base g n e f) (j : Nat) (x : Int) : ownsF (w.setCell ⟨g, j, none⟩ (.int .i64 x)) base g n e (fun t => if t = j then x else f t) := by
  have := (World.ownsRow.stored h j (.int .i64 x)).1
  unfold ownsF
  rwa [rowF_set] at this
end Go.Proofs.Ytbmbgdfnhbkelab.WordM
