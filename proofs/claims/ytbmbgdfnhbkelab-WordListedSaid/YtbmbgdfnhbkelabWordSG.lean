/- Contract: word.Factors. -/
import Derived.Test.YtbmbgdfnhbkelabWordSF
import Derived.Test.YtbmbgdfnhbkelabIter
import Derived.Maps.OwnIn
import Derived.Maps.OwnSet
import Derived.StringKeys
namespace Go.Proofs.Ytbmbgdfnhbkelab
open Go Go.RowKit Go.Maps Go.Sort
open WordM
set_option linter.unusedVariables false

theorem lawK : Keyed Try.prog 9 := string_keyed Try.underlying9
/-- the factors of length n before the k-th, as they come -/
def facsL (s : ByteArray) (n k : Nat) : List ByteArray := (List.range k).map fun i => s.extract i (i + n)
theorem facsL_snoc (s : ByteArray) (n k : Nat) : facsL s n (k + 1) = facsL s n k ++ [s.extract k (k + n)] := by simp [facsL, List.range_succ]
theorem facsL_mem {s : ByteArray} {n k : Nat} {x : ByteArray} : x ∈ facN s n k ↔ x ∈ facsL s n k := by
  rw [facN_mem, facsL, List.mem_map]
  exact ⟨fun ⟨i, hi, h⟩ => ⟨i, List.mem_range.2 hi, h.symm⟩, fun ⟨i, hi, h⟩ => ⟨i, List.mem_range.1 hi, h.symm⟩⟩
theorem facN_size {s : ByteArray} {n : Nat} (h : n ≤ s.size) : ∀ x, x ∈ facN s n (s.size - n + 1) → x.size = n := by
  intro x hx
  obtain ⟨i, hi, rfl⟩ := facN_mem.1 hx
  rw [ByteArray.size_extract]; omega
set_option maxRecDepth 100000 in
set_option maxHeartbeats 4000000 in
theorem factors_ok (s : ByteArray) (n : Nat) (w : World) (hs : s.size ≤ 4096) (hn : n ≤ s.size) :
    Calls Try.prog 11 #[.string s, .int .i64 n] w (GivesS w (facN s n (s.size - n + 1))) := by
  have hmm := @run_makeMap Try.prog
  obtain ⟨N, hN⟩ : ∃ N, N = s.size - n + 1 := ⟨_, rfl⟩
  have hNI : (N : Int) = (s.size : Int) - (n : Int) + 1 := by omega
  have HN := Lib.hid hN
  rw [← hN]
  have hN2 : N ≤ 4097 := by omega
  have hnN : n + N = s.size + 1 := by omega
  have hSZ := Lib.hid (facN_size hn)
  rw [← hN] at hSZ
  clear hN
  have hd1 : decide (s.size < n) = false := by simp; omega
  have hd2 : decide ((n : Int) < 0) = false := by simp
  refine (callsIn_wide (n := 6)).1 ?_
  have hfK : Fence.wide.fn 17 := trivial
  have hfS : Fence.wide.fn 22 := trivial
  refine callsIn_of_wp Try.func11 rfl trivial ?_ rfl
  simp only [Try.ntmps11, List.size_toArray, List.length_cons, List.length_nil, Nat.reduceAdd, Nat.reduceSub, Array.replicate_succ, Array.replicate_zero, List.push_toArray, List.append_toArray, List.nil_append, List.cons_append]
  gi_wp2_with (gi_in)
  gi_loopw [21] (fun vi wr => ∃ k : Nat, k ≤ N ∧ vi = .int .i64 k ∧ wr.ownsMap Try.prog 9 (plainElem (H := Unit) Try.prog 4) w.heap.size k (setW Unit (facsL s n k)) ∧ Below w.heap.size w wr) (fun vi _ => N - (intOf vi).toNat)
  case atStart => exact ⟨0, Nat.zero_le _, rfl, World.ownsMap_made _ _ _ _, (Below.refl _ _).alloc (Nat.le_refl _) _⟩
  case round =>
    obtain ⟨k, hk, rfl, hown, hb⟩ := hrel
    by_cases hlt : k < N
    · have hkey : keyOf Try.prog 9 (.string (s.extract k (k + n))) = some (keyW (s.extract k (k + n))) := Go.WideMaps.keyOf_string_mk Try.underlying9 (by rw [ByteArray.size_extract]; unfold maxLen; omega)
      have HK := Lib.hid hkey
      have HO := Lib.hid hown
      have HB := Lib.hid hb
      have HS := Lib.hid (setW_snoc (H := Unit) (facsL s n k) (s.extract k (k + n)))
      have HF := Lib.hid (facsL_snoc s n k)
      have hkl : k + n ≤ s.size := by omega
      clear hkey hown hb
      gi_wp2_with (gi_at_mapUpdate; refine wpListIn_mapUpdate_own _ rfl _ _ _ 32 rfl 9 4 lawK Try.underlying32 _ w.heap.size k _ rfl HO.out (by unfold maxLen; omega) _ _ _ rfl rfl HK.out _ [] (plainElem_bool Try.underlying4 true) ?_; intro w1 hown1 hgrow1)
      go_roundw
      case rel => exact ⟨k + 1, by omega, by go_num, by rw [HF.out, HS.out]; exact hown1, HB.out.grown hgrow1 HB.out.size (fun j hj => by cases hj; exact Nat.le_refl _)⟩
      case measure => simp [intOf]; omega
    · obtain rfl : N = k := by omega
      have hsz := hown.size_le
      have HO := Lib.hid hown
      have HB := Lib.hid hb
      have m1 : Maps.size (setW Unit (facsL s n N)) ≤ maxLen := by unfold maxLen; omega
      have m2 : Maps.size (setW Unit (facsL s n N)) * 16 ≤ 140737488355328 := by omega
      have M1 := Lib.hid m1
      have M2 := Lib.hid m2
      clear hown hb hsz m1 m2
      gi_wp2_with (first
        | (gi_at_call 17; refine (Try.maps_Keys_17 _ _).mono ?_; rintro e w' ⟨rfl, rfl⟩)
        | (gi_at_call 22; refine (Try.slices_Sorted_keys_22_17 w.heap.size N (setW Unit (facsL s n N)) (plainElem (H := Unit) Try.prog 4) wr HO.out M1.out M2.out).mono ?_; rintro e w' ⟨v, ss, rfl, hS, hrow, hnil, hbS⟩))
      obtain ⟨e1, e2⟩ := sorted_keys (facN_sorted s n N) (fun x => facsL_mem) hSZ.out hS
      rw [e1, e2] at hrow
      obtain ⟨a4, c4, rfl, hr4⟩ := RowS.of_own hrow
      go_ret
      exact ⟨a4, c4, rfl, hr4, (HB.out.alloc HB.out.size _).trans (hbS.mono (by have := HB.out.size; simp; omega))⟩
end Go.Proofs.Ytbmbgdfnhbkelab
