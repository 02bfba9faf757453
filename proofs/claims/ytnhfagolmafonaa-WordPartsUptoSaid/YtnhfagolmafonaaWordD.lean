/- Contracts: word.IsSubword, word.IsFactor; the walk of the law on deletions. -/
import Derived.Test.YtnhfagolmafonaaWordX
import Derived.Test.YtnhfagolmafonaaWordVM
import Derived.Test.YtnhfagolmafonaaShelf
import Derived.Test.YtnhfagolmafonaaRows0
namespace Go.Proofs.Ytnhfagolmafonaa
open Go.RowKit Go.Sort
open WordM
set_option linter.unusedVariables false

/-- is u a subword of v, a factor of v? -/
def subB (u v : ByteArray) : Bool := u.data.toList.isSublist v.data.toList
def facB (u v : ByteArray) : Bool := Lib.contains v.data.toList u.data.toList
theorem subB_iff (u v : ByteArray) : subB u v = true ↔ List.Sublist u.data.toList v.data.toList := List.isSublist_iff_sublist

theorem drop_at (s : ByteArray) (k : Nat) (h : k < s.size) : s.data.toList.drop k = s[k] :: s.data.toList.drop (k + 1) := by
  rw [List.drop_eq_getElem_cons (by simpa using h)]; rfl
theorem drop_end (s : ByteArray) (k : Nat) (h : s.size ≤ k) : s.data.toList.drop k = [] := List.drop_eq_nil_of_le (by simpa using h)
theorem sub_same {a : UInt8} {l m : List UInt8} : List.Sublist (a :: l) (a :: m) ↔ List.Sublist l m := List.cons_sublist_cons
theorem sub_other {a b : UInt8} {l m : List UInt8} (h : a ≠ b) : List.Sublist (a :: l) (b :: m) ↔ List.Sublist (a :: l) m := by
  constructor
  · intro hs
    cases hs with
    | cons _ h2 => exact h2
    | cons_cons _ _ => exact absurd rfl h
  · exact fun hs => hs.cons _

set_option maxRecDepth 100000 in
set_option maxHeartbeats 1000000 in
theorem sub_any (u v : ByteArray) (w : World) (hu : u.size ≤ maxLen) (hv : v.size ≤ maxLen) :
    Calls Try.prog 26 #[.string u, .string v] w fun e w' => e = .returned (.bool (subB u v)) ∧ Below w.heap.size w w' := by
  unfold maxLen at hu hv
  go_enter Try.func26, Try.ntmps26
  go_wp2_with fail
  go_loopw [5, 6] (fun vk vi wr => ∃ k i : Nat, vk = .int .i64 k ∧ vi = .int .i64 i ∧ k ≤ u.size ∧ i ≤ v.size ∧ (subB u v = true ↔ List.Sublist (u.data.toList.drop k) (v.data.toList.drop i)) ∧ Below w.heap.size w wr) (fun _ vi _ => v.size - (intOf vi).toNat)
  case atStart => exact ⟨0, 0, rfl, rfl, Nat.zero_le _, Nat.zero_le _, by rw [List.drop_zero, List.drop_zero]; exact subB_iff u v, Below.refl _ _⟩
  case round =>
    obtain ⟨k, i, rfl, rfl, hk, hi, hiff, hb⟩ := hrel
    have HI := Lib.hid hiff
    clear hiff
    by_cases hlt : i < v.size
    · by_cases hk2 : k < u.size
      · have hkI : (k : Int) < (u.size : Int) := by omega
        have hk0 : (0 : Int) ≤ (k : Int) := by omega
        have hiI : (i : Int) < (v.size : Int) := by omega
        have hi0 : (0 : Int) ≤ (i : Int) := by omega
        by_cases he : u[k] = v[i]
        · have heb : ((v[i].toNat : Int) == (u[k].toNat : Int)) = true := by rw [he]; simp
          have HN := Lib.hid (show subB u v = true ↔ List.Sublist (u.data.toList.drop (k + 1)) (v.data.toList.drop (i + 1)) by
            rw [HI.out, drop_at u k hk2, drop_at v i hlt, he, sub_same])
          clear he
          go_wp2_with fail
          go_quiet (fail)
          go_wp2_with fail
          exact ⟨⟨k + 1, i + 1, by go_num, by go_num, by omega, by omega, HN.out, below_drewN hb _⟩, by simp [intOf]; omega⟩
        · have heb : ((v[i].toNat : Int) == (u[k].toNat : Int)) = false := by
            rw [beq_eq_false_iff_ne]; intro e; exact he (UInt8.toNat_inj.1 (by omega))
          have HN := Lib.hid (show subB u v = true ↔ List.Sublist (u.data.toList.drop k) (v.data.toList.drop (i + 1)) by
            rw [HI.out, drop_at u k hk2, drop_at v i hlt, sub_other he])
          clear he
          go_wp2_with fail
          go_quiet (fail)
          go_wp2_with fail
          exact ⟨⟨k, i + 1, rfl, by go_num, by omega, by omega, HN.out, below_drewN hb _⟩, by simp [intOf]; omega⟩
      · have HF := Lib.hid (show subB u v = true by rw [HI.out, drop_end u k (by omega)]; exact List.nil_sublist _)
        have he : ((k : Int) == (u.size : Int)) = true := by rw [beq_iff_eq]; omega
        go_wp2_with fail
        go_ret
        exact ⟨by rw [HF.out]; rfl, hb⟩
    · by_cases hk2 : k < u.size
      · have HF := Lib.hid (show subB u v = false by
          rw [← Bool.not_eq_true, HI.out, drop_end v i (by omega), drop_at u k hk2]
          intro h; cases h)
        have he : ((k : Int) == (u.size : Int)) = false := by rw [beq_eq_false_iff_ne]; omega
        go_wp2_with fail
        go_ret
        exact ⟨by rw [HF.out]; rfl, hb⟩
      · have HF := Lib.hid (show subB u v = true by rw [HI.out, drop_end u k (by omega)]; exact List.nil_sublist _)
        have he : ((k : Int) == (u.size : Int)) = true := by rw [beq_iff_eq]; omega
        go_wp2_with fail
        go_ret
        exact ⟨by rw [HF.out]; rfl, hb⟩

/-- the library's variable MaxLen holds some number -/
def HasMax (w : World) : Prop := ∃ m, w.cell? ⟨0, 0, none⟩ = some (.int .i64 m)
theorem hasMax_of {w : World} (h : w.ShapedOpen Try.prog) : HasMax w :=
  Go.Proofs.cell_of_shapedOpen_int (zero := #[.int .i64 0]) (t := 3) h (of_decide_eq_true (by kernel_rfl)) (by kernel_rfl) rfl (by kernel_rfl) (by kernel_rfl) Try.underlying3
theorem hasMax_lt {w : World} (h : HasMax w) : 0 < w.heap.size := by
  obtain ⟨m, hm⟩ := h
  exact World.block_lt_of_cell? w _ hm
theorem hasMax_below {B : Nat} {w w' : World} (h : HasMax w) (hb : Below B w w') (hB : B = w.heap.size) : HasMax w' := by
  have hl := hasMax_lt h
  obtain ⟨m, hm⟩ := h
  exact ⟨m, hb.cell (p := ⟨0, 0, none⟩) (by rw [hB]; exact hl) ▸ hm⟩

set_option maxHeartbeats 400000 in
theorem fac_any (u v : ByteArray) (w : World) (hv : v.size < 4294967281) (hx : HasMax w) :
    Calls Try.prog 25 #[.string u, .string v] w fun e w' => e = .returned (.bool (facB u v)) ∧ w = w' := by
  obtain ⟨m, hm⟩ := hx
  have HM := Lib.hid hm
  clear hm
  go_enter Try.func25, Try.ntmps25
  go_wp2_with fail
  refine (Try.strings_Contains _ _ m _ hv HM.out).mono ?_
  rintro e w2 ⟨rfl, rfl⟩
  go_wp2_with fail
  go_ret
  exact ⟨rfl, rfl⟩
end Go.Proofs.Ytnhfagolmafonaa
