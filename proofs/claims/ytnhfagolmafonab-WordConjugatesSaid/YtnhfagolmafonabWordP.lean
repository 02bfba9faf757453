/- Contracts: word.Root; the walk of the law on periods. -/
import Derived.Test.YtnhfagolmafonabWordT
import Derived.Test.YtnhfagolmafonabWordPM
namespace Go.Proofs.Ytnhfagolmafonab
open Go.RowKit Go.Sort
open WordM
set_option linter.unusedVariables false

/-- word.Border, of at most 4096 bytes -/
theorem border_some (s : ByteArray) (w : World) (hs : s.size ≤ 4096) :
    Calls Try.prog 17 #[.string s] w fun e w' => e = .returned (.int .i64 (bord s)) ∧ Below w.heap.size w w' := by
  by_cases h : s.size = 0
  · refine (border_empty s w h).mono ?_
    rintro e w' ⟨rfl, rfl⟩
    exact ⟨rfl, Below.refl _ _⟩
  · exact border_yes s w (by omega) hs

/-- the length of the primitive root of s, the root, the exponent -/
def rootL (s : ByteArray) : Nat := rlen (at' s) s.size
def rootS (s : ByteArray) : ByteArray := s.extract 0 (rootL s)
def rootE (s : ByteArray) : Int := ((s.size / rootL s : Nat) : Int)
theorem rootL_empty {s : ByteArray} (h : s.size = 0) : rootL s = 0 := by simp [rootL, rlen, lper, h]
theorem root_empty {s : ByteArray} (h : s.size = 0) : rootS s = ⟨#[]⟩ ∧ rootE s = 0 := by
  refine ⟨?_, by simp [rootE, rootL_empty h]⟩
  have hz : (rootS s).size = 0 := by simp [rootS, rootL_empty h]
  have : (rootS s).data.toList = [] := List.length_eq_zero_iff.1 hz
  exact ext_data this

set_option maxRecDepth 100000 in
set_option maxHeartbeats 1000000 in
theorem root_any (s : ByteArray) (w : World) (hs : s.size ≤ 4096) :
    Calls Try.prog 12 #[.string s] w fun e w' => e = .returned (.tuple #[.string (rootS s), .int .i64 (rootE s)]) ∧ Below w.heap.size w w' := by
  by_cases h0 : s.size = 0
  · have HR := Lib.hid (root_empty h0)
    have he : s.toList.isEmpty = true := by rw [List.isEmpty_iff, empty_iff]; exact h0
    have he2 := (empty_iff s).2 h0
    clear h0
    go_enter Try.func12, Try.ntmps12
    go_wp2_with fail
    go_ret2
    exact ⟨by rw [HR.out.1, HR.out.2]; rfl, Below.refl _ _⟩
  · have hs0 : 0 < s.size := by omega
    have he : s.toList.isEmpty = false := by rw [← Bool.not_eq_true, List.isEmpty_iff, empty_iff]; omega
    have he2 : ¬ s.toList = [] := by rw [empty_iff]; omega
    have hlt := bord_lt hs0
    obtain ⟨p, hp⟩ : ∃ p, p = s.size - bord s := ⟨_, rfl⟩
    have hp1 : 1 ≤ p := by omega
    have hp2 : p ≤ s.size := by omega
    have hpl : lper (at' s) s.size = p := by rw [hp]; rfl
    have hpI : (s.size : Int) - (bord s : Int) = (p : Int) := by omega
    by_cases hd : s.size % p = 0
    · have HR := Lib.hid (show rootS s = s.extract 0 p ∧ rootE s = ((s.size / p : Nat) : Int) by
        have : rootL s = p := by simp only [rootL, rlen, hpl, if_pos hd]
        exact ⟨by rw [rootS, this], by rw [rootE, this]⟩)
      have hm : (s.size : Int) % (p : Int) = 0 := by rw [← Int.natCast_emod, hd]; rfl
      have hq : (s.size : Int) / (p : Int) = ((s.size / p : Nat) : Int) := (Int.natCast_ediv _ _).symm
      have hq2 : (s.size / p) ≤ s.size := Nat.div_le_self _ _
      generalize s.size / p = Q at *
      have h1 : (0 : Int) ≤ (p : Int) := by omega
      have h1' : (1 : Int) ≤ (p : Int) := by omega
      have h2 : (p : Int) ≤ (s.size : Int) := by omega
      have h3 : IntKind.i64.wrap ((s.size : Int).tdiv (p : Int)) = (Q : Int) := by
        rw [Int.tdiv_eq_ediv_of_nonneg (by omega), hq]; exact IntWalk.i64_in _ (by omega)
      have h4 : IntKind.i64.wrap ((s.size : Int) / (p : Int)) = (Q : Int) := by
        rw [hq]; exact IntWalk.i64_in _ (by omega)
      clear hp hpl hlt hd
      go_enter Try.func12, Try.ntmps12
      go_wp2_with fail
      refine (border_some s _ hs).mono ?_
      rintro e w2 ⟨rfl, hb⟩
      go_wp2_with fail
      go_quiet (fail)
      go_wp2_with fail
      go_ret2
      exact ⟨by rw [HR.out.1, HR.out.2]; rfl, below_drewN hb _⟩
    · have HR := Lib.hid (show rootS s = s ∧ rootE s = 1 by
        have : rootL s = s.size := by simp only [rootL, rlen, hpl, if_neg hd]
        exact ⟨by rw [rootS, this, ByteArray.extract_zero_size], by rw [rootE, this, Nat.div_self hs0]; rfl⟩)
      have hm : ((s.size : Int) % (p : Int) != 0) = true := by
        rw [bne_iff_ne, ← Int.natCast_emod]; omega
      have h1' : (1 : Int) ≤ (p : Int) := by omega
      clear hp hpl hlt hd
      go_enter Try.func12, Try.ntmps12
      go_wp2_with fail
      refine (border_some s _ hs).mono ?_
      rintro e w2 ⟨rfl, hb⟩
      go_wp2_with fail
      go_ret2
      exact ⟨by rw [HR.out.1, HR.out.2]; rfl, hb⟩
end Go.Proofs.Ytnhfagolmafonab
