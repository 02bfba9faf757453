/- Contract: the statements' sanity check 'awake' is true. -/
import Derived.Test.YtbmbgdfnhbkelabWordU
namespace Go.Proofs.Ytbmbgdfnhbkelab
open Go.RowKit Go.Sort
open WordM

/-- Rank 5 over two letters is the word ba. -/
theorem five_ba : urS 2 5 = ⟨#[98, 97]⟩ ∧ urB 2 5 = true := by
  have hd : digs 2 5 = [97, 98] := by decide
  have h1 : urB 2 5 = true := by simp [urB, hd]
  refine ⟨?_, h1⟩
  simp only [urS, h1, cond_true, hd]
  rfl

set_option maxRecDepth 100000 in
set_option maxHeartbeats 400000 in
theorem awake_any (w : World) :
    Calls Try.prog 8 #[] w fun e w' => e = .returned (.bool true) ∧ Below w.heap.size w w' := by
  have h1 : wordB 2 (⟨#[97, 98]⟩ : ByteArray).data.toList = true := by decide
  have h2 : wordB 2 (⟨#[99]⟩ : ByteArray).data.toList = false := by decide
  have hu := (unrank_ok 5 2 w (by omega) (by omega) (by omega) (by omega)).mono (R' := fun e w' => e = .returned (.tuple #[.string ⟨#[98, 97]⟩, .bool true]) ∧ Below w.heap.size w w')
    (fun e w' ⟨he, hb⟩ => ⟨by rw [he]; show Ending.returned (.tuple #[.string (urS 2 5), .bool (urB 2 5)]) = _; rw [five_ba.1, five_ba.2], hb⟩)
  have H1 := Lib.hid h1
  have H2 := Lib.hid h2
  have HU := Lib.hid hu
  clear h1 h2 hu
  go_enter Try.func8, Try.ntmps8
  go_wp2_with fail
  refine (HU.out).mono ?_
  rintro e w1 ⟨rfl, hb⟩
  go_wp2_with fail
  refine (valid_any _ _ _).mono ?_
  rintro e w2 ⟨rfl, rfl⟩
  rw [H1.out]
  go_wp2_with fail
  refine (valid_any _ _ _).mono ?_
  rintro e w2 ⟨rfl, rfl⟩
  rw [H2.out]
  go_wp2_with fail
  go_ret
  exact ⟨rfl, hb⟩
end Go.Proofs.Ytbmbgdfnhbkelab
