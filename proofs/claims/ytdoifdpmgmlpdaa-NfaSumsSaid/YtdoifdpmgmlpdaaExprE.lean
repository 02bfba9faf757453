/- Contracts: the reference's MayLetters, measure, Within, shaped, Validate, Valid, Size, Depth. -/
import Derived.Test.YtdoifdpmgmlpdaaExprD
namespace Go.Proofs.Ytdoifdpmgmlpdaa
open Go Go.RowKit
set_option linter.unusedVariables false
set_option maxHeartbeats 400000 in
theorem mayR_any (L : Int) (w : World) : Calls Try.prog 31 #[.int .i64 L] w fun e w' => e = .returned (.bool (mayB L)) ∧ w = w' := by
  by_cases h1 : 1 ≤ L
  · by_cases h2 : L ≤ 6
    · have H := Lib.hid (mayB_yes h1 h2)
      go_enter Try.func31, Try.ntmps31
      go_wp2_with fail
      go_ret
      exact ⟨by rw [H.out]; rfl, rfl⟩
    · have H := Lib.hid (mayB_hi (L := L) (by omega))
      go_enter Try.func31, Try.ntmps31
      go_wp2_with fail
      go_ret
      exact ⟨by rw [H.out]; rfl, rfl⟩
  · have H := Lib.hid (mayB_lo (L := L) (by omega))
    go_enter Try.func31, Try.ntmps31
    go_wp2_with fail
    go_ret
    exact ⟨by rw [H.out]; rfl, rfl⟩
/-- what measure returns -/
def MeasP (ks : List T) (w : World) (e : Ending) (w' : World) : Prop :=
  ∃ d : Int, e = .returned (.tuple #[.int .i64 ((min (1 + sizeL ks) 401 : Nat) : Int), .int .i64 d]) ∧ B64 d ∧ (1 + sizeL ks ≤ 400 → d = ((depthL ks + 1 : Nat) : Int)) ∧ Below w.heap.size w w'
theorem B64_max {a b : Int} (h1 : B64 a) (h2 : B64 b) : B64 (max a b) := by unfold B64 at *; omega
theorem B64_wrap (x : Int) : B64 (wrap64 x) := by
  unfold B64 wrap64; omega
theorem measP_size (op l : Int) (ks : List T) : sizeT (.node op l ks) = 1 + sizeL ks ∧ depthT (.node op l ks) = depthL ks + 1 := ⟨rfl, rfl⟩
/-! ### shaped, Validate -/
theorem rng_beq (op : Int) : (decide (1 ≤ op) && decide (op ≤ 8)) = decide (op = 1 ∨ op = 2 ∨ op = 3 ∨ op = 4 ∨ op = 5 ∨ op = 6 ∨ op = 7 ∨ op = 8) := by
  rw [Bool.eq_iff_iff]; simp; omega
theorem wfT_take {L op l : Int} {ks : List T} {i : Nat} {ok : Bool} (h : ok = (kidsOk op ks.length && letOk op l L && wfL L (ks.take i))) (hend : i = ks.length ∨ ok = false) : ok = wfT L (.node op l ks) := by
  rcases hend with rfl | h2
  · rw [List.take_length] at h; exact h
  · rw [h2] at h ⊢
    cases hk : kidsOk op ks.length
    · exact (wfT_kids hk).symm
    · cases hl : letOk op l L
      · exact (wfT_let hl).symm
      · simp only [hk, hl, Bool.true_and] at h
        symm
        rw [← Bool.not_eq_true, wfT_node]
        intro h3
        rw [eq_comm, ← Bool.not_eq_true, wfL_iff] at h
        exact h fun k hk => h3.2.2 k (List.mem_of_mem_take hk)
theorem wfL_take_succ {L : Int} {ks : List T} {i : Nat} (h : i < ks.length) : wfL L (ks.take (i + 1)) = (wfL L (ks.take i) && wfT L ks[i]) := by
  rw [take_snoc h, Bool.eq_iff_iff, wfL_iff]
  simp only [Bool.and_eq_true, wfL_iff, List.mem_append, List.mem_singleton]
  exact ⟨fun h => ⟨fun k hk => h k (.inl hk), h _ (.inr rfl)⟩, fun h k hk => hk.elim (h.1 k) (fun e => by rw [e]; exact h.2)⟩
/-- the head of shaped: ok before the loop -/
def headOk (op l L : Int) (n : Nat) : Bool := kidsOk op n && letOk op l L
end Go.Proofs.Ytdoifdpmgmlpdaa
