/- Contracts: empty, unit, universal, normalStar. -/
import Derived.Test.YthmdndondlffeaaExprNK
namespace Go.Proofs.Ythmdndondlffeaa
open Go Go.RowKit Go.Sort
set_option linter.unusedVariables false
set_option maxRecDepth 100000 in
theorem empty_any (w : World) : Calls Try.prog 41 #[] w fun e w' => e = .returned (.agg #[.int .i64 1, .int .i64 0, .slice none 0 0]) ∧ Below w.heap.size w w' := by
  go_enter Try.func41, Try.ntmps41
  go_wp2_with fail
  refine bodyPost_ret (v := .agg #[.int .i64 1, .int .i64 0, .slice none 0 0]) (by simp [results, Try.results41, go_sem]) rfl ⟨rfl, ?_⟩
  exact (Below.refl w.heap.size w).alloc (Nat.le_refl _) _
set_option maxRecDepth 100000 in
theorem unit_any (w : World) : Calls Try.prog 42 #[] w fun e w' => e = .returned (.agg #[.int .i64 2, .int .i64 0, .slice none 0 0]) ∧ Below w.heap.size w w' := by
  go_enter Try.func42, Try.ntmps42
  go_wp2_with fail
  refine bodyPost_ret (v := .agg #[.int .i64 2, .int .i64 0, .slice none 0 0]) (by simp [results, Try.results42, go_sem]) rfl ⟨rfl, ?_⟩
  exact (Below.refl w.heap.size w).alloc (Nat.le_refl _) _
theorem box_frozen {w w' : World} {x y z : Value} (h : Below (w.heap.size + 1) (w.alloc (.cells #[x, y, z] 24)) w') :
    w'.frozen? ⟨w.heap.size, 0, none⟩ = false ∧ w'.frozen? ⟨w.heap.size, 1, none⟩ = false ∧ w'.frozen? ⟨w.heap.size, 2, none⟩ = false := by
  refine ⟨?_, ?_, ?_⟩ <;> rw [h.frozen (p := ⟨w.heap.size, _, none⟩) (by simp)] <;> simp [go_sem]
theorem inX_empty (w : World) : InX w 1 0 [] none := ⟨.zero _, by unfold B64; omega, by unfold B64; omega, by simp⟩
theorem inX_unit (w : World) : InX w 2 0 [] none := ⟨.zero _, by unfold B64; omega, by unfold B64; omega, by simp⟩
set_option maxRecDepth 100000 in
set_option maxHeartbeats 1000000 in
theorem universal_any (w : World) : Calls Try.prog 43 #[] w fun e w' => ∃ a c, e = .returned (.agg #[.int .i64 8, .int .i64 0, .slice a 1 c]) ∧ InX w' 8 0 [emptyT] a ∧ Below w.heap.size w w' := by
  go_enter Try.func43, Try.ntmps43
  go_wp2_with fail
  refine (empty_any _).mono ?_
  rintro e w2 ⟨rfl, hB⟩
  have HB1 := Lib.hid (show Below (w.heap.size + 1) _ w2 from hB.mono (by simp))
  have hsz := HB1.out.size
  simp at hsz
  have HB2 := Lib.hid (HB1.out.alloc hsz (.cells #[.int .i64 1, .int .i64 0, .slice none 0 0] 24))
  obtain ⟨x0, x1, x2⟩ := box_cells HB2.out
  obtain ⟨f0, f1, f2⟩ := box_frozen HB2.out
  clear hB
  go_wp2_with fail
  refine bodyPost_ret (v := .agg #[.int .i64 8, .int .i64 0, .slice (some ⟨w2.heap.size, 0, none⟩) 1 1]) (by simp [results, Try.results43, go_sem, x0, x1, x2]) rfl ⟨some ⟨w2.heap.size, 0, none⟩, 1, rfl, ?_, ?_⟩
  · have hblk : ((((w2.alloc (.cells #[.int .i64 1, .int .i64 0, .slice none 0 0] 24)).setCell ⟨w.heap.size, 0, none⟩ (.int .i64 8)).setCell ⟨w.heap.size, 1, none⟩ (.int .i64 0)).setCell ⟨w.heap.size, 2, none⟩ (.slice (some ⟨w2.heap.size, 0, none⟩) 1 1)).heap[w2.heap.size]? = (w2.alloc (.cells #[.int .i64 1, .int .i64 0, .slice none 0 0] 24)).heap[w2.heap.size]? := by
      rw [Below.heap_setCell _ _ _ _ (by simp; omega), Below.heap_setCell _ _ _ _ (by simp; omega), Below.heap_setCell _ _ _ _ (by simp; omega)]
    refine ⟨inK_one (op := 1) (l := 0) (ks := []) (a := none) (c := 0) (by simp [World.setCell]) ?_ ?_ ?_ (inX_empty _), by unfold B64; omega, by unfold B64; omega, by simp⟩
    · rw [World.cell?_of_block (w := w2.alloc (.cells #[.int .i64 1, .int .i64 0, .slice none 0 0] 24)) (a := ⟨w2.heap.size, 0, none⟩) hblk]; simp [go_sem]
    · rw [World.cell?_of_block (w := w2.alloc (.cells #[.int .i64 1, .int .i64 0, .slice none 0 0] 24)) (a := ⟨w2.heap.size, 1, none⟩) hblk]; simp [go_sem]
    · rw [World.cell?_of_block (w := w2.alloc (.cells #[.int .i64 1, .int .i64 0, .slice none 0 0] 24)) (a := ⟨w2.heap.size, 2, none⟩) hblk]; simp [go_sem]
  · exact (((below_box HB2.out).setCell (Nat.le_refl _) _).setCell (Nat.le_refl _) _).setCell (Nat.le_refl _) _
end Go.Proofs.Ythmdndondlffeaa
