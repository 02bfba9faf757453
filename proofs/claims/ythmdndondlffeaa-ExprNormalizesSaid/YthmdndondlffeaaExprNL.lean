/- Contracts: empty, unit, universal, normalStar. -/
import Derived.Test.YthmdndondlffeaaExprNF
namespace Go.Proofs.Ythmdndondlffeaa
open Go Go.RowKit Go.Sort
set_option linter.unusedVariables false
/-- a tree by value, handed back -/
def GiveT (w : World) (t : T) (e : Ending) (w' : World) : Prop := ∃ a c, e = .returned (.agg #[.int .i64 t.op, .int .i64 t.lt, .slice a t.ks.length c]) ∧ InX w' t.op t.lt t.ks a ∧ Below w.heap.size w w'
theorem inK_one {w : World} {op l : Int} {ks : List T} {a : Option Addr} {g c : Nat} (hb : g < w.heap.size) (c0 : w.cell? ⟨g, 0, none⟩ = some (.int .i64 op)) (c1 : w.cell? ⟨g, 1, none⟩ = some (.int .i64 l)) (c2 : w.cell? ⟨g, 2, none⟩ = some (.slice a ks.length c)) (hx : InX w op l ks a) : InK w (some ⟨g, 0, none⟩) [.node op l ks] := by
  refine .row g 0 [.node op l ks] (fun _ => a) (fun _ => c) hb (fun i k hk => ?_) (fun i k hk => ?_) (fun i k hk => ?_)
  all_goals
    have h0 : i = 0 := by
      cases i with
      | zero => rfl
      | succ j => simp at hk
    subst h0
    obtain rfl : T.node op l ks = k := by simpa using hk
  · exact ⟨c0, c1, c2⟩
  · exact ⟨hx.2.1, hx.2.2.1, hx.2.2.2⟩
  · exact hx.1
set_option maxRecDepth 100000 in
set_option maxHeartbeats 1000000 in
theorem normalNot_any (op l : Int) (ks : List T) (hg : GoodT (.node op l ks)) (a : Option Addr) (c : Nat) (w : World) (hin : InX w op l ks a) :
    Calls Try.prog 44 #[.agg #[.int .i64 op, .int .i64 l, .slice a ks.length c]] w (GiveT w (notT (.node op l ks))) := by
  have HX0 := Lib.hid (hin.box (.cells #[.int .i64 op, .int .i64 l, .slice a ks.length c] 24))
  by_cases h8 : op = 8
  · subst h8
    have hn1 : ks.length = 1 := by
      rcases kind_of hg.1 with ⟨h, _⟩ | ⟨_, _, k, rfl⟩ | ⟨h, _⟩
      · omega
      · rfl
      · omega
    obtain ⟨ko, kl, kk, hk, hk2⟩ := kid_some (show 0 < ks.length by omega)
    have HF := Lib.hid (show notT (.node 8 l ks) = .node ko kl kk by
      obtain ⟨k, rfl⟩ := List.length_eq_one_iff.1 hn1
      exact hk2)
    obtain ⟨b, off, a', c', rfl, hbz, d1, d2, d3, hx⟩ := (HX0.out.box (.cells #[.int .i64 0, .int .i64 0, .slice none 0 0] 24)).kid hk
    simp only [Nat.zero_mul, Nat.add_zero] at d1 d2 d3
    obtain ⟨_, _, a9, c9, he9, _, q1, q2, q3, hx9⟩ := hin.kid hk
    have HX := Lib.hid hx9
    have hl0 : (0 : Int) < (ks.length : Int) := by omega
    have hn1I : ((ks.length : Int) == 1) = true := by rw [hn1]; rfl
    have ea : a9 = a' := by
      injection he9 with he9; injection he9 with f1 f2; subst f1 f2
      have h9 := (((Below.refl w.heap.size w).alloc (Nat.le_refl _) (.cells #[.int .i64 8, .int .i64 l, .slice (some ⟨b, off, none⟩) ks.length c] 24)).alloc (by simp) (.cells #[.int .i64 0, .int .i64 0, .slice none 0 0] 24)).cell (p := ⟨b, off + 2, none⟩) (cell_lt (s := none) q1)
      rw [d3] at h9
      simp only [Nat.zero_mul, Nat.add_zero] at q3
      rw [q3] at h9
      injection h9 with h9; injection h9 with h9; exact h9.symm
    subst ea
    clear hin hg hn1 hk hk2 hx q1 q2 q3 he9
    go_enter Try.func44, Try.ntmps44
    go_wp2_with fail
    refine bodyPost_ret (v := .agg #[.int .i64 ko, .int .i64 kl, .slice a9 kk.length c']) (by simp [results, Try.results44, go_sem]) rfl ⟨a9, c', by rw [HF.out]; rfl, ?_, ?_⟩
    · rw [HF.out]; exact (HX.out.box _).box _
    · exact ((Below.refl w.heap.size w).alloc (Nat.le_refl _) _).alloc (by simp) _
  · have HF := Lib.hid (show notT (.node op l ks) = .node 8 0 [.node op l ks] from if_neg h8)
    have t : (op == 8) = false := ne_beq h8
    obtain ⟨n, hn⟩ : ∃ n, n = ks.length := ⟨_, rfl⟩
    rw [← hn] at HX0 ⊢
    have HN := Lib.hid hn
    clear h8 hn hin hg
    go_enter Try.func44, Try.ntmps44
    go_wp2_with fail
    refine bodyPost_ret (v := .agg #[.int .i64 8, .int .i64 0, .slice (some ⟨w.heap.size + 2, 0, none⟩) 1 1]) (by simp [results, Try.results44, go_sem]) rfl ⟨some ⟨w.heap.size + 2, 0, none⟩, 1, by rw [HF.out]; rfl, ?_, ?_⟩
    · rw [HF.out]
      refine ⟨inK_one (a := a) (c := c) (by simp) (by simp [go_sem]) (by simp [go_sem]) (by rw [← HN.out]; simp [go_sem]) ?_, by unfold B64; simp [T.op], by unfold B64; simp [T.lt], by simp [T.ks]⟩
      exact (HX0.out.box _).box _
    · exact (((Below.refl w.heap.size w).alloc (Nat.le_refl _) _).alloc (by simp) _).alloc (by simp; omega) _
open Go Go.RowKit Go.Sort
set_option linter.unusedVariables false
set_option maxRecDepth 100000 in
theorem empty_any (w : World) : Calls Try.prog 41 #[] w fun e w' => e = .returned (.agg #[.int .i64 1, .int .i64 0, .slice none 0 0]) ∧ Below w.heap.size w w' := by
  go_enter Try.func41, Try.ntmps41
  go_wp2_with fail
  refine bodyPost_ret (v := .agg #[.int .i64 1, .int .i64 0, .slice none 0 0]) (by simp [results, Try.results41, go_sem]) rfl ⟨rfl, ?_⟩
  exact (Below.refl w.heap.size w).alloc (Nat.le_refl _) _
set_option maxRecDepth 100000 in
theorem unit_any (w : World) : Calls Try.prog 42 #[] w fun e w' => e = .returned (.agg #[.int .i64 2, .int .i64 0, .slice none 0 0]) ∧ Below w.heap.size w w' := by
  go_enter Try.func42, Try.ntmps42
  go_wp2_with fail
  refine bodyPost_ret (v := .agg #[.int .i64 2, .int .i64 0, .slice none 0 0]) (by simp [results, Try.results42, go_sem]) rfl ⟨rfl, ?_⟩
  exact (Below.refl w.heap.size w).alloc (Nat.le_refl _) _
theorem box_frozen {w w' : World} {x y z : Value} (h : Below (w.heap.size + 1) (w.alloc (.cells #[x, y, z] 24)) w') :
    w'.frozen? ⟨w.heap.size, 0, none⟩ = false ∧ w'.frozen? ⟨w.heap.size, 1, none⟩ = false ∧ w'.frozen? ⟨w.heap.size, 2, none⟩ = false := by
  refine ⟨?_, ?_, ?_⟩ <;> rw [h.frozen (p := ⟨w.heap.size, _, none⟩) (by simp)] <;> simp [go_sem]
theorem inX_empty (w : World) : InX w 1 0 [] none := ⟨.zero _, by unfold B64; omega, by unfold B64; omega, by simp⟩
theorem inX_unit (w : World) : InX w 2 0 [] none := ⟨.zero _, by unfold B64; omega, by unfold B64; omega, by simp⟩
set_option maxRecDepth 100000 in
set_option maxHeartbeats 1000000 in
theorem universal_any (w : World) : Calls Try.prog 43 #[] w fun e w' => ∃ a c, e = .returned (.agg #[.int .i64 8, .int .i64 0, .slice a 1 c]) ∧ InX w' 8 0 [emptyT] a ∧ Below w.heap.size w w' := by
  go_enter Try.func43, Try.ntmps43
  go_wp2_with fail
  refine (empty_any _).mono ?_
  rintro e w2 ⟨rfl, hB⟩
  have HB1 := Lib.hid (show Below (w.heap.size + 1) _ w2 from hB.mono (by simp))
  have hsz := HB1.out.size
  simp at hsz
  have HB2 := Lib.hid (HB1.out.alloc hsz (.cells #[.int .i64 1, .int .i64 0, .slice none 0 0] 24))
  obtain ⟨x0, x1, x2⟩ := box_cells HB2.out
  obtain ⟨f0, f1, f2⟩ := box_frozen HB2.out
  clear hB
  go_wp2_with fail
  refine bodyPost_ret (v := .agg #[.int .i64 8, .int .i64 0, .slice (some ⟨w2.heap.size, 0, none⟩) 1 1]) (by simp [results, Try.results43, go_sem, x0, x1, x2]) rfl ⟨some ⟨w2.heap.size, 0, none⟩, 1, rfl, ?_, ?_⟩
  · have hblk : ((((w2.alloc (.cells #[.int .i64 1, .int .i64 0, .slice none 0 0] 24)).setCell ⟨w.heap.size, 0, none⟩ (.int .i64 8)).setCell ⟨w.heap.size, 1, none⟩ (.int .i64 0)).setCell ⟨w.heap.size, 2, none⟩ (.slice (some ⟨w2.heap.size, 0, none⟩) 1 1)).heap[w2.heap.size]? = (w2.alloc (.cells #[.int .i64 1, .int .i64 0, .slice none 0 0] 24)).heap[w2.heap.size]? := by
      rw [Below.heap_setCell _ _ _ _ (by simp; omega), Below.heap_setCell _ _ _ _ (by simp; omega), Below.heap_setCell _ _ _ _ (by simp; omega)]
    refine ⟨inK_one (op := 1) (l := 0) (ks := []) (a := none) (c := 0) (by simp [World.setCell]) ?_ ?_ ?_ (inX_empty _), by unfold B64; omega, by unfold B64; omega, by simp⟩
    · rw [World.cell?_of_block (w := w2.alloc (.cells #[.int .i64 1, .int .i64 0, .slice none 0 0] 24)) (a := ⟨w2.heap.size, 0, none⟩) hblk]; simp [go_sem]
    · rw [World.cell?_of_block (w := w2.alloc (.cells #[.int .i64 1, .int .i64 0, .slice none 0 0] 24)) (a := ⟨w2.heap.size, 1, none⟩) hblk]; simp [go_sem]
    · rw [World.cell?_of_block (w := w2.alloc (.cells #[.int .i64 1, .int .i64 0, .slice none 0 0] 24)) (a := ⟨w2.heap.size, 2, none⟩) hblk]; simp [go_sem]
  · exact (((below_box HB2.out).setCell (Nat.le_refl _) _).setCell (Nat.le_refl _) _).setCell (Nat.le_refl _) _
end Go.Proofs.Ythmdndondlffeaa
