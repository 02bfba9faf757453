/- How an expression that came in is told to the walks. -/
import Derived.Test.YtdoifdpmgmlpdabExprD
import Derived.Lib.SmallJoins
import Derived.Deep.Fields
import Derived.ChangeSame
import Derived.OpenShut
namespace Go.Proofs.Ytdoifdpmgmlpdab
open Go Go.RowKit Go.ChangeShapes Go.WideShapes Go.Joins Go.Deep
set_option linter.unusedVariables false
theorem cellsZ : Try.prog.cellsOf 24 = 3 := by kernel_rfl
theorem cellsI : Try.prog.cellsOf 3 = 1 := by kernel_rfl
theorem cellsS : Try.prog.cellsOf 22 = 1 := by kernel_rfl
theorem b64_of {n : Int} (h : (Lit.int .i64 n).wf = true) : B64 n := bounds_i64 h
/-- what is known of the i-th cell triple -/
def KidAt (w : World) (b off i : Nat) (z : T × Option Addr × Nat) : Prop :=
  w.cell? ⟨b, off + i * 3, none⟩ = some (.int .i64 z.1.op) ∧ w.cell? ⟨b, off + i * 3 + 1, none⟩ = some (.int .i64 z.1.lt) ∧ w.cell? ⟨b, off + i * 3 + 2, none⟩ = some (.slice z.2.1 z.1.ks.length z.2.2) ∧ (B64 z.1.op ∧ B64 z.1.lt ∧ z.1.ks.length ≤ 9223372036854775807) ∧ InK w z.2.1 z.1.ks
theorem kids_of {w : World} {b off n : Nat} {P : Nat → T × Option Addr × Nat → Prop} (hb : b < w.heap.size) (h : ∀ i, i < n → ∃ z, KidAt w b off i z) : ∃ ks, ks.length = n ∧ InK w (some ⟨b, off, none⟩) ks := by
  have h2 : ∀ i, ∃ z : T × Option Addr × Nat, i < n → KidAt w b off i z := by
    intro i
    by_cases hi : i < n
    · obtain ⟨z, hz⟩ := h i hi
      exact ⟨z, fun _ => hz⟩
    · exact ⟨(.node 0 0 [], none, 0), fun h => absurd h hi⟩
  obtain ⟨Z, hZ⟩ := Classical.axiomOfChoice h2
  have get : ∀ (i : Nat) (k : T), ((List.range n).map fun i => (Z i).1)[i]? = some k → i < n ∧ (Z i).1 = k := by
    intro i k hk
    have hi : i < n := by
      apply Nat.lt_of_not_le; intro hle; rw [List.getElem?_eq_none (by simp; exact hle)] at hk; cases hk
    refine ⟨hi, ?_⟩
    simpa [hi] using hk
  refine ⟨(List.range n).map fun i => (Z i).1, by simp, .row b off _ (fun i => (Z i).2.1) (fun i => (Z i).2.2) hb (fun i k hk => ?_) (fun i k hk => ?_) (fun i k hk => ?_)⟩
  · obtain ⟨hi, rfl⟩ := get i k hk
    obtain ⟨h1, h2, h3, _⟩ := hZ i hi
    exact ⟨h1, h2, h3⟩
  · obtain ⟨hi, rfl⟩ := get i k hk
    exact (hZ i hi).2.2.2.1
  · obtain ⟨hi, rfl⟩ := get i k hk
    exact (hZ i hi).2.2.2.2
theorem add_none (b off k : Nat) : (⟨b, off, none⟩ : Addr).add k = ⟨b, off + k, none⟩ := by unfold Addr.add; split <;> simp_all
section
variable {H : Type} {enc : TypeId × Value → H} {w : World} {spare : Nat → Bool} {held : Bool}
theorem tree_in : ∀ (fuel : Nat) (v : Value) (x : DataW H × List MemPlace), DataW.trod enc Try.prog w 0 spare held fuel 22 [v] = some x → ∃ a ks c, v = .slice a (List.length ks) c ∧ InK w a ks ∧ ks.length ≤ 9223372036854775807 := by
  intro fuel
  induction fuel using Nat.strongRecOn with
  | _ fuel ih =>
    intro v x h
    rcases DataW.trod_slice Try.underlying22 h with ⟨hcs, _⟩ | ⟨a, len, cap, elems, rest, n, hf, hcs, _, _, hl, hm, hlen, hel, _, _⟩
    · have hv : v = .slice none 0 0 := by simpa using hcs
      exact ⟨none, [], 0, hv, .zero _, by simp⟩
    · have hv : v = .slice (some a) len cap := by simpa using hcs
      have hlm : len ≤ 9223372036854775807 := by unfold maxLen at hm; omega
      by_cases h0 : len = 0
      · subst h0
        exact ⟨some a, [], cap, hv, .zero _, by simp⟩
      rw [cellsZ] at hel
      have elem : ∀ i, i < len → ∃ (cs' : List Value) (y : DataW H × List MemPlace), w.cells? 0 (a.add (i * 3)) 3 = some cs' ∧ DataW.trod enc Try.prog w 0 spare held n 24 cs' = some y := by
        intro i hi
        have key := hel i hi
        rw [List.getElem?_eq_getElem (by omega)] at key
        obtain ⟨cs', h1, h2⟩ := Option.bind_eq_some_iff.1 key
        exact ⟨cs', _, h1, h2⟩
      obtain ⟨b, off, spot⟩ := a
      have hspot : spot = none ∧ b < w.heap.size := by
        obtain ⟨cs', y, h1, h2⟩ := elem 0 (by omega)
        obtain ⟨_, hcl, hat⟩ := World.cells?_some h1
        have h3 := hat 0 (by omega)
        rw [List.getElem?_eq_getElem (by omega)] at h3
        have hs : spot = none := by simpa [Addr.add] using World.cell?_spot h3
        subst hs
        exact ⟨rfl, by simp [Addr.add] at h3; exact cell_lt (s := none) h3⟩
      obtain ⟨rfl, hb⟩ := hspot
      have hk : ∀ i, i < len → ∃ z, KidAt w b off i z := by
        intro i hi
        obtain ⟨cs', y, h1, h2⟩ := elem i hi
        obtain ⟨_, hcl, hat⟩ := World.cells?_some h1
        obtain ⟨ys, n', hn', _, _, hlen', hfld⟩ := DataW.trod_struct Try.underlying24 h2
        obtain ⟨c0, c1, c2, rfl⟩ : ∃ c0 c1 c2, cs' = [c0, c1, c2] := by
          match cs', hcl with
          | [c0, c1, c2], _ => exact ⟨c0, c1, c2, rfl⟩
        have f0 := hfld 0 _ rfl
        have f1 := hfld 1 _ rfl
        have f2 := hfld 2 _ rfl
        have a0 := hat 0 (by omega)
        have a1 := hat 1 (by omega)
        have a2 := hat 2 (by omega)
        rw [add_none, add_none] at a0 a1 a2
        have a0 : w.cell? ⟨b, off + i * 3, none⟩ = some c0 := a0
        have a1 : w.cell? ⟨b, off + i * 3 + 1, none⟩ = some c1 := a1
        have a2 : w.cell? ⟨b, off + i * 3 + 2, none⟩ = some c2 := a2
        have hy3 : ys.length = 3 := hlen'
        change DataW.trod enc Try.prog w 0 spare held n' 3 ((List.drop 0 [c0, c1, c2]).take (Try.prog.cellsOf 3)) = _ at f0
        change DataW.trod enc Try.prog w 0 spare held n' 3 ((List.drop 1 [c0, c1, c2]).take (Try.prog.cellsOf 3)) = _ at f1
        change DataW.trod enc Try.prog w 0 spare held n' 22 ((List.drop 2 [c0, c1, c2]).take (Try.prog.cellsOf 22)) = _ at f2
        rw [cellsI, List.getElem?_eq_getElem (by omega)] at f0 f1
        rw [cellsS, List.getElem?_eq_getElem (by omega)] at f2
        obtain ⟨op, e0, _, w0⟩ := DataW.trod_int Try.underlying3 f0
        obtain ⟨l, e1, _, w1⟩ := DataW.trod_int Try.underlying3 f1
        obtain ⟨a', ks', c', e2, hin, hkl⟩ := ih n' (by omega) c2 _ f2
        have e0' : c0 = .int .i64 op := by simpa using e0
        have e1' : c1 = .int .i64 l := by simpa using e1
        subst e0' e1' e2
        exact ⟨(.node op l ks', a', c'), a0, a1, a2, ⟨b64_of w0, b64_of w1, hkl⟩, hin⟩
      obtain ⟨ks, hkl, hin⟩ := kids_of (P := fun _ _ => True) hb hk
      exact ⟨_, ks, cap, by rw [hkl]; exact hv, hin, by omega⟩
/-- an expression by value, opened -/
theorem open_expr {r : Reach} {b0 : Nat} {v : Value} {d : DataW H} {p : List MemPlace} (hv : Value.okWide Try.prog w r b0 24 v) (h : DataW.Trod enc Try.prog w 0 spare held 24 v d p) :
    ∃ op l a ks c, v = .agg #[.int .i64 op, .int .i64 l, .slice a (List.length ks) c] ∧ InX w op l ks a := by
  obtain ⟨v0, v1, v2, y0, y1, y2, n, rfl, _, _, h0, h1, h2⟩ := open_agg3 Try.underlying24 (by kernel_rfl) cellsZ hv h
  obtain ⟨op, e0, _, w0⟩ := DataW.trod_int Try.underlying3 h0
  obtain ⟨l, e1, _, w1⟩ := DataW.trod_int Try.underlying3 h1
  obtain ⟨a, ks, c, rfl, hin, hkl⟩ := tree_in n v2 _ h2
  have e0' : v0 = .int .i64 op := by simpa using e0
  have e1' : v1 = .int .i64 l := by simpa using e1
  subst e0' e1'
  exact ⟨op, l, a, ks, c, rfl, hin, b64_of w0, b64_of w1, hkl⟩
end
end Go.Proofs.Ytdoifdpmgmlpdab
