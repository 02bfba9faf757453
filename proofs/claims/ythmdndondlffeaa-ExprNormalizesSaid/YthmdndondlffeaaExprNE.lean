/- Contracts: equal, empty, unit, universal; kids in memory as expressions by value. -/
import Derived.Test.YthmdndondlffeaaExprNO
import Derived.Test.YthmdndondlffeaaExprNS
namespace Go.Proofs.Ythmdndondlffeaa
open Go Go.RowKit Go.Sort
set_option linter.unusedVariables false
set_option maxRecDepth 100000 in
set_option maxHeartbeats 1000000 in
theorem equal_any (op l : Int) (ks : List T) (op' l' : Int) (ks' : List T) (a a' : Option Addr) (c c' : Nat) (w : World) (h1 : InX w op l ks a) (h2 : InX w op' l' ks' a') :
    Calls Try.prog 52 #[.agg #[.int .i64 op, .int .i64 l, .slice a ks.length c], .agg #[.int .i64 op', .int .i64 l', .slice a' ks'.length c']] w fun e w' => e = .returned (.bool (isT (.node op l ks) (.node op' l' ks'))) ∧ BelowD w.heap.size w w' := by
  have HB0 := Lib.hid (((BelowD.refl w.heap.size w).alloc (Nat.le_refl _) (.cells #[.int .i64 op, .int .i64 l, .slice a ks.length c] 24)).alloc (by simp) (.cells #[.int .i64 op', .int .i64 l', .slice a' ks'.length c'] 24))
  have HQ := Lib.hid (compareD_any op l ks op' l' ks' a a' c c' _ (h1.keep HB0.out.be) (h2.keep HB0.out.be))
  clear h1 h2
  unfold isT
  obtain ⟨r, hr⟩ : ∃ r, r = cmpT (.node op l ks) (.node op' l' ks') := ⟨_, rfl⟩
  obtain ⟨n, hn⟩ : ∃ n, n = ks.length := ⟨_, rfl⟩
  obtain ⟨n', hn'⟩ : ∃ n, n = ks'.length := ⟨_, rfl⟩
  rw [← hr] at HQ ⊢
  rw [← hn] at HQ HB0 ⊢
  rw [← hn'] at HQ HB0 ⊢
  clear hr hn hn'
  go_enter Try.func52, Try.ntmps52
  go_wp2_with fail
  refine HQ.out.mono ?_
  rintro e w2 ⟨rfl, hB⟩
  have HB2 := Lib.hid (HB0.out.trans (hB.mono (by simp; omega)))
  clear hB
  go_wp2_with fail
  go_ret
  exact ⟨rfl, HB2.out⟩
/-- the kids of a tree in memory, as expressions by value -/
theorem kids_ex {W0 : World} {op l : Int} {ks : List T} {ad : Addr} (h : InX W0 op l ks (some ad)) (hsp : ad.spot = none) : ∃ es : List (ExIn W0), es.map (·.1.t) = ks ∧ es.length = ks.length ∧ ∀ j u, (cellsE es)[j]? = some u → W0.cell? ⟨ad.block, ad.off + j, none⟩ = some u := by
  have hch : ∀ i, ∃ x : ExIn W0, ∀ hi : i < ks.length, x.1.t = ks[i] ∧ ∀ r, r < 3 → W0.cell? ⟨ad.block, ad.off + i * 3 + r, none⟩ = some ((encX x)[r]!) := by
    intro i
    by_cases hi : i < ks.length
    · obtain ⟨ko, kl, kk, hk, hk2⟩ := kid_some hi
      obtain ⟨b, off, a', c', he, hb, e0, e1, e2, hx⟩ := h.kid hk
      injection he with he
      subst he
      refine ⟨⟨⟨ko, kl, kk, a', c'⟩, hx⟩, fun _ => ⟨hk2.symm, fun r hr => ?_⟩⟩
      match r, hr with
      | 0, _ => exact e0
      | 1, _ => exact e1
      | 2, _ => exact e2
    · exact ⟨default, fun h => absurd h hi⟩
  obtain ⟨Z, hZ⟩ := Classical.axiomOfChoice hch
  refine ⟨(List.range ks.length).map Z, ?_, by simp, fun j u hu => ?_⟩
  · apply List.ext_getElem (by simp)
    intro i h1 h2
    simp only [List.getElem_map, List.getElem_range]
    exact (hZ i h2).1
  · have hj : j < ks.length * 3 := by
      apply Nat.lt_of_not_le; intro hle
      rw [List.getElem?_eq_none (by rw [cellsE_len]; simp; omega)] at hu; cases hu
    have hi : j / 3 < ks.length := by omega
    have h1 := cellsE_at ((List.range ks.length).map Z) (j / 3) (j % 3) (Nat.mod_lt _ (by omega)) (by simpa using hi)
    rw [show j / 3 * 3 + j % 3 = j by omega, hu] at h1
    have h2 := (hZ (j / 3) hi).2 (j % 3) (Nat.mod_lt _ (by omega))
    rw [show ad.off + j / 3 * 3 + j % 3 = ad.off + j by omega] at h2
    rw [h2, h1]
    congr 2
    have : ((List.range ks.length).map Z).toArray[j / 3]! = Z (j / 3) := by
      rw [getElem!_pos _ _ (by simpa using hi)]; simp
    rw [this]
end Go.Proofs.Ythmdndondlffeaa
