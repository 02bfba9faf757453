/- Every rule of the grammar reads the text of a tree: the steps. -/
import Derived.Test.YthmdndondlffeaaExprPI
namespace Go.Proofs.Ythmdndondlffeaa
open Go Go.RowKit Go.Lib
set_option linter.unusedVariables false
/-- function f reads the text of t, in parentheses if its level is below n -/
def Rd (f : Nat) (n : Nat) (s : ByteArray) (L : Int) (t : T) : Prop := ∀ (p i : Nat) (r : List Int) (w : World), PSt w p s L i → (bytesI s).drop i = fmtK n t ++ r → Stop L n r →
    Calls Try.prog f #[.pointer (some ⟨p, 0, none⟩)] w (PTree p s L w t.op t.lt t.ks (i + (fmtK n t).length))
theorem mem_get {ks : List T} {j : Nat} {op l : Int} {ls : List T} (h : ks[j]? = some (.node op l ls)) : ∃ hj : j < ks.length, ks[j] = .node op l ls := by
  have hj : j < ks.length := by
    apply Nat.lt_of_not_le; intro hle; rw [List.getElem?_eq_none hle] at h; cases h
  rw [List.getElem?_eq_getElem hj] at h
  exact ⟨hj, by injection h⟩
theorem rd1_up {s : ByteArray} {L : Int} {op l : Int} {ks : List T} (h : Rd 57 2 s L (.node op l ks)) (hlv : lvl op ≠ 1) : Rd 47 1 s L (.node op l ks) := by
  intro p i r w hp hd hst
  have hK : fmtK ((1 : Nat) : Int) (.node op l ks) = fmtK ((2 : Nat) : Int) (.node op l ks) := fmtK_next hlv
  rw [hK] at hd ⊢
  refine union_of p s L i _ op l ks w hp fun W hW => ?_
  refine listU_any p s L [.node op l ks] (fun _ => i) (fun _ => i + (fmtK ((2 : Nat) : Int) (.node op l ks)).length) (by simp) (by simp) (fun j op' l' ls hj W hW => ?_) (fun j hj => by simp at hj) (fun W hW => ?_) W hW op l ks (by simp)
  · obtain ⟨hj1, hj2⟩ := mem_get hj
    simp at hj1
    subst hj1
    have e : T.node op l ks = .node op' l' ls := hj2
    injection e with e1 e2 e3
    subst e1 e2 e3
    exact h p i r W hW hd hst.next
  · exact bar_no p s L _ W hW (by rw [drop_add hd]; intro r' e; exact (hst _ _ e).2.2.2 (by omega) rfl)
theorem rd1_list {s : ByteArray} {L : Int} {ks : List T} (hL : L ≤ 6) (hNB : ∀ b, b ∈ bytesI s → b ≠ 32) (h : ∀ k, k ∈ ks → Rd 57 2 s L k) (hwf : ∀ k, k ∈ ks → wfT L k = true) (h2 : 2 ≤ ks.length) (h3 : ks.length ≤ 100000) : Rd 47 1 s L (.node 4 0 ks) := by
  intro p i r w hp hd hst
  have hK : fmtK ((1 : Nat) : Int) (.node 4 0 ks) = fmtL [124] 2 ks := by rw [fmtK_in (by decide), fmtT_op]; rfl
  rw [hK] at hd ⊢
  refine union_of p s L i _ 4 0 ks w hp fun W hW => ?_
  have hmain := listU_any p s L ks (atB i [124] 2 ks) (atE i [124] 2 ks) (by omega) h3 (fun j op' l' ls hj W hW => ?_) (fun j hj W hW => by
        have h1 := at_end hd (show j < ks.length by omega)
        rw [fmtS_drop _ _ _ (j + 1) hj] at h1
        have h2 := bar_yes p s L (atE i [124] 2 ks j) _ W hW h1 (by
          have h3 : (bytesI s).drop (atE i [124] 2 ks j + 1) = _ := drop_add (A := [124]) h1
          have h4 := noBl_of hNB (atE i [124] 2 ks j + 1)
          rw [h3] at h4; exact h4)
        simp only [atB, if_neg (show j + 1 ≠ 0 by omega), Nat.add_sub_cancel]
        exact h2) (fun W hW => by
        refine bar_no p s L _ W hW ?_
        rw [at_end hd (show ks.length - 1 < ks.length by omega), show ks.length - 1 + 1 = ks.length by omega, fmtS_end, List.nil_append]
        intro r' e; exact (hst _ _ e).2.2.2 (by omega) rfl) W hW 4 0 ks (by rw [if_neg (by omega)])
  · rw [at_last i [124] 2 ks (by omega)] at hmain
    exact hmain
  · obtain ⟨hj1, hj2⟩ := mem_get hj
    have h5 := h _ (List.getElem_mem hj1) p (atB i [124] 2 ks j) (fmtS [124] 2 (ks.drop (j + 1)) ++ r) W hW (at_begin hd hj1) ?_
    · rw [show atB i [124] 2 ks j + (fmtK ((2 : Nat) : Int) ks[j]).length = atE i [124] 2 ks j from at_next i [124] 2 ks j hj1, hj2] at h5
      exact h5
    · by_cases hlt : j + 1 < ks.length
      · rw [fmtS_drop _ _ _ (j + 1) hlt]
        exact Stop.cons ⟨fun _ => by omega, fun _ => notBeg hL (by omega), fun h => by omega, fun h => by omega⟩
      · rw [show j + 1 = ks.length by omega, fmtS_end, List.nil_append]; exact hst.next
theorem rd2_up {s : ByteArray} {L : Int} {op l : Int} {ks : List T} (h : Rd 64 3 s L (.node op l ks)) (hlv : lvl op ≠ 2) : Rd 57 2 s L (.node op l ks) := by
  intro p i r w hp hd hst
  have hK : fmtK ((2 : Nat) : Int) (.node op l ks) = fmtK ((3 : Nat) : Int) (.node op l ks) := fmtK_next hlv
  rw [hK] at hd ⊢
  refine and_of p s L i _ op l ks w hp fun W hW => ?_
  refine listA_any p s L [.node op l ks] (fun _ => i) (fun _ => i + (fmtK ((3 : Nat) : Int) (.node op l ks)).length) (by simp) (by simp) (fun j op' l' ls hj W hW => ?_) (fun j hj => by simp at hj) (fun W hW => ?_) W hW op l ks (by simp)
  · obtain ⟨hj1, hj2⟩ := mem_get hj
    simp at hj1
    subst hj1
    have e : T.node op l ks = .node op' l' ls := hj2
    injection e with e1 e2 e3
    subst e1 e2 e3
    exact h p i r W hW hd hst.next
  · exact ampersand_no p s L _ W hW (by rw [drop_add hd]; intro r' e; exact (hst _ _ e).2.2.1 (by omega) rfl)
theorem rd2_list {s : ByteArray} {L : Int} {ks : List T} (hL : L ≤ 6) (hNB : ∀ b, b ∈ bytesI s → b ≠ 32) (h : ∀ k, k ∈ ks → Rd 64 3 s L k) (hwf : ∀ k, k ∈ ks → wfT L k = true) (h2 : 2 ≤ ks.length) (h3 : ks.length ≤ 100000) : Rd 57 2 s L (.node 6 0 ks) := by
  intro p i r w hp hd hst
  have hK : fmtK ((2 : Nat) : Int) (.node 6 0 ks) = fmtL [38] 3 ks := by rw [fmtK_in (by decide), fmtT_op]; rfl
  rw [hK] at hd ⊢
  refine and_of p s L i _ 6 0 ks w hp fun W hW => ?_
  have hmain := listA_any p s L ks (atB i [38] 3 ks) (atE i [38] 3 ks) (by omega) h3 (fun j op' l' ls hj W hW => ?_) (fun j hj W hW => by
        have h1 := at_end hd (show j < ks.length by omega)
        rw [fmtS_drop _ _ _ (j + 1) hj] at h1
        have h2 := ampersand_yes p s L (atE i [38] 3 ks j) _ W hW h1 (by
          have h3 : (bytesI s).drop (atE i [38] 3 ks j + 1) = _ := drop_add (A := [38]) h1
          have h4 := noBl_of hNB (atE i [38] 3 ks j + 1)
          rw [h3] at h4; exact h4)
        simp only [atB, if_neg (show j + 1 ≠ 0 by omega), Nat.add_sub_cancel]
        exact h2) (fun W hW => by
        refine ampersand_no p s L _ W hW ?_
        rw [at_end hd (show ks.length - 1 < ks.length by omega), show ks.length - 1 + 1 = ks.length by omega, fmtS_end, List.nil_append]
        intro r' e; exact (hst _ _ e).2.2.1 (by omega) rfl) W hW 6 0 ks (by rw [if_neg (by omega)])
  · rw [at_last i [38] 3 ks (by omega)] at hmain
    exact hmain
  · obtain ⟨hj1, hj2⟩ := mem_get hj
    have h5 := h _ (List.getElem_mem hj1) p (atB i [38] 3 ks j) (fmtS [38] 3 (ks.drop (j + 1)) ++ r) W hW (at_begin hd hj1) ?_
    · rw [show atB i [38] 3 ks j + (fmtK ((3 : Nat) : Int) ks[j]).length = atE i [38] 3 ks j from at_next i [38] 3 ks j hj1, hj2] at h5
      exact h5
    · by_cases hlt : j + 1 < ks.length
      · rw [fmtS_drop _ _ _ (j + 1) hlt]
        exact Stop.cons ⟨fun _ => by omega, fun _ => notBeg hL (by omega), fun h => by omega, fun h => by omega⟩
      · rw [show j + 1 = ks.length by omega, fmtS_end, List.nil_append]; exact hst.next
theorem rd3_up {s : ByteArray} {L : Int} {op l : Int} {ks : List T} (h : Rd 78 4 s L (.node op l ks)) (hlv : lvl op ≠ 3) : Rd 64 3 s L (.node op l ks) := by
  intro p i r w hp hd hst
  have hK : fmtK ((3 : Nat) : Int) (.node op l ks) = fmtK ((4 : Nat) : Int) (.node op l ks) := fmtK_next hlv
  rw [hK] at hd ⊢
  refine cat_of p s L i _ op l ks w hp fun W hW => ?_
  refine listC_any p s L [.node op l ks] (fun _ => i) (fun _ => i + (fmtK ((4 : Nat) : Int) (.node op l ks)).length) (by simp) (by simp) (fun j op' l' ls hj W hW => ?_) (fun j hj => by simp at hj) (fun W hW => ?_) W hW op l ks (by simp)
  · obtain ⟨hj1, hj2⟩ := mem_get hj
    simp at hj1
    subst hj1
    have e : T.node op l ks = .node op' l' ls := hj2
    injection e with e1 e2 e3
    subst e1 e2 e3
    exact h p i r W hW hd hst.next
  · exact by
      have h1 : (bytesI s).drop (i + (fmtK ((4 : Nat) : Int) (.node op l ks)).length) = r := drop_add hd
      cases hr : r with
      | nil => rw [hr] at h1; exact begins_end p s L _ W hW h1
      | cons b q => rw [hr] at h1; have h2 := begins_some p s L _ b q W hW h1; rw [(hst b q hr).2.1 (by omega)] at h2; exact h2
theorem rd3_list {s : ByteArray} {L : Int} {ks : List T} (hL : L ≤ 6) (hNB : ∀ b, b ∈ bytesI s → b ≠ 32) (h : ∀ k, k ∈ ks → Rd 78 4 s L k) (hwf : ∀ k, k ∈ ks → wfT L k = true) (h2 : 2 ≤ ks.length) (h3 : ks.length ≤ 100000) : Rd 64 3 s L (.node 5 0 ks) := by
  intro p i r w hp hd hst
  have hK : fmtK ((3 : Nat) : Int) (.node 5 0 ks) = fmtL [] 4 ks := by rw [fmtK_in (by decide), fmtT_op]; rfl
  rw [hK] at hd ⊢
  refine cat_of p s L i _ 5 0 ks w hp fun W hW => ?_
  have hmain := listC_any p s L ks (atB i [] 4 ks) (atE i [] 4 ks) (by omega) h3 (fun j op' l' ls hj W hW => ?_) (fun j hj W hW => by
        have h1 := at_end hd (show j < ks.length by omega)
        rw [fmtS_drop _ _ _ (j + 1) hj] at h1
        obtain ⟨b, q, hb, hbe⟩ := fmtK_head (n := 4) (hwf _ (List.getElem_mem hj))
        rw [hb] at h1
        have h2 := begins_some p s L (atE i [] 4 ks j) b _ W hW h1
        rw [hbe] at h2
        simp only [atB, if_neg (show j + 1 ≠ 0 by omega), Nat.add_sub_cancel, List.length_nil, Nat.add_zero]
        exact h2) (fun W hW => by
        have h1 : (bytesI s).drop (atE i [] 4 ks (ks.length - 1)) = r := by rw [at_end hd (show ks.length - 1 < ks.length by omega), show ks.length - 1 + 1 = ks.length by omega, fmtS_end, List.nil_append]
        cases hr : r with
        | nil => rw [hr] at h1; exact begins_end p s L _ W hW h1
        | cons b q => rw [hr] at h1; have h2 := begins_some p s L _ b q W hW h1; rw [(hst b q hr).2.1 (by omega)] at h2; exact h2) W hW 5 0 ks (by rw [if_neg (by omega)])
  · rw [at_last i [] 4 ks (by omega)] at hmain
    exact hmain
  · obtain ⟨hj1, hj2⟩ := mem_get hj
    have h5 := h _ (List.getElem_mem hj1) p (atB i [] 4 ks j) (fmtS [] 4 (ks.drop (j + 1)) ++ r) W hW (at_begin hd hj1) ?_
    · rw [show atB i [] 4 ks j + (fmtK ((4 : Nat) : Int) ks[j]).length = atE i [] 4 ks j from at_next i [] 4 ks j hj1, hj2] at h5
      exact h5
    · by_cases hlt : j + 1 < ks.length
      · rw [fmtS_drop _ _ _ (j + 1) hlt, List.nil_append, List.append_assoc]
        exact Stop.heads hL (fmtK_head (n := 4) (hwf _ (List.getElem_mem hlt)))
      · rw [show j + 1 = ks.length by omega, fmtS_end, List.nil_append]; exact hst.next
end Go.Proofs.Ythmdndondlffeaa
