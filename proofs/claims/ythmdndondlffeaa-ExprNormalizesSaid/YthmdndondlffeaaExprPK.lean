/- Every rule of the grammar reads the text of a tree. -/
import Derived.Test.YthmdndondlffeaaExprPJ
namespace Go.Proofs.Ythmdndondlffeaa
open Go Go.RowKit Go.Lib
set_option linter.unusedVariables false
theorem lvl_atom {op : Int} (h : op = 1 ∨ op = 2 ∨ op = 3) : lvl op = 6 := by rcases h with rfl | rfl | rfl <;> rfl
theorem head5 {L : Int} : ∀ t : T, wfT L t = true → lvl t.op ≠ 4 → ∃ b r, fmtK 5 t = b :: r ∧ b ≠ 33 := by
  intro t
  induction t using T.ind with
  | h op l ks ih =>
    intro hwf h4
    obtain ⟨hk, hl, hks⟩ := wfT_node.1 hwf
    by_cases hlv : lvl op < 5
    · exact ⟨40, _, by rw [fmtK_out hlv]; rfl, by decide⟩
    · rw [fmtK_in (by omega), fmtT_op]
      rcases op_cases op with h | h | h | h | h | h | h | h | h
      · subst h; exact ⟨48, [], rfl, by decide⟩
      · subst h; exact ⟨49, [], rfl, by decide⟩
      · subst h
        rw [letOk_3 rfl] at hl
        have hl2 : 0 ≤ l ∧ l < L := by simpa using hl
        exact ⟨97 + l, [], rfl, by omega⟩
      · subst h; exact absurd (by decide) hlv
      · subst h; exact absurd (by decide) hlv
      · subst h; exact absurd (by decide) hlv
      · subst h
        have hn : 0 < ks.length := by rw [kidsOk_1 _ (by omega)] at hk; simp at hk; omega
        by_cases h5 : lvl ks[0].op = 4
        · refine ⟨40, fmtT ks[0] ++ [41] ++ [42], ?_, by decide⟩
          have e : fmtK 5 ks[0] = ([40] : List Int) ++ fmtT ks[0] ++ [41] := by
            obtain ⟨ko, kl, kk, _, hk2⟩ := kid_some hn
            rw [hk2] at h5 ⊢
            exact fmtK_out (by simp only [T.op] at h5; omega)
          show fmtH 5 ks ++ [42] = _
          rw [fmtH_get hn, e]; rfl
        · obtain ⟨b, r, hb, hne⟩ := ih _ (List.getElem_mem hn) (hks _ (List.getElem_mem hn)) h5
          refine ⟨b, r ++ [42], ?_, hne⟩
          show fmtH 5 ks ++ [42] = _
          rw [fmtH_get hn, hb]; rfl
      · subst h; exact absurd rfl h4
      · rw [kidsOk_no _ h] at hk; cases hk
theorem rd4_up {s : ByteArray} {L : Int} {op l : Int} {ks : List T} (hwf : wfT L (.node op l ks) = true) (h : Rd 86 5 s L (.node op l ks)) (hlv : lvl op ≠ 4) : Rd 78 4 s L (.node op l ks) := by
  intro p i r w hp hd hst
  have hK : fmtK ((4 : Nat) : Int) (.node op l ks) = fmtK ((5 : Nat) : Int) (.node op l ks) := fmtK_next hlv
  rw [hK] at hd ⊢
  obtain ⟨b, q, hb, hne⟩ := head5 _ hwf hlv
  refine unary_of p s L i _ op l ks w hp (fun r' e => ?_) fun W hW => h p i r W hW hd hst.next
  have hb2 : fmtK ((5 : Nat) : Int) (.node op l ks) = b :: q := hb
  rw [hd, hb2] at e
  injection e with e1 e2
  exact hne e1
theorem rd4_not {s : ByteArray} {L : Int} {k : T} (hNB : ∀ b, b ∈ bytesI s → b ≠ 32) (h : Rd 78 4 s L k) : Rd 78 4 s L (.node 8 0 [k]) := by
  intro p i r w hp hd hst
  have hK : fmtK ((4 : Nat) : Int) (.node 8 0 [k]) = 33 :: fmtK ((4 : Nat) : Int) k := by rw [fmtK_in (by decide), fmtT_op]; rfl
  rw [hK] at hd ⊢
  have hd1 : (bytesI s).drop (i + 1) = fmtK ((4 : Nat) : Int) k ++ r := drop_add (A := [33]) hd
  rw [List.length_cons, show i + ((fmtK ((4 : Nat) : Int) k).length + 1) = i + 1 + (fmtK ((4 : Nat) : Int) k).length by omega]
  have h1 := unary_not p s L i (i + 1 + (fmtK ((4 : Nat) : Int) k).length) (fmtK ((4 : Nat) : Int) k ++ r) k.op k.lt k.ks w hp hd (by have := noBl_of hNB (i + 1); rw [hd1] at this; exact this) fun W hW => h p (i + 1) r W hW hd1 hst
  rw [← T.eta] at h1
  exact h1
theorem fmt_star {u : T} (hu : lvl u.op ≠ 5) : ∀ n, fmtK ((5 : Nat) : Int) (starN n u) = fmtK ((6 : Nat) : Int) u ++ List.replicate n 42 := by
  intro n
  induction n with
  | zero =>
    simp only [starN, List.replicate_zero, List.append_nil]
    rw [T.eta u]
    exact fmtK_next (by rw [T.eta u] at hu; exact hu)
  | succ n ih =>
    have e : fmtK ((5 : Nat) : Int) (starN (n + 1) u) = fmtK ((5 : Nat) : Int) (starN n u) ++ [42] := by
      show fmtK ((5 : Nat) : Int) (.node 7 0 [starN n u]) = _
      rw [fmtK_in (by decide), fmtT_op]; rfl
    rw [e, ih, List.append_assoc, List.replicate_succ']
theorem rd5_of {s : ByteArray} {L : Int} {u : T} (n : Nat) (hNB : ∀ b, b ∈ bytesI s → b ≠ 32) (hu : lvl u.op ≠ 5) (h : Rd 90 6 s L u) : Rd 86 5 s L (starN n u) := by
  intro p i r w hp hd hst
  rw [fmt_star hu n] at hd ⊢
  rw [List.append_assoc] at hd
  rw [List.length_append, List.length_replicate, ← Nat.add_assoc]
  have hd1 : (bytesI s).drop (i + (fmtK ((6 : Nat) : Int) u).length) = List.replicate n 42 ++ r := drop_add hd
  have hk : ∀ k, k ≤ n → (bytesI s).drop (i + (fmtK ((6 : Nat) : Int) u).length + k) = List.replicate (n - k) 42 ++ r := by
    intro k hk
    have e : List.replicate n (42 : Int) = List.replicate k 42 ++ List.replicate (n - k) 42 := by rw [List.replicate_append_replicate]; congr 1; omega
    rw [e, List.append_assoc] at hd1
    have := drop_add hd1
    rw [List.length_replicate] at this
    exact this
  refine postfix_of p s L i _ n u.op u.lt u.ks _ _ _ (by rw [← T.eta, ← T.eta]) w hp (fun k hlt => ?_) (fun r' e => ?_) hNB fun W hW => h p i (List.replicate n 42 ++ r) W hW hd (fun b q e => ⟨fun h => by omega, fun h => by omega, fun h => by omega, fun h => by omega⟩)
  · refine ⟨List.replicate (n - k - 1) 42 ++ r, ?_⟩
    rw [hk k (by omega), show n - k = (n - k - 1) + 1 by omega, List.replicate_succ]; rfl
  · rw [hk n (Nat.le_refl _), Nat.sub_self, List.replicate_zero, List.nil_append] at e
    exact (hst _ _ e).1 (by omega) rfl
theorem rd6_empty {s : ByteArray} {L : Int} (hNB : ∀ b, b ∈ bytesI s → b ≠ 32) : Rd 90 6 s L (.node 1 0 []) := by
  intro p i r w hp hd hst
  have hK : fmtK ((6 : Nat) : Int) (.node 1 0 []) = [48] := rfl
  rw [hK] at hd ⊢
  exact atom_empty p s L i r w hp hd (by have := noBl_of hNB (i + 1); rw [show (bytesI s).drop (i + 1) = r from drop_add (A := [48]) hd] at this; exact this)
theorem rd6_unit {s : ByteArray} {L : Int} (hNB : ∀ b, b ∈ bytesI s → b ≠ 32) : Rd 90 6 s L (.node 2 0 []) := by
  intro p i r w hp hd hst
  have hK : fmtK ((6 : Nat) : Int) (.node 2 0 []) = [49] := rfl
  rw [hK] at hd ⊢
  exact atom_unit p s L i r w hp hd (by have := noBl_of hNB (i + 1); rw [show (bytesI s).drop (i + 1) = r from drop_add (A := [49]) hd] at this; exact this)
theorem rd6_letter {s : ByteArray} {L l : Int} (hNB : ∀ b, b ∈ bytesI s → b ≠ 32) (hl : 0 ≤ l ∧ l < L) : Rd 90 6 s L (.node 3 l []) := by
  intro p i r w hp hd hst
  have hK : fmtK ((6 : Nat) : Int) (.node 3 l []) = [97 + l] := rfl
  rw [hK] at hd ⊢
  exact atom_letter p s L i l r w hp hd (noBl_of hNB (i + 1)) hl
theorem rd6_paren {s : ByteArray} {L : Int} {op l : Int} {ks : List T} (hL : L ≤ 6) (hNB : ∀ b, b ∈ bytesI s → b ≠ 32) (h : Rd 47 1 s L (.node op l ks)) (hlv : lvl op < 6) (hlv1 : 1 ≤ lvl op) : Rd 90 6 s L (.node op l ks) := by
  intro p i r w hp hd hst
  have hK : fmtK ((6 : Nat) : Int) (.node op l ks) = 40 :: (fmtT (.node op l ks) ++ [41]) := by rw [fmtK_out (n := ((6 : Nat) : Int)) hlv]; simp
  have hK1 : fmtK ((1 : Nat) : Int) (.node op l ks) = fmtT (.node op l ks) := fmtK_in hlv1
  rw [hK] at hd ⊢
  have hd1 : (bytesI s).drop (i + 1) = fmtT (.node op l ks) ++ (41 :: r) := by
    have := drop_add (A := [40]) (B := fmtT (.node op l ks) ++ (41 :: r)) (l := bytesI s) (i := i) (by rw [hd]; simp)
    exact this
  have hd2 : (bytesI s).drop (i + 1 + (fmtT (.node op l ks)).length) = 41 :: r := drop_add hd1
  have hd3 : (bytesI s).drop (i + 1 + (fmtT (.node op l ks)).length + 1) = r := drop_add (A := [41]) hd2
  have h1 := atom_paren p s L i (i + 1 + (fmtT (.node op l ks)).length) _ r op l ks w hp hd (by have := noBl_of hNB (i + 1); rw [hd1] at this; simpa using this) hd2 (by have := noBl_of hNB (i + 1 + (fmtT (.node op l ks)).length + 1); rw [hd3] at this; exact this) fun W hW => by
    have h2 := h p (i + 1) (41 :: r) W hW (by rw [hK1]; exact hd1) (Stop.cons ⟨fun _ => by omega, fun _ => notBeg hL (by omega), fun _ => by omega, fun _ => by omega⟩)
    rw [hK1] at h2
    exact h2
  rw [show i + (40 :: (fmtT (.node op l ks) ++ [41])).length = i + 1 + (fmtT (.node op l ks)).length + 1 by simp; omega]
  exact h1
/-! ### all rules -/
structure AllR (s : ByteArray) (L : Int) (t : T) : Prop where
  r1 : Rd 47 1 s L t
  r2 : Rd 57 2 s L t
  r3 : Rd 64 3 s L t
  r4 : Rd 78 4 s L t
  r5 : Rd 86 5 s L t
  r6 : Rd 90 6 s L t
theorem star_form {L : Int} : ∀ t : T, wfT L t = true → ∃ n u, t = starN n u ∧ lvl u.op ≠ 5 ∧ wfT L u = true ∧ sizeT u + n ≤ sizeT t := by
  intro t
  induction t using T.ind with
  | h op l ks ih =>
    intro hwf
    obtain ⟨hk, hl, hks⟩ := wfT_node.1 hwf
    by_cases h7 : op = 7
    · subst h7
      rw [kidsOk_1 _ (by omega)] at hk
      have h1 : ks.length = 1 := by simp at hk; omega
      obtain ⟨k, rfl⟩ := List.length_eq_one_iff.1 h1
      rw [letOk_n (by decide)] at hl
      obtain rfl : l = 0 := by simpa using hl
      obtain ⟨n, u, rfl, hu, hw, hsz⟩ := ih k (by simp) (hks k (by simp))
      exact ⟨n + 1, u, rfl, hu, hw, by simp only [sizeT, sizeL]; omega⟩
    · refine ⟨0, .node op l ks, rfl, ?_, hwf, by omega⟩
      show lvl op ≠ 5
      rcases op_cases op with h | h | h | h | h | h | h | h | h
      case inr.inr.inr.inr.inr.inr.inr.inr => rw [kidsOk_no _ h] at hk; cases hk
      all_goals first | exact absurd h h7 | (subst h; decide)
theorem sizeT_ks {op l : Int} {ks : List T} {k : T} (h : k ∈ ks) : sizeT k < sizeT (.node op l ks) := by
  have := sizeL_mem h
  simp only [sizeT]; omega
theorem all_rd {s : ByteArray} {L : Int} (hL : L ≤ 6) (hNB : ∀ b, b ∈ bytesI s → b ≠ 32) : ∀ (N : Nat) (t : T), sizeT t ≤ N → N ≤ 400 → wfT L t = true → AllR s L t := by
  intro N
  induction N with
  | zero => intro t h; have := sizeT_pos t; omega
  | succ N ih =>
    intro t hsz hN hwf
    obtain ⟨op, l, ks⟩ := t
    obtain ⟨hk, hl, hks⟩ := wfT_node.1 hwf
    have hkids : ∀ k, k ∈ ks → AllR s L k := fun k hk2 => ih k (by have := sizeT_ks (op := op) (l := l) hk2; omega) (by omega) (hks k hk2)
    have hlen : ks.length ≤ 100000 := by have := length_le_sizeL ks; simp only [sizeT] at hsz; omega
    have l0 : op ≠ 3 → l = 0 := fun h => by rw [letOk_n h] at hl; simpa using hl
    have n2 : op = 4 ∨ op = 5 ∨ op = 6 → 2 ≤ ks.length := fun h => by rw [kidsOk_2 _ h] at hk; simp at hk; omega
    have n0 : op = 1 ∨ op = 2 ∨ op = 3 → ks = [] := fun h => by rw [kidsOk_0 _ h] at hk; simp at hk; exact hk
    have down3 : Rd 64 3 s L (.node op l ks) → lvl op ≠ 2 → lvl op ≠ 1 → Rd 57 2 s L (.node op l ks) ∧ Rd 47 1 s L (.node op l ks) := fun h h2 h1 => ⟨rd2_up h h2, rd1_up (rd2_up h h2) h1⟩
    rcases op_cases op with h | h | h | h | h | h | h | h | h
    case inr.inr.inr.inr.inr.inr.inr.inr => rw [kidsOk_no _ h] at hk; cases hk
    · obtain rfl := n0 (by omega)
      obtain rfl := l0 (by omega)
      subst h
      have r6 := rd6_empty (L := L) hNB
      have r5 : Rd 86 5 s L (.node 1 0 []) := rd5_of 0 hNB (u := .node 1 0 []) (show lvl 1 ≠ 5 by decide) r6
      have r4 := rd4_up hwf r5 (by decide)
      have r3 := rd3_up r4 (by decide)
      obtain ⟨r2, r1⟩ := down3 r3 (by decide) (by decide)
      exact ⟨r1, r2, r3, r4, r5, r6⟩
    · obtain rfl := n0 (by omega)
      obtain rfl := l0 (by omega)
      subst h
      have r6 := rd6_unit (L := L) hNB
      have r5 : Rd 86 5 s L (.node 2 0 []) := rd5_of 0 hNB (u := .node 2 0 []) (show lvl 2 ≠ 5 by decide) r6
      have r4 := rd4_up hwf r5 (by decide)
      have r3 := rd3_up r4 (by decide)
      obtain ⟨r2, r1⟩ := down3 r3 (by decide) (by decide)
      exact ⟨r1, r2, r3, r4, r5, r6⟩
    · obtain rfl := n0 (by omega)
      subst h
      rw [letOk_3 rfl] at hl
      have hl2 : 0 ≤ l ∧ l < L := by simpa using hl
      have r6 := rd6_letter hNB hl2
      have r5 : Rd 86 5 s L (.node 3 l []) := rd5_of 0 hNB (u := .node 3 l []) (show lvl 3 ≠ 5 by decide) r6
      have r4 := rd4_up hwf r5 (by decide)
      have r3 := rd3_up r4 (by decide)
      obtain ⟨r2, r1⟩ := down3 r3 (by decide) (by decide)
      exact ⟨r1, r2, r3, r4, r5, r6⟩
    · obtain rfl := l0 (by omega)
      have h2 := n2 (by omega)
      subst h
      have r1 := rd1_list hL hNB (fun k hk => (hkids k hk).r2) hks h2 hlen
      have r6 := rd6_paren hL hNB r1 (by decide) (by decide)
      have r5 : Rd 86 5 s L (.node 4 0 ks) := rd5_of 0 hNB (u := .node 4 0 ks) (show lvl 4 ≠ 5 by decide) r6
      have r4 := rd4_up hwf r5 (by decide)
      have r3 := rd3_up r4 (by decide)
      exact ⟨r1, rd2_up r3 (by decide), r3, r4, r5, r6⟩
    · obtain rfl := l0 (by omega)
      have h2 := n2 (by omega)
      subst h
      have r3 := rd3_list hL hNB (fun k hk => (hkids k hk).r4) hks h2 hlen
      obtain ⟨r2, r1⟩ := down3 r3 (by decide) (by decide)
      have r6 := rd6_paren hL hNB r1 (by decide) (by decide)
      have r5 : Rd 86 5 s L (.node 5 0 ks) := rd5_of 0 hNB (u := .node 5 0 ks) (show lvl 5 ≠ 5 by decide) r6
      exact ⟨r1, r2, r3, rd4_up hwf r5 (by decide), r5, r6⟩
    · obtain rfl := l0 (by omega)
      have h2 := n2 (by omega)
      subst h
      have r2 := rd2_list hL hNB (fun k hk => (hkids k hk).r3) hks h2 hlen
      have r1 := rd1_up r2 (by decide)
      have r6 := rd6_paren hL hNB r1 (by decide) (by decide)
      have r5 : Rd 86 5 s L (.node 6 0 ks) := rd5_of 0 hNB (u := .node 6 0 ks) (show lvl 6 ≠ 5 by decide) r6
      have r4 := rd4_up hwf r5 (by decide)
      exact ⟨r1, r2, rd3_up r4 (by decide), r4, r5, r6⟩
    · obtain ⟨n, u, hu, hlu, hwu, hsu⟩ := star_form _ hwf
      have hn : 0 < n := by
        apply Nat.pos_of_ne_zero
        intro e
        subst e
        have e2 : T.node op l ks = u := hu
        rw [← e2] at hlu
        exact hlu (by show lvl op = 5; rw [h]; rfl)
      have r5 : Rd 86 5 s L (.node op l ks) := by
        rw [hu]
        exact rd5_of n hNB hlu (ih u (by omega) (by omega) hwu).r6
      subst h
      have r4 := rd4_up hwf r5 (by decide)
      have r3 := rd3_up r4 (by decide)
      obtain ⟨r2, r1⟩ := down3 r3 (by decide) (by decide)
      exact ⟨r1, r2, r3, r4, r5, rd6_paren hL hNB r1 (by decide) (by decide)⟩
    · obtain rfl := l0 (by omega)
      have h1 : ks.length = 1 := by rw [kidsOk_1 _ (by omega)] at hk; simp at hk; omega
      obtain ⟨k, rfl⟩ := List.length_eq_one_iff.1 h1
      subst h
      have r4 := rd4_not hNB (hkids k (by simp)).r4
      have r3 := rd3_up r4 (by decide)
      obtain ⟨r2, r1⟩ := down3 r3 (by decide) (by decide)
      have r6 := rd6_paren hL hNB r1 (by decide) (by decide)
      have r5 : Rd 86 5 s L (.node 8 0 [k]) := rd5_of 0 hNB (u := .node 8 0 [k]) (show lvl 8 ≠ 5 by decide) r6
      exact ⟨r1, r2, r3, r4, r5, r6⟩
end Go.Proofs.Ythmdndondlffeaa
