/- Lists of rows of the call's own; contracts: extend, extendAll, All. -/
import Derived.Test.YtfgpjkkdgjhkfaaPartHA
import Derived.Test.YtfgpjkkdgjhkfaaPartIM
import Derived.Laws.CopyOwn
namespace Go.Proofs.Ytfgpjkkdgjhkfaa
open Go Go.RowKit Go.Maps
set_option linter.unusedVariables false


/-- at a there are m rows of numbers L 0, L 1, .., none of them nil -/
def RowsS (w : World) (a : Option Addr) (m : Nat) (L : Nat → List Nat) : Prop :=
  m = 0 ∨ ∃ b off, a = some ⟨b, off, none⟩ ∧ b < w.heap.size ∧ ∀ i, i < m → ∃ p c, w.cell? ⟨b, off + i, none⟩ = some (.slice (some p) (L i).length c) ∧ RowI w (some p) (L i).length (getN (L i))
theorem RowsS.rows {w : World} {a : Option Addr} {m : Nat} {L : Nat → List Nat} (h : RowsS w a m L) : RowsN w a m L := by
  rcases h with h | ⟨b, off, rfl, hl, hc⟩
  · exact .inl h
  · refine .inr ⟨b, off, rfl, hl, fun i hi => ?_⟩
    obtain ⟨p, c, h1, h2⟩ := hc i hi
    exact ⟨_, c, h1, h2⟩
theorem RowsS.keep {w w' : World} {a : Option Addr} {m : Nat} {L : Nat → List Nat} (h : RowsS w a m L) (hb : Below w.heap.size w w') : RowsS w' a m L := by
  rcases h with h | ⟨b, off, rfl, hl, hc⟩
  · exact .inl h
  · refine .inr ⟨b, off, rfl, Nat.lt_of_lt_of_le hl hb.size, fun i hi => ?_⟩
    obtain ⟨p, c, h1, h2⟩ := hc i hi
    exact ⟨p, c, by rw [hb.cell (p := ⟨b, off + i, none⟩) hl]; exact h1, h2.keep hb⟩
def atL (LL : List (List Nat)) (i : Nat) : List Nat := LL.getD i []
theorem atL_get {LL : List (List Nat)} {i : Nat} {l : List Nat} (h : LL[i]? = some l) : atL LL i = l := by simp [atL, h]
def GivesS (w : World) (LL : List (List Nat)) (e : Ending) (w' : World) : Prop :=
  ∃ (r : Option Addr) (c : Nat), e = .returned (.slice r LL.length c) ∧ RowsS w' r LL.length (atL LL) ∧ Below w.heap.size w w'

theorem rowI_grow {w w' : World} {row : Option Nat} {r : Option Addr} {n : Nat} {f : Nat → Int} (h : RowI w r n f) (hg : w.grownBy w' row) (hoff : ∀ g, row = some g → RowN w g r n f) : RowI w' r n f := by
  cases row with
  | none => exact h.keep ⟨hg.os, hg.tape, hg.output, hg.size, fun k hk => hg.block k hk (by simp)⟩
  | some g => exact ((hoff g rfl).put hg).1
/-- a slice of slices of the call's own -/
def OwnLL (w : World) (base : Nat) (v : Value) (LL : List (List Nat)) : Prop :=
  ∃ xs : List Value, w.ownsRow base 22 1 v LL.length xs ∧ ∀ (i : Nat) (l : List Nat), LL[i]? = some l → ∃ p c, xs[i]? = some (.slice (some p) l.length c) ∧ RowI w (some p) l.length (getN l) ∧ ∀ g, v.ownBlock = some g → RowN w g (some p) l.length (getN l)
theorem ownsRow_keep {w w' : World} {base size n : Nat} {e : TypeId} {v : Value} {xs : List Value} (h : w.ownsRow base e size v n xs) (hb : Below w.heap.size w w') : w'.ownsRow base e size v n xs := by
  obtain ⟨h1, h2⟩ := h
  refine ⟨h1, ?_⟩
  rcases h2 with h2 | ⟨g, cap, cur, hv, hg, hh, r⟩
  · exact Or.inl h2
  · have hlt : g < w.heap.size := by
      apply Nat.lt_of_not_le; intro hle
      rw [Array.getElem?_eq_none hle] at hh; cases hh
    exact Or.inr ⟨g, cap, cur, hv, hg, by rw [hb.block g hlt]; exact hh, r⟩
theorem OwnLL.nil (w : World) (base : Nat) : OwnLL w base (.slice none 0 0) [] := ⟨[], World.ownsRow_nil _ _ _ _, fun i l h => by simp at h⟩
theorem OwnLL.keep {w w' : World} {base : Nat} {v : Value} {LL : List (List Nat)} (h : OwnLL w base v LL) (hb : Below w.heap.size w w') : OwnLL w' base v LL := by
  obtain ⟨xs, ho, hx⟩ := h
  refine ⟨xs, ownsRow_keep ho hb, fun i l hi => ?_⟩
  obtain ⟨p, c, h1, h2, h3⟩ := hx i l hi
  exact ⟨p, c, h1, h2.keep hb, fun g hg => (h3 g hg).keep hb⟩
theorem OwnLL.push {w w2 : World} {base : Nat} {v v' : Value} {LL : List (List Nat)} {xs : List Value} {l : List Nat} {p0 : Addr} {c0 : Nat} {o : Obj}
    (ho : w.ownsRow base 22 1 v LL.length xs) (hx : ∀ (i : Nat) (l : List Nat), LL[i]? = some l → ∃ p c, xs[i]? = some (.slice (some p) l.length c) ∧ RowI w (some p) l.length (getN l) ∧ ∀ g, v.ownBlock = some g → RowN w g (some p) l.length (getN l))
    (h2 : w2.ownsRow base 22 1 v' (LL.length + 1) (xs ++ [.slice (some p0) l.length c0])) (hg : (w.alloc o).grownBy w2 v.ownBlock)
    (hat : v'.ownBlock = v.ownBlock ∨ v'.ownBlock = some (w.heap.size + 1)) (hr0 : RowI w (some p0) l.length (getN l)) (hoff : ∀ g, v.ownBlock = some g → RowN w g (some p0) l.length (getN l)) :
    OwnLL w2 base v' (LL ++ [l]) := by
  have hba : Below w.heap.size w (w.alloc o) := (Below.refl _ _).alloc (Nat.le_refl _) _
  have hxl : xs.length = LL.length := by have := ho.1; omega
  have key : ∀ (p : Addr) (m : Nat) (f : Nat → Int), RowI w (some p) m f → (∀ g, v.ownBlock = some g → RowN w g (some p) m f) → RowI w2 (some p) m f ∧ ∀ g, v'.ownBlock = some g → RowN w2 g (some p) m f := by
    intro p m f h1 h3
    have h4 := h1.keep hba
    have h5 := rowI_grow h4 hg (fun g e => (h3 g e).keep hba)
    refine ⟨h5, fun g e => ?_⟩
    rcases hat with e2 | e2
    · refine ⟨h5, (h3 g (by rw [← e2]; exact e)).2⟩
    · refine ⟨h5, fun q hq => ?_⟩
      rw [e2] at e
      injection e with e
      rcases h1 with h0 | ⟨b, off, e3, hl, _⟩
      · exact .inl h0
      · rw [e3] at hq
        injection hq with hq
        subst hq
        exact .inr (by simp; omega)
  refine ⟨xs ++ [.slice (some p0) l.length c0], by simpa using h2, fun i l' hi => ?_⟩
  by_cases hlt : i < LL.length
  · rw [List.getElem?_append_left hlt] at hi
    obtain ⟨p, c, h3, h4, h5⟩ := hx i l' hi
    obtain ⟨h6, h7⟩ := key p _ _ h4 h5
    exact ⟨p, c, by rw [List.getElem?_append_left (by omega)]; exact h3, h6, h7⟩
  · rw [List.getElem?_append_right (by omega)] at hi
    have h0 : i - LL.length = 0 := by
      apply Nat.eq_zero_of_not_pos; intro hpos
      rw [List.getElem?_eq_none (by simp; omega)] at hi; cases hi
    rw [h0] at hi
    have hl : l = l' := by simpa using hi
    subst hl
    obtain ⟨h6, h7⟩ := key p0 _ _ hr0 hoff
    exact ⟨p0, c0, by rw [List.getElem?_append_right (by omega), hxl, h0]; rfl, h6, h7⟩
theorem OwnLL.rows {w : World} {base : Nat} {v : Value} {LL : List (List Nat)} (h : OwnLL w base v LL) : ∃ a c, v = .slice a LL.length c ∧ RowsS w a LL.length (atL LL) := by
  obtain ⟨xs, ho, hx⟩ := h
  rcases ho.2 with ⟨rfl, h0⟩ | ⟨g, cap, cur, rfl, hg, hh, _⟩
  · rw [h0]; exact ⟨none, 0, rfl, .inl rfl⟩
  · refine ⟨_, _, rfl, .inr ⟨g, 0, rfl, ?_, fun i hi => ?_⟩⟩
    · apply Nat.lt_of_not_le; intro hle; rw [Array.getElem?_eq_none hle] at hh; cases hh
    · obtain ⟨l, hl⟩ : ∃ l, LL[i]? = some l := ⟨_, List.getElem?_eq_getElem hi⟩
      obtain ⟨p, c, h1, h2, _⟩ := hx i l hl
      rw [atL_get hl]
      exact ⟨p, c, by rw [Nat.zero_add, World.ownsRow.cellAt ho i (by omega)]; exact h1, h2⟩

/-! ### extend -/
theorem ownsF_heap {w : World} {base g n : Nat} {f : Nat → Int} (h : ownsF w base g n f) : w.heap[g]? = some (.cells (rowF n f).toArray 3 (0, 0)) := by
  rcases h.2 with ⟨h1, _⟩ | ⟨g', cap, cur, he, _, hh, h1, h2, h3, h4⟩
  · cases h1
  · injection he with e1 e2 e3
    injection e1 with e1
    injection e1 with e1
    subst e1
    subst e3
    rw [hh]
    have : cur = (rowF n f).toArray := by
      apply Array.ext'
      rw [← h4]
      simp
      exact (List.take_of_length_le (by simp [h3])).symm
    rw [this]
theorem ownsF_of_heap {w : World} {base g n : Nat} {f : Nat → Int} (h : w.heap[g]? = some (.cells (rowF n f).toArray 3 (0, 0))) (hb : base ≤ g) (hn : n ≤ maxLen) : ownsF w base g n f :=
  ⟨by simp [rowF_length], .inr ⟨g, n, _, rfl, hb, h, Nat.le_refl _, hn, by simp [rowF_length], by simp; exact List.take_of_length_le (by rw [rowF_length]; exact Nat.le_refl _)⟩⟩
theorem splice_row (n : Nat) (p z : Nat → Int) : splice (rowF (n + 1) z) 0 (rowF n p) = rowF (n + 1) fun t => if t < n then p t else z t := by
  apply List.ext_getElem?
  intro j
  unfold splice
  rw [List.take_zero, List.nil_append, Nat.zero_add, rowF_length]
  by_cases h1 : j < n
  · rw [List.getElem?_append_left (by rw [rowF_length]; exact h1), rowF_get h1, rowF_get (show j < n + 1 by omega), if_pos h1]
  · rw [List.getElem?_append_right (by rw [rowF_length]; omega), rowF_length, List.getElem?_drop]
    by_cases h2 : j < n + 1
    · rw [show n + (j - n) = j by omega, rowF_get h2, rowF_get h2, if_neg h1]
    · rw [List.getElem?_eq_none (by rw [rowF_length]; omega), List.getElem?_eq_none (by rw [rowF_length]; omega)]
set_option maxRecDepth 100000 in
set_option maxHeartbeats 1000000 in
theorem extend_ok (a : Option Addr) (c k : Nat) (l : List Nat) (w : World) (hr : RowI w a l.length (getN l)) (hn : l.length ≤ 4096) (hk : k ≤ 9223372036854775807) :
    Calls Try.prog 52 #[.slice a l.length c, .int .i64 k] w (Fresh w (l.length + 1) (getN (l ++ [k]))) := by
  have H1 := Lib.hid hr
  obtain ⟨n, hne⟩ : ∃ n, n = l.length := ⟨_, rfl⟩
  have HL := Lib.hid hne
  rw [← hne] at H1 hn ⊢
  clear hr hne
  obtain ⟨i0, hi, hz0, hz1, hz2⟩ := info_parts infoI
  go_enter Try.func52, Try.ntmps52
  go_wp2_with (refine wpList_make_full _ rfl _ _ 22 rfl w.heap.size 3 i0 (.int .i64 0) 1 Try.underlying22 hi hz0 hz1 .i64 .i64 _ _ (n + 1) rfl rfl (by simp) (by simp) ?c1 ?c2 ?c3 ?_)
  try (case c1 => first | (rw [hz2]; omega) | omega)
  try (case c2 => unfold maxLen; omega)
  try (case c3 => exact Nat.le_refl _)
  intro w1 hown0 hg1
  have hb1 : Below w.heap.size w w1 := (Below.refl _ w).grown hg1 (Nat.le_refl _) (by intro k hk; cases hk)
  have hown := fresh_own (f := zeF) hown0
  have HH : Hid (w1.heap[w.heap.size]? = some (.cells (rowF (n + 1) zeF).toArray 3 (0, 0))) := Lib.hid (ownsF_heap (ownsF_congr hown fun t _ => (upG_zero _ _ _ : upG 0 0 zeF t = zeF t)))
  have HB := Lib.hid hb1
  obtain ⟨cs, hcs⟩ : ∃ cs, cs = rowF n (getN l) := ⟨_, rfl⟩
  have hcl : cs.length = n := by rw [hcs, rowF_length]
  have HCL := Lib.hid hcl
  have H1c := Lib.hid (show ∀ u ∈ cs, u.oneCell' = true by rw [hcs]; intro u hu; simp only [rowF, List.mem_map] at hu; obtain ⟨t, _, rfl⟩ := hu; rfl)
  have HSP := Lib.hid (show splice (rowF (n + 1) zeF) 0 cs = rowF (n + 1) (fun t => if t < n then getN l t else zeF t) by rw [hcs]; exact splice_row n _ _)
  have HN := Lib.hid (show 0 < cs.length → (some (⟨w.heap.size, 0, none⟩ : Addr)) = some ⟨w.heap.size, 0, none⟩ ∧ ∃ ad, a = some ad ∧ ∀ j u, cs[j]? = some u → w1.cell? (ad.add j) = some u by
    intro hpos
    rcases H1.out.keep hb1 with h0 | ⟨b, off, rfl, hl, hc⟩
    · omega
    · refine ⟨rfl, _, rfl, fun j u hu => ?_⟩
      have hj : j < n := by
        apply Nat.lt_of_not_le
        intro hle
        rw [List.getElem?_eq_none (by omega)] at hu
        cases hu
      rw [hcs, rowF_get hj] at hu
      have h2 : (⟨b, off, none⟩ : Addr).add j = ⟨b, off + j, none⟩ := by unfold Addr.add; split <;> simp_all
      rw [h2, (hc j hj).1, hu])
  clear hown0 hg1 hb1 hown hcs hcl
  go_wp2_with (
     refine wpList_copy_splice rfl _ _ _ _ rfl 3 Try.underlying22 (by kernel_rfl) _ _ _ _ _ _ rfl rfl w.heap.size 0 (rowF (n + 1) zeF) 3 HH.out cs (by rw [HCL.out]; exact (Nat.min_eq_left (by omega)).symm) HN.out (by rw [HCL.out, rowF_length]; omega) H1c.out w.heap.size w HB.out (Nat.le_refl _) ?_
     intro w2 hg2 hb2
     have HO := Lib.hid (ownsF_of_heap (base := w.heap.size) (by have := hg2.out; rw [HSP.out] at this; exact this) (Nat.le_refl _) (by unfold maxLen; omega))
     have HB2 := Lib.hid hb2
     have hcell := ownsF_cell HO.out (show n < n + 1 by omega)
     have hfree := ownsF_free HO.out n
     clear hg2 hb2)
  go_ret
  refine ⟨_, rfl, Nat.le_refl _, ownsF_congr (ownsF_set HO.out n (k : Int)) fun t ht => ?_, HB2.out.setCell (Nat.le_refl _) _⟩
  by_cases e : t = n
  · rw [if_pos e, e, HL.out, getN_last]
  · rw [if_neg e, if_pos (by omega), getN_app (by rw [← HL.out]; omega)]
end Go.Proofs.Ytfgpjkkdgjhkfaa
