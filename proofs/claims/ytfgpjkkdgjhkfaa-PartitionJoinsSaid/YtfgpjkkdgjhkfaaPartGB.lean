/- Lists of pairs of the call's own; facts on the partition of pairs. -/
import Derived.Test.YtfgpjkkdgjhkfaaPartGA
import Derived.Test.YtfgpjkkdgjhkfaaPartFE
import Derived.Test.YtfgpjkkdgjhkfaaPartHC
import Derived.Laws.AppendOwnNone
import Derived.Deep.RegionLaw
namespace Go.Proofs.Ytfgpjkkdgjhkfaa
open Go Go.RowKit Go.Maps
set_option linter.unusedVariables false


theorem infoP : (Try.prog.info? 39).map (fun i => (i.zero, i.size, i.bytes)) = some (some (.agg #[.int .i64 0, .int .i64 0]), 2, 16) := by kernel_rfl
/-! ### lists of pairs -/
def rowPr (L : List (Int × Int)) : List Value := L.flatMap fun z => [Value.int .i64 z.1, Value.int .i64 z.2]
theorem rowPr_length (L : List (Int × Int)) : (rowPr L).length = L.length * 2 := by
  induction L with
  | nil => rfl
  | cons z L ih => simp [rowPr] at ih ⊢; omega
theorem rowPr_append (L M : List (Int × Int)) : rowPr (L ++ M) = rowPr L ++ rowPr M := by simp [rowPr]
theorem rowPr_get : ∀ {L : List (Int × Int)} {i : Nat} {z : Int × Int}, L[i]? = some z → (rowPr L)[i * 2]? = some (.int .i64 z.1) ∧ (rowPr L)[i * 2 + 1]? = some (.int .i64 z.2)
  | [], i, z, h => by simp at h
  | y :: L, 0, z, h => by
    have : y = z := by simpa using h
    subst this
    exact ⟨rfl, rfl⟩
  | y :: L, i + 1, z, h => by
    have ih := rowPr_get (L := L) (i := i) (z := z) (by simpa using h)
    have e1 : rowPr (y :: L) = [Value.int .i64 y.1, Value.int .i64 y.2] ++ rowPr L := by simp [rowPr]
    rw [e1, show (i + 1) * 2 = i * 2 + 2 by omega, show i * 2 + 2 + 1 = i * 2 + 1 + 2 by omega]
    exact ⟨by rw [List.getElem?_append_right (by simp)]; simpa using ih.1, by rw [List.getElem?_append_right (by simp)]; simpa using ih.2⟩
theorem rowPr_one {L : List (Int × Int)} : ∀ u ∈ rowPr L, u.oneCell' = true := by
  intro u hu
  simp only [rowPr, List.mem_flatMap] at hu
  obtain ⟨z, _, hz⟩ := hu
  simp at hz
  rcases hz with rfl | rfl <;> rfl
def getA (L : List (Int × Int)) (i : Nat) : Int := (L.getD i (0, 0)).1
def getB (L : List (Int × Int)) (i : Nat) : Int := (L.getD i (0, 0)).2
theorem getA_at {L : List (Int × Int)} {i : Nat} {z : Int × Int} (h : L[i]? = some z) : getA L i = z.1 ∧ getB L i = z.2 := by simp [getA, getB, h]
/-- a list of pairs of the call's own -/
def OwnP (w : World) (base : Nat) (v : Value) (L : List (Int × Int)) : Prop := w.ownsRow base 39 2 v L.length (rowPr L)
theorem OwnP.shape {w : World} {base : Nat} {v : Value} {L : List (Int × Int)} (h : OwnP w base v L) : ∃ a c N, N = L.length ∧ v = .slice a N c := by
  rcases h.2 with ⟨rfl, h0⟩ | ⟨g, cap, cur, rfl, _⟩
  · exact ⟨none, 0, 0, h0.symm, rfl⟩
  · exact ⟨_, _, _, rfl, rfl⟩
theorem OwnP.row {w : World} {base : Nat} {a : Option Addr} {N c : Nat} {L : List (Int × Int)} (h : OwnP w base (.slice a N c) L) (hb : ∀ z ∈ L, B64 z.1 ∧ B64 z.2) : RowP w a L.length (getA L) (getB L) := by
  rcases h.2 with ⟨_, h0⟩ | ⟨g, cap, cur, he, hg, hh, _⟩
  · exact .inl h0
  · by_cases h0 : L.length = 0
    · exact .inl h0
    injection he with e1 e2 e3
    subst e1; subst e2; subst e3
    have key : ∀ i, i < L.length → (w.cell? ⟨g, 0 + i * 2, none⟩ = some (.int .i64 (getA L i)) ∧ w.cell? ⟨g, 0 + i * 2 + 1, none⟩ = some (.int .i64 (getB L i))) ∧ B64 (getA L i) ∧ B64 (getB L i) := by
      intro i hi
      have hz := List.getElem?_eq_getElem hi
      obtain ⟨h1, h2⟩ := rowPr_get hz
      obtain ⟨h3, h4⟩ := getA_at hz
      rw [Nat.zero_add, World.ownsRow.cellAt h (i * 2) (by omega), World.ownsRow.cellAt h (i * 2 + 1) (by omega), h3, h4]
      exact ⟨⟨h1, h2⟩, hb _ (List.getElem_mem hi)⟩
    refine .inr ⟨g, 0, rfl, cell_lt (s := none) (by have := (key 0 (by omega)).1.1; exact this), key⟩
theorem OwnP.nil (w : World) (base : Nat) : OwnP w base (.slice none 0 0) [] := World.ownsRow_nil _ _ _ _
theorem OwnP.empty (w : World) : OwnP (w.alloc (.cells #[] 39)) w.heap.size (.slice (some ⟨w.heap.size, 0, none⟩) 0 0) [] :=
  World.ownsRow_lit w #[] 0 (Nat.le_refl _) (by unfold maxLen; omega) rfl
/-- the pairs that A and B give -/
def prL (A B : Nat → Int) (m : Nat) : List (Int × Int) := (List.range m).map fun i => (A i, B i)
theorem prL_len (A B : Nat → Int) (m : Nat) : (prL A B m).length = m := by simp [prL]
theorem prL_get {A B : Nat → Int} {m i : Nat} (h : i < m) : (prL A B m)[i]? = some (A i, B i) := by simp [prL, h]
theorem prL_cells {w : World} {ad : Addr} {m : Nat} {A B : Nat → Int} (h : RowP w (some ad) m A B) : ad.block < w.heap.size ∨ m = 0 := by
  rcases h with h | ⟨b, off, he, hl, _⟩
  · exact .inr h
  · obtain rfl := Option.some.inj he; exact .inl hl
theorem prL_at {w : World} {ad : Addr} {m : Nat} {A B : Nat → Int} (h : RowP w (some ad) m A B) : ∀ j u, (rowPr (prL A B m))[j]? = some u → w.cell? (ad.add j) = some u := by
  intro j u hu
  have hj : j < m * 2 := by
    apply Nat.lt_of_not_le; intro hle
    rw [List.getElem?_eq_none (by rw [rowPr_length, prL_len]; omega)] at hu; cases hu
  rcases h with h | ⟨b, off, he, hl, hc⟩
  · omega
  · obtain rfl := Option.some.inj he
    have ha : ∀ i, (⟨b, off, none⟩ : Addr).add i = ⟨b, off + i, none⟩ := fun i => by unfold Addr.add; split <;> simp_all
    have hi : j / 2 < m := by omega
    obtain ⟨h1, h2⟩ := rowPr_get (prL_get (A := A) (B := B) hi)
    obtain ⟨⟨h3, h4⟩, _⟩ := hc (j / 2) hi
    rw [ha]
    rcases Nat.mod_two_eq_zero_or_one j with e | e
    · rw [show j / 2 * 2 = j by omega] at h1 h3
      rw [h1] at hu
      rw [h3, ← hu]
    · rw [show j / 2 * 2 + 1 = j by omega] at h2
      rw [Nat.add_assoc, show j / 2 * 2 + 1 = j by omega] at h4
      rw [h2] at hu
      rw [h4, ← hu]
/-- append of a slice that came in, nil or not -/
theorem wpList_append_opt {P : Program} {w : World} {ops : Array Oper} {rest : List Oper} {o : Oper} {a : Act} {Q : Exit → Act → World → Prop} (hgd : o.guard = none) (s x : Operand) (t : TypeId)
    (ho : o.op = .call { callee := .builtin .append, args := #[s, x], argTypes := #[t, t] })
    (base : Nat) (e : TypeId) (i : TypeInfo) (z : Value) (size bytes : Nat) (ht : P.underlying t = some (.slice e)) (hi : P.info? e = some i) (hz : i.zero = some z)
    (hsize : i.size = size) (hby : i.bytes = bytes) (hzs : z.cells.size = size) (hsz : 0 < size)
    (v : Value) (n : Nat) (xs : List Value) (hs : a.eval s = v) (hown : w.ownsRow base e size v n xs)
    (ao : Option Addr) (m c : Nat) (news : List Value) (hx : a.eval x = .slice ao m c) (h0 : ao = none → m = 0 ∧ c = 0) (hl : news.length = m * size) (hnews : ∀ ad, ao = some ad → ∀ j u, news[j]? = some u → w.cell? (ad.add j) = some u) (h1 : ∀ u ∈ news, u.oneCell' = true)
    (h63 : n + m ≤ maxLen) (hbytes : (n + m) * bytes ≤ 140737488355328) (hbase : base ≤ w.heap.size)
    (h : ∀ v' w', w'.ownsRow base e size v' (n + m) (xs ++ news) → w.grownBy w' v.ownBlock → wpList P ops Q rest (a.put o.dst v') w') : wpList P ops Q (o :: rest) a w := by
  cases ao with
  | none =>
    obtain ⟨rfl, rfl⟩ := h0 rfl
    obtain rfl : news = [] := List.eq_nil_of_length_eq_zero (by omega)
    refine wpList_append_own_none hgd s x t ho base e i size ht hi v n xs hs hown hx (h v w (by simpa using hown) (World.grownBy.refl _ _))
  | some ad => exact wpList_append_own w hgd s x t ho base e i z size bytes ht hi hz hsize hby hzs hsz v n xs hs hown ad m c news hx hl (hnews ad rfl) h1 h63 hbytes hbase fun v' w' h2 h3 _ => h v' w' h2 h3
theorem cell_two_new (w : World) (u0 u1 : Value) (e : TypeId) : ∀ j x, ([u0, u1] : List Value)[j]? = some x → (w.alloc (.cells #[u0, u1] e)).cell? ((⟨w.heap.size, 0, none⟩ : Addr).add j) = some x := by
  intro j x h
  have hj : j < 2 := by
    apply Nat.lt_of_not_le; intro hle; rw [List.getElem?_eq_none (by simpa using hle)] at h; cases h
  have hown := World.ownsRow_lit (base := 0) (e := e) (size := 1) w #[u0, u1] 2 (Nat.zero_le _) (by unfold maxLen; omega) rfl
  have hc := World.ownsRow.cellAt hown j (by omega)
  have ha : (⟨w.heap.size, 0, none⟩ : Addr).add j = ⟨w.heap.size, j, none⟩ := by unfold Addr.add; split <;> simp_all
  rw [ha]
  exact hc.trans h
/-- append of one new pair at a step of a region that draws its order -/
theorem step_push2 {P : Program} {ops : Array Oper} {o : Oper} {a : Act} {w1 w : World} {K : Act → World → Prop} {Q : Exit → Act → World → Prop} {E : Prop} (hgd : o.guard = none) (s x : Operand) (t : TypeId)
    (ho : o.op = .call { callee := .builtin .append, args := #[s, x], argTypes := #[t, t] })
    (base : Nat) (e : TypeId) (i : TypeInfo) (z : Value) (bytes : Nat) (ht : P.underlying t = some (.slice e)) (hi : P.info? e = some i) (hz : i.zero = some z)
    (hsize : i.size = 2) (hby : i.bytes = bytes) (hzs : z.cells.size = 2)
    (v : Value) (n : Nat) (xs : List Value) (hs : a.eval s = v) (u0 u1 : Value) (hw1 : w = (w1.alloc (.cells #[u0, u1] e)).drew) (hown : w1.ownsRow base e 2 v n xs)
    (hx : a.eval x = .slice (some ⟨w1.heap.size, 0, none⟩) 1 1) (h1 : u0.oneCell' = true) (h2 : u1.oneCell' = true)
    (h63 : n + 1 ≤ maxLen) (hbytes : (n + 1) * bytes ≤ 140737488355328) (hb : base ≤ w1.heap.size)
    (h : ∀ v' w', w'.ownsRow base e 2 v' (n + 1) (xs ++ [u0, u1]) → (w1.alloc (.cells #[u0, u1] e)).grownBy w' v.ownBlock → K (a.put o.dst v') w') :
    if Region.wanted o (yielded ops a.tmps) = true then Oper.wp P o a w K Q else E := by
  have hw : Region.wanted o (yielded ops a.tmps) = true := by simp [Region.wanted, hgd]
  rw [if_pos hw]
  subst hw1
  refine wp_append_own (w1.alloc (.cells #[u0, u1] e)).drew s x t ho base e i z 2 bytes ht hi hz hsize hby hzs (by decide) v n xs hs (show World.ownsRow (World.drew _) _ _ _ _ _ _ from hown.alloc _) ⟨w1.heap.size, 0, none⟩ 1 1 [u0, u1] hx rfl (cell_two_new w1 u0 u1 e) (by intro y hy; simp at hy; rcases hy with rfl | rfl <;> assumption) h63 hbytes (by show base ≤ (w1.alloc (.cells #[u0, u1] e)).heap.size; simp; omega) ?_
  intro v' w' h3 h4 _
  exact h v' w' h3 ⟨h4.os, h4.tape, h4.output, h4.size, h4.block⟩

/-! ### the partition of two lists of pairs -/
theorem fr_le {n m : Nat} {A B h : Nat → Int} (hm : ∀ t, t < m → ptN A t < n ∧ ptN B t < n) : refB n (frF m A B) h = true ↔ PP m (ptN A) (ptN B) h := by
  unfold frF
  rw [refB_pl (pat_can n _), refB_iff]
  constructor
  · intro H t ht
    exact H _ _ (hm t ht).1 (hm t ht).2 ((pairF_least hm).1 t ht)
  · intro H i j hi hj e
    exact (pairF_least hm).2 h H i j hi hj e
theorem val_fr {n : Nat} (hn : n ≤ 4096) (m : Nat) (A B : Nat → Int) : valP n (frF m A B) = true := valP_can hn _
def bothL (A B : Nat → Int) (m : Nat) (A' B' : Nat → Int) (m' : Nat) : List (Int × Int) := prL A B m ++ prL A' B' m'
theorem both_get {A B A' B' : Nat → Int} {m m' : Nat} {i : Nat} : (i < m → getA (bothL A B m A' B' m') i = A i ∧ getB (bothL A B m A' B' m') i = B i) ∧ (i < m' → getA (bothL A B m A' B' m') (m + i) = A' i ∧ getB (bothL A B m A' B' m') (m + i) = B' i) := by
  constructor
  · intro h
    exact getA_at (z := (A i, B i)) (by unfold bothL; rw [List.getElem?_append_left (by rw [prL_len]; exact h)]; exact prL_get h)
  · intro h
    exact getA_at (z := (A' i, B' i)) (by unfold bothL; rw [List.getElem?_append_right (by rw [prL_len]; omega), prL_len, show m + i - m = i by omega]; exact prL_get h)
theorem both_may {n : Nat} {A B A' B' : Nat → Int} {m m' : Nat} (h : mayB n m A B = true) (h' : mayB n m' A' B' = true) : mayB n (bothL A B m A' B' m').length (getA (bothL A B m A' B' m')) (getB (bothL A B m A' B' m')) = true := by
  refine mayB_iff.2 ⟨(mayB_iff.1 h).1, fun i hi => ?_⟩
  have hlen : (bothL A B m A' B' m').length = m + m' := by simp [bothL, prL_len]
  by_cases e : i < m
  · have := (both_get (A := A) (B := B) (A' := A') (B' := B') (m := m) (m' := m') (i := i)).1 e
    rw [this.1, this.2]; exact (mayB_iff.1 h).2 i e
  · have := (both_get (A := A) (B := B) (A' := A') (B' := B') (m := m) (m' := m') (i := i - m)).2 (by omega)
    rw [show m + (i - m) = i by omega] at this
    rw [this.1, this.2]; exact (mayB_iff.1 h').2 (i - m) (by omega)
theorem both_pp {A B A' B' h : Nat → Int} {m m' : Nat} : PP (bothL A B m A' B' m').length (ptN (getA (bothL A B m A' B' m'))) (ptN (getB (bothL A B m A' B' m'))) h ↔ PP m (ptN A) (ptN B) h ∧ PP m' (ptN A') (ptN B') h := by
  have hlen : (bothL A B m A' B' m').length = m + m' := by simp [bothL, prL_len]
  constructor
  · intro H
    refine ⟨fun t ht => ?_, fun t ht => ?_⟩
    · have h1 := H t (by omega)
      have h2 := (both_get (A := A) (B := B) (A' := A') (B' := B') (m := m) (m' := m') (i := t)).1 ht
      unfold ptN at h1 ⊢; rw [h2.1, h2.2] at h1; exact h1
    · have h1 := H (m + t) (by omega)
      have h2 := (both_get (A := A) (B := B) (A' := A') (B' := B') (m := m) (m' := m') (i := t)).2 ht
      unfold ptN at h1 ⊢; rw [h2.1, h2.2] at h1; exact h1
  · rintro ⟨H1, H2⟩ t ht
    by_cases e : t < m
    · have h1 := H1 t e
      have h2 := (both_get (A := A) (B := B) (A' := A') (B' := B') (m := m) (m' := m') (i := t)).1 e
      unfold ptN at h1 ⊢; rw [h2.1, h2.2]; exact h1
    · have h1 := H2 (t - m) (by omega)
      have h2 := (both_get (A := A) (B := B) (A' := A') (B' := B') (m := m) (m' := m') (i := t - m)).2 (by omega)
      rw [show m + (t - m) = t by omega] at h2
      unfold ptN at h1 ⊢; rw [h2.1, h2.2]; exact h1
theorem both_same {n : Nat} {A B A' B' : Nat → Int} {m m' : Nat} (h : mayB n m A B = true) (h' : mayB n m' A' B' = true) :
    sameB n (frF (bothL A B m A' B' m').length (getA (bothL A B m A' B' m')) (getB (bothL A B m A' B' m'))) n (jnF n (frF m A B) (frF m' A' B')) = true := by
  have hn : n ≤ 4096 := by have := (mayB_iff.1 h).1; omega
  have hb := both_may h h'
  refine same_of (val_fr hn _ _ _) (val_jn hn _ _) ?_ ?_
  · rw [fr_le (pt_in hb), both_pp, ← fr_le (pt_in h), ← fr_le (pt_in h')]
    exact jn_le.1 (ref_refl n _)
  · rw [jn_le, fr_le (pt_in h), fr_le (pt_in h'), ← both_pp, ← fr_le (pt_in hb)]
    exact ref_refl n _

/-! ### the neighbours in the classes -/
/-- the first j neighbours in a list -/
def cpL (l : List Nat) (j : Nat) : List (Int × Int) := (List.range j).map fun t => (getN l t, getN l (t + 1))
theorem cpL_len (l : List Nat) (j : Nat) : (cpL l j).length = j := by simp [cpL]
theorem cpL_succ (l : List Nat) (j : Nat) : cpL l (j + 1) = cpL l j ++ [(getN l j, getN l (j + 1))] := by simp [cpL, List.range_succ]
/-- those in the first k classes -/
def ownA (f : Nat → Int) (n k : Nat) : List (Int × Int) := (List.range k).flatMap fun c => cpL (clL f n c) ((clL f n c).length - 1)
theorem ownA_succ (f : Nat → Int) (n k : Nat) : ownA f n (k + 1) = ownA f n k ++ cpL (clL f n k) ((clL f n k).length - 1) := by simp [ownA, List.range_succ]
theorem ownA_len (f : Nat → Int) (n : Nat) : ∀ k, (ownA f n k).length ≤ k * n
  | 0 => by simp [ownA]
  | k + 1 => by
    have := ownA_len f n k
    have := clL_len f n k
    rw [ownA_succ, List.length_append, cpL_len, Nat.succ_mul]; omega
theorem clL_pos {f : Nat → Int} {n c : Nat} (h : c < cls f n) : 0 < (clL f n c).length := by
  obtain ⟨j, hj, hn, hc⟩ := cls_surj h
  have hm : j ∈ clL f n c := by unfold clL; exact List.mem_filter.2 ⟨by simpa using hj, by simp [canN_new hn, hc]⟩
  exact List.length_pos_of_mem hm
theorem clL_same {f : Nat → Int} {n c x y : Nat} (hx : x ∈ clL f n c) (hy : y ∈ clL f n c) : f x = f y := by
  unfold clL at hx hy
  have h1 : canN f x = c := by simpa using (List.mem_filter.1 hx).2
  have h2 : canN f y = c := by simpa using (List.mem_filter.1 hy).2
  exact canN_inj.1 (by rw [h1, h2])
theorem ownA_mem {f : Nat → Int} {n k : Nat} {z : Int × Int} (h : z ∈ ownA f n k) : ∃ x y : Nat, z = ((x : Int), (y : Int)) ∧ x < n ∧ y < n ∧ f x = f y := by
  obtain ⟨c, _, hz⟩ := List.mem_flatMap.1 h
  obtain ⟨t, ht, rfl⟩ := List.mem_map.1 hz
  have htl := List.mem_range.1 ht
  have h1 := List.getElem?_eq_getElem (show t < (clL f n c).length by omega)
  have h2 := List.getElem?_eq_getElem (show t + 1 < (clL f n c).length by omega)
  refine ⟨_, _, by rw [getN_at h1, getN_at h2], clL_lt (List.getElem_mem _), clL_lt (List.getElem_mem _), clL_same (List.getElem_mem _) (List.getElem_mem _)⟩
theorem ownA_may {f : Nat → Int} {n k : Nat} (hn : n ≤ 4096) : mayB n (ownA f n k).length (getA (ownA f n k)) (getB (ownA f n k)) = true := by
  refine mayB_iff.2 ⟨by omega, fun i hi => ?_⟩
  have h1 := List.getElem?_eq_getElem hi
  obtain ⟨x, y, e, hx, hy, _⟩ := ownA_mem (List.getElem_mem hi)
  obtain ⟨h2, h3⟩ := getA_at h1
  rw [h2, h3, e]
  omega
theorem ownA_b {f : Nat → Int} {n k : Nat} (hn : n ≤ 4096) : ∀ z ∈ ownA f n k, B64 z.1 ∧ B64 z.2 := by
  intro z hz
  obtain ⟨x, y, rfl, hx, hy, _⟩ := ownA_mem hz
  unfold B64; constructor <;> omega
theorem ownA_pp {f h : Nat → Int} {n : Nat} : PP (ownA f n (cls f n)).length (ptN (getA (ownA f n (cls f n)))) (ptN (getB (ownA f n (cls f n)))) h ↔ refB n f h = true := by
  constructor
  · intro H
    have hpair : ∀ x y : Nat, ((x : Int), (y : Int)) ∈ ownA f n (cls f n) → h x = h y := by
      intro x y hm
      obtain ⟨i, hi⟩ := List.getElem?_of_mem hm
      have hlt : i < (ownA f n (cls f n)).length := by
        apply Nat.lt_of_not_le; intro hle; rw [List.getElem?_eq_none hle] at hi; cases hi
      have h1 := H i hlt
      obtain ⟨h2, h3⟩ := getA_at hi
      unfold ptN at h1
      rw [h2, h3] at h1
      exact h1
    rw [refB_iff0]
    intro i hi
    have hc := canN_lt (f := f) hi
    obtain ⟨l, hl⟩ : ∃ l, l = clL f n (canN f i) := ⟨_, rfl⟩
    have hm : i ∈ l := by rw [hl]; unfold clL; exact List.mem_filter.2 ⟨by simpa using hi, by simp⟩
    have hhd := hd_fst (by rw [← hl]; exact hm : i ∈ clL f n (canN f i))
    unfold hdL at hhd
    rw [← hl] at hhd
    have hstep : ∀ t, t < l.length → h (l.getD t 0) = h (l.getD 0 0) := by
      intro t
      induction t with
      | zero => intro _; rfl
      | succ t ih =>
        intro ht
        rw [← ih (by omega)]
        have h1 := List.getElem?_eq_getElem (show t < l.length by omega)
        have h2 := List.getElem?_eq_getElem ht
        have : ((l.getD t 0 : Nat) : Int) = getN l t := rfl
        refine (hpair (l.getD t 0) (l.getD (t + 1) 0) ?_).symm
        unfold ownA
        refine List.mem_flatMap.2 ⟨canN f i, List.mem_range.2 hc, ?_⟩
        rw [← hl]
        unfold cpL
        exact List.mem_map.2 ⟨t, List.mem_range.2 (by omega), rfl⟩
    obtain ⟨t, ht⟩ := List.getElem?_of_mem hm
    have htl : t < l.length := by
      apply Nat.lt_of_not_le; intro hle; rw [List.getElem?_eq_none hle] at ht; cases ht
    have h3 := hstep t htl
    rw [List.getD_eq_getElem?_getD, ht] at h3
    rw [← hhd]
    exact h3
  · intro H t ht
    have h1 := List.getElem?_eq_getElem ht
    obtain ⟨x, y, e, hx, hy, hxy⟩ := ownA_mem (List.getElem_mem ht)
    obtain ⟨h2, h3⟩ := getA_at h1
    unfold ptN
    rw [h2, h3, e]
    exact refB_iff.1 H x y hx hy hxy
theorem ownA_same {f : Nat → Int} {n : Nat} (hv : valP n f = true) :
    sameB n (frF (ownA f n (cls f n)).length (getA (ownA f n (cls f n))) (getB (ownA f n (cls f n)))) n f = true := by
  have hn := (valP_iff.1 hv).1
  have hm := pt_in (ownA_may (f := f) (k := cls f n) hn)
  refine same_of (val_fr hn _ _ _) hv ?_ ?_
  · rw [fr_le hm, ownA_pp]; exact ref_refl n f
  · rw [← ownA_pp, ← fr_le hm]; exact ref_refl n _
end Go.Proofs.Ytfgpjkkdgjhkfaa
