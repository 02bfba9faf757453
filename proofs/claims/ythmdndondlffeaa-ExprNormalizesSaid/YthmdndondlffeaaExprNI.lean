/- Facts: normal forms do not depend on order, repetitions, or nesting (for ExprIgnores). -/
import Derived.Test.YthmdndondlffeaaExprNO
namespace Go.Proofs.Ythmdndondlffeaa
set_option linter.unusedVariables false
theorem flatT_cons (op : Int) (k : T) (ks : List T) : flatT op (k :: ks) = flatT op [k] ++ flatT op ks := by simp [flatT]
theorem flatT_append (op : Int) (a b : List T) : flatT op (a ++ b) = flatT op a ++ flatT op b := by simp [flatT]
theorem partsT_append (op : Int) (ne : T) (a b : List T) : partsT op ne (a ++ b) = partsT op ne a ++ partsT op ne b := by simp [partsT, flatT_append]
theorem Trip.ne_op {op : Int} {ab ne : T} (h : Trip op ab ne) : ne.op ≠ op ∧ ab.op ≠ op ∧ ab ≠ ne := by
  rcases h with ⟨rfl, rfl, rfl⟩ | ⟨rfl, rfl, rfl⟩ | ⟨rfl, rfl, rfl⟩
  · exact ⟨by decide, by decide, by rw [← isT_no]; decide +kernel⟩
  · exact ⟨by decide, by decide, by rw [← isT_no]; decide +kernel⟩
  · exact ⟨by decide, by decide, by rw [← isT_no]; decide +kernel⟩
/-- does the absorbing one lie there -/
def hasT (op : Int) (ab : T) (ks : List T) : Bool := (flatT op ks).any (fun k => isT k ab)
theorem hasT_iff {op : Int} {ab : T} {ks : List T} : hasT op ab ks = true ↔ ab ∈ flatT op ks := by
  unfold hasT
  rw [List.any_eq_true]
  constructor
  · rintro ⟨x, hx, h⟩; rw [(isT_iff _ _).1 h] at hx; exact hx
  · exact fun h => ⟨ab, h, (isT_iff _ _).2 rfl⟩
theorem flatT_one {op : Int} {k : T} (h : k.op ≠ op) : flatT op [k] = [k] := by simp [flatT, h]
/-- the parts of what is handed back -/
theorem parts_out {op : Int} {ab ne : T} (h : Trip op ab ne) {qs : List T} (hq : ∀ z, z ∈ qs → z.op ≠ op ∧ z ≠ ne) : partsT op ne [outT op ne qs] = qs := by
  match qs, hq with
  | [], _ => unfold partsT; rw [outT, flatT_one h.ne_op.1]; simp [isT, cmpT_self]
  | [k], hq =>
    have hk := hq k (by simp)
    unfold partsT; rw [outT, flatT_one hk.1]; simp [(isT_no _ _).2 hk.2]
  | a :: b :: l, hq =>
    have hf : flatT op [outT op ne (a :: b :: l)] = a :: b :: l := by simp [flatT, outT, T.op, T.ks]
    unfold partsT
    rw [hf, List.filter_eq_self]
    intro k hk
    rw [(isT_no _ _).2 (hq k hk).2]; rfl
theorem flat_of_parts {op : Int} {ne : T} {ks : List T} {z : T} : z ∈ flatT op ks ↔ z ∈ partsT op ne ks ∨ (z = ne ∧ ne ∈ flatT op ks) := by
  simp only [partsT, List.mem_filter, Bool.not_eq_true', isT_no]
  constructor
  · intro h
    by_cases e : z = ne
    · exact .inr ⟨e, e ▸ h⟩
    · exact .inl ⟨h, e⟩
  · rintro (h | ⟨e, h⟩)
    · exact h.1
    · rw [e]; exact h
theorem has_parts {op : Int} {ab ne : T} (h : Trip op ab ne) {ks : List T} : ab ∈ flatT op ks ↔ ab ∈ partsT op ne ks := by
  rw [flat_of_parts (ne := ne)]
  exact ⟨fun h' => h'.elim id fun e => absurd e.1 h.ne_op.2.2, .inl⟩
/-- a list's normal form hangs only on its parts -/
theorem listT_parts {op : Int} {ab ne : T} (h : Trip op ab ne) (ks : List T) : listT op ab ne ks = if (partsT op ne ks).any (fun k => isT k ab) then ab else outT op ne (if op = 5 then partsT op ne ks else setT (partsT op ne ks)) := by
  unfold listT
  have : ((flatT op ks).any fun k => isT k ab) = ((partsT op ne ks).any fun k => isT k ab) := by
    rw [Bool.eq_iff_iff, List.any_eq_true, List.any_eq_true]
    constructor
    · rintro ⟨x, hx, e⟩
      rw [isT_iff] at e; subst e
      exact ⟨x, (has_parts h).1 hx, (isT_iff _ _).2 rfl⟩
    · rintro ⟨x, hx, e⟩
      rw [isT_iff] at e; subst e
      exact ⟨x, (has_parts h).2 hx, (isT_iff _ _).2 rfl⟩
  rw [this]
theorem listT_congr {op : Int} {ab ne : T} (h : Trip op ab ne) {ks ms : List T} (h5 : op = 5 → partsT op ne ks = partsT op ne ms) (hm : ∀ z, z ∈ partsT op ne ks ↔ z ∈ partsT op ne ms) : listT op ab ne ks = listT op ab ne ms := by
  rw [listT_parts h, listT_parts h]
  have h1 : ((partsT op ne ks).any fun k => isT k ab) = ((partsT op ne ms).any fun k => isT k ab) := by
    rw [Bool.eq_iff_iff, List.any_eq_true, List.any_eq_true]
    exact ⟨fun ⟨x, hx, e⟩ => ⟨x, (hm x).1 hx, e⟩, fun ⟨x, hx, e⟩ => ⟨x, (hm x).2 hx, e⟩⟩
  rw [h1]
  split
  · rfl
  · split
    · rename_i e; rw [h5 e]
    · rw [setT_ext hm]
/-- if the absorbing one lies in the parts, the list's normal form is that one -/
theorem listT_ab {op : Int} {ab ne : T} (h : Trip op ab ne) {ks : List T} (ha : ab ∈ partsT op ne ks) : listT op ab ne ks = ab := by
  rw [listT_parts h, if_pos (show ((partsT op ne ks).any fun k => isT k ab) = true from List.any_eq_true.2 ⟨ab, ha, (isT_iff _ _).2 rfl⟩)]
theorem listT_no {op : Int} {ab ne : T} (h : Trip op ab ne) {ks : List T} (ha : ab ∉ partsT op ne ks) : listT op ab ne ks = outT op ne (if op = 5 then partsT op ne ks else setT (partsT op ne ks)) := by
  rw [listT_parts h, if_neg]
  intro hx
  obtain ⟨x, hx2, e⟩ := List.any_eq_true.1 hx
  rw [isT_iff] at e; rw [e] at hx2; exact ha hx2
theorem parts_good {op : Int} {ab ne : T} (h : Trip op ab ne) {ks : List T} (hk : ∀ k, k ∈ ks → GoodT k) : ∀ z, z ∈ partsT op ne ks → z.op ≠ op ∧ z ≠ ne := fun z hz => by
  simp only [partsT, List.mem_filter, Bool.not_eq_true', isT_no] at hz
  exact ⟨(flatT_good h.ops hk z hz.1).2, hz.2⟩
/-- nesting a list in a list of the same operation changes nothing -/
theorem listT_nest {op : Int} {ab ne : T} (h : Trip op ab ne) {ks : List T} (hk : ∀ k, k ∈ ks → GoodT k) (ls ms : List T) : listT op ab ne (ls ++ listT op ab ne ks :: ms) = listT op ab ne (ls ++ ks ++ ms) := by
  by_cases ha : ab ∈ partsT op ne ks
  · rw [listT_ab h ha, listT_ab h (ks := ls ++ ks ++ ms) (by simp only [partsT_append, List.mem_append]; exact .inl (.inr ha)), listT_ab h]
    have : partsT op ne [ab] = [ab] := by unfold partsT; rw [flatT_one h.ne_op.2.1]; simp [(isT_no _ _).2 h.ne_op.2.2]
    rw [show ls ++ ab :: ms = ls ++ ([ab] ++ ms) from rfl, partsT_append, partsT_append, this]
    simp
  · rw [listT_no h ha]
    refine listT_congr h (fun h5 => ?_) fun z => ?_
    · rw [show ls ++ outT op ne (if op = 5 then partsT op ne ks else setT (partsT op ne ks)) :: ms = ls ++ ([outT op ne (if op = 5 then partsT op ne ks else setT (partsT op ne ks))] ++ ms) from rfl, if_pos h5, partsT_append, partsT_append, parts_out h (parts_good h hk), partsT_append, partsT_append, List.append_assoc]
    · rw [show ls ++ outT op ne (if op = 5 then partsT op ne ks else setT (partsT op ne ks)) :: ms = ls ++ ([outT op ne (if op = 5 then partsT op ne ks else setT (partsT op ne ks))] ++ ms) from rfl, partsT_append, partsT_append, parts_out h (fun z hz => by
        split at hz
        · exact parts_good h hk z hz
        · exact parts_good h hk z ((mem_setT _ _).1 hz)), partsT_append, partsT_append]
      simp only [List.mem_append]
      have hmem : z ∈ (if op = 5 then partsT op ne ks else setT (partsT op ne ks)) ↔ z ∈ partsT op ne ks := by
        split
        · exact Iff.rfl
        · exact mem_setT _ _
      rw [hmem, or_assoc]
theorem nrm_set {op : Int} (ho : op = 4 ∨ op = 6) {a b c : T} (ha : wfT 6 a = true) (hb : wfT 6 b = true) (hc : wfT 6 c = true) : nrmT (.node op 0 [a, b, c]) = nrmT (.node op 0 [.node op 0 [c, a], b, a]) := by
  obtain ⟨ab, ne, ht⟩ := trip_of (op := op) (by omega)
  have h5 : op ≠ 5 := by omega
  rw [nrmT_node, nrmT_node, mkT_list ht, mkT_list ht]
  simp only [List.map_cons, List.map_nil]
  rw [nrmT_node, mkT_list ht]
  simp only [List.map_cons, List.map_nil]
  have hg : ∀ k, k ∈ [nrmT c, nrmT a] → GoodT k := fun k hk => by
    rcases List.mem_cons.1 hk with rfl | hk
    · exact (nrm_all c hc).1
    · rw [List.mem_singleton.1 hk]; exact (nrm_all a ha).1
  have h1 := listT_nest ht hg [] [nrmT b, nrmT a]
  simp only [List.nil_append, List.cons_append] at h1
  rw [h1]
  refine listT_congr ht (fun e => absurd e h5) fun z => ?_
  rw [show [nrmT a, nrmT b, nrmT c] = [nrmT a] ++ ([nrmT b] ++ [nrmT c]) from rfl, show [nrmT c, nrmT a, nrmT b, nrmT a] = [nrmT c] ++ ([nrmT a] ++ ([nrmT b] ++ [nrmT a])) from rfl]
  simp only [partsT_append, List.mem_append]
  constructor
  · rintro (h | h | h)
    · exact .inr (.inl h)
    · exact .inr (.inr (.inl h))
    · exact .inl h
  · rintro (h | h | h | h)
    · exact .inr (.inr h)
    · exact .inl h
    · exact .inr (.inl h)
    · exact .inl h
theorem nrm_cat {a b c : T} (ha : wfT 6 a = true) (hb : wfT 6 b = true) (hc : wfT 6 c = true) : nrmT (.node 5 0 [a, .node 5 0 [b, c]]) = nrmT (.node 5 0 [.node 5 0 [a, b], c]) := by
  obtain ⟨ab, ne, ht⟩ := trip_of (op := 5) (by omega)
  rw [nrmT_node, nrmT_node, mkT_list ht, mkT_list ht]
  simp only [List.map_cons, List.map_nil]
  rw [nrmT_node, nrmT_node, mkT_list ht, mkT_list ht]
  simp only [List.map_cons, List.map_nil]
  have hg : ∀ x y : T, wfT 6 x = true → wfT 6 y = true → ∀ k, k ∈ [nrmT x, nrmT y] → GoodT k := fun x y hx hy k hk => by
    rcases List.mem_cons.1 hk with rfl | hk
    · exact (nrm_all x hx).1
    · rw [List.mem_singleton.1 hk]; exact (nrm_all y hy).1
  have h1 := listT_nest ht (hg b c hb hc) [nrmT a] []
  have h2 := listT_nest ht (hg a b ha hb) [] [nrmT c]
  simp only [List.nil_append, List.cons_append, List.append_nil] at h1 h2
  rw [h1, h2]
theorem runs_cons (a b : T) (r : List T) : runsT (a :: b :: r) = if cmpT a b = 0 then runsT (b :: r) else a :: runsT (b :: r) := by rw [runsT]
/-- one element more behind y (for CompactFunc) -/
theorem runs_snoc (l : List T) (y x : T) : runsT (l ++ [y, x]) = if cmpT y x = 0 then runsT (l ++ [y]) else runsT (l ++ [y]) ++ [x] := by
  induction l with
  | nil =>
    show runsT (y :: x :: []) = if cmpT y x = 0 then runsT [y] else runsT [y] ++ [x]
    rw [runs_cons]
    split
    · rename_i h; rw [cmpT_zero _ _ h]
    · rfl
  | cons a l ih =>
    cases l with
    | nil =>
      have ih2 : runsT (y :: [x]) = if cmpT y x = 0 then runsT [y] else runsT [y] ++ [x] := ih
      show runsT (a :: y :: [x]) = if cmpT y x = 0 then runsT (a :: y :: []) else runsT (a :: y :: []) ++ [x]
      rw [runs_cons a y [x], runs_cons a y [], ih2]
      split <;> split <;> simp
    | cons b l =>
      have ih2 : runsT (b :: (l ++ [y, x])) = if cmpT y x = 0 then runsT (b :: (l ++ [y])) else runsT (b :: (l ++ [y])) ++ [x] := ih
      show runsT (a :: b :: (l ++ [y, x])) = if cmpT y x = 0 then runsT (a :: b :: (l ++ [y])) else runsT (a :: b :: (l ++ [y])) ++ [x]
      rw [runs_cons a b, runs_cons a b, ih2]
      split <;> split <;> simp
/-- nothing to drop -/
theorem runs_all : ∀ (l : List T), (∀ i (h : i + 1 < l.length), cmpT l[i] l[i + 1] ≠ 0) → runsT l = l := by
  intro l
  induction l with
  | nil => intro _; rfl
  | cons x l ih =>
    intro h
    cases l with
    | nil => rfl
    | cons y l =>
      rw [runs_cons, if_neg (show ¬ cmpT x y = 0 from h 0 (by simp)), ih fun i hi => h (i + 1) (by simpa using hi)]
end Go.Proofs.Ythmdndondlffeaa
