/- Facts: the normal form of a tree; it is valid, no greater, and its own normal form. -/
import Derived.Test.YthmdndondlffeaaExprNM
namespace Go.Proofs.Ythmdndondlffeaa
set_option linter.unusedVariables false
def emptyT : T := .node 1 0 []
def unitT : T := .node 2 0 []
def allT : T := .node 8 0 [emptyT]
def isT (a b : T) : Bool := cmpT a b == 0
theorem isT_iff (a b : T) : isT a b = true ↔ a = b := by rw [isT, beq_iff_eq, cmpT_eq0]
theorem isT_no (a b : T) : isT a b = false ↔ a ≠ b := by rw [← Bool.not_eq_true, isT_iff]
def flatT (op : Int) (ks : List T) : List T := ks.flatMap fun k => if k.op = op then k.ks else [k]
def partsT (op : Int) (ne : T) (ks : List T) : List T := (flatT op ks).filter fun k => !isT k ne
def outT (op : Int) (ne : T) : List T → T
  | [] => ne
  | [k] => k
  | a :: b :: l => .node op 0 (a :: b :: l)
def listT (op : Int) (ab ne : T) (ks : List T) : T :=
  if (flatT op ks).any (fun k => isT k ab) then ab else outT op ne (if op = 5 then partsT op ne ks else setT (partsT op ne ks))
def notT (k : T) : T := if k.op = 8 then k.ks.headD emptyT else .node 8 0 [k]
def starT (k : T) : T := if k.op = 1 ∨ k.op = 2 then unitT else if k.op = 7 ∨ isT k allT = true then k else .node 7 0 [k]
def mkT (op l : Int) (ks : List T) : T :=
  if op = 8 then notT (ks.headD emptyT) else if op = 7 then starT (ks.headD emptyT) else if op = 5 then listT 5 emptyT unitT ks else if op = 4 then listT 4 allT emptyT ks else if op = 6 then listT 6 emptyT allT ks else .node op l []
mutual
def nrmT : T → T | .node op l ks => mkT op l (nrmL ks)
def nrmL : List T → List T | [] => [] | k :: ks => nrmT k :: nrmL ks
end
theorem nrmL_map (ks : List T) : nrmL ks = ks.map nrmT := by
  induction ks with
  | nil => rfl
  | cons x a ih => simp [nrmL, ih]
theorem nrmT_node (op l : Int) (ks : List T) : nrmT (.node op l ks) = mkT op l (ks.map nrmT) := by rw [nrmT, nrmL_map]
/-- in normal form, at the root -/
def nfOk (op : Int) (ks : List T) : Prop :=
  (op = 8 → ∀ k, k ∈ ks → k.op ≠ 8) ∧ (op = 7 → ∀ k, k ∈ ks → k.op ≠ 1 ∧ k.op ≠ 2 ∧ k.op ≠ 7 ∧ k ≠ allT) ∧
  (op = 5 → ∀ k, k ∈ ks → k.op ≠ 5 ∧ k ≠ emptyT ∧ k ≠ unitT) ∧ (op = 4 → (∀ k, k ∈ ks → k.op ≠ 4 ∧ k ≠ allT ∧ k ≠ emptyT) ∧ StrictT ks) ∧
  (op = 6 → (∀ k, k ∈ ks → k.op ≠ 6 ∧ k ≠ emptyT ∧ k ≠ allT) ∧ StrictT ks)
mutual
def nfT : T → Prop | .node op _ ks => nfOk op ks ∧ nfL ks
def nfL : List T → Prop | [] => True | k :: ks => nfT k ∧ nfL ks
end
theorem nfL_iff (ks : List T) : nfL ks ↔ ∀ k, k ∈ ks → nfT k := by
  induction ks with
  | nil => simp [nfL]
  | cons x a ih => simp [nfL, ih]
theorem nfT_node (op l : Int) (ks : List T) : nfT (.node op l ks) ↔ nfOk op ks ∧ ∀ k, k ∈ ks → nfT k := by rw [nfT, nfL_iff]
/-- valid over six letters and in normal form -/
def GoodT (t : T) : Prop := wfT 6 t = true ∧ nfT t
theorem GoodT.kids {op l : Int} {ks : List T} (h : GoodT (.node op l ks)) : ∀ k, k ∈ ks → GoodT k := fun k hk => ⟨(wfT_node.1 h.1).2.2 k hk, ((nfT_node op l ks).1 h.2).2 k hk⟩
theorem good_leaf {op l : Int} (h : wfT 6 (.node op l []) = true) (hop : op = 1 ∨ op = 2 ∨ op = 3) : GoodT (.node op l []) :=
  ⟨h, (nfT_node _ _ _).2 ⟨⟨fun e => by omega, fun e => by omega, fun e => by omega, fun e => by omega, fun e => by omega⟩, fun k hk => by cases hk⟩⟩
theorem good_empty : GoodT emptyT := good_leaf (by decide +kernel) (.inl rfl)
theorem good_unit : GoodT unitT := good_leaf (by decide +kernel) (.inr (.inl rfl))
theorem good_all : GoodT allT := ⟨by decide +kernel, (nfT_node _ _ _).2 ⟨⟨fun _ k hk => by
    rw [List.mem_singleton] at hk; subst hk; decide, fun e => by omega, fun e => by omega, fun e => by omega, fun e => by omega⟩, fun k hk => by
    rw [List.mem_singleton] at hk; subst hk; exact good_empty.2⟩⟩
theorem mem_flatT {op : Int} {ks : List T} {z : T} : z ∈ flatT op ks ↔ ∃ k, k ∈ ks ∧ ((k.op = op ∧ z ∈ k.ks) ∨ (k.op ≠ op ∧ z = k)) := by
  simp only [flatT, List.mem_flatMap]
  constructor
  · rintro ⟨k, hk, h⟩
    refine ⟨k, hk, ?_⟩
    split at h
    · exact .inl ⟨‹_›, h⟩
    · exact .inr ⟨‹_›, by simpa using h⟩
  · rintro ⟨k, hk, ⟨h1, h2⟩ | ⟨h1, h2⟩⟩
    · exact ⟨k, hk, by rw [if_pos h1]; exact h2⟩
    · exact ⟨k, hk, by rw [if_neg h1]; simp [h2]⟩
theorem flatT_good {op : Int} (hop : op = 4 ∨ op = 5 ∨ op = 6) {ks : List T} (h : ∀ k, k ∈ ks → GoodT k) : ∀ z, z ∈ flatT op ks → GoodT z ∧ z.op ≠ op := by
  intro z hz
  obtain ⟨k, hk, ⟨h1, h2⟩ | ⟨h1, rfl⟩⟩ := mem_flatT.1 hz
  · have hg := h k hk
    obtain ⟨o, l, ls⟩ := k
    have h1 : o = op := h1
    have h2 : z ∈ ls := h2
    subst h1
    refine ⟨hg.kids z h2, ?_⟩
    have hn := ((nfT_node _ _ _).1 hg.2).1
    rcases hop with e | e | e <;> subst e
    · exact ((hn.2.2.2.1 rfl).1 z h2).1
    · exact (hn.2.2.1 rfl z h2).1
    · exact ((hn.2.2.2.2 rfl).1 z h2).1
  · exact ⟨h z hk, h1⟩
theorem sizeL_flatT (op : Int) (ks : List T) : sizeL (flatT op ks) ≤ sizeL ks := by
  induction ks with
  | nil => simp [flatT, sizeL]
  | cons x a ih =>
    simp only [flatT, List.flatMap_cons, sizeL_append, sizeL] at ih ⊢
    have : sizeL (if x.op = op then x.ks else [x]) ≤ sizeT x := by
      split
      · obtain ⟨o, l, ls⟩ := x; simp only [T.ks, sizeT]; omega
      · simp [sizeL]
    omega
theorem depthL_le {l : List T} {n : Nat} (h : ∀ k, k ∈ l → depthT k ≤ n) : depthL l ≤ n := by
  induction l with
  | nil => simp [depthL]
  | cons x a ih =>
    simp only [depthL]
    have h1 := h x (by simp)
    have h2 := ih fun k hk => h k (by simp [hk])
    omega
theorem depth_flatT {op : Int} {ks : List T} {z : T} (hz : z ∈ flatT op ks) : depthT z ≤ depthL ks := by
  obtain ⟨k, hk, ⟨h1, h2⟩ | ⟨h1, rfl⟩⟩ := mem_flatT.1 hz
  · have h3 := depthL_mem hk
    obtain ⟨o, l, ls⟩ := k
    have h4 := depthL_mem (show z ∈ ls from h2)
    simp only [depthT] at h3
    omega
  · exact depthL_mem hk
theorem sizeL_filter (p : T → Bool) (l : List T) : sizeL (l.filter p) ≤ sizeL l := by
  induction l with
  | nil => simp [sizeL]
  | cons x a ih =>
    rw [List.filter_cons]
    split
    · simp only [sizeL]; omega
    · simp only [sizeL]; omega
theorem sizeL_len (l : List T) : l.length ≤ sizeL l := by
  induction l with
  | nil => simp [sizeL]
  | cons x a ih => have := sizeT_pos x; simp only [sizeL, List.length_cons]; omega
/-- what lies in the list that is handed back -/
def qsT (op : Int) (ne : T) (ks : List T) : List T := if op = 5 then partsT op ne ks else setT (partsT op ne ks)
theorem mem_qsT {op : Int} {ne : T} {ks : List T} {z : T} : z ∈ qsT op ne ks ↔ z ∈ flatT op ks ∧ z ≠ ne := by
  have h : z ∈ partsT op ne ks ↔ z ∈ flatT op ks ∧ z ≠ ne := by
    simp only [partsT, List.mem_filter, Bool.not_eq_true', isT_no]
  unfold qsT
  split
  · exact h
  · rw [mem_setT]; exact h
theorem sizeL_qsT (op : Int) (ne : T) (ks : List T) : sizeL (qsT op ne ks) ≤ sizeL ks := by
  have h1 := sizeL_flatT op ks
  have h2 := sizeL_filter (fun k => !isT k ne) (flatT op ks)
  unfold qsT partsT
  split
  · omega
  · have := sizeL_setT ((flatT op ks).filter fun k => !isT k ne); omega
theorem listT_eq (op : Int) (ab ne : T) (ks : List T) : listT op ab ne ks = if (flatT op ks).any (fun k => isT k ab) then ab else outT op ne (qsT op ne ks) := rfl
theorem outT_two (op : Int) (ne : T) {l : List T} (h : 2 ≤ l.length) : outT op ne l = .node op 0 l := by
  match l, h with
  | [], h => simp at h
  | [_], h => simp at h
  | a :: b :: l, _ => rfl
/-- the triples of an operation, what absorbs and what is neutral -/
def Trip (op : Int) (ab ne : T) : Prop := (op = 5 ∧ ab = emptyT ∧ ne = unitT) ∨ (op = 4 ∧ ab = allT ∧ ne = emptyT) ∨ (op = 6 ∧ ab = emptyT ∧ ne = allT)
theorem Trip.ops {op : Int} {ab ne : T} (h : Trip op ab ne) : op = 4 ∨ op = 5 ∨ op = 6 := by rcases h with h | h | h <;> omega
theorem Trip.good {op : Int} {ab ne : T} (h : Trip op ab ne) : GoodT ab ∧ GoodT ne := by
  rcases h with ⟨_, rfl, rfl⟩ | ⟨_, rfl, rfl⟩ | ⟨_, rfl, rfl⟩
  · exact ⟨good_empty, good_unit⟩
  · exact ⟨good_all, good_empty⟩
  · exact ⟨good_empty, good_all⟩
theorem Trip.small {op : Int} {ab ne : T} (h : Trip op ab ne) : sizeT ab ≤ 2 ∧ sizeT ne ≤ 2 ∧ depthT ab ≤ 2 ∧ depthT ne ≤ 2 := by
  rcases h with ⟨_, rfl, rfl⟩ | ⟨_, rfl, rfl⟩ | ⟨_, rfl, rfl⟩ <;> decide
theorem outT_good {op : Int} {ab ne : T} (h : Trip op ab ne) {ks : List T} (hk : ∀ k, k ∈ ks → GoodT k) (hab : ∀ z, z ∈ flatT op ks → z ≠ ab) : GoodT (outT op ne (qsT op ne ks)) := by
  have hq : ∀ z, z ∈ qsT op ne ks → GoodT z ∧ z.op ≠ op ∧ z ≠ ne ∧ z ≠ ab := fun z hz => by
    obtain ⟨h1, h2⟩ := mem_qsT.1 hz
    obtain ⟨h3, h4⟩ := flatT_good h.ops hk z h1
    exact ⟨h3, h4, h2, hab z h1⟩
  have hst : op ≠ 5 → StrictT (qsT op ne ks) := fun h5 => by unfold qsT; rw [if_neg h5]; exact strict_setT _
  match hl : qsT op ne ks with
  | [] => exact h.good.2
  | [k] => exact (hq k (by rw [hl]; simp)).1
  | a :: b :: l =>
    rw [hl] at hq hst
    refine ⟨wfT_node.2 ⟨?_, ?_, fun k hk => (hq k hk).1.1⟩, (nfT_node _ _ _).2 ⟨?_, fun k hk => (hq k hk).1.2⟩⟩
    · rw [kidsOk, if_neg (by have := h.ops; omega), if_neg (by have := h.ops; omega), if_pos h.ops]; simp
    · rw [letOk, if_neg (by have := h.ops; omega)]; rfl
    · rcases h with ⟨rfl, rfl, rfl⟩ | ⟨rfl, rfl, rfl⟩ | ⟨rfl, rfl, rfl⟩
      · exact ⟨fun e => by omega, fun e => by omega, fun _ k hk => ⟨(hq k hk).2.1, (hq k hk).2.2.2, (hq k hk).2.2.1⟩, fun e => by omega, fun e => by omega⟩
      · exact ⟨fun e => by omega, fun e => by omega, fun e => by omega, fun _ => ⟨fun k hk => ⟨(hq k hk).2.1, (hq k hk).2.2.2, (hq k hk).2.2.1⟩, hst (by omega)⟩, fun e => by omega⟩
      · exact ⟨fun e => by omega, fun e => by omega, fun e => by omega, fun e => by omega, fun _ => ⟨fun k hk => ⟨(hq k hk).2.1, (hq k hk).2.2.2, (hq k hk).2.2.1⟩, hst (by omega)⟩⟩
theorem listT_good {op : Int} {ab ne : T} (h : Trip op ab ne) {ks : List T} (hk : ∀ k, k ∈ ks → GoodT k) : GoodT (listT op ab ne ks) := by
  rw [listT_eq]
  split
  · exact h.good.1
  · rename_i hn
    refine outT_good h hk fun z hz e => hn (List.any_eq_true.2 ⟨z, hz, (isT_iff _ _).2 e⟩)
theorem outT_small {op : Int} {ab ne : T} (h : Trip op ab ne) {ks : List T} (h2 : 2 ≤ ks.length) : sizeT (outT op ne (qsT op ne ks)) ≤ 1 + sizeL ks ∧ depthT (outT op ne (qsT op ne ks)) ≤ 1 + depthL ks := by
  have h3 := sizeL_qsT op ne ks
  have h4 := sizeL_len ks
  have h5 := h.small
  have h6 : ∀ z, z ∈ qsT op ne ks → depthT z ≤ depthL ks := fun z hz => depth_flatT (mem_qsT.1 hz).1
  have h7 : 1 ≤ depthL ks := by
    match ks, h2 with
    | a :: ks, _ => obtain ⟨o, l, ls⟩ := a; simp only [depthL, depthT]; omega
  match hl : qsT op ne ks with
  | [] => simp only [outT]; omega
  | [k] =>
    rw [hl] at h3 h6
    have := h6 k (by simp)
    simp only [outT, sizeL] at h3 ⊢
    omega
  | a :: b :: l =>
    rw [hl] at h3 h6
    have := depthL_le h6
    simp only [outT, sizeT, depthT]
    omega
theorem listT_small {op : Int} {ab ne : T} (h : Trip op ab ne) {ks : List T} (h2 : 2 ≤ ks.length) : sizeT (listT op ab ne ks) ≤ 1 + sizeL ks ∧ depthT (listT op ab ne ks) ≤ 1 + depthL ks := by
  have h4 := sizeL_len ks
  have h5 := h.small
  have h7 : 1 ≤ depthL ks := by
    match ks, h2 with
    | a :: ks, _ => obtain ⟨o, l, ls⟩ := a; simp only [depthL, depthT]; omega
  rw [listT_eq]
  split
  · omega
  · exact outT_small h h2
end Go.Proofs.Ythmdndondlffeaa
