/- Facts: normal forms are valid, no greater, and their own normal forms. -/
import Derived.Test.YthmdndondlffeaaExprNN
import Derived.Test.YthmdndondlffeaaExprC
namespace Go.Proofs.Ythmdndondlffeaa
set_option linter.unusedVariables false
theorem notT_all {k : T} (h : GoodT k) : GoodT (notT k) ∧ sizeT (notT k) ≤ 1 + sizeT k ∧ depthT (notT k) ≤ 1 + depthT k := by
  unfold notT
  split
  · rename_i h8
    obtain ⟨o, l, ls⟩ := k
    have h8 : o = 8 := h8
    subst h8
    have hk := (wfT_node.1 h.1).1
    rw [kidsOk, if_neg (by omega), if_pos (by omega), decide_eq_true_eq] at hk
    obtain ⟨x, rfl⟩ := List.length_eq_one_iff.1 hk
    refine ⟨h.kids x (by simp), ?_, ?_⟩
    · simp only [T.ks, List.headD_cons, sizeT, sizeL]; omega
    · simp only [T.ks, List.headD_cons, depthT, depthL]; omega
  · rename_i h8
    refine ⟨⟨wfT_node.2 ⟨rfl, rfl, fun x hx => ?_⟩, (nfT_node _ _ _).2 ⟨⟨fun _ x hx => ?_, fun e => by omega, fun e => by omega, fun e => by omega, fun e => by omega⟩, fun x hx => ?_⟩⟩, ?_, ?_⟩
    · rw [List.mem_singleton.1 hx]; exact h.1
    · rw [List.mem_singleton.1 hx]; exact h8
    · rw [List.mem_singleton.1 hx]; exact h.2
    · simp [sizeT, sizeL]
    · simp [depthT, depthL]; omega
theorem starT_all {k : T} (h : GoodT k) : GoodT (starT k) ∧ sizeT (starT k) ≤ 1 + sizeT k ∧ depthT (starT k) ≤ 1 + depthT k := by
  unfold starT
  split
  · exact ⟨good_unit, by simp [unitT, sizeT, sizeL], by simp [unitT, depthT, depthL]⟩
  split
  · exact ⟨h, by omega, by omega⟩
  · rename_i h1 h2
    rw [isT_iff] at h2
    refine ⟨⟨wfT_node.2 ⟨rfl, rfl, fun x hx => ?_⟩, (nfT_node _ _ _).2 ⟨⟨fun e => by omega, fun _ x hx => ?_, fun e => by omega, fun e => by omega, fun e => by omega⟩, fun x hx => ?_⟩⟩, ?_, ?_⟩
    · rw [List.mem_singleton.1 hx]; exact h.1
    · rw [List.mem_singleton.1 hx]; exact ⟨fun e => h1 (.inl e), fun e => h1 (.inr e), fun e => h2 (.inl e), fun e => h2 (.inr e)⟩
    · rw [List.mem_singleton.1 hx]; exact h.2
    · simp [sizeT, sizeL]
    · simp [depthT, depthL]; omega
theorem sizeL_map {ks : List T} (h : ∀ k, k ∈ ks → sizeT (nrmT k) ≤ sizeT k) : sizeL (ks.map nrmT) ≤ sizeL ks := by
  induction ks with
  | nil => simp [sizeL]
  | cons x a ih =>
    have h1 := h x (by simp)
    have h2 := ih fun k hk => h k (by simp [hk])
    simp only [List.map_cons, sizeL]; omega
theorem depthL_map {ks : List T} (h : ∀ k, k ∈ ks → depthT (nrmT k) ≤ depthT k) : depthL (ks.map nrmT) ≤ depthL ks := by
  induction ks with
  | nil => simp [depthL]
  | cons x a ih =>
    have h1 := h x (by simp)
    have h2 := ih fun k hk => h k (by simp [hk])
    simp only [List.map_cons, depthL]; omega
theorem mkT_list {op : Int} {ab ne : T} (h : Trip op ab ne) (l : Int) (ks : List T) : mkT op l ks = listT op ab ne ks := by
  unfold mkT
  rcases h with ⟨rfl, rfl, rfl⟩ | ⟨rfl, rfl, rfl⟩ | ⟨rfl, rfl, rfl⟩
  · rw [if_neg (by omega), if_neg (by omega), if_pos rfl]
  · rw [if_neg (by omega), if_neg (by omega), if_neg (by omega), if_pos rfl]
  · rw [if_neg (by omega), if_neg (by omega), if_neg (by omega), if_neg (by omega), if_pos rfl]
theorem trip_of {op : Int} (h : op = 4 ∨ op = 5 ∨ op = 6) : ∃ ab ne, Trip op ab ne := by
  rcases h with h | h | h
  · exact ⟨_, _, .inr (.inl ⟨h, rfl, rfl⟩)⟩
  · exact ⟨_, _, .inl ⟨h, rfl, rfl⟩⟩
  · exact ⟨_, _, .inr (.inr ⟨h, rfl, rfl⟩)⟩
theorem mkT_leaf {op : Int} (h : op = 1 ∨ op = 2 ∨ op = 3) (l : Int) (ks : List T) : mkT op l ks = .node op l [] := by
  unfold mkT
  rw [if_neg (by omega), if_neg (by omega), if_neg (by omega), if_neg (by omega), if_neg (by omega)]
/-- the three kinds of a valid tree -/
theorem kind_of {op l : Int} {ks : List T} (h : wfT 6 (.node op l ks) = true) : ((op = 1 ∨ op = 2 ∨ op = 3) ∧ ks = []) ∨ ((op = 7 ∨ op = 8) ∧ l = 0 ∧ ∃ k, ks = [k]) ∨ ((op = 4 ∨ op = 5 ∨ op = 6) ∧ l = 0 ∧ 2 ≤ ks.length) := by
  obtain ⟨hk, hl, _⟩ := wfT_node.1 h
  have hl0 : op ≠ 3 → l = 0 := fun h3 => by rw [letOk_n h3] at hl; simpa using hl
  rcases op_cases op with e | e | e | e | e | e | e | e | e
  case inr.inr.inr.inr.inr.inr.inr.inr => exact absurd (kidsOk_no ks.length e) (by rw [hk]; decide)
  all_goals unfold kidsOk at hk
  · rw [if_pos (by omega)] at hk; exact .inl ⟨by omega, by simpa using hk⟩
  · rw [if_pos (by omega)] at hk; exact .inl ⟨by omega, by simpa using hk⟩
  · rw [if_pos (by omega)] at hk; exact .inl ⟨by omega, by simpa using hk⟩
  · rw [if_neg (by omega), if_neg (by omega), if_pos (by omega)] at hk; exact .inr (.inr ⟨by omega, hl0 (by omega), by simpa using hk⟩)
  · rw [if_neg (by omega), if_neg (by omega), if_pos (by omega)] at hk; exact .inr (.inr ⟨by omega, hl0 (by omega), by simpa using hk⟩)
  · rw [if_neg (by omega), if_neg (by omega), if_pos (by omega)] at hk; exact .inr (.inr ⟨by omega, hl0 (by omega), by simpa using hk⟩)
  · rw [if_neg (by omega), if_pos (by omega), decide_eq_true_eq] at hk; exact .inr (.inl ⟨by omega, hl0 (by omega), List.length_eq_one_iff.1 hk⟩)
  · rw [if_neg (by omega), if_pos (by omega), decide_eq_true_eq] at hk; exact .inr (.inl ⟨by omega, hl0 (by omega), List.length_eq_one_iff.1 hk⟩)
/-- a normal form is valid, in normal form, and no greater -/
theorem nrm_all : ∀ t : T, wfT 6 t = true → GoodT (nrmT t) ∧ sizeT (nrmT t) ≤ sizeT t ∧ depthT (nrmT t) ≤ depthT t := by
  intro t
  induction t using T.ind with
  | h op l ks ih =>
    intro hw
    have hkids : ∀ k, k ∈ ks → GoodT (nrmT k) ∧ sizeT (nrmT k) ≤ sizeT k ∧ depthT (nrmT k) ≤ depthT k := fun k hk => ih k hk ((wfT_node.1 hw).2.2 k hk)
    have hs := sizeL_map fun k hk => (hkids k hk).2.1
    have hd := depthL_map fun k hk => (hkids k hk).2.2
    have hg : ∀ k, k ∈ ks.map nrmT → GoodT k := fun k hk => by
      obtain ⟨x, hx, rfl⟩ := List.mem_map.1 hk
      exact (hkids x hx).1
    rw [nrmT_node]
    rcases kind_of hw with ⟨ho, rfl⟩ | ⟨ho, rfl, k, rfl⟩ | ⟨ho, rfl, h2⟩
    · rw [mkT_leaf ho]
      exact ⟨good_leaf hw ho, by simp [sizeT], by simp [depthT]⟩
    · have hk := hkids k (by simp)
      rcases ho with rfl | rfl
      · rw [show mkT 7 0 ([k].map nrmT) = starT (nrmT k) from rfl]
        have := starT_all hk.1
        refine ⟨this.1, ?_, ?_⟩
        · simp only [sizeT, sizeL]; omega
        · simp only [depthT, depthL]; omega
      · rw [show mkT 8 0 ([k].map nrmT) = notT (nrmT k) from rfl]
        have := notT_all hk.1
        refine ⟨this.1, ?_, ?_⟩
        · simp only [sizeT, sizeL]; omega
        · simp only [depthT, depthL]; omega
    · obtain ⟨ab, ne, ht⟩ := trip_of ho
      rw [mkT_list ht]
      have := listT_small ht (ks := ks.map nrmT) (by simpa using h2)
      refine ⟨listT_good ht hg, ?_, ?_⟩
      · simp only [sizeT]; omega
      · simp only [depthT]; omega
theorem flatT_self {op : Int} {ks : List T} (h : ∀ k, k ∈ ks → k.op ≠ op) : flatT op ks = ks := by
  induction ks with
  | nil => rfl
  | cons x a ih =>
    have h1 := ih fun k hk => h k (by simp [hk])
    unfold flatT at h1 ⊢
    rw [List.flatMap_cons, h1, if_neg (h x (by simp))]; rfl
theorem listT_self {op : Int} {ab ne : T} {ks : List T} (hf : ∀ k, k ∈ ks → k.op ≠ op ∧ k ≠ ab ∧ k ≠ ne) (hst : op ≠ 5 → StrictT ks) (h2 : 2 ≤ ks.length) : listT op ab ne ks = .node op 0 ks := by
  have hfl := flatT_self fun k hk => (hf k hk).1
  have hp : partsT op ne ks = ks := by
    unfold partsT
    rw [hfl, List.filter_eq_self]
    intro k hk
    rw [(isT_no _ _).2 (hf k hk).2.2]; rfl
  rw [listT, hfl, if_neg, hp]
  · split
    · exact outT_two op ne h2
    · rename_i h5; rw [setT_self (hst h5)]; exact outT_two op ne h2
  · rw [Bool.not_eq_true, List.any_eq_false]
    intro k hk
    rw [(isT_no _ _).2 (hf k hk).2.1]; decide
/-- a normal form is its own normal form -/
theorem nrm_self : ∀ t : T, GoodT t → nrmT t = t := by
  intro t
  induction t using T.ind with
  | h op l ks ih =>
    intro hg
    have hm : ks.map nrmT = ks := by
      conv => rhs; rw [← List.map_id ks]
      exact List.map_congr_left fun k hk => ih k hk (hg.kids k hk)
    obtain ⟨hn, _⟩ := (nfT_node _ _ _).1 hg.2
    rw [nrmT_node, hm]
    rcases kind_of hg.1 with ⟨ho, rfl⟩ | ⟨ho, rfl, k, rfl⟩ | ⟨ho, rfl, h2⟩
    · exact mkT_leaf ho l []
    · rcases ho with rfl | rfl
      · have h7 := hn.2.1 rfl k (by simp)
        show starT k = _
        unfold starT
        rw [if_neg (by omega), if_neg]
        rw [isT_iff]; exact fun h => h.elim h7.2.2.1 h7.2.2.2
      · have h8 := hn.1 rfl k (by simp)
        show notT k = _
        unfold notT
        rw [if_neg h8]
    · rcases ho with rfl | rfl | rfl
      · have h4 := hn.2.2.2.1 rfl
        exact listT_self (fun k hk => h4.1 k hk) (fun _ => h4.2) h2
      · have h5 := hn.2.2.1 rfl
        exact listT_self (fun k hk => h5 k hk) (fun h => absurd rfl h) h2
      · have h6 := hn.2.2.2.2 rfl
        exact listT_self (fun k hk => h6.1 k hk) (fun _ => h6.2) h2
theorem nrm_val {t : T} (h : valB t = true) : valB (nrmT t) = true ∧ sizeT (nrmT t) ≤ sizeT t ∧ nrmT (nrmT t) = nrmT t := by
  simp only [valB, withinB, Bool.and_eq_true, decide_eq_true_eq] at h
  obtain ⟨h1, h2, h3⟩ := nrm_all t h.2
  refine ⟨?_, h2, nrm_self _ h1⟩
  simp only [valB, withinB, Bool.and_eq_true, decide_eq_true_eq]
  exact ⟨⟨by omega, by omega⟩, h1.1⟩
end Go.Proofs.Ythmdndondlffeaa
