/- Rows of rows; contracts: SameRows, the reference's Count, Classes. -/
import Derived.Test.YtfgpjkkdgjhkfaaPartE
import Derived.Lib.MinMax
import Derived.Deep.AppendLies
import Derived.Deep.RegionLaw
import Derived.StillTailTactics
namespace Go.Proofs.Ytfgpjkkdgjhkfaa
open Go Go.RowKit Go.Maps
set_option linter.unusedVariables false


theorem infoR : (Try.prog.info? 22).map (fun i => (i.zero, i.size, i.bytes)) = some (some (.slice none 0 0), 1, 24) := by kernel_rfl
/-- at a there are m rows of numbers L 0, L 1, .. -/
def RowsN (w : World) (a : Option Addr) (m : Nat) (L : Nat → List Nat) : Prop :=
  m = 0 ∨ ∃ b off, a = some ⟨b, off, none⟩ ∧ b < w.heap.size ∧ ∀ i, i < m → ∃ r c, w.cell? ⟨b, off + i, none⟩ = some (.slice r (L i).length c) ∧ RowI w r (L i).length (getN (L i))
theorem RowsN.keep {w w' : World} {a : Option Addr} {m : Nat} {L : Nat → List Nat} (h : RowsN w a m L) (hb : Below w.heap.size w w') : RowsN w' a m L := by
  rcases h with h | ⟨b, off, rfl, hl, hc⟩
  · exact .inl h
  · refine .inr ⟨b, off, rfl, Nat.lt_of_lt_of_le hl hb.size, fun i hi => ?_⟩
    obtain ⟨r, c, h1, h2⟩ := hc i hi
    exact ⟨r, c, by rw [hb.cell (p := ⟨b, off + i, none⟩) hl]; exact h1, h2.keep hb⟩
def GivesR (w : World) (m : Nat) (L : Nat → List Nat) (e : Ending) (w' : World) : Prop :=
  ∃ (r : Option Addr) (c : Nat), e = .returned (.slice r m c) ∧ RowsN w' r m L ∧ Below w.heap.size w w'

/-- the same rows -/
def sameRB (n : Nat) (L : Nat → List Nat) (m : Nat) (M : Nat → List Nat) : Bool := decide (n = m) && (List.range n).all fun j => sameB (L j).length (getN (L j)) (M j).length (getN (M j))
theorem sameRB_iff {n m : Nat} {L M : Nat → List Nat} : sameRB n L m M = true ↔ n = m ∧ ∀ j, j < n → sameB (L j).length (getN (L j)) (M j).length (getN (M j)) = true := by
  simp [sameRB, List.all_eq_true]
theorem sameRB_true {n : Nat} {L M : Nat → List Nat} (h : ∀ j, j < n → sameB (L j).length (getN (L j)) (M j).length (getN (M j)) = true) : sameRB n L n M = true := sameRB_iff.2 ⟨rfl, h⟩
theorem sameRB_refl (n : Nat) (L : Nat → List Nat) : sameRB n L n L = true := sameRB_true fun j _ => sameB_true fun _ _ => rfl
set_option maxRecDepth 100000 in
set_option maxHeartbeats 1000000 in
theorem sameRows_eq (a : Option Addr) (n c : Nat) (L : Nat → List Nat) (a' : Option Addr) (c' : Nat) (M : Nat → List Nat) (w : World) (hr : RowsN w a n L) (hs : RowsN w a' n M) (hn : n ≤ maxLen) (hL : ∀ j, j < n → (L j).length ≤ maxLen) :
    Calls Try.prog 24 #[.slice a n c, .slice a' n c'] w fun e w' => e = .returned (.bool (sameRB n L n M)) ∧ Below w.heap.size w w' := by
  have H1 := Lib.hid hr
  have H2 := Lib.hid hs
  have HLL := Lib.hid hL
  clear hr hs hL
  unfold maxLen at hn
  go_enter Try.func24, Try.ntmps24
  go_wp2_with fail
  go_loopw [13] (fun i wr => ∃ j : Nat, j ≤ n ∧ i = .int .i64 j ∧ (∀ t, t < j → sameB (L t).length (getN (L t)) (M t).length (getN (M t)) = true) ∧ Below w.heap.size w wr) (fun i _ => n - (intOf i).toNat)
  case atStart => exact ⟨0, Nat.zero_le _, rfl, fun t ht => by omega, Below.refl _ _⟩
  case round =>
    obtain ⟨j, hj, rfl, hall, hb⟩ := hrel
    have HA := Lib.hid hall
    have HB := Lib.hid hb
    clear hall hb
    by_cases hlt : j < n
    · rcases H1.out.keep HB.out with h0 | ⟨b, off, rfl, hbz, hc⟩
      · omega
      rcases H2.out.keep HB.out with h0 | ⟨b', off', rfl, hbz', hc'⟩
      · omega
      obtain ⟨r, k, hcj, hrow⟩ := hc j hlt
      obtain ⟨r', k', hcj', hrow'⟩ := hc' j hlt
      have HR1 := Lib.hid hrow
      have HR2 := Lib.hid hrow'
      clear hc hc' hrow hrow'
      have hj0 : (0 : Int) ≤ (j : Int) := by omega
      have hjn : (j : Int) < (n : Int) := by omega
      have hwj : IntKind.i64.wrap (j : Int) = (j : Int) := IntWalk.i64_in _ (by omega)
      have HQ := Lib.hid (fun W (h1 : RowI W r (L j).length (getN (L j))) (h2 : RowI W r' (M j).length (getN (M j))) => same_any r _ k _ r' _ k' _ W h1 h2 (HLL.out j hlt))
      obtain ⟨ll, hll⟩ : ∃ ll, ll = (L j).length := ⟨_, rfl⟩
      obtain ⟨mm, hmm⟩ : ∃ mm, mm = (M j).length := ⟨_, rfl⟩
      have HLM := Lib.hid (show ll = (L j).length ∧ mm = (M j).length from ⟨hll, hmm⟩)
      rw [← hll] at hcj HR1 HQ
      rw [← hmm] at hcj' HR2 HQ
      clear hll hmm
      cases hs : sameB ll (getN (L j)) mm (getN (M j))
      · have HS := Lib.hid hs
        have HF := Lib.hid (show sameRB n L n M = false by rw [← Bool.not_eq_true, sameRB_iff]; exact fun h => by have := h.2 j hlt; rw [← HLM.out.1, ← HLM.out.2, hs] at this; cases this)
        clear hs
        go_wp2_with fail
        go_still_tail 8, (by kernel_rfl)
        change wpList _ _ _ _ _ (World.drew wr)
        go_wp2_with fail
        refine (HQ.out _ (show RowI (World.drew _) _ _ _ from HR1.out) (show RowI (World.drew _) _ _ _ from HR2.out)).mono ?_
        rintro e w2 ⟨rfl, hB⟩
        rw [HS.out]
        have HB2 := Lib.hid (HB.out.drew.trans (hB.mono HB.out.size))
        clear hB
        go_wp2_with fail
        go_ret
        exact ⟨by rw [HF.out]; rfl, HB2.out⟩
      · have HS := Lib.hid hs
        clear hs
        go_wp2_with fail
        go_still_tail 8, (by kernel_rfl)
        change wpList _ _ _ _ _ (World.drew wr)
        go_wp2_with fail
        refine (HQ.out _ (show RowI (World.drew _) _ _ _ from HR1.out) (show RowI (World.drew _) _ _ _ from HR2.out)).mono ?_
        rintro e w2 ⟨rfl, hB⟩
        rw [HS.out]
        have HB2 := Lib.hid (HB.out.drew.trans (hB.mono HB.out.size))
        clear hB
        go_wp2_with fail
        exact ⟨⟨j + 1, by omega, by go_num, fun t ht => by
            by_cases et : t = j
            · subst et; rw [← HLM.out.1, ← HLM.out.2]; exact HS.out
            · exact HA.out t (by omega), HB2.out⟩, by simp [intOf]; omega⟩
    · obtain rfl : n = j := by omega
      have HF := Lib.hid (sameRB_true HA.out)
      go_wp2_with fail
      go_ret
      exact ⟨by rw [HF.out]; rfl, HB.out⟩

/-! ### the reference's Count -/
theorem max_cls {f : Nat → Int} {i : Nat} (h : f i = can f i) : max (cls f i : Int) (f i + 1) = (cls f (i + 1) : Int) := by
  rw [h, can]
  by_cases e : fst f i = i
  · rw [canN_new e, cls_yes e]; omega
  · have := canN_old e; rw [cls_no e]; omega
set_option maxRecDepth 100000 in
set_option maxHeartbeats 1000000 in
theorem countR_ok (a : Option Addr) (n c : Nat) (f : Nat → Int) (w : World) (hr : RowI w a n f) (hv : valP n f = true) :
    Calls Try.prog 23 #[.slice a n c] w fun e w' => e = .returned (.int .i64 (cls f n : Int)) ∧ w = w' := by
  have H1 := Lib.hid hr
  have hn := (valP_iff.1 hv).1
  have HV := Lib.hid (valP_iff.1 hv).2
  clear hr hv
  go_enter Try.func23, Try.ntmps23
  go_wp2_with fail
  go_loopw [3, 8] (fun vc vi wr => ∃ k : Nat, k ≤ n ∧ vi = .int .i64 k ∧ vc = .int .i64 (cls f k : Int) ∧ w = wr) (fun _ vi _ => n - (intOf vi).toNat)
  case atStart => exact ⟨0, Nat.zero_le _, rfl, rfl, rfl⟩
  case round =>
    obtain ⟨k, hk, rfl, rfl, rfl⟩ := hrel
    have hck := cls_le f k
    by_cases hlt : k < n
    · rcases H1.out with h0 | ⟨b, off, rfl, hbz, hc⟩
      · omega
      have hcj := (hc k hlt).1
      rw [HV.out k hlt, can] at hcj
      clear hc
      have hmx := max_cls (HV.out k hlt)
      rw [HV.out k hlt, can] at hmx
      have hxk := canN_le f k
      obtain ⟨x, hx⟩ : ∃ x, x = canN f k := ⟨_, rfl⟩
      obtain ⟨m, hm⟩ : ∃ m, m = cls f k := ⟨_, rfl⟩
      obtain ⟨m', hm'⟩ : ∃ m', m' = cls f (k + 1) := ⟨_, rfl⟩
      rw [← hx] at hcj hmx hxk
      rw [← hm] at hck hmx ⊢
      rw [← hm'] at hmx
      have HM := Lib.hid hm'
      clear hx hm hm'
      go_wp2_with fail
      exact ⟨⟨k + 1, by omega, by go_num, by rw [← HM.out], trivial⟩, by simp [intOf]; omega⟩
    · obtain rfl : n = k := by omega
      go_wp2_with fail
      go_ret
      exact ⟨rfl, rfl⟩

/-! ### rows of rows of the call's own -/
structure OwnRR (w : World) (base g m : Nat) (V : Nat → Value) (L : Nat → List Nat) : Prop where
  outer : w.ownsRow base 22 1 (.slice (some ⟨g, 0, none⟩) m m) m ((List.range m).map V)
  inner : ∀ c, c < m → OwnL w base (V c) (L c)
  off : ∀ c, c < m → (V c).ownBlock = none ∨ (V c).ownBlock ≠ some g
  apart : ∀ c d, c < m → d < m → c ≠ d → (V c).ownBlock = none ∨ (V c).ownBlock ≠ (V d).ownBlock
theorem OwnRR.cell {w : World} {base g m : Nat} {V : Nat → Value} {L : Nat → List Nat} (h : OwnRR w base g m V L) {c : Nat} (hc : c < m) : w.cell? ⟨g, c, none⟩ = some (V c) := by
  rw [World.ownsRow.cellAt h.outer c (by omega)]; simp [hc]
theorem OwnRR.free {w : World} {base g m : Nat} {V : Nat → Value} {L : Nat → List Nat} (h : OwnRR w base g m V L) (c : Nat) : w.frozen? ⟨g, c, none⟩ = false := World.ownsRow.frozenAt h.outer c
theorem OwnRR.lt {w : World} {base g m : Nat} {V : Nat → Value} {L : Nat → List Nat} (h : OwnRR w base g m V L) : base ≤ g ∧ g < w.heap.size := World.ownsRow.lt h.outer g rfl
theorem grown_setc (w : World) (g c : Nat) (v : Value) : w.grownBy (w.setCell ⟨g, c, none⟩ v) (some g) :=
  ⟨rfl, rfl, rfl, by simp [World.setCell], fun k hk hne => Below.heap_setCell w ⟨g, c, none⟩ v k (fun e => hne (by rw [e]))⟩
theorem OwnRR.push {w w2 : World} {base g m c k : Nat} {V : Nat → Value} {L : Nat → List Nat} {v' : Value} {o : Obj} (h : OwnRR w base g m V L) (hc : c < m) (h2 : OwnL w2 base v' (L c ++ [k]))
    (hg : (w.alloc o).grownBy w2 (V c).ownBlock) (hat : v'.ownBlock = (V c).ownBlock ∨ v'.ownBlock = some (w.heap.size + 1)) :
    OwnRR (w2.setCell ⟨g, c, none⟩ v') base g m (fun d => if d = c then v' else V d) (fun d => if d = c then L c ++ [k] else L d) := by
  have hgl := h.lt
  have hsz : (w.alloc o).heap.size = w.heap.size + 1 := by simp
  have hoff : v'.ownBlock = none ∨ v'.ownBlock ≠ some g := by
    rcases hat with e | e
    · rw [e]; exact h.off c hc
    · rw [e]; exact .inr (fun e2 => by injection e2; omega)
  have hgr := World.grownBy_alloc w o (V c).ownBlock
  refine ⟨?_, ?_, ?_, ?_⟩
  · have h3 : w2.ownsRow base 22 1 (.slice (some ⟨g, 0, none⟩) m m) m ((List.range m).map V) := by
      refine World.ownsRow.kept (World.ownsRow.alloc h.outer o) hg ?_
      rcases h.off c hc with e | e
      · rw [e]; exact .inr (by simp [Value.ownBlock])
      · exact .inr (fun e2 => e (by rw [← e2]; rfl))
    have h4 := (World.ownsRow.stored h3 c v').1
    have e5 : ((List.range m).map V).set c v' = (List.range m).map fun d => if d = c then v' else V d := by
      apply List.ext_getElem?
      intro j
      rw [List.getElem?_set]
      by_cases hj : j < m
      · by_cases e : c = j
        · subst e; simp [hj]
        · simp [hj, e, Ne.symm e]
      · simp [hj]; intro e; omega
    rw [e5] at h4
    exact h4
  · intro d hd
    by_cases e : d = c
    · subst e
      simp only [if_true]
      exact World.ownsRow.kept h2 (grown_setc w2 g d v') hoff
    · simp only [if_neg e]
      have h3 : OwnL w2 base (V d) (L d) := by
        refine World.ownsRow.kept (World.ownsRow.alloc (h.inner d hd) o) hg ?_
        exact h.apart d c hd hc e
      exact World.ownsRow.kept h3 (grown_setc w2 g c v') (h.off d hd)
  · intro d hd
    by_cases e : d = c
    · subst e; simp only [if_true]; exact hoff
    · simp only [if_neg e]; exact h.off d hd
  · intro d d' hd hd' hne
    have hnew : ∀ x, x < m → (V x).ownBlock ≠ some (w.heap.size + 1) := fun x hx e => by
      have := (World.ownsRow.lt (h.inner x hx) _ e).2
      omega
    by_cases e : d = c
    · subst e
      simp only [if_true, if_neg (Ne.symm hne)]
      rcases hat with e2 | e2
      · rw [e2]; exact h.apart d d' hd hd' hne
      · rw [e2]; exact .inr (fun e3 => hnew d' hd' e3.symm)
    · simp only [if_neg e]
      by_cases e' : d' = c
      · subst e'
        simp only [if_true]
        rcases hat with e2 | e2
        · rw [e2]; exact h.apart d d' hd hd' hne
        · rw [e2]; exact .inr (hnew d hd)
      · simp only [if_neg e']; exact h.apart d d' hd hd' hne
theorem OwnRR.congr {w : World} {base g m : Nat} {V : Nat → Value} {L L' : Nat → List Nat} (h : OwnRR w base g m V L) (hL : ∀ c, c < m → L c = L' c) : OwnRR w base g m V L' :=
  ⟨h.outer, fun c hc => by rw [← hL c hc]; exact h.inner c hc, h.off, h.apart⟩
theorem OwnRR.rows {w : World} {base g m : Nat} {V : Nat → Value} {L : Nat → List Nat} (h : OwnRR w base g m V L) (hb : ∀ c, c < m → ∀ x ∈ L c, x ≤ 9223372036854775807) : RowsN w (some ⟨g, 0, none⟩) m L := by
  refine .inr ⟨g, 0, rfl, h.lt.2, fun i hi => ?_⟩
  obtain ⟨r, c, he, hr, _⟩ := (h.inner i hi).row (hb i hi)
  exact ⟨r, c, by rw [Nat.zero_add, h.cell hi, he], hr⟩
theorem OwnRR.start {w1 : World} {base g m : Nat} (hown0 : w1.ownsRow base 22 1 (.slice (some ⟨g, 0, none⟩) m m) m (madeCells #[Value.slice none 0 0] m).toList) : OwnRR w1 base g m (fun _ => .slice none 0 0) (fun _ => []) := by
  refine ⟨?_, fun c hc => OwnL.nil _ _, fun c hc => .inl rfl, fun c d _ _ _ => .inl rfl⟩
  have e : (madeCells #[Value.slice none 0 0] m).toList = (List.range m).map fun _ => Value.slice none 0 0 := by
    rw [toList_madeCells_one]
    apply List.ext_getElem?
    intro j
    by_cases hj : j < m <;> simp [hj]
  rw [← e]; exact hown0
/-- the points of class c among the first k -/
def clL (f : Nat → Int) (k c : Nat) : List Nat := (List.range k).filter fun j => canN f j == c
theorem clL_succ (f : Nat → Int) (k c : Nat) : clL f (k + 1) c = if c = canN f k then clL f k (canN f k) ++ [k] else clL f k c := by
  unfold clL
  rw [List.range_succ, List.filter_append]
  by_cases e : c = canN f k
  · subst e; simp
  · rw [if_neg e]; simp [Ne.symm e]
theorem clL_len (f : Nat → Int) (k c : Nat) : (clL f k c).length ≤ k := by
  have := List.length_filter_le (fun j => canN f j == c) (List.range k)
  simpa [clL] using this
theorem clL_lt {f : Nat → Int} {k c x : Nat} (h : x ∈ clL f k c) : x < k := by
  unfold clL at h; simpa using (List.mem_filter.1 h).1
set_option maxRecDepth 100000 in
set_option maxHeartbeats 2000000 in
theorem classesR_ok (a : Option Addr) (n c : Nat) (f : Nat → Int) (w : World) (hr : RowI w a n f) (hv : valP n f = true) :
    Calls Try.prog 25 #[.slice a n c] w (GivesR w (cls f n) (clL f n)) := by
  have H1 := Lib.hid hr
  have hn := (valP_iff.1 hv).1
  have HVV := Lib.hid hv
  have HV := Lib.hid (valP_iff.1 hv).2
  clear hr hv
  obtain ⟨j0, hji, hj0, hj1, hj2⟩ := info_parts infoI
  obtain ⟨i0, hi, hz0, hz1, hz2⟩ := info_parts infoR
  have hcn := cls_le f n
  obtain ⟨M, hM⟩ : ∃ M, M = cls f n := ⟨_, rfl⟩
  have HM := Lib.hid hM
  have HCT := Lib.hid (countR_ok a n c f w H1.out HVV.out)
  rw [← hM] at hcn HCT ⊢
  clear hM
  go_enter Try.func25, Try.ntmps25
  go_wp2_with fail
  refine HCT.out.mono ?_
  rintro e w' ⟨rfl, rfl⟩
  go_wp2_with (refine wpList_make_full _ rfl _ _ 28 rfl w.heap.size 22 i0 (.slice none 0 0) 1 Try.underlying28 hi hz0 hz1 .i64 .i64 _ _ M rfl rfl (by simp) (by simp) ?c1 ?c2 ?c3 ?_)
  try (case c1 => first | (rw [hz2]; omega) | omega)
  try (case c2 => unfold maxLen; omega)
  try (case c3 => exact Nat.le_refl _)
  intro w1 hown0 hg1
  have HO := Lib.hid (OwnRR.start hown0)
  have HB := Lib.hid (show Below w.heap.size w w1 from (Below.refl _ w).grown hg1 (Nat.le_refl _) (by intro k hk; cases hk))
  clear hown0 hg1
  go_wp2_with fail
  go_loopw [11] (fun vi wr => ∃ (k : Nat) (V : Nat → Value), k ≤ n ∧ vi = .int .i64 k ∧ OwnRR wr w.heap.size w.heap.size M V (clL f k) ∧ Below w.heap.size w wr) (fun vi _ => n - (intOf vi).toNat)
  case atStart => exact ⟨0, _, Nat.zero_le _, rfl, HO.out, HB.out⟩
  case round =>
    obtain ⟨k, V, hk, rfl, ho, hb⟩ := hrel
    have HO2 := Lib.hid ho
    have HB2 := Lib.hid hb
    clear ho hb
    by_cases hlt : k < n
    · rcases H1.out.keep HB2.out with h0 | ⟨b, off, rfl, hbz, hc⟩
      · omega
      have hcf := (hc k hlt).1
      rw [HV.out k hlt, can] at hcf
      have hmM := canN_lt (f := f) hlt
      rw [← HM.out] at hmM
      have HX := Lib.hid (clL_succ f k)
      have hll := clL_len f k (canN f k)
      obtain ⟨m, hm⟩ : ∃ m, m = canN f k := ⟨_, rfl⟩
      rw [← hm] at hcf hmM hll HX
      have hcell := HO2.out.cell hmM
      have hfree := HO2.out.free m
      have HIN := Lib.hid (HO2.out.inner m hmM)
      have HGL := Lib.hid HO2.out.lt
      clear hc hm
      obtain ⟨ra, rc, hvm⟩ := own_shape HIN.out
      have HVM := Lib.hid hvm
      rw [hvm] at hcell
      have HIN2 := Lib.hid (show OwnL _ _ (.slice ra (clL f k m).length rc) _ from by have := HIN.out; rw [HVM.out] at this; exact this)
      clear hvm
      go_wp2_with (at_builtin; refine wpList_append_own_at _ rfl _ _ 22 rfl w.heap.size 3 j0 (.int .i64 0) 1 8 Try.underlying22 hji hj0 hj1 hj2 rfl (by decide) _ _ _ rfl (HIN2.out.alloc _) ⟨_, 0, none⟩ 1 1 [.int .i64 (k : Int)] rfl rfl (cell_one_new _ _ _) ?c4 ?c5 ?c6 ?c7 ?_)
      case c4 => simp [Value.oneCell']
      case c5 => unfold maxLen; omega
      case c6 => omega
      case c7 => have := HB2.out.size; simp; omega
      intro v' w3 h3 hg3 _ hat
      obtain ⟨ra', rc', rfl⟩ := own_shape h3
      have h4 : OwnL w3 w.heap.size _ (clL f k m ++ [k]) := own_snoc rfl h3
      have HP := Lib.hid (OwnRR.push (k := k) HO2.out hmM h4 (by rw [HVM.out]; exact hg3) (by rw [HVM.out]; exact hat))
      have HB3 := Lib.hid ((HB2.out.alloc HB2.out.size (.cells #[.int .i64 (k : Int)] 3)).grown hg3 (by have := HB2.out.size; simp; omega) (fun j hj => (HIN2.out.lt j hj).1))
      have hcell3 : w3.cell? ⟨w.heap.size, m, none⟩ = some (.slice ra (clL f k m).length rc) := by
        refine hg3.cell (Below.cell (B := (World.heap _).size) ((Below.refl _ _).alloc (Nat.le_refl _) _) HGL.out.2 |>.trans hcell) ?_
        rcases HO2.out.off m hmM with e | e
        · rw [HVM.out] at e; rw [e]; simp
        · rw [HVM.out] at e; exact fun e2 => e e2.symm
      have hfree3 : w3.frozen? ⟨w.heap.size, m, none⟩ = false := by
        have h5 := World.ownsRow.kept (World.ownsRow.alloc HO2.out.outer _) hg3 (by
          rcases HO2.out.off m hmM with e | e
          · rw [HVM.out] at e; rw [e]; exact .inr (by simp [Value.ownBlock])
          · rw [HVM.out] at e; exact .inr (fun e2 => e (by rw [← e2]; rfl)))
        exact World.ownsRow.frozenAt h5 m
      clear h3 hg3 hat h4
      go_wp2_with fail
      exact ⟨⟨k + 1, _, by omega, by go_num, HP.out.congr (fun d _ => (HX.out d).symm), HB3.out.setCell (Nat.le_refl _) _⟩, by simp [intOf]; omega⟩
    · obtain rfl : n = k := by omega
      have HR := Lib.hid (HO2.out.rows fun c _ x hx => by have := clL_lt hx; omega)
      go_wp2_with fail
      go_ret
      exact ⟨_, _, rfl, HR.out, HB2.out⟩
end Go.Proofs.Ytfgpjkkdgjhkfaa
