/- Contracts: components, Components. -/
import Derived.Test.YtbmbgdfnhbkelaaDoorRelCM
import Derived.Test.YtbmbgdfnhbkelaaDoorRelX
import Derived.Test.YtbmbgdfnhbkelaaDoorRelL
import Derived.Test.YtbmbgdfnhbkelaaDoorRelO
namespace Go.Proofs.YtbmbgdfnhbkelaaDoor
open Go Go.RowKit
set_option linter.unusedVariables false

/-! ### rows of integers given by a function -/
def rowF (n : Nat) (f : Nat → Int) : List Value := (List.range n).map fun t => Value.int .i64 (f t)
theorem rowF_length (n : Nat) (f : Nat → Int) : (rowF n f).length = n := by simp [rowF]
theorem rowF_get {n : Nat} {f : Nat → Int} {j : Nat} (h : j < n) : (rowF n f)[j]? = some (Value.int .i64 (f j)) := by simp [rowF, h]
theorem rowF_congr {n : Nat} {f g : Nat → Int} (h : ∀ t, t < n → f t = g t) : rowF n f = rowF n g := by
  apply List.ext_getElem?
  intro j
  by_cases hj : j < n
  · rw [rowF_get hj, rowF_get hj, h j hj]
  · rw [List.getElem?_eq_none (by rw [rowF_length]; omega), List.getElem?_eq_none (by rw [rowF_length]; omega)]
theorem rowF_set {n : Nat} {f : Nat → Int} {j : Nat} {x : Int} : (rowF n f).set j (.int .i64 x) = rowF n fun t => if t = j then x else f t := by
  apply List.ext_getElem?
  intro k
  rw [List.getElem?_set]
  by_cases hk : k < n
  · rw [rowF_get hk, rowF_get hk]
    by_cases e : j = k
    · subst e; simp [rowF_length, hk]
    · rw [if_neg e, if_neg (Ne.symm e)]
  · rw [List.getElem?_eq_none (by rw [rowF_length]; omega), List.getElem?_eq_none (by rw [rowF_length]; omega), rowF_length]
    simp
    omega
theorem rowF_made (n : Nat) : (madeCells #[Value.int .i64 0] n).toList = rowF n fun _ => 0 := by
  rw [toList_madeCells_one]
  apply List.ext_getElem?
  intro k
  by_cases hk : k < n
  · rw [rowF_get hk]; simp [hk]
  · rw [List.getElem?_eq_none (by simp; omega), List.getElem?_eq_none (by rw [rowF_length]; omega)]
/-- a row of integers of the call's own -/
def ownsF (w : World) (base g n : Nat) (e : TypeId) (f : Nat → Int) : Prop := w.ownsRow base e 1 (.slice (some ⟨g, 0, none⟩) n n) n (rowF n f)
theorem ownsF_cell {w : World} {base g n : Nat} {e : TypeId} {f : Nat → Int} (h : ownsF w base g n e f) {j : Nat} (hj : j < n) : w.cell? ⟨g, j, none⟩ = some (.int .i64 (f j)) := by
  have := World.ownsRow.cellAt h j (by omega)
  rw [this, rowF_get hj]
theorem ownsF_free {w : World} {base g n : Nat} {e : TypeId} {f : Nat → Int} (h : ownsF w base g n e f) (j : Nat) : w.frozen? ⟨g, j, none⟩ = false := World.ownsRow.frozenAt h j
theorem ownsF_congr {w : World} {base g n : Nat} {e : TypeId} {f f' : Nat → Int} (h : ownsF w base g n e f) (hf : ∀ t, t < n → f t = f' t) : ownsF w base g n e f' := by
  unfold ownsF at h ⊢
  rwa [← rowF_congr hf]
theorem ownsF_drew {w : World} {base g n : Nat} {e : TypeId} {f : Nat → Int} (h : ownsF w base g n e f) : ownsF w.drew base g n e f := h
theorem ownsF_set {w : World} {base g n : Nat} {e : TypeId} {f : Nat → Int} (h : ownsF w base g n e f) (j : Nat) (x : Int) : ownsF (w.setCell ⟨g, j, none⟩ (.int .i64 x)) base g n e (fun t => if t = j then x else f t) := by
  have := (World.ownsRow.stored h j (.int .i64 x)).1
  unfold ownsF
  rwa [rowF_set] at this
/-- the first k entries are the numbers, the others z -/
def upI (k : Nat) (z : Int) (h : Nat → Nat) (t : Nat) : Int := if t < k then (h t : Int) else z
theorem upI_at (k : Nat) (z : Int) (h : Nat → Nat) : upI k z h k = z := by simp [upI]
theorem upI_below {k t : Nat} {z : Int} {h : Nat → Nat} (ht : t < k) : upI k z h t = (h t : Int) := by simp [upI, ht]
theorem ownsF_up {w : World} {base g n : Nat} {e : TypeId} {k : Nat} {z x : Int} {h : Nat → Nat} (ho : ownsF w base g n e (upI k z h)) (hx : x = (h k : Int)) : ownsF (w.setCell ⟨g, k, none⟩ (.int .i64 x)) base g n e (upI (k + 1) z h) := by
  refine ownsF_congr (ownsF_set ho k x) fun t ht => ?_
  unfold upI
  by_cases et : t = k
  · subst et; rw [if_pos rfl, if_pos (by omega), hx]
  · rw [if_neg et]
    by_cases h2 : t < k
    · rw [if_pos h2, if_pos (by omega)]
    · rw [if_neg h2, if_neg (by omega)]
theorem RowL.ofF {w : World} {base g n : Nat} {e : TypeId} {h : Nat → Nat} {z : Int} (ho : ownsF w base g n e (upI n z h)) : RowL w (some ⟨g, 0, none⟩) ((List.range n).map h) := by
  by_cases h0 : n = 0
  · subst h0; exact .inl rfl
  · refine .inr ⟨g, 0, rfl, cell_lt (s := none) (ownsF_cell ho (show 0 < n by omega)), fun i x hi => ?_⟩
    have hin : i < n := by
      apply Nat.lt_of_not_le; intro hle
      rw [List.getElem?_eq_none (by simp; omega)] at hi; cases hi
    have hx : h i = x := by simpa [hin] using hi
    rw [Nat.zero_add, ownsF_cell ho hin, upI_below hin, hx]

/-- the call returns the components' numbers and how many there are -/
def GivesC (w : World) (l : List Nat) (m : Nat) (e : Ending) (w' : World) : Prop :=
  ∃ (r : Option Addr) (k : Nat), e = .returned (.tuple #[.slice r l.length k, .int .i64 (m : Int)]) ∧ RowL w' r l ∧ Below w.heap.size w w'

set_option maxRecDepth 100000 in
set_option maxHeartbeats 2000000 in
theorem comps_ok (a : Option Addr) (n cc : Nat) (c : Nat → Nat) (w : World) (hr : Row w a n c) (P : Pre n c) (hT : Tab w) :
    Calls Tryd.prog 20 #[.slice a n cc] w (GivesC w (numL n c) (cntN n c n)) := by
  have hn := P.hn
  have HA := Lib.hid hr
  have HV := Lib.hid P.val
  have HPR := Lib.hid (pairB_iff.2 ⟨P.val, transF_val (f := c) hn, rfl⟩ : pairB n c n (transF n c) = true)
  have HPre := Lib.hid P
  have HTab := Lib.hid hT
  clear hr hT P
  obtain ⟨i0, hi, hz0, hz1, hz2⟩ := info_parts infoI
  go_enter Tryd.func20, Tryd.ntmps20
  go_wp2_with fail
  refine (trans_ok _ _ _ _ _ HA.out HV.out).mono ?_
  rintro e w1 ⟨r1, c1, rfl, hR, hB⟩
  have HTR := Lib.hid hR
  have HB1 := Lib.hid hB
  have HA1 := Lib.hid (HA.out.keep hB)
  clear hR hB
  go_wp2_with fail
  refine (meet_ok _ _ _ _ _ _ _ _ HA1.out HTR.out HPR.out).mono ?_
  rintro e w2 ⟨r2, c2, rfl, hR, hB⟩
  have HM := Lib.hid hR
  have HB2 := Lib.hid (HB1.out.trans (hB.mono HB1.out.size))
  clear hR hB
  go_wp2_with (refine wpList_make_full _ rfl _ _ 23 rfl w.heap.size 3 i0 (.int .i64 0) 1 Tryd.underlying23 hi hz0 hz1 .i64 .i64 _ _ n rfl rfl (by simp) (by simp) ?c1 ?c2 ?c3 ?_)
  case c1 => rw [hz2]; omega
  case c2 => unfold maxLen; omega
  case c3 => exact HB2.out.size
  intro w3 hown0 hg1
  have hb3 : Below w2.heap.size w2 w3 := (Below.refl _ w2).grown hg1 (Nat.le_refl _) (by intro k hk; cases hk)
  have hown : ownsF w3 w.heap.size w2.heap.size n 3 (upI 0 0 (numF n c)) := by
    refine ownsF_congr (f := fun _ => 0) ?_ fun t _ => by simp [upI]
    unfold ownsF
    rw [← rowF_made]
    simpa using hown0
  have HO := Lib.hid hown
  have HB3 := Lib.hid hb3
  clear hown hown0 hg1 hb3
  go_wp2_with fail
  go_loopw [5, 19] (fun vc vi wr => ∃ k : Nat, k ≤ n ∧ vi = .int .i64 k ∧ vc = .int .i64 (cntN n c k : Int) ∧ ownsF wr w.heap.size w2.heap.size n 3 (upI k 0 (numF n c)) ∧ Below w2.heap.size w2 wr) (fun _ vi _ => n - (intOf vi).toNat)
  case atStart => exact ⟨0, Nat.zero_le _, rfl, rfl, HO.out, HB3.out⟩
  case round =>
    obtain ⟨k, hk, rfl, rfl, ho, hb⟩ := hrel
    have HO4 := Lib.hid ho
    have HB4 := Lib.hid hb
    have HB5 := Lib.hid (HB2.out.trans (hb.mono HB2.out.size))
    clear ho hb
    by_cases hlt : k < n
    · rcases HM.out.keep HB4.out with h0 | ⟨bb, off, rfl, hbz, hc⟩
      · omega
      have hcm := (hc k hlt).1
      have hmu := (hc k hlt).2
      clear hc
      have hck := ownsF_cell HO4.out hlt
      have hfk := ownsF_free HO4.out k
      rw [upI_at] at hck
      obtain ⟨x, hx⟩ : ∃ x, x = meetF c (transF n c) k := ⟨_, rfl⟩
      have hx0 : x ≠ 0 := by rw [hx]; exact mut_ne HPre.out hlt
      have HL : Hid (Lib.ctz 64 x = leastF n c k) := Lib.hid (by rw [hx]; rfl)
      rw [← hx] at hcm hmu
      clear hx
      have hcnt := cnt_le (n := n) (c := c) (k := k)
      obtain ⟨l, hl⟩ : ∃ l, l = leastF n c k := ⟨_, rfl⟩
      have HL2 := Lib.hid hl
      by_cases hlk : l < k
      · have hcl := ownsF_cell HO4.out (show l < n by omega)
        rw [upI_below hlk] at hcl
        have HN := Lib.hid (show (numF n c l : Int) = (numF n c k : Int) by rw [hl, num_least HPre.out hlt])
        have HC := Lib.hid (cnt_other (show leastF n c k < k by rw [← hl]; exact hlk))
        clear hl
        generalize numF n c l = m at *
        go_wp2_with fail
        refine (tz_any x _ hmu hx0 (HTab.out.keep HB5.out)).mono ?_
        rintro e w' ⟨rfl, rfl⟩
        rw [HL.out, ← HL2.out]
        go_wp2_with fail
        have hset := ownsF_up HO4.out HN.out
        exact ⟨⟨k + 1, by omega, by go_num, by rw [HC.out], hset, HB4.out.setCell (Nat.le_refl _) _⟩, by simp [intOf]; omega⟩
      · have HN := Lib.hid (show (cntN n c k : Int) = (numF n c k : Int) by rw [num_rep HPre.out hlt (by rw [← hl]; exact hlk)])
        have HC := Lib.hid (cnt_rep (show ¬ leastF n c k < k by rw [← hl]; exact hlk))
        clear hl
        generalize cntN n c k = m at *
        go_wp2_with fail
        refine (tz_any x _ hmu hx0 (HTab.out.keep HB5.out)).mono ?_
        rintro e w' ⟨rfl, rfl⟩
        rw [HL.out, ← HL2.out]
        go_wp2_with fail
        have hset := ownsF_up HO4.out HN.out
        exact ⟨⟨k + 1, by omega, by go_num, by rw [HC.out]; go_num, hset, HB4.out.setCell (Nat.le_refl _) _⟩, by simp [intOf]; omega⟩
    · obtain rfl : n = k := by omega
      have HW := Lib.hid (RowL.ofF HO4.out)
      have HLN := Lib.hid (numL_len n c)
      go_wp2_with fail
      go_ret2
      exact ⟨_, _, by rw [HLN.out]; rfl, HW.out, HB5.out⟩
end Go.Proofs.YtbmbgdfnhbkelaaDoor
