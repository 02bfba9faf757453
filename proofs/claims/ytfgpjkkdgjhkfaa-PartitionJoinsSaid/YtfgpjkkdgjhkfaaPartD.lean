/- Contracts: Discrete, Trivial, the reference's Discrete; leasts; Refines, the reference's Refines. -/
import Derived.Test.YtfgpjkkdgjhkfaaPartC
namespace Go.Proofs.Ytfgpjkkdgjhkfaa
open Go Go.RowKit Go.Maps
set_option linter.unusedVariables false

def idI (t : Nat) : Int := (t : Int)
def zeF (_ : Nat) : Int := 0
theorem idI_b {i : Nat} (h : i ≤ 9223372036854775807) : B64 (idI i) := by unfold B64 idI; omega
theorem zeF_b {i : Nat} : B64 (zeF i) := by unfold B64 zeF; omega
theorem sizeB_yes {n : Nat} (h : n ≤ 4096) : sizeB (n : Int) = true := by simp [sizeB]; omega
theorem sizeB_no {n : Int} (h : ¬ (0 ≤ n ∧ n ≤ 4096)) : sizeB n = false := by simp [sizeB]; omega
theorem fresh_own {w1 : World} {b g n : Nat} {f : Nat → Int} (hown0 : w1.ownsRow b 3 1 (.slice (some ⟨g, 0, none⟩) n n) n (madeCells #[Value.int .i64 0] n).toList) : ownsF w1 b g n (upG 0 0 f) := by
  refine ownsF_congr (f := fun _ => 0) ?_ fun t _ => (upG_zero _ _ _).symm
  unfold ownsF
  rw [← rowF_made]
  exact hown0

set_option maxHeartbeats 1000000 in
theorem discrete_ok (n : Nat) (w : World) (hn : n ≤ 4096) : Calls Try.prog 26 #[.int .i64 n] w (Fresh w n idI) := by
  obtain ⟨i0, hi, hz0, hz1, hz2⟩ := info_parts infoI
  have HS := Lib.hid (sizeB_yes hn)
  go_enter Try.func26, Try.ntmps26
  go_wp2_with fail
  refine (validSize_any _ _).mono ?_
  rintro e w' ⟨rfl, rfl⟩
  rw [HS.out]
  go_wp2_with (refine wpList_make_full _ rfl _ _ 22 rfl w.heap.size 3 i0 (.int .i64 0) 1 Try.underlying22 hi hz0 hz1 .i64 .i64 _ _ n rfl rfl (by simp) (by simp) ?c1 ?c2 ?c3 ?_)
  case c1 => rw [hz2]; omega
  case c2 => unfold maxLen; omega
  case c3 => exact Nat.le_refl _
  intro w1 hown0 hg1
  have hown := fresh_own (f := idI) hown0
  have hb : Below w.heap.size w w1 := (Below.refl _ w).grown hg1 (Nat.le_refl _) (by intro k hk; cases hk)
  clear hown0 hg1
  have HO := Lib.hid hown
  have HB := Lib.hid hb
  clear hown hb
  go_wp2_with fail
  go_loopw [11] (fun i wr => ∃ j : Nat, j ≤ n ∧ i = .int .i64 j ∧ ownsF wr w.heap.size w.heap.size n (upG j 0 idI) ∧ Below w.heap.size w wr) (fun i _ => n - (intOf i).toNat)
  case atStart => exact ⟨0, Nat.zero_le _, rfl, HO.out, HB.out⟩
  case round =>
    obtain ⟨j, hj, rfl, ho, hb⟩ := hrel
    by_cases hlt : j < n
    · have hcj := ownsF_cell ho hlt
      have hfj := ownsF_free ho j
      have HO2 := Lib.hid ho
      have HB2 := Lib.hid hb
      clear ho hb
      go_wp2_with fail
      exact ⟨⟨j + 1, by omega, by go_num, ownsF_up HO2.out rfl, HB2.out.setCell (Nat.le_refl _) _⟩, by simp [intOf]; omega⟩
    · obtain rfl : n = j := by omega
      have HO2 := Lib.hid ho
      have HB2 := Lib.hid hb
      clear ho hb
      go_wp2_with fail
      go_ret
      exact Fresh.own HO2.out HB2.out

set_option maxHeartbeats 1000000 in
theorem discreteR_ok (n : Nat) (w : World) (hn : n ≤ 4096) : Calls Try.prog 28 #[.int .i64 n] w (Fresh w n idI) := by
  obtain ⟨i0, hi, hz0, hz1, hz2⟩ := info_parts infoI
  have HS := Lib.hid (sizeB_yes hn)
  go_enter Try.func28, Try.ntmps28
  go_wp2_with (refine wpList_make_full _ rfl _ _ 22 rfl w.heap.size 3 i0 (.int .i64 0) 1 Try.underlying22 hi hz0 hz1 .i64 .i64 _ _ n rfl rfl (by simp) (by simp) ?c1 ?c2 ?c3 ?_)
  case c1 => rw [hz2]; omega
  case c2 => unfold maxLen; omega
  case c3 => exact Nat.le_refl _
  intro w1 hown0 hg1
  have hown := fresh_own (f := idI) hown0
  have hb : Below w.heap.size w w1 := (Below.refl _ w).grown hg1 (Nat.le_refl _) (by intro k hk; cases hk)
  clear hown0 hg1
  have HO := Lib.hid hown
  have HB := Lib.hid hb
  clear hown hb
  go_wp2_with fail
  go_loopw [9] (fun i wr => ∃ j : Nat, j ≤ n ∧ i = .int .i64 j ∧ ownsF wr w.heap.size w.heap.size n (upG j 0 idI) ∧ Below w.heap.size w wr) (fun i _ => n - (intOf i).toNat)
  case atStart => exact ⟨0, Nat.zero_le _, rfl, HO.out, HB.out⟩
  case round =>
    obtain ⟨j, hj, rfl, ho, hb⟩ := hrel
    by_cases hlt : j < n
    · have hcj := ownsF_cell ho hlt
      have hfj := ownsF_free ho j
      have HO2 := Lib.hid ho
      have HB2 := Lib.hid hb
      clear ho hb
      go_wp2_with fail
      exact ⟨⟨j + 1, by omega, by go_num, ownsF_up HO2.out rfl, HB2.out.setCell (Nat.le_refl _) _⟩, by simp [intOf]; omega⟩
    · obtain rfl : n = j := by omega
      have HO2 := Lib.hid ho
      have HB2 := Lib.hid hb
      clear ho hb
      go_wp2_with fail
      go_ret
      exact Fresh.own HO2.out HB2.out

set_option maxHeartbeats 1000000 in
theorem trivial_ok (n : Nat) (w : World) (hn : n ≤ 4096) : Calls Try.prog 27 #[.int .i64 n] w (Fresh w n zeF) := by
  obtain ⟨i0, hi, hz0, hz1, hz2⟩ := info_parts infoI
  have HS := Lib.hid (sizeB_yes hn)
  go_enter Try.func27, Try.ntmps27
  go_wp2_with fail
  refine (validSize_any _ _).mono ?_
  rintro e w' ⟨rfl, rfl⟩
  rw [HS.out]
  go_wp2_with (refine wpList_make_full _ rfl _ _ 22 rfl w.heap.size 3 i0 (.int .i64 0) 1 Try.underlying22 hi hz0 hz1 .i64 .i64 _ _ n rfl rfl (by simp) (by simp) ?c1 ?c2 ?c3 ?_)
  case c1 => rw [hz2]; omega
  case c2 => unfold maxLen; omega
  case c3 => exact Nat.le_refl _
  intro w1 hown0 hg1
  have hown := fresh_own (f := zeF) hown0
  have hb : Below w.heap.size w w1 := (Below.refl _ w).grown hg1 (Nat.le_refl _) (by intro k hk; cases hk)
  clear hown0 hg1
  have HO := Lib.hid (ownsF_congr hown fun t _ => (upG_zero _ _ _ : upG 0 0 zeF t = zeF t))
  have HB := Lib.hid hb
  clear hown hb
  go_wp2_with fail
  go_ret
  exact ⟨_, rfl, Nat.le_refl _, HO.out, HB.out⟩

set_option maxHeartbeats 400000 in
theorem discrete_no (n : Int) (w : World) (hn : ¬ (0 ≤ n ∧ n ≤ 4096)) : Calls Try.prog 26 #[.int .i64 n] w fun e w' => e = .returned (.slice none 0 0) ∧ w = w' := by
  have HS := Lib.hid (sizeB_no hn)
  clear hn
  go_enter Try.func26, Try.ntmps26
  go_wp2_with fail
  refine (validSize_any _ _).mono ?_
  rintro e w' ⟨rfl, rfl⟩
  rw [HS.out]
  go_wp2_with fail
  go_ret
  exact ⟨rfl, rfl⟩

set_option maxHeartbeats 400000 in
theorem trivial_no (n : Int) (w : World) (hn : ¬ (0 ≤ n ∧ n ≤ 4096)) : Calls Try.prog 27 #[.int .i64 n] w fun e w' => e = .returned (.slice none 0 0) ∧ w = w' := by
  have HS := Lib.hid (sizeB_no hn)
  clear hn
  go_enter Try.func27, Try.ntmps27
  go_wp2_with fail
  refine (validSize_any _ _).mono ?_
  rintro e w' ⟨rfl, rfl⟩
  rw [HS.out]
  go_wp2_with fail
  go_ret
  exact ⟨rfl, rfl⟩

/-! ### lists of numbers of the call's own -/
def rowL (l : List Nat) : List Value := l.map fun (x : Nat) => Value.int .i64 (x : Int)
theorem rowL_get {l : List Nat} {i x : Nat} (h : l[i]? = some x) : (rowL l)[i]? = some (.int .i64 (x : Int)) := by simp [rowL, h]
def getN (l : List Nat) (i : Nat) : Int := ((l.getD i 0 : Nat) : Int)
theorem getN_at {l : List Nat} {i x : Nat} (h : l[i]? = some x) : getN l i = (x : Int) := by simp [getN, h]
abbrev OwnL (w : World) (base : Nat) (v : Value) (l : List Nat) : Prop := w.ownsRow base 3 1 v l.length (rowL l)
theorem OwnL.row {w : World} {base : Nat} {v : Value} {l : List Nat} (h : OwnL w base v l) (hb : ∀ x ∈ l, x ≤ 9223372036854775807) : ∃ a c, v = .slice a l.length c ∧ RowI w a l.length (getN l) ∧ ∀ p : Addr, a = some p → base ≤ p.block := by
  rcases h.2 with ⟨rfl, h0⟩ | ⟨g, cap, cur, rfl, hg, hh, _⟩
  · rw [h0]; exact ⟨none, 0, rfl, .inl rfl, fun p hp => by cases hp⟩
  · refine ⟨_, _, rfl, ?_, fun p hp => by cases hp; exact hg⟩
    by_cases h0 : l.length = 0
    · exact .inl h0
    · have key : ∀ i, i < l.length → w.cell? ⟨g, 0 + i, none⟩ = some (.int .i64 (getN l i)) ∧ B64 (getN l i) := by
        intro i hi
        have hx := List.getElem?_eq_getElem hi
        rw [Nat.zero_add, World.ownsRow.cellAt h i (by omega), rowL_get hx, getN_at hx]
        have := hb _ (List.getElem_mem hi)
        exact ⟨rfl, by unfold B64; omega⟩
      exact .inr ⟨g, 0, rfl, cell_lt (s := none) (by have := (key 0 (by omega)).1; rw [Nat.zero_add] at this; exact this), key⟩
theorem own_shape {w : World} {base n : Nat} {e : TypeId} {v : Value} {xs : List Value} (h : w.ownsRow base e 1 v n xs) : ∃ a c, v = .slice a n c := by
  rcases h.2 with ⟨rfl, h0⟩ | ⟨g, cap, cur, rfl, _⟩
  · exact ⟨none, 0, by rw [h0]⟩
  · exact ⟨_, _, rfl⟩
theorem own_snoc {w : World} {base : Nat} {v : Value} {l l' : List Nat} {k : Nat} (hl : l' = l ++ [k]) (h : w.ownsRow base 3 1 v (l.length + 1) (rowL l ++ [.int .i64 (k : Int)])) : OwnL w base v l' := by
  subst hl
  simpa [OwnL, rowL] using h
theorem OwnL.nil (w : World) (base : Nat) : OwnL w base (.slice none 0 0) [] := World.ownsRow_nil _ _ _ _
/-- a new slice that reads as the n integers f (nil, too) -/
def GivesN (w : World) (n : Nat) (f : Nat → Int) (e : Ending) (w' : World) : Prop :=
  ∃ (r : Option Addr) (c : Nat), e = .returned (.slice r n c) ∧ RowI w' r n f ∧ (∀ p : Addr, r = some p → w.heap.size ≤ p.block) ∧ Below w.heap.size w w'
theorem RowN.of_new {w0 w : World} {g n : Nat} {a : Option Addr} {f : Nat → Int} (h : RowI w a n f) (hp : ∀ p : Addr, a = some p → w0.heap.size ≤ p.block) (hg : g < w0.heap.size) : RowN w g a n f :=
  ⟨h, fun p e => .inr (by have := hp p e; omega)⟩

theorem leastL_lt {f : Nat → Int} : ∀ {n x : Nat}, x ∈ leastL f n → x < n
  | 0, x, h => by simp [leastL] at h
  | n + 1, x, h => by
    rw [leastL] at h
    split at h
    · rcases List.mem_append.1 h with h | h
      · have := leastL_lt h; omega
      · have : x = n := by simpa using h
        omega
    · have := leastL_lt h; omega
theorem leastL_yes {f : Nat → Int} {i : Nat} (h : fst f i = i) : leastL f (i + 1) = leastL f i ++ [i] := by rw [leastL, if_pos h]
theorem leastL_no {f : Nat → Int} {i : Nat} (h : fst f i ≠ i) : leastL f (i + 1) = leastL f i := by rw [leastL, if_neg h]
set_option maxRecDepth 100000 in
set_option maxHeartbeats 1000000 in
theorem leasts_ok (a : Option Addr) (n c : Nat) (f : Nat → Int) (w : World) (hr : RowI w a n f) (hv : valP n f = true) :
    Calls Try.prog 46 #[.slice a n c] w (GivesN w (cls f n) (getN (leastL f n))) := by
  obtain ⟨i0, hi, hz0, hz1, hz2⟩ := info_parts infoI
  have H1 := Lib.hid hr
  have hn := (valP_iff.1 hv).1
  have HV := Lib.hid (valP_iff.1 hv).2
  clear hr hv
  go_enter Try.func46, Try.ntmps46
  go_wp2_with fail
  go_loopw [3, 7] (fun v vi wr => ∃ k : Nat, k ≤ n ∧ vi = .int .i64 k ∧ OwnL wr w.heap.size v (leastL f k) ∧ Below w.heap.size w wr) (fun _ vi _ => n - (intOf vi).toNat)
  case atStart => exact ⟨0, Nat.zero_le _, rfl, OwnL.nil _ _, Below.refl _ _⟩
  case round =>
    obtain ⟨k, hk, rfl, ho, hb⟩ := hrel
    have HO2 := Lib.hid ho
    have HB2 := Lib.hid hb
    have HLEN := Lib.hid (leastL_length f k)
    have hml := cls_le f k
    obtain ⟨ra, rc, rfl⟩ := own_shape ho
    clear ho hb
    by_cases hlt : k < n
    · rcases H1.out.keep HB2.out with h0 | ⟨b, off, rfl, hbz, hc⟩
      · omega
      have hck := (hc k hlt).1
      clear hc
      have hok := HV.out k hlt
      have hmk : (leastL f k).length ≤ k := by rw [HLEN.out]; exact hml
      obtain ⟨m, hm⟩ : ∃ m, m = (leastL f k).length := ⟨_, rfl⟩
      have hmc : m = cls f k := by rw [hm]; exact HLEN.out
      by_cases hnew : fst f k = k
      · have ht : (f k == ((leastL f k).length : Int)) = true := by rw [HLEN.out]; simp [(ok_new hok).2 hnew]
        have HX := Lib.hid (leastL_yes hnew)
        clear hok hnew
        go_wp2_with (at_builtin; refine wpList_append_own _ rfl _ _ 22 rfl w.heap.size 3 i0 (.int .i64 0) 1 8 Try.underlying22 hi hz0 hz1 hz2 rfl (by decide) _ _ _ rfl (HO2.out.alloc _) ⟨_, 0, none⟩ 1 1 [.int .i64 (k : Int)] rfl rfl (cell_one_new _ _ _) ?c2 ?c3 ?c4 ?c5 ?_)
        case c2 => simp [Value.oneCell']
        case c3 => unfold maxLen; omega
        case c4 => omega
        case c5 => have := HB2.out.size; simp; omega
        intro v' w3 h3 hg3 _
        have HO3 := Lib.hid (own_snoc HX.out h3)
        have HB3 := Lib.hid ((HB2.out.alloc HB2.out.size (.cells #[.int .i64 (k : Int)] 3)).grown hg3 (by have := HB2.out.size; simp; omega) (fun j hj => (HO2.out.lt j hj).1))
        clear h3 hg3
        go_wp2_with fail
        exact ⟨⟨k + 1, by omega, by go_num, HO3.out, HB3.out⟩, by simp [intOf]; omega⟩
      · have ht : (f k == ((leastL f k).length : Int)) = false := by rw [HLEN.out, beq_eq_false_iff_ne]; exact fun h => hnew ((ok_new hok).1 h)
        have HX := Lib.hid (leastL_no hnew)
        clear hok hnew
        go_wp2_with fail
        exact ⟨⟨k + 1, by omega, by go_num, by rw [OwnL, HX.out]; exact HO2.out, HB2.out⟩, by simp [intOf]; omega⟩
    · obtain rfl : n = k := by omega
      go_wp2_with fail
      go_ret
      obtain ⟨a', c', he, hr, hp⟩ := HO2.out.row (fun x hx => by have := leastL_lt hx; omega)
      rw [HLEN.out] at he hr
      injection he with e1 e2 e3
      subst e1; subst e3
      exact ⟨ra, rc, by rw [HLEN.out]; rfl, hr, hp, HB2.out⟩
theorem getN_least {f : Nat → Int} {n i : Nat} (h : i < n) : getN (leastL f n) (canN f i) = (fst f i : Int) := getN_at (leastL_get h)
end Go.Proofs.Ytfgpjkkdgjhkfaa
