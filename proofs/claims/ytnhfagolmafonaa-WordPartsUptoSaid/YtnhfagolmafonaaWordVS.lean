/- Contracts: the reference's Reverse, IsFactor and IsSubword; the walk of the law on parts. -/
import Derived.Test.YtnhfagolmafonaaWordVR
namespace Go.Proofs.Ytnhfagolmafonaa
open Go.RowKit Go.Sort
open WordM
set_option linter.unusedVariables false

set_option maxRecDepth 100000 in
set_option maxHeartbeats 1000000 in
theorem rsub_any (u v : ByteArray) (w : World) (hu : u.size ≤ maxLen) (hv : v.size ≤ maxLen) :
    Calls Try.prog 29 #[.string u, .string v] w fun e w' => e = .returned (.bool (subB u v)) ∧ Below w.heap.size w w' := by
  unfold maxLen at hu hv
  go_enter Try.func29, Try.ntmps29
  go_wp2_with fail
  go_loopw [5, 6] (fun vk vi wr => ∃ k i : Nat, vk = .int .i64 k ∧ vi = .int .i64 i ∧ k ≤ u.size ∧ i ≤ v.size ∧ (subB u v = true ↔ List.Sublist (u.data.toList.drop k) (v.data.toList.drop i)) ∧ Below w.heap.size w wr) (fun _ vi _ => v.size - (intOf vi).toNat)
  case atStart => exact ⟨0, 0, rfl, rfl, Nat.zero_le _, Nat.zero_le _, by rw [List.drop_zero, List.drop_zero]; exact subB_iff u v, Below.refl _ _⟩
  case round =>
    obtain ⟨k, i, rfl, rfl, hk, hi, hiff, hb⟩ := hrel
    have HI := Lib.hid hiff
    clear hiff
    by_cases hlt : i < v.size
    · by_cases hk2 : k < u.size
      · have hkI : (k : Int) < (u.size : Int) := by omega
        have hk0 : (0 : Int) ≤ (k : Int) := by omega
        have hiI : (i : Int) < (v.size : Int) := by omega
        have hi0 : (0 : Int) ≤ (i : Int) := by omega
        by_cases he : u[k] = v[i]
        · have heb : ((v[i].toNat : Int) == (u[k].toNat : Int)) = true := by rw [he]; simp
          have HN := Lib.hid (show subB u v = true ↔ List.Sublist (u.data.toList.drop (k + 1)) (v.data.toList.drop (i + 1)) by
            rw [HI.out, drop_at u k hk2, drop_at v i hlt, he, sub_same])
          clear he
          go_wp2_with fail
          go_quiet (fail)
          go_wp2_with fail
          exact ⟨⟨k + 1, i + 1, by go_num, by go_num, by omega, by omega, HN.out, below_drewN hb _⟩, by simp [intOf]; omega⟩
        · have heb : ((v[i].toNat : Int) == (u[k].toNat : Int)) = false := by
            rw [beq_eq_false_iff_ne]; intro e; exact he (UInt8.toNat_inj.1 (by omega))
          have HN := Lib.hid (show subB u v = true ↔ List.Sublist (u.data.toList.drop k) (v.data.toList.drop (i + 1)) by
            rw [HI.out, drop_at u k hk2, drop_at v i hlt, sub_other he])
          clear he
          go_wp2_with fail
          go_quiet (fail)
          go_wp2_with fail
          exact ⟨⟨k, i + 1, rfl, by go_num, by omega, by omega, HN.out, below_drewN hb _⟩, by simp [intOf]; omega⟩
      · have HF := Lib.hid (show subB u v = true by rw [HI.out, drop_end u k (by omega)]; exact List.nil_sublist _)
        have he : ((k : Int) == (u.size : Int)) = true := by rw [beq_iff_eq]; omega
        go_wp2_with fail
        go_ret
        exact ⟨by rw [HF.out]; rfl, hb⟩
    · by_cases hk2 : k < u.size
      · have HF := Lib.hid (show subB u v = false by
          rw [← Bool.not_eq_true, HI.out, drop_end v i (by omega), drop_at u k hk2]
          intro h; cases h)
        have he : ((k : Int) == (u.size : Int)) = false := by rw [beq_eq_false_iff_ne]; omega
        go_wp2_with fail
        go_ret
        exact ⟨by rw [HF.out]; rfl, hb⟩
      · have HF := Lib.hid (show subB u v = true by rw [HI.out, drop_end u k (by omega)]; exact List.nil_sublist _)
        have he : ((k : Int) == (u.size : Int)) = true := by rw [beq_iff_eq]; omega
        go_wp2_with fail
        go_ret
        exact ⟨by rw [HF.out]; rfl, hb⟩


/-! ### rows of bytes given by a function -/
def rowB (n : Nat) (f : Nat → Int) : List Int := (List.range n).map f
theorem rowB_length (n : Nat) (f : Nat → Int) : (rowB n f).length = n := by simp [rowB]
theorem rowB_map (n : Nat) (f : Nat → Int) : (rowB n f).map encB = (List.range n).map fun t => encB (f t) := by simp [rowB]
theorem rowB_congr {n : Nat} {f g : Nat → Int} (h : ∀ t, t < n → f t = g t) : rowB n f = rowB n g :=
  List.map_congr_left fun t ht => h t (List.mem_range.1 ht)
theorem rowB_set {n : Nat} {f : Nat → Int} {j : Nat} {x : Int} : ((rowB n f).map encB).set j (.int .u8 x) = (rowB n fun t => if t = j then x else f t).map encB := by
  apply List.ext_getElem?
  intro k
  rw [List.getElem?_set]
  by_cases hk : k < n
  · by_cases e : j = k
    · subst e; simp [rowB, hk]
    · simp [rowB, hk, e, Ne.symm e]
  · simp [rowB, hk]
    omega
theorem rowB_made (n : Nat) : (madeCells #[Value.int .u8 0] n).toList = (rowB n fun _ => 0).map encB := by
  rw [toList_madeCells_one]
  apply List.ext_getElem?
  intro k
  by_cases hk : k < n <;> simp [rowB, hk]
def ownsB (w : World) (base g n : Nat) (f : Nat → Int) : Prop := w.ownsRow base 5 1 (.slice (some ⟨g, 0, none⟩) n n) n ((rowB n f).map encB)
theorem ownsB_cell {w : World} {base g n : Nat} {f : Nat → Int} (h : ownsB w base g n f) {j : Nat} (hj : j < n) : w.cell? ⟨g, j, none⟩ = some (.int .u8 (f j)) := by
  have := World.ownsRow.cellAt h j (by omega)
  rw [this]
  simp [rowB, hj]
theorem ownsB_congr {w : World} {base g n : Nat} {f f' : Nat → Int} (h : ownsB w base g n f) (hf : ∀ t, t < n → f t = f' t) : ownsB w base g n f' := by
  unfold ownsB at h ⊢
  rwa [← rowB_congr hf]
theorem ownsB_set {w : World} {base g n : Nat} {f : Nat → Int} (h : ownsB w base g n f) (j : Nat) (x : Int) : ownsB (w.setCell ⟨g, j, none⟩ (.int .u8 x)) base g n (fun t => if t = j then x else f t) := by
  have := (World.ownsRow.stored h j (.int .u8 x)).1
  unfold ownsB
  rwa [rowB_set] at this
theorem rowB_rev (s : ByteArray) : rowB s.size (fun t => ((at' s (s.size - 1 - t)).toNat : Int)) = (nums s).reverse := by
  apply List.ext_getElem?
  intro k
  have hl := nums_length s
  by_cases hk : k < s.size
  · rw [List.getElem?_reverse (by omega), hl]
    have h1 : s.size - 1 - k < s.data.toList.length := by rw [size_list]; omega
    simp [rowB, hk, nums, at', List.getD, List.getElem?_eq_getElem h1]
    rw [Array.getElem?_eq_getElem (show s.size - 1 - k < s.data.size from by have : s.data.size = s.size := rfl; omega)]
    rfl
  · rw [List.getElem?_eq_none (by rw [rowB_length]; omega), List.getElem?_eq_none (by rw [List.length_reverse]; omega)]

set_option maxRecDepth 100000 in
set_option maxHeartbeats 1000000 in
theorem rrev_any (s : ByteArray) (w : World) (hs : s.size ≤ 1073741824) :
    Calls Try.prog 27 #[.string s] w fun e w' => e = .returned (.string (revS s)) ∧ Below w.heap.size w w' := by
  obtain ⟨i0, hi, hz0, hz1, hz2⟩ := info_parts info5
  go_enter Try.func27, Try.ntmps27
  go_wp2_with (refine wpList_make_full _ rfl _ _ 47 rfl w.heap.size 5 i0 (.int .u8 0) 1 Try.underlying47 hi hz0 hz1 .i64 .i64 _ _ s.size rfl rfl rfl rfl ?c1 ?c2 ?c3 ?_)
  case c1 => rw [hz2]; omega
  case c2 => unfold maxLen; omega
  case c3 => exact Nat.le_refl _
  intro w1 hown0 hg1
  have hown : ownsB w1 w.heap.size w.heap.size s.size (fun _ => 0) := by
    unfold ownsB
    rw [← rowB_made]
    simpa using hown0
  have hb : Below w.heap.size w w1 := (Below.refl _ w).grown hg1 (Nat.le_refl _) (by intro k hk; cases hk)
  clear hown0 hg1
  go_wp2_with fail
  go_loopw [4] (fun vi wr => ∃ i : Nat, vi = .int .i64 i ∧ i ≤ s.size ∧ ownsB wr w.heap.size w.heap.size s.size (fun t => if s.size - 1 - t < i then ((at' s (s.size - 1 - t)).toNat : Int) else 0) ∧ Below w.heap.size w wr) (fun vi _ => s.size - (intOf vi).toNat)
  case atStart =>
    exact ⟨0, rfl, Nat.zero_le _, ownsB_congr hown fun t ht => by rw [if_neg (by omega)], hb⟩
  case round =>
    obtain ⟨i, rfl, hi1, how, hbw⟩ := hrel
    clear hown hb
    by_cases hlt : i < s.size
    · obtain ⟨j, hj⟩ : ∃ j, s.size = j + 1 + i := ⟨s.size - 1 - i, by omega⟩
      have hcj := ownsB_cell how (show j < s.size by omega)
      have hfj := World.ownsRow.frozenAt how j
      have hjI : (s.size : Int) - 1 - (i : Int) = (j : Int) := by omega
      have HW2 := Lib.hid how
      have ei := at_eq hlt
      have HEI := Lib.hid ei
      have HJ := Lib.hid hj
      have hjl : j < s.size := by omega
      clear how ei hj
      go_wp2_with fail
      refine ⟨⟨i + 1, by go_num, by omega, ownsB_congr (ownsB_set HW2.out j _) ?_, hbw.setCell (Nat.le_refl _) _⟩, by simp [intOf]; omega⟩
      intro t ht
      have hj := HJ.out
      by_cases e : t = j
      · subst e
        rw [if_pos rfl, if_pos (by omega), show s.size - 1 - t = i by omega, HEI.out]
      · rw [if_neg e]
        by_cases l : s.size - 1 - t < i
        · rw [if_pos l, if_pos (by omega)]
        · rw [if_neg l, if_neg (by omega)]
    · have hfin : ownsB wr w.heap.size w.heap.size s.size (fun t => ((at' s (s.size - 1 - t)).toNat : Int)) :=
        ownsB_congr how fun t ht => by rw [if_pos (by omega)]
      unfold ownsB at hfin
      rw [rowB_rev] at hfin
      have hcv := run_convert_own hfin 47 9 Try.underlying47 Try.underlying5 Try.underlying9
      rw [nums_rev] at hcv
      clear hfin how
      go_wp2_with fail
      go_ret
      exact ⟨rfl, hbw⟩

/-! ### factors -/
theorem fac_iff (u v : ByteArray) : facB u v = true ↔ List.IsInfix u.data.toList v.data.toList := by
  rw [facB, contains_iff]
  constructor
  · rintro ⟨i, _, h⟩
    exact h.isInfix.trans (List.drop_suffix _ _).isInfix
  · rintro ⟨a, b, h⟩
    refine ⟨a.length, by rw [← h]; simp, ?_⟩
    rw [← h, List.append_assoc, List.drop_left]
    exact List.prefix_append _ _
theorem fac_at (u v : ByteArray) : facB u v = true ↔ ∃ i, i + u.size ≤ v.size ∧ (v.extract i (i + u.size)).data.toList = u.data.toList := by
  rw [facB, contains_iff]
  constructor
  · rintro ⟨i, hi, h⟩
    have hl := h.length_le
    rw [List.length_drop, size_list, size_list] at hl
    rw [size_list] at hi
    refine ⟨i, by omega, ?_⟩
    rw [extract_list, show i + u.size - i = u.data.toList.length by rw [size_list]; omega]
    exact (List.prefix_iff_eq_take.1 h).symm
  · rintro ⟨i, hi, h⟩
    refine ⟨i, by rw [size_list]; omega, ?_⟩
    rw [← h, extract_list]
    exact List.take_prefix _ _
theorem fac_rev (u v : ByteArray) : facB (revS u) (revS v) = facB u v := by
  rw [Bool.eq_iff_iff, fac_iff, fac_iff, revS_data, revS_data, List.reverse_infix]
theorem sub_rev (u v : ByteArray) : subB (revS u) (revS v) = subB u v := by
  rw [Bool.eq_iff_iff, subB_iff, subB_iff, revS_data, revS_data, List.reverse_sublist]
theorem fac_sub {u v : ByteArray} (h : facB u v = true) : subB u v = true := (subB_iff u v).2 ((fac_iff u v).1 h).sublist
theorem rev_rev (s : ByteArray) : revS (revS s) = s := by
  apply ext_data
  rw [revS_data, revS_data, List.reverse_reverse]

set_option maxRecDepth 100000 in
set_option maxHeartbeats 1000000 in
theorem rfac_any (u v : ByteArray) (w : World) (hu : u.size ≤ 1073741824) (hv : v.size ≤ 1073741824) :
    Calls Try.prog 28 #[.string u, .string v] w fun e w' => e = .returned (.bool (facB u v)) ∧ Below w.heap.size w w' := by
  go_enter Try.func28, Try.ntmps28
  go_wp2_with fail
  go_loopw [5] (fun vi wr => ∃ i : Nat, vi = .int .i64 i ∧ i ≤ v.size + 1 ∧ (∀ j, j < i → j + u.size ≤ v.size → ¬ (v.extract j (j + u.size)).data.toList = u.data.toList) ∧ Below w.heap.size w wr) (fun vi _ => v.size + 1 - (intOf vi).toNat)
  case atStart => exact ⟨0, rfl, Nat.zero_le _, fun j hj => by omega, Below.refl _ _⟩
  case round =>
    obtain ⟨i, rfl, hi, hall, hb⟩ := hrel
    have HALL := Lib.hid hall
    clear hall
    by_cases hlt : i + u.size ≤ v.size
    · by_cases hE : (v.extract i (i + u.size)).data.toList = u.data.toList
      · have HC := Lib.hid ((fac_at u v).2 ⟨i, hlt, hE⟩)
        have he : ((v.extract i (i + u.size)).toList == u.toList) = true := by
          rw [beq_iff_eq, Lib.toList_data, Lib.toList_data]; exact hE
        clear hE
        go_wp2_with fail
        go_ret
        exact ⟨by rw [HC.out]; rfl, hb⟩
      · have he : ((v.extract i (i + u.size)).toList == u.toList) = false := by
          rw [beq_eq_false_iff_ne, Lib.toList_data, Lib.toList_data]; exact hE
        have HN := Lib.hid (show ∀ j, j < i + 1 → j + u.size ≤ v.size → ¬ (v.extract j (j + u.size)).data.toList = u.data.toList from fun j hj hl => by
          by_cases c : j = i
          · rw [c]; exact hE
          · exact HALL.out j (by omega) hl)
        clear hE
        go_wp2_with fail
        exact ⟨⟨i + 1, by go_num, by omega, HN.out, hb⟩, by simp [intOf]; omega⟩
    · have HC := Lib.hid (show facB u v = false by
        rw [← Bool.not_eq_true, fac_at]
        rintro ⟨j, hj, he⟩
        exact HALL.out j (by omega) hj he)
      go_wp2_with fail
      go_ret
      exact ⟨by rw [HC.out]; rfl, hb⟩

set_option maxRecDepth 100000 in
set_option maxHeartbeats 2000000 in
theorem wWordParts (w : World) (u : ByteArray) (hu : u.size ≤ 1073741824) (v : ByteArray) (hv : v.size ≤ 1073741824) (hx : HasMax w) :
    Calls Try.prog 9 #[.string u, .string v] w fun e w' => e = .returned (.bool true) ∧ Below w.heap.size w w' := by
  have HX := Lib.hid hx
  have hru : (revS u).size ≤ 1073741824 := by rw [revS_size]; exact hu
  have hrv : (revS v).size ≤ 1073741824 := by rw [revS_size]; exact hv
  have hmu : u.size ≤ maxLen := by unfold maxLen; omega
  have hmv : v.size ≤ maxLen := by unfold maxLen; omega
  have hmru : (revS u).size ≤ maxLen := by unfold maxLen; omega
  have hmrv : (revS v).size ≤ maxLen := by unfold maxLen; omega
  have HM := Lib.hid (And.intro hmu (And.intro hmv (And.intro hmru hmrv)))
  have e1 : ((revS v).toList != (revS v).toList) = false := by simp
  have e2 : (v.toList == v.toList) = true := by simp
  have HF := Lib.hid (fac_rev u v)
  have HS := Lib.hid (sub_rev u v)
  have HR := Lib.hid (rev_rev v)
  clear hx hmu hmv hmru hmrv
  cases hf : facB u v
  · cases hs : subB u v
    · have F1 := Lib.hid hf
      have S1 := Lib.hid hs
      clear hf hs
      go_enter Try.func9, Try.ntmps9
      go_wp2_with fail
      refine (rev_any v _ (by omega)).mono ?_
      rintro e w1 ⟨rfl, hb1⟩
      have HX1 := Lib.hid (hasMax_below HX.out hb1 rfl)
      go_wp2_with fail
      refine (fac_any u v _ (by omega) HX1.out).mono ?_
      rintro e w2 ⟨rfl, rfl⟩
      rw [F1.out]
      go_wp2_with fail
      refine (sub_any u v _ HM.out.1 HM.out.2.1).mono ?_
      rintro e w3 ⟨rfl, hb3⟩
      rw [S1.out]
      have hb4 := hb1.trans (hb3.mono hb1.size)
      go_wp2_with fail
      refine (rrev_any v _ hv).mono ?_
      rintro e w5 ⟨rfl, hb5⟩
      have hb6 := hb4.trans (hb5.mono hb4.size)
      go_wp2_with fail
      refine (rfac_any u v _ hu hv).mono ?_
      rintro e w7 ⟨rfl, hb7⟩
      rw [F1.out]
      have hb8 := hb6.trans (hb7.mono hb6.size)
      go_wp2_with fail
      refine (rsub_any u v _ HM.out.1 HM.out.2.1).mono ?_
      rintro e w9 ⟨rfl, hb9⟩
      rw [S1.out]
      have hb10 := hb8.trans (hb9.mono hb8.size)
      go_wp2_with fail
      refine (rev_any u _ (by omega)).mono ?_
      rintro e w11 ⟨rfl, hb11⟩
      have hb12 := hb10.trans (hb11.mono hb10.size)
      have HX12 := Lib.hid (hasMax_below HX.out hb12 rfl)
      go_wp2_with fail
      refine (fac_any (revS u) (revS v) _ (by omega) HX12.out).mono ?_
      rintro e w13 ⟨rfl, rfl⟩
      rw [HF.out, F1.out]
      go_wp2_with fail
      refine (sub_any (revS u) (revS v) _ HM.out.2.2.1 HM.out.2.2.2).mono ?_
      rintro e w14 ⟨rfl, hb14⟩
      rw [HS.out, S1.out]
      have hb15 := hb12.trans (hb14.mono hb12.size)
      go_wp2_with fail
      refine (rev_any (revS v) _ (by omega)).mono ?_
      rintro e w16 ⟨rfl, hb16⟩
      rw [HR.out]
      have hb17 := hb15.trans (hb16.mono hb15.size)
      go_wp2_with fail
      refine (awake_any _).mono ?_
      rintro e w18 ⟨rfl, hb18⟩
      have hb19 := hb17.trans (hb18.mono hb17.size)
      go_wp2_with fail
      go_ret
      exact ⟨rfl, hb19⟩
    · have F1 := Lib.hid hf
      have S1 := Lib.hid hs
      clear hf hs
      go_enter Try.func9, Try.ntmps9
      go_wp2_with fail
      refine (rev_any v _ (by omega)).mono ?_
      rintro e w1 ⟨rfl, hb1⟩
      have HX1 := Lib.hid (hasMax_below HX.out hb1 rfl)
      go_wp2_with fail
      refine (fac_any u v _ (by omega) HX1.out).mono ?_
      rintro e w2 ⟨rfl, rfl⟩
      rw [F1.out]
      go_wp2_with fail
      refine (sub_any u v _ HM.out.1 HM.out.2.1).mono ?_
      rintro e w3 ⟨rfl, hb3⟩
      rw [S1.out]
      have hb4 := hb1.trans (hb3.mono hb1.size)
      go_wp2_with fail
      refine (rrev_any v _ hv).mono ?_
      rintro e w5 ⟨rfl, hb5⟩
      have hb6 := hb4.trans (hb5.mono hb4.size)
      go_wp2_with fail
      refine (rfac_any u v _ hu hv).mono ?_
      rintro e w7 ⟨rfl, hb7⟩
      rw [F1.out]
      have hb8 := hb6.trans (hb7.mono hb6.size)
      go_wp2_with fail
      refine (rsub_any u v _ HM.out.1 HM.out.2.1).mono ?_
      rintro e w9 ⟨rfl, hb9⟩
      rw [S1.out]
      have hb10 := hb8.trans (hb9.mono hb8.size)
      go_wp2_with fail
      refine (rev_any u _ (by omega)).mono ?_
      rintro e w11 ⟨rfl, hb11⟩
      have hb12 := hb10.trans (hb11.mono hb10.size)
      have HX12 := Lib.hid (hasMax_below HX.out hb12 rfl)
      go_wp2_with fail
      refine (fac_any (revS u) (revS v) _ (by omega) HX12.out).mono ?_
      rintro e w13 ⟨rfl, rfl⟩
      rw [HF.out, F1.out]
      go_wp2_with fail
      refine (sub_any (revS u) (revS v) _ HM.out.2.2.1 HM.out.2.2.2).mono ?_
      rintro e w14 ⟨rfl, hb14⟩
      rw [HS.out, S1.out]
      have hb15 := hb12.trans (hb14.mono hb12.size)
      go_wp2_with fail
      refine (rev_any (revS v) _ (by omega)).mono ?_
      rintro e w16 ⟨rfl, hb16⟩
      rw [HR.out]
      have hb17 := hb15.trans (hb16.mono hb15.size)
      go_wp2_with fail
      refine (awake_any _).mono ?_
      rintro e w18 ⟨rfl, hb18⟩
      have hb19 := hb17.trans (hb18.mono hb17.size)
      go_wp2_with fail
      go_ret
      exact ⟨rfl, hb19⟩
  · have F1 := Lib.hid hf
    have S1 := Lib.hid (fac_sub hf)
    clear hf
    go_enter Try.func9, Try.ntmps9
    go_wp2_with fail
    refine (rev_any v _ (by omega)).mono ?_
    rintro e w1 ⟨rfl, hb1⟩
    have HX1 := Lib.hid (hasMax_below HX.out hb1 rfl)
    go_wp2_with fail
    refine (fac_any u v _ (by omega) HX1.out).mono ?_
    rintro e w2 ⟨rfl, rfl⟩
    rw [F1.out]
    go_wp2_with fail
    refine (sub_any u v _ HM.out.1 HM.out.2.1).mono ?_
    rintro e w3 ⟨rfl, hb3⟩
    rw [S1.out]
    have hb4 := hb1.trans (hb3.mono hb1.size)
    go_wp2_with fail
    refine (rrev_any v _ hv).mono ?_
    rintro e w5 ⟨rfl, hb5⟩
    have hb6 := hb4.trans (hb5.mono hb4.size)
    go_wp2_with fail
    refine (rfac_any u v _ hu hv).mono ?_
    rintro e w7 ⟨rfl, hb7⟩
    rw [F1.out]
    have hb8 := hb6.trans (hb7.mono hb6.size)
    go_wp2_with fail
    refine (rsub_any u v _ HM.out.1 HM.out.2.1).mono ?_
    rintro e w9 ⟨rfl, hb9⟩
    rw [S1.out]
    have hb10 := hb8.trans (hb9.mono hb8.size)
    go_wp2_with fail
    refine (rev_any u _ (by omega)).mono ?_
    rintro e w11 ⟨rfl, hb11⟩
    have hb12 := hb10.trans (hb11.mono hb10.size)
    have HX12 := Lib.hid (hasMax_below HX.out hb12 rfl)
    go_wp2_with fail
    refine (fac_any (revS u) (revS v) _ (by omega) HX12.out).mono ?_
    rintro e w13 ⟨rfl, rfl⟩
    rw [HF.out, F1.out]
    go_wp2_with fail
    refine (sub_any (revS u) (revS v) _ HM.out.2.2.1 HM.out.2.2.2).mono ?_
    rintro e w14 ⟨rfl, hb14⟩
    rw [HS.out, S1.out]
    have hb15 := hb12.trans (hb14.mono hb12.size)
    go_wp2_with fail
    refine (rev_any (revS v) _ (by omega)).mono ?_
    rintro e w16 ⟨rfl, hb16⟩
    rw [HR.out]
    have hb17 := hb15.trans (hb16.mono hb15.size)
    go_wp2_with fail
    refine (awake_any _).mono ?_
    rintro e w18 ⟨rfl, hb18⟩
    have hb19 := hb17.trans (hb18.mono hb17.size)
    go_wp2_with fail
    go_ret
    exact ⟨rfl, hb19⟩
end Go.Proofs.Ytnhfagolmafonaa
