/- Contracts: word.IsSubword, word.Occurrences, at a seat without the reference's; facts on the list of subwords. -/
import Derived.Test.YtbmbgdfnhbkelabWordWD
import Derived.Test.YtbmbgdfnhbkelabWordX
import Derived.Test.YtbmbgdfnhbkelabWordQM
namespace Go.Proofs.Ytbmbgdfnhbkelab
open Go Go.RowKit Go.Sort
open WordM
set_option linter.unusedVariables false

/-- is u a subword of v, a factor of v? -/
def subB (u v : ByteArray) : Bool := u.data.toList.isSublist v.data.toList
theorem subB_iff (u v : ByteArray) : subB u v = true ↔ List.Sublist u.data.toList v.data.toList := List.isSublist_iff_sublist

theorem drop_at (s : ByteArray) (k : Nat) (h : k < s.size) : s.data.toList.drop k = s[k] :: s.data.toList.drop (k + 1) := by
  rw [List.drop_eq_getElem_cons (by simpa using h)]; rfl
theorem drop_end (s : ByteArray) (k : Nat) (h : s.size ≤ k) : s.data.toList.drop k = [] := List.drop_eq_nil_of_le (by simpa using h)
theorem sub_same {a : UInt8} {l m : List UInt8} : List.Sublist (a :: l) (a :: m) ↔ List.Sublist l m := List.cons_sublist_cons
theorem sub_other {a b : UInt8} {l m : List UInt8} (h : a ≠ b) : List.Sublist (a :: l) (b :: m) ↔ List.Sublist (a :: l) m := by
  constructor
  · intro hs
    cases hs with
    | cons _ h2 => exact h2
    | cons_cons _ _ => exact absurd rfl h
  · exact fun hs => hs.cons _

set_option maxRecDepth 100000 in
set_option maxHeartbeats 1000000 in
theorem sub_any (u v : ByteArray) (w : World) (hu : u.size ≤ maxLen) (hv : v.size ≤ maxLen) :
    Calls Try.prog 13 #[.string u, .string v] w fun e w' => e = .returned (.bool (subB u v)) ∧ Below w.heap.size w w' := by
  unfold maxLen at hu hv
  go_enter Try.func13, Try.ntmps13
  go_wp2_with fail
  go_loopw [5, 6] (fun vk vi wr => ∃ k i : Nat, vk = .int .i64 k ∧ vi = .int .i64 i ∧ k ≤ u.size ∧ i ≤ v.size ∧ (subB u v = true ↔ List.Sublist (u.data.toList.drop k) (v.data.toList.drop i)) ∧ Below w.heap.size w wr) (fun _ vi _ => v.size - (intOf vi).toNat)
  case atStart => exact ⟨0, 0, rfl, rfl, Nat.zero_le _, Nat.zero_le _, by rw [List.drop_zero, List.drop_zero]; exact subB_iff u v, Below.refl _ _⟩
  case round =>
    obtain ⟨k, i, rfl, rfl, hk, hi, hiff, hb⟩ := hrel
    have HI := Lib.hid hiff
    clear hiff
    by_cases hlt : i < v.size
    · by_cases hk2 : k < u.size
      · have hkI : (k : Int) < (u.size : Int) := by omega
        have hk0 : (0 : Int) ≤ (k : Int) := by omega
        have hiI : (i : Int) < (v.size : Int) := by omega
        have hi0 : (0 : Int) ≤ (i : Int) := by omega
        by_cases he : u[k] = v[i]
        · have heb : ((v[i].toNat : Int) == (u[k].toNat : Int)) = true := by rw [he]; simp
          have HN := Lib.hid (show subB u v = true ↔ List.Sublist (u.data.toList.drop (k + 1)) (v.data.toList.drop (i + 1)) by
            rw [HI.out, drop_at u k hk2, drop_at v i hlt, he, sub_same])
          clear he
          go_wp2_with fail
          go_quiet (fail)
          go_wp2_with fail
          exact ⟨⟨k + 1, i + 1, by go_num, by go_num, by omega, by omega, HN.out, below_drewN hb _⟩, by simp [intOf]; omega⟩
        · have heb : ((v[i].toNat : Int) == (u[k].toNat : Int)) = false := by
            rw [beq_eq_false_iff_ne]; intro e; exact he (UInt8.toNat_inj.1 (by omega))
          have HN := Lib.hid (show subB u v = true ↔ List.Sublist (u.data.toList.drop k) (v.data.toList.drop (i + 1)) by
            rw [HI.out, drop_at u k hk2, drop_at v i hlt, sub_other he])
          clear he
          go_wp2_with fail
          go_quiet (fail)
          go_wp2_with fail
          exact ⟨⟨k, i + 1, rfl, by go_num, by omega, by omega, HN.out, below_drewN hb _⟩, by simp [intOf]; omega⟩
      · have HF := Lib.hid (show subB u v = true by rw [HI.out, drop_end u k (by omega)]; exact List.nil_sublist _)
        have he : ((k : Int) == (u.size : Int)) = true := by rw [beq_iff_eq]; omega
        go_wp2_with fail
        go_ret
        exact ⟨by rw [HF.out]; rfl, hb⟩
    · by_cases hk2 : k < u.size
      · have HF := Lib.hid (show subB u v = false by
          rw [← Bool.not_eq_true, HI.out, drop_end v i (by omega), drop_at u k hk2]
          intro h; cases h)
        have he : ((k : Int) == (u.size : Int)) = false := by rw [beq_eq_false_iff_ne]; omega
        go_wp2_with fail
        go_ret
        exact ⟨by rw [HF.out]; rfl, hb⟩
      · have HF := Lib.hid (show subB u v = true by rw [HI.out, drop_end u k (by omega)]; exact List.nil_sublist _)
        have he : ((k : Int) == (u.size : Int)) = true := by rw [beq_iff_eq]; omega
        go_wp2_with fail
        go_ret
        exact ⟨by rw [HF.out]; rfl, hb⟩

/-- the number of occurrences modulo m, 0 for a modulus out of range -/
def occZ (m : Int) (u v : ByteArray) : Int := if 1 ≤ m ∧ m ≤ 2147483648 then occF m u v u.size v.size else 0

set_option maxRecDepth 100000 in
set_option maxHeartbeats 1000000 in
theorem occ_yes (u v : ByteArray) (m : Int) (w : World) (hu : u.size ≤ 4096) (hv : v.size ≤ maxLen) (hm1 : 1 ≤ m) (hm2 : m ≤ 2147483648) :
    Calls Try.prog 14 #[.string u, .string v, .int .i64 m] w fun e w' => e = .returned (.int .i64 (occF m u v u.size v.size)) ∧ Below w.heap.size w w' := by
  unfold maxLen at hv
  obtain ⟨i0, hi, hz0, hz1, hz2⟩ := info_parts info3
  have hone := Int.emod_nonneg (1 : Int) (show m ≠ 0 by omega)
  have hone2 := Int.emod_lt_of_pos (1 : Int) (show 0 < m by omega)
  go_enter Try.func14, Try.ntmps14
  go_wp2_with (refine wpList_make_full _ rfl _ _ 41 rfl w.heap.size 3 i0 (.int .i64 0) 1 Try.underlying41 hi hz0 hz1 .i64 .i64 _ _ (u.size + 1) rfl rfl (by simp) (by simp) ?c1 ?c2 ?c3 ?_)
  case c1 => rw [hz2]; omega
  case c2 => unfold maxLen; omega
  case c3 => exact Nat.le_refl _
  intro w1 hown0 hg1
  have hown : ownsF w1 w.heap.size w.heap.size (u.size + 1) 3 (fun _ => 0) := by
    unfold ownsF
    rw [← rowF_made]
    simpa using hown0
  have hb : Below w.heap.size w w1 := (Below.refl _ w).grown hg1 (Nat.le_refl _) (by intro k hk; cases hk)
  have hc0 := ownsF_cell hown (show 0 < u.size + 1 by omega)
  have hf0 := ownsF_free hown 0
  clear hown0 hg1
  go_wp2_with fail
  go_loopw [26] (fun vi wr => ∃ i : Nat, vi = .int .i64 i ∧ i ≤ v.size ∧ ownsF wr w.heap.size w.heap.size (u.size + 1) 3 (fun t => occF m u v t i) ∧ Below w.heap.size w wr) (fun vi _ => v.size - (intOf vi).toNat)
  case atStart =>
    refine ⟨0, rfl, Nat.zero_le _, ownsF_congr (ownsF_set hown 0 (1 % m)) ?_, hb.setCell (Nat.le_refl _) _⟩
    intro t ht
    cases t with
    | zero => rw [if_pos rfl, occF_zero]
    | succ t => rw [if_neg (by omega), occF_start m u v t (by omega)]
  case round =>
    obtain ⟨i, rfl, hi1, how, hbw⟩ := hrel
    clear hown hb hc0 hf0
    by_cases hlt : i < v.size
    · go_wp2_with fail
      obtain ⟨wo, rfl⟩ : ∃ wo : World, wo = wr := ⟨_, rfl⟩
      go_loopw [9] (fun vj wr => ∃ j : Nat, vj = .int .i64 j ∧ j ≤ u.size ∧ ownsF wr w.heap.size w.heap.size (u.size + 1) 3 (fun t => if t ≤ j then occF m u v t i else occF m u v t (i + 1)) ∧ Below w.heap.size w wr) (fun vj _ => (intOf vj).toNat)
      case atStart =>
        refine ⟨min (i + 1) u.size, by go_num, by omega, ownsF_congr how ?_, hbw⟩
        intro t ht
        by_cases e : t ≤ min (i + 1) u.size
        · rw [if_pos e]
        · rw [if_neg e, occF_long (by omega) (by omega), occF_long (by omega) (by omega)]
      case round =>
        obtain ⟨j, rfl, hj, how2, hb2⟩ := hrel
        clear how hbw
        cases j with
        | zero =>
          go_wp2_with fail
          refine ⟨⟨i + 1, by go_num, by omega, ownsF_congr how2 ?_, hb2⟩, by simp [intOf]; omega⟩
          intro t ht
          cases t with
          | zero => rw [if_pos (by omega), occF_zero, occF_zero]
          | succ t => rw [if_neg (by omega)]
        | succ j =>
          have hcj := ownsF_cell how2 (show j + 1 < u.size + 1 by omega)
          have hck := ownsF_cell how2 (show j < u.size + 1 by omega)
          have hfj := ownsF_free how2 (j + 1)
          rw [if_pos (by omega)] at hcj hck
          obtain ⟨x0, x1⟩ := occF_range hm1 u v (j + 1) i
          obtain ⟨y0, y1⟩ := occF_range hm1 u v j i
          have hs := @occF_same m u v j i (by omega) hlt
          have ho := @occF_other m u v j i (by omega) hlt
          have hz := occF_zero m u v
          generalize hX : occF m u v (j + 1) i = x at *
          generalize hY : occF m u v j i = y at *
          have HS := Lib.hid hs
          have HO := Lib.hid ho
          have HX := Lib.hid hX
          have HY := Lib.hid hY
          clear hs ho hX hY hz
          have HW2 := Lib.hid how2
          clear how2
          by_cases he : u[j] = v[i]
          · have heb : ((u[j].toNat : Int) == (v[i].toNat : Int)) = true := by rw [he]; simp
            have HE := Lib.hid he
            clear he
            go_wp2_with fail
            have hwj : IntKind.i64.wrap (j : Int) = (j : Int) := IntWalk.i64_in _ (by omega)
            have hjI : (j : Int) < (u.size : Int) := by omega
            have hj0 : (0 : Int) ≤ (j : Int) := by omega
            have hiI : (i : Int) < (v.size : Int) := by omega
            have hi0 : (0 : Int) ≤ (i : Int) := by omega
            go_quiet (fail)
            go_wp2_with fail
            go_region
            go_wp2_with fail
            refine ⟨⟨j, rfl, by omega, ownsF_congr (ownsF_set (ownsF_drewN HW2.out) (j + 1) _) ?_, (below_drewN hb2 _).setCell (Nat.le_refl _) _⟩, by simp [intOf]⟩
            intro t ht
            by_cases e : t = j + 1
            · subst e
              rw [if_pos rfl, if_neg (by omega), HS.out HE.out]
            · rw [if_neg e]
              by_cases ht2 : t ≤ j
              · rw [if_pos (by omega), if_pos ht2]
              · rw [if_neg (by omega), if_neg ht2]
          · have heb : ((u[j].toNat : Int) == (v[i].toNat : Int)) = false := by
              rw [beq_eq_false_iff_ne]; intro e; exact he (UInt8.toNat_inj.1 (by omega))
            have HE := Lib.hid he
            clear he
            go_wp2_with fail
            have hwj : IntKind.i64.wrap (j : Int) = (j : Int) := IntWalk.i64_in _ (by omega)
            have hjI : (j : Int) < (u.size : Int) := by omega
            have hj0 : (0 : Int) ≤ (j : Int) := by omega
            have hiI : (i : Int) < (v.size : Int) := by omega
            have hi0 : (0 : Int) ≤ (i : Int) := by omega
            go_quiet (fail)
            go_wp2_with fail
            refine ⟨⟨j, rfl, by omega, ownsF_congr (ownsF_drewN HW2.out) ?_, below_drewN hb2 _⟩, by simp [intOf]⟩
            intro t ht
            by_cases e : t = j + 1
            · subst e
              rw [if_pos (Nat.le_refl _), if_neg (by omega), HO.out HE.out, HX.out]
            · by_cases ht2 : t ≤ j
              · rw [if_pos (by omega), if_pos ht2]
              · rw [if_neg (by omega), if_neg ht2]
    · have hce := ownsF_cell how (show u.size < u.size + 1 by omega)
      have hiv : i = v.size := by omega
      have HIV := Lib.hid hiv
      clear hiv
      go_wp2_with fail
      go_ret
      exact ⟨by rw [HIV.out]; rfl, hbw⟩

set_option maxHeartbeats 400000 in
theorem occ_no (u v : ByteArray) (m : Int) (w : World) (hm : m < 1 ∨ 2147483648 < m) :
    Calls Try.prog 14 #[.string u, .string v, .int .i64 m] w fun e w' => e = .returned (.int .i64 0) ∧ w = w' := by
  by_cases h : m < 1
  · clear hm
    go_enter Try.func14, Try.ntmps14
    go_wp2_with fail
    go_ret
    exact ⟨rfl, rfl⟩
  · have h2 : 2147483648 < m := by omega
    clear hm
    go_enter Try.func14, Try.ntmps14
    go_wp2_with fail
    go_ret
    exact ⟨rfl, rfl⟩

/-- word.Occurrences -/
theorem occ_any (u v : ByteArray) (m : Int) (w : World) (hu : u.size ≤ 4096) (hv : v.size ≤ maxLen) :
    Calls Try.prog 14 #[.string u, .string v, .int .i64 m] w fun e w' => e = .returned (.int .i64 (occZ m u v)) ∧ Below w.heap.size w w' := by
  by_cases h : 1 ≤ m ∧ m ≤ 2147483648
  · rw [show occZ m u v = occF m u v u.size v.size from if_pos h]
    exact occ_yes u v m w hu hv h.1 h.2
  · rw [show occZ m u v = 0 from if_neg h]
    refine (occ_no u v m w (by omega)).mono ?_
    rintro e w' ⟨rfl, rfl⟩
    exact ⟨rfl, Below.refl _ _⟩

/-! ### the list of subwords -/
theorem occR_pos {u v : List UInt8} (h : List.Sublist u v) : 1 ≤ occR u v := by
  induction h with
  | slnil => simp [occR]
  | @cons l m b h ih =>
    cases l with
    | nil => simp [occR]
    | cons a l => rw [occR]; omega
  | @cons_cons l m a h ih => rw [occR, if_pos rfl]; omega
theorem occR_le : ∀ (u v : List UInt8), occR u v ≤ 2 ^ v.length
  | [], v => by rw [occR]; exact Nat.one_le_two_pow
  | _ :: _, [] => by simp [occR]
  | a :: u, b :: v => by
    have h1 := occR_le (a :: u) v
    have h2 := occR_le u v
    rw [occR, List.length_cons, Nat.pow_succ]
    split <;> omega
theorem occZ_one {u v : ByteArray} (h : subB u v = true) (hv : v.size ≤ 10) : 1 ≤ occZ 2147483648 u v ∧ occZ 2147483648 u v ≤ 2147483648 := by
  have h1 : 1 ≤ occ u.data.toList v.data.toList := occR_pos (List.reverse_sublist.2 ((subB_iff u v).1 h))
  have h2 : occ u.data.toList v.data.toList ≤ 2 ^ v.data.toList.reverse.length := occR_le _ _
  have h3 : v.data.toList.reverse.length ≤ 10 := by simpa using hv
  have h4 : 2 ^ v.data.toList.reverse.length ≤ 1024 := Nat.pow_le_pow_right (n := 2) (by decide) h3
  have e : occZ 2147483648 u v = occF 2147483648 u v u.size v.size := if_pos (by omega)
  have e1 : u.data.toList.take u.size = u.data.toList := List.take_of_length_le (by simp)
  have e2 : v.data.toList.take v.size = v.data.toList := List.take_of_length_le (by simp)
  rw [e, occF, e1, e2, Int.emod_eq_of_lt (by omega) (by omega)]
  omega
theorem ext_one (s : ByteArray) (i : Nat) (h : i < s.size) : (s.extract i (i + 1)).data.toList = [s[i]] := by
  have h1 : s.data.toList.take (i + 1) = s.data.toList.take i ++ (s.extract i (i + 1)).data.toList := by
    simp only [ByteArray.data_extract, Array.toList_extract, List.extract_eq_take_drop]
    rw [Nat.add_sub_cancel_left, List.take_add]
  have h2 := take_snoc s i h
  rw [h1] at h2
  exact List.append_cancel_left h2
theorem sub_snoc {y t : List UInt8} {a : UInt8} : List.Sublist y (t ++ [a]) ↔ List.Sublist y t ∨ ∃ z, y = z ++ [a] ∧ List.Sublist z t := by
  rw [List.sublist_append_iff]
  constructor
  · rintro ⟨l1, l2, rfl, h1, h2⟩
    cases h2 with
    | cons _ h => cases h; rw [List.append_nil]; exact .inl h1
    | cons_cons _ h => cases h; exact .inr ⟨l1, rfl, h1⟩
  · rintro (h | ⟨z, rfl, h⟩)
    · exact ⟨y, [], by simp, h, List.nil_sublist _⟩
    · exact ⟨z, [a], rfl, h, List.Sublist.refl _⟩
theorem subO_iff (s : ByteArray) (n : Nat) {y : ByteArray} : ∀ {i : Nat}, i ≤ s.size → (y ∈ subO s n i ↔ y.size ≤ n ∧ List.Sublist y.data.toList (s.data.toList.take i))
  | 0, _ => by
    rw [subO, List.mem_singleton, List.take_zero, List.sublist_nil]
    constructor
    · rintro rfl; exact ⟨Nat.zero_le _, rfl⟩
    · rintro ⟨_, h⟩; exact ext_list h
  | i + 1, h => by
    have hi : i < s.size := h
    rw [subO_mem, subO_iff s n (by omega), take_snoc s i hi, sub_snoc]
    constructor
    · rintro (⟨h1, h2⟩ | ⟨x, h1, h2, rfl⟩)
      · exact ⟨h1, .inl h2⟩
      · have h3 := (subO_iff s n (y := x) (by omega)).1 h1
        refine ⟨by rw [ByteArray.size_append, ByteArray.size_extract]; omega, .inr ⟨x.data.toList, ?_, h3.2⟩⟩
        rw [← ext_one s i hi]; simp
    · rintro ⟨h1, h2 | ⟨z, h2, h3⟩⟩
      · exact .inl ⟨h1, h2⟩
      · have e : y = (⟨z.toArray⟩ : ByteArray) ++ s.extract i (i + 1) := ext_list (by
          have e3 : ((⟨z.toArray⟩ : ByteArray) ++ s.extract i (i + 1)).data.toList = z ++ (s.extract i (i + 1)).data.toList := by simp
          rw [e3, ext_one s i hi, h2])
        have e2 : y.size = z.length + 1 := by
          have := congrArg List.length h2
          simpa using this
        refine .inr ⟨⟨z.toArray⟩, (subO_iff s n (by omega)).2 ⟨?_, by simpa using h3⟩, ?_, e⟩
        · show z.toArray.size ≤ n
          simp; omega
        · show z.toArray.size < n
          simp; omega
theorem subO_full (s : ByteArray) (n : Nat) (y : ByteArray) : y ∈ subO s n s.size ↔ y.size ≤ n ∧ subB y s = true := by
  rw [subO_iff s n (Nat.le_refl _), subB_iff, List.take_of_length_le (by simp)]

/-- what the list of subwords is, for whatever length is asked for -/
theorem subwords_all (s : ByteArray) (n : Int) (hs : s.size ≤ 10) (hn : n ≤ 9223372036854775807) : ∃ l : List ByteArray,
    (∀ W : World, Calls Try.prog 7 #[.string s, .int .i64 n] W (GivesS W l)) ∧ l.length ≤ 65536 ∧ l.Pairwise ltW ∧ (∀ y, y ∈ l ↔ 0 ≤ n ∧ (y.size : Int) ≤ n ∧ subB y s = true) ∧ (∀ y, y ∈ l → y.size ≤ 16) := by
  by_cases h : n < 0
  · refine ⟨[], fun W => ?_, by simp, List.Pairwise.nil, fun y => ?_, fun y hy => by cases hy⟩
    · go_enter Try.func7, Try.ntmps7
      go_wp2_with fail
      go_ret
      exact ⟨none, 0, rfl, .inl ⟨rfl, rfl, rfl⟩, Below.refl _ _⟩
    · constructor
      · intro hy; cases hy
      · rintro ⟨h1, _⟩; omega
  · obtain ⟨k, rfl⟩ := Int.eq_ofNat_of_zero_le (show 0 ≤ n by omega)
    refine ⟨subO s k s.size, fun W => subwords_ok s k W (by omega) (by omega), Nat.le_trans (subO_len s k _) (pow_le16 (by omega)), subO_sorted s k _, fun y => ?_, fun y hy => by have := subO_size s k _ y hy; omega⟩
    rw [subO_full]
    constructor
    · rintro ⟨h1, h2⟩; exact ⟨by omega, by omega, h2⟩
    · rintro ⟨h1, h2, h3⟩; exact ⟨by omega, h3⟩
end Go.Proofs.Ytbmbgdfnhbkelab
