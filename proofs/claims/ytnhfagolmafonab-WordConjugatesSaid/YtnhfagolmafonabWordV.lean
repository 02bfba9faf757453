/- Contracts: word.Conjugate and the reference's Conjugate; the walk of the law on rotations. -/
import Derived.Test.YtnhfagolmafonabWordP
import Derived.Test.YtnhfagolmafonabWordVM
import Derived.Test.YtnhfagolmafonabShelf
namespace Go.Proofs.Ytnhfagolmafonab
open Go.RowKit Go.Sort
open WordM
set_option linter.unusedVariables false

/-- the library's variable MaxLen holds some number -/
def HasMax (w : World) : Prop := ∃ m, w.cell? ⟨0, 0, none⟩ = some (.int .i64 m)
theorem hasMax_of {w : World} (h : w.ShapedOpen Try.prog) : HasMax w :=
  Go.Proofs.cell_of_shapedOpen_int (zero := #[.int .i64 0]) (t := 3) h (of_decide_eq_true (by kernel_rfl)) (by kernel_rfl) rfl (by kernel_rfl) (by kernel_rfl) Try.underlying3
theorem hasMax_lt {w : World} (h : HasMax w) : 0 < w.heap.size := by
  obtain ⟨m, hm⟩ := h
  exact World.block_lt_of_cell? w _ hm
theorem hasMax_below {B : Nat} {w w' : World} (h : HasMax w) (hb : Below B w w') (hB : B = w.heap.size) : HasMax w' := by
  have hl := hasMax_lt h
  obtain ⟨m, hm⟩ := h
  exact ⟨m, hb.cell (p := ⟨0, 0, none⟩) (by rw [hB]; exact hl) ▸ hm⟩

set_option maxRecDepth 100000 in
set_option maxHeartbeats 1000000 in
theorem conj_any (u v : ByteArray) (w : World) (hu : u.size ≤ 4096) (hv : v.size ≤ 4096) (hx : HasMax w) :
    Calls Try.prog 13 #[.string u, .string v] w fun e w' => e = .returned (.bool (conjB u v)) ∧ w = w' := by
  obtain ⟨m, hm⟩ := hx
  by_cases h : u.size = v.size
  · have hC := Lib.hid (show conjB u v = Lib.contains (u ++ u).data.toList v.data.toList by simp only [conjB, h, decide_true, Bool.true_and])
    have he : ((u.size : Int) == (v.size : Int)) = true := by rw [beq_iff_eq]; omega
    have hz : (u ++ u).size < 4294967281 := by rw [ByteArray.size_append]; omega
    have HZ := Lib.hid hz
    have HM := Lib.hid hm
    clear h hz hm
    go_enter Try.func13, Try.ntmps13
    go_wp2_with fail
    refine (Try.strings_Contains _ _ m _ HZ.out HM.out).mono ?_
    rintro e w2 ⟨rfl, rfl⟩
    rw [← hC.out]
    go_wp2_with fail
    go_ret
    exact ⟨rfl, rfl⟩
  · have hC := Lib.hid (show conjB u v = false by simp only [conjB, h, decide_false, Bool.false_and])
    have he : ((u.size : Int) == (v.size : Int)) = false := by rw [beq_eq_false_iff_ne]; omega
    clear h hm
    go_enter Try.func13, Try.ntmps13
    go_wp2_with fail
    go_ret
    exact ⟨by rw [hC.out]; rfl, rfl⟩

theorem rot_eq {u v : ByteArray} {i : Nat} (hi : i ≤ u.size) : ((u.extract i u.size ++ u.extract 0 i).data.toList = v.data.toList) ↔ v.data.toList = u.data.toList.drop i ++ u.data.toList.take i := by
  have h : (u.extract i u.size ++ u.extract 0 i).data.toList = u.data.toList.drop i ++ u.data.toList.take i := by
    have h0 : (u.extract i u.size ++ u.extract 0 i).data.toList = (u.extract i u.size).data.toList ++ (u.extract 0 i).data.toList := by simp
    rw [h0, extract_list, extract_list, List.drop_zero, Nat.sub_zero, List.take_of_length_le (by rw [List.length_drop, size_list]; omega)]
  rw [h]
  exact eq_comm

set_option maxRecDepth 100000 in
set_option maxHeartbeats 1000000 in
theorem rconj_any (u v : ByteArray) (w : World) (hu : u.size ≤ 4096) :
    Calls Try.prog 14 #[.string u, .string v] w fun e w' => e = .returned (.bool (conjB u v)) ∧ Below w.heap.size w w' := by
  go_enter Try.func14, Try.ntmps14
  go_wp2_with fail
  go_loopw [5] (fun vi wr => ∃ i : Nat, vi = .int .i64 i ∧ i ≤ u.size + 1 ∧ (∀ j, j < i → ¬ v.data.toList = u.data.toList.drop j ++ u.data.toList.take j) ∧ Below w.heap.size w wr) (fun vi _ => u.size + 1 - (intOf vi).toNat)
  case atStart => exact ⟨0, rfl, Nat.zero_le _, fun j hj => by omega, Below.refl _ _⟩
  case round =>
    obtain ⟨i, rfl, hi, hall, hb⟩ := hrel
    by_cases hlt : i ≤ u.size
    · have h1 : (0 : Int) ≤ (i : Int) := by omega
      have h2 : (i : Int) ≤ (u.size : Int) := by omega
      have hs1 : (u.extract i u.size).size = u.size - i := by rw [ByteArray.size_extract]; omega
      have hs2 : (u.extract 0 i).size = i := by rw [ByteArray.size_extract]; omega
      have HALL := Lib.hid hall
      clear hall
      by_cases hE : v.data.toList = u.data.toList.drop i ++ u.data.toList.take i
      · have HC := Lib.hid ((conj_iff u v).2 ⟨i, hlt, hE⟩)
        have he : ((u.extract i u.size ++ u.extract 0 i).toList == v.toList) = true := by
          rw [beq_iff_eq, Lib.toList_data, Lib.toList_data]; exact (rot_eq hlt).2 hE
        clear hE
        go_wp2_with fail
        go_quiet (fail)
        go_wp2_with fail
        go_ret
        exact ⟨by rw [HC.out]; rfl, below_drewN hb _⟩
      · have he : ((u.extract i u.size ++ u.extract 0 i).toList == v.toList) = false := by
          rw [beq_eq_false_iff_ne, Lib.toList_data, Lib.toList_data]; intro h; exact hE ((rot_eq hlt).1 h)
        have HN := Lib.hid (show ∀ j, j < i + 1 → ¬ v.data.toList = u.data.toList.drop j ++ u.data.toList.take j from fun j hj => by
          by_cases c : j = i
          · rw [c]; exact hE
          · exact HALL.out j (by omega))
        clear hE
        go_wp2_with fail
        go_quiet (fail)
        go_wp2_with fail
        exact ⟨⟨i + 1, by go_num, by omega, HN.out, below_drewN hb _⟩, by simp [intOf]; omega⟩
    · have HC := Lib.hid (show conjB u v = false by
        rw [← Bool.not_eq_true, conj_iff]
        rintro ⟨j, hj, he⟩
        exact hall j (by omega) he)
      clear hall
      go_wp2_with fail
      go_ret
      exact ⟨by rw [HC.out]; rfl, hb⟩

theorem rootE_parts (x y : ByteArray) : (rootS (y ++ x)).size = (rootS (x ++ y)).size ∧ rootE (y ++ x) = rootE (x ++ y) := by
  have hL : rootL (y ++ x) = rootL (x ++ y) := rlen_parts x y
  have hz : (y ++ x).size = (x ++ y).size := by simp only [ByteArray.size_append]; omega
  exact ⟨by simp only [rootS, ByteArray.size_extract, hL, hz], by simp only [rootE, hL, hz]⟩

set_option maxRecDepth 100000 in
set_option maxHeartbeats 2000000 in
theorem wWordConjugates (u0 : ByteArray) (_ : u0.size ≤ maxLen) (v0 : ByteArray) (_ : v0.size ≤ maxLen) (x0 : ByteArray) (_ : x0.size ≤ maxLen) (y0 : ByteArray) (_ : y0.size ≤ maxLen) (w : World) (hsh : w.ShapedOpen Try.prog) :
    Calls Try.prog 4 #[.string u0, .string v0, .string x0, .string y0] w fun e w' => e = .returned (.bool true) ∧ Below w.heap.size w w' := by
  have hx0 := hasMax_of hsh
  have cu := cutS_le u0 100
  have cv := cutS_le v0 100
  have cx := cutS_le x0 50
  have cy := cutS_le y0 50
  go_enter Try.func4, Try.ntmps4
  go_wp2_with fail
  refine (cut_any _ _ _ (by omega) (by omega)).mono ?_
  rintro e w2 ⟨rfl, rfl⟩
  go_wp2_with fail
  refine (cut_any _ _ _ (by omega) (by omega)).mono ?_
  rintro e w2 ⟨rfl, rfl⟩
  go_wp2_with fail
  refine (cut_any _ _ _ (by omega) (by omega)).mono ?_
  rintro e w2 ⟨rfl, rfl⟩
  go_wp2_with fail
  refine (cut_any _ _ _ (by omega) (by omega)).mono ?_
  rintro e w2 ⟨rfl, rfl⟩
  rw [show (50 : Int).toNat = 50 from rfl]
  generalize cutS u0 100 = u at *
  generalize cutS v0 100 = v at *
  generalize cutS x0 50 = x at *
  generalize cutS y0 50 = y at *
  have HX := Lib.hid hx0
  clear hx0 hsh
  go_wp2_with fail
  refine (conj_any u v _ (by omega) (by omega) HX.out).mono ?_
  rintro e w2 ⟨rfl, rfl⟩
  go_wp2_with fail
  refine (rconj_any u v _ (by omega)).mono ?_
  rintro e w3 ⟨rfl, hb3⟩
  have HX3 := Lib.hid (hasMax_below HX.out hb3 rfl)
  go_wp2_with fail
  refine (conj_any v u _ (by omega) (by omega) HX3.out).mono ?_
  rintro e w4 ⟨rfl, rfl⟩
  rw [conj_comm u v]
  go_wp2_with fail
  refine (conj_any u v _ (by omega) (by omega) HX3.out).mono ?_
  rintro e w4 ⟨rfl, rfl⟩
  have hxy : (x ++ y).size ≤ 100 := by rw [ByteArray.size_append]; omega
  have hyx : (y ++ x).size ≤ 100 := by rw [ByteArray.size_append]; omega
  have HP := Lib.hid (rootE_parts x y)
  have HCP := Lib.hid (conj_parts x y)
  go_wp2_with fail
  refine (root_any (x ++ y) _ (by omega)).mono ?_
  rintro e w5 ⟨rfl, hb5⟩
  have hb6 := hb3.trans (hb5.mono hb3.size)
  go_wp2_with fail
  refine (root_any (y ++ x) _ (by omega)).mono ?_
  rintro e w7 ⟨rfl, hb7⟩
  have hb8 := hb6.trans (hb7.mono hb6.size)
  rw [HP.out.2]
  have HX8 := Lib.hid (hasMax_below HX.out hb8 rfl)
  go_wp2_with fail
  refine (conj_any (x ++ y) (y ++ x) _ (by omega) (by omega) HX8.out).mono ?_
  rintro e w9 ⟨rfl, rfl⟩
  rw [HCP.out]
  have hse : (((rootS (x ++ y)).size : Int) == ((rootS (y ++ x)).size : Int)) = true := by rw [beq_iff_eq, HP.out.1]
  go_wp2_with fail
  refine (awake_any _).mono ?_
  rintro e w10 ⟨rfl, hb10⟩
  have hb11 := hb8.trans (hb10.mono hb8.size)
  go_wp2_with fail
  go_ret
  exact ⟨rfl, hb11⟩
end Go.Proofs.Ytnhfagolmafonab
