/- Contracts: the reference's MayLetters, measure, Within, shaped, Validate, Valid, Size, Depth. -/
import Derived.Test.YthmdndondlffeaaExprD
namespace Go.Proofs.Ythmdndondlffeaa
open Go Go.RowKit
set_option linter.unusedVariables false
set_option maxHeartbeats 400000 in
theorem mayR_any (L : Int) (w : World) : Calls Try.prog 31 #[.int .i64 L] w fun e w' => e = .returned (.bool (mayB L)) ∧ w = w' := by
  by_cases h1 : 1 ≤ L
  · by_cases h2 : L ≤ 6
    · have H := Lib.hid (mayB_yes h1 h2)
      go_enter Try.func31, Try.ntmps31
      go_wp2_with fail
      go_ret
      exact ⟨by rw [H.out]; rfl, rfl⟩
    · have H := Lib.hid (mayB_hi (L := L) (by omega))
      go_enter Try.func31, Try.ntmps31
      go_wp2_with fail
      go_ret
      exact ⟨by rw [H.out]; rfl, rfl⟩
  · have H := Lib.hid (mayB_lo (L := L) (by omega))
    go_enter Try.func31, Try.ntmps31
    go_wp2_with fail
    go_ret
    exact ⟨by rw [H.out]; rfl, rfl⟩
/-- what measure returns -/
def MeasP (ks : List T) (w : World) (e : Ending) (w' : World) : Prop :=
  ∃ d : Int, e = .returned (.tuple #[.int .i64 ((min (1 + sizeL ks) 401 : Nat) : Int), .int .i64 d]) ∧ B64 d ∧ (1 + sizeL ks ≤ 400 → d = ((depthL ks + 1 : Nat) : Int)) ∧ Below w.heap.size w w'
theorem B64_max {a b : Int} (h1 : B64 a) (h2 : B64 b) : B64 (max a b) := by unfold B64 at *; omega
theorem B64_wrap (x : Int) : B64 (wrap64 x) := by
  unfold B64 wrap64; omega
set_option maxRecDepth 100000 in
set_option maxHeartbeats 1000000 in
theorem measure_any (op l : Int) (ks : List T) : ∀ (a : Option Addr) (c : Nat) (w : World), InX w op l ks a →
    Calls Try.prog 29 #[.agg #[.int .i64 op, .int .i64 l, .slice a ks.length c], .int .i64 400] w (MeasP ks w) := by
  refine T.ind2 (P := fun op l ks => ∀ (a : Option Addr) (c : Nat) (w : World), InX w op l ks a →
    Calls Try.prog 29 #[.agg #[.int .i64 op, .int .i64 l, .slice a ks.length c], .int .i64 400] w (MeasP ks w)) ?_ op l ks
  clear op l ks
  intro op l ks ih a c w hin
  have hlen := hin.2.2.2
  have HI := Lib.hid hin
  have IH := Lib.hid ih
  clear hin ih
  go_enter Try.func29, Try.ntmps29
  go_wp2_with fail
  go_loopw [6, 7, 8] (fun vn vd vi wr => ∃ (i n : Nat) (d : Int), i ≤ ks.length ∧ vi = .int .i64 i ∧ vn = .int .i64 n ∧ vd = .int .i64 d ∧ n = min (1 + sizeL (ks.take i)) 401 ∧ B64 d ∧ (1 + sizeL (ks.take i) ≤ 400 → d = (depthL (ks.take i) : Nat)) ∧ Below (w.heap.size + 1) (w.alloc (.cells #[.int .i64 op, .int .i64 l, .slice a ks.length c] 24)) wr) (fun _ _ vi _ => ks.length - (intOf vi).toNat)
  case atStart => exact ⟨0, 1, 0, Nat.zero_le _, rfl, rfl, rfl, by simp [sizeL], by unfold B64; omega, by simp [depthL], Below.refl _ _⟩
  case round =>
    obtain ⟨i, n, d, hi, rfl, rfl, rfl, hn, hd, hdd, hb⟩ := hrel
    have hn401 : n ≤ 401 := by omega
    have HN := Lib.hid hn
    have HD := Lib.hid hd
    have HDD := Lib.hid hdd
    have HB := Lib.hid hb
    clear hn hd hdd hb
    have hx2 := (box_cells HB.out).2.2
    by_cases hlt : i < ks.length
    · by_cases hn4 : n ≤ 400
      · obtain ⟨ko, kl, kk, hk, hk2⟩ := kid_some hlt
        have HKI := Lib.hid ((HI.out.box _).keep (HB.out.mono (by simp)))
        obtain ⟨b, off, a', c', rfl, hbz, c1, c2, c3, hin'⟩ := HKI.out.kid hk
        have hq := IH.out i ko kl kk hk
        have HIN := Lib.hid hin'
        have hi0 : (0 : Int) ≤ (i : Int) := by omega
        have hin2 : (i : Int) < (ks.length : Int) := by omega
        have hwi : IntKind.i64.wrap (i : Int) = (i : Int) := IntWalk.i64_in _ (by omega)
        obtain ⟨kn, hkn⟩ : ∃ kn, kn = kk.length := ⟨_, rfl⟩
        have HQ := Lib.hid (fun W (h : InX W ko kl kk a') => hq a' c' W h)
        rw [← hkn] at c3 HQ
        have hsn := sizeL_take_succ hlt
        have hdn := depthL_take_succ hlt
        have hks : sizeT ks[i] = 1 + sizeL kk := by rw [hk2]; rfl
        have hkd : depthT ks[i] = depthL kk + 1 := by rw [hk2]; rfl
        rw [hks] at hsn
        rw [hkd] at hdn
        have hxx : ∃ m n2 : Nat, m = min (1 + sizeL kk) 401 ∧ m ≤ 401 ∧ n2 = min (1 + sizeL (ks.take (i + 1))) 401 ∧ n2 = min (n + m) 401 ∧ min ((n : Int) + (m : Int)) 401 = (n2 : Int) := by
          have := HN.out
          refine ⟨_, _, rfl, by omega, rfl, by omega, by omega⟩
        obtain ⟨m, n2, hm, hm4, hn2, hn2', hmin⟩ := hxx
        have HM := Lib.hid hm
        have HN2 := Lib.hid hn2
        have HDN := Lib.hid hdn
        have HSN := Lib.hid hsn
        clear hin' hkn hq hsn hdn hks hkd hm hn2 hk hk2 hn2'
        go_wp2_with fail
        refine (HQ.out _ HIN.out).mono ?_
        rintro e w3 ⟨d', rfl, hd', hdd', hB⟩
        rw [← HM.out]
        have HB2 := Lib.hid (HB.out.trans (hB.mono (by have := HB.out.size; simp at this; omega)))
        have hxd : ∃ d2 : Int, max d d' = d2 ∧ B64 d2 ∧ (1 + sizeL (ks.take (i + 1)) ≤ 400 → d2 = (depthL (ks.take (i + 1)) : Nat)) := by
          refine ⟨_, rfl, B64_max HD.out hd', fun h => ?_⟩
          have h1 := HSN.out
          have h2 := HDD.out (by omega)
          have h3 := hdd' (by omega)
          rw [HDN.out, h2, h3]; omega
        obtain ⟨d2, hmax, hd2, hdd2⟩ := hxd
        have HD2 := Lib.hid hd2
        have HDD2 := Lib.hid hdd2
        clear hB hd' hdd' hd2 hdd2
        go_wp2_with fail
        exact ⟨⟨i + 1, n2, d2, by omega, by go_num, rfl, rfl, HN2.out, HD2.out, HDD2.out, HB2.out⟩, by simp [intOf]; omega⟩
      · have hz : 401 ≤ 1 + sizeL ks := by have := HN.out; have := sizeL_take_le ks i; omega
        have HZ := Lib.hid (show ((min (1 + sizeL ks) 401 : Nat) : Int) = n by have := HN.out; omega)
        have HZ2 := Lib.hid (show ¬ (1 + sizeL ks ≤ 400) by omega)
        clear hz
        go_wp2_with fail
        go_ret2
        exact ⟨wrap64 (d + 1), by rw [HZ.out]; rfl, B64_wrap _, fun h => absurd h HZ2.out, below_box HB.out⟩
    · obtain rfl : i = ks.length := by omega
      have HN2 := Lib.hid (show n = min (1 + sizeL ks) 401 by have := HN.out; rw [List.take_length] at this; exact this)
      have HDD2 := Lib.hid (show 1 + sizeL ks ≤ 400 → d = (depthL ks : Nat) by have := HDD.out; rw [List.take_length] at this; exact this)
      by_cases hs : 1 + sizeL ks ≤ 400
      · have hdl : depthL ks ≤ 400 := by have := depth_le_size (.node 0 0 ks); simp [depthT, sizeT] at this; omega
        obtain ⟨dl, hdl2⟩ : ∃ dl, dl = depthL ks := ⟨_, rfl⟩
        have HS := Lib.hid hdl2
        have h5 := HDD2.out hs
        rw [← hdl2] at h5 hdl
        subst h5
        clear hs hdl2
        go_wp2_with fail
        go_ret2
        exact ⟨((dl + 1 : Nat) : Int), by rw [← HN2.out]; rfl, by unfold B64; omega, fun _ => by rw [← HS.out], below_box HB.out⟩
      · have HS := Lib.hid hs
        clear hs
        go_wp2_with fail
        go_ret2
        exact ⟨wrap64 (d + 1), by rw [← HN2.out]; rfl, B64_wrap _, fun h => absurd h HS.out, below_box HB.out⟩
theorem measP_size (op l : Int) (ks : List T) : sizeT (.node op l ks) = 1 + sizeL ks ∧ depthT (.node op l ks) = depthL ks + 1 := ⟨rfl, rfl⟩
set_option maxHeartbeats 1000000 in
theorem withinR_any (op l : Int) (ks : List T) (a : Option Addr) (c : Nat) (w : World) (hin : InX w op l ks a) :
    Calls Try.prog 32 #[.agg #[.int .i64 op, .int .i64 l, .slice a ks.length c]] w fun e w' => e = .returned (.bool (withinB (.node op l ks))) ∧ Below w.heap.size w w' := by
  have HI := Lib.hid hin
  have HQ := Lib.hid (fun W (h : InX W op l ks a) => measure_any op l ks a c W h)
  clear hin
  obtain ⟨n, hn⟩ : ∃ n, n = ks.length := ⟨_, rfl⟩
  rw [← hn] at HQ ⊢
  clear hn
  have HB0 := Lib.hid ((Below.refl w.heap.size w).alloc (Nat.le_refl _) (.cells #[.int .i64 op, .int .i64 l, .slice a n c] 24))
  have HI0 := Lib.hid (HI.out.box (.cells #[.int .i64 op, .int .i64 l, .slice a n c] 24))
  by_cases h1 : 1 + sizeL ks ≤ 400
  · by_cases h2 : depthL ks + 1 ≤ 40
    · have HF := Lib.hid (show withinB (.node op l ks) = true by simp only [withinB, measP_size]; simp; omega)
      have HX := Lib.hid (show ((min (1 + sizeL ks) 401 : Nat) : Int) ≤ 400 by omega)
      have H1 := Lib.hid h1
      have H2 := Lib.hid h2
      clear h1 h2
      go_enter Try.func32, Try.ntmps32
      go_wp2_with fail
      refine (HQ.out _ HI0.out).mono ?_
      rintro e w2 ⟨d, rfl, hd, hdd, hB⟩
      have HB2 := Lib.hid (HB0.out.trans (hB.mono (by simp)))
      have h3 := hdd H1.out
      have h4 : d ≤ 40 := by have := H2.out; omega
      have h5 := HX.out
      obtain ⟨x, hx⟩ : ∃ x : Int, x = ((min (1 + sizeL ks) 401 : Nat) : Int) := ⟨_, rfl⟩
      rw [← hx] at h5 ⊢
      clear hB h3 hdd hx
      go_wp2_with fail
      go_ret
      exact ⟨by rw [HF.out]; rfl, HB2.out⟩
    · have HF := Lib.hid (show withinB (.node op l ks) = false by simp only [withinB, measP_size]; simp; omega)
      have HX := Lib.hid (show ((min (1 + sizeL ks) 401 : Nat) : Int) ≤ 400 by omega)
      have H1 := Lib.hid h1
      have H2 := Lib.hid h2
      clear h1 h2
      go_enter Try.func32, Try.ntmps32
      go_wp2_with fail
      refine (HQ.out _ HI0.out).mono ?_
      rintro e w2 ⟨d, rfl, hd, hdd, hB⟩
      have HB2 := Lib.hid (HB0.out.trans (hB.mono (by simp)))
      have h3 := hdd H1.out
      have h4 : decide (d ≤ 40) = false := by have := H2.out; simp; omega
      have h5 := HX.out
      obtain ⟨x, hx⟩ : ∃ x : Int, x = ((min (1 + sizeL ks) 401 : Nat) : Int) := ⟨_, rfl⟩
      rw [← hx] at h5 ⊢
      clear hB h3 hdd hx
      go_wp2_with fail
      go_ret
      exact ⟨by rw [HF.out]; rfl, HB2.out⟩
  · have HF := Lib.hid (show withinB (.node op l ks) = false by simp only [withinB, measP_size]; simp; omega)
    have HX := Lib.hid (show ¬ ((min (1 + sizeL ks) 401 : Nat) : Int) ≤ 400 by omega)
    clear h1
    go_enter Try.func32, Try.ntmps32
    go_wp2_with fail
    refine (HQ.out _ HI0.out).mono ?_
    rintro e w2 ⟨d, rfl, hd, hdd, hB⟩
    have HB2 := Lib.hid (HB0.out.trans (hB.mono (by simp)))
    have h5 := HX.out
    obtain ⟨x, hx⟩ : ∃ x : Int, x = ((min (1 + sizeL ks) 401 : Nat) : Int) := ⟨_, rfl⟩
    rw [← hx] at h5 ⊢
    clear hB hdd hx
    go_wp2_with fail
    go_ret
    exact ⟨by rw [HF.out]; rfl, HB2.out⟩
set_option maxHeartbeats 1000000 in
theorem sizeR_any (op l : Int) (ks : List T) (a : Option Addr) (c : Nat) (w : World) (hin : InX w op l ks a) (hs : sizeT (.node op l ks) ≤ 400) :
    Calls Try.prog 28 #[.agg #[.int .i64 op, .int .i64 l, .slice a ks.length c]] w fun e w' => e = .returned (.int .i64 (sizeT (.node op l ks) : Nat)) ∧ Below w.heap.size w w' := by
  have HI := Lib.hid hin
  have HQ := Lib.hid (fun W (h : InX W op l ks a) => measure_any op l ks a c W h)
  have HX := Lib.hid (show (min (1 + sizeL ks) 401 : Nat) = sizeT (.node op l ks) by rw [(measP_size op l ks).1] at *; omega)
  clear hin hs
  obtain ⟨n, hn⟩ : ∃ n, n = ks.length := ⟨_, rfl⟩
  rw [← hn] at HQ ⊢
  clear hn
  have HB0 := Lib.hid ((Below.refl w.heap.size w).alloc (Nat.le_refl _) (.cells #[.int .i64 op, .int .i64 l, .slice a n c] 24))
  have HI0 := Lib.hid (HI.out.box (.cells #[.int .i64 op, .int .i64 l, .slice a n c] 24))
  obtain ⟨x, hx⟩ : ∃ x, x = sizeT (.node op l ks) := ⟨_, rfl⟩
  rw [← hx] at HX ⊢
  clear hx
  go_enter Try.func28, Try.ntmps28
  go_wp2_with fail
  refine (HQ.out _ HI0.out).mono ?_
  rintro e w2 ⟨d, rfl, hd, hdd, hB⟩
  rw [HX.out]
  have HB2 := Lib.hid (HB0.out.trans (hB.mono (by simp)))
  clear hB hdd
  go_wp2_with fail
  go_ret
  exact ⟨rfl, HB2.out⟩
set_option maxHeartbeats 1000000 in
theorem depthR_any (op l : Int) (ks : List T) (a : Option Addr) (c : Nat) (w : World) (hin : InX w op l ks a) (hs : sizeT (.node op l ks) ≤ 400) :
    Calls Try.prog 14 #[.agg #[.int .i64 op, .int .i64 l, .slice a ks.length c]] w fun e w' => e = .returned (.int .i64 (depthT (.node op l ks) : Nat)) ∧ Below w.heap.size w w' := by
  have HI := Lib.hid hin
  have HQ := Lib.hid (fun W (h : InX W op l ks a) => measure_any op l ks a c W h)
  have HX := Lib.hid (show 1 + sizeL ks ≤ 400 ∧ depthL ks + 1 = depthT (.node op l ks) from ⟨hs, rfl⟩)
  clear hin hs
  obtain ⟨n, hn⟩ : ∃ n, n = ks.length := ⟨_, rfl⟩
  rw [← hn] at HQ ⊢
  clear hn
  have HB0 := Lib.hid ((Below.refl w.heap.size w).alloc (Nat.le_refl _) (.cells #[.int .i64 op, .int .i64 l, .slice a n c] 24))
  have HI0 := Lib.hid (HI.out.box (.cells #[.int .i64 op, .int .i64 l, .slice a n c] 24))
  obtain ⟨x, hx⟩ : ∃ x, x = depthT (.node op l ks) := ⟨_, rfl⟩
  rw [← hx] at HX ⊢
  clear hx
  go_enter Try.func14, Try.ntmps14
  go_wp2_with fail
  refine (HQ.out _ HI0.out).mono ?_
  rintro e w2 ⟨d, rfl, hd, hdd, hB⟩
  have h3 := hdd HX.out.1
  rw [HX.out.2] at h3
  subst h3
  have HB2 := Lib.hid (HB0.out.trans (hB.mono (by simp)))
  clear hB hdd
  go_wp2_with fail
  go_ret
  exact ⟨rfl, HB2.out⟩

/-! ### shaped, Validate -/
theorem rng_beq (op : Int) : (decide (1 ≤ op) && decide (op ≤ 8)) = decide (op = 1 ∨ op = 2 ∨ op = 3 ∨ op = 4 ∨ op = 5 ∨ op = 6 ∨ op = 7 ∨ op = 8) := by
  rw [Bool.eq_iff_iff]; simp; omega
theorem wfT_take {L op l : Int} {ks : List T} {i : Nat} {ok : Bool} (h : ok = (kidsOk op ks.length && letOk op l L && wfL L (ks.take i))) (hend : i = ks.length ∨ ok = false) : ok = wfT L (.node op l ks) := by
  rcases hend with rfl | h2
  · rw [List.take_length] at h; exact h
  · rw [h2] at h ⊢
    cases hk : kidsOk op ks.length
    · exact (wfT_kids hk).symm
    · cases hl : letOk op l L
      · exact (wfT_let hl).symm
      · simp only [hk, hl, Bool.true_and] at h
        symm
        rw [← Bool.not_eq_true, wfT_node]
        intro h3
        rw [eq_comm, ← Bool.not_eq_true, wfL_iff] at h
        exact h fun k hk => h3.2.2 k (List.mem_of_mem_take hk)
theorem wfL_take_succ {L : Int} {ks : List T} {i : Nat} (h : i < ks.length) : wfL L (ks.take (i + 1)) = (wfL L (ks.take i) && wfT L ks[i]) := by
  rw [take_snoc h, Bool.eq_iff_iff, wfL_iff]
  simp only [Bool.and_eq_true, wfL_iff, List.mem_append, List.mem_singleton]
  exact ⟨fun h => ⟨fun k hk => h k (.inl hk), h _ (.inr rfl)⟩, fun h k hk => hk.elim (h.1 k) (fun e => by rw [e]; exact h.2)⟩
/-- the head of shaped: ok before the loop -/
def headOk (op l L : Int) (n : Nat) : Bool := kidsOk op n && letOk op l L
end Go.Proofs.Ythmdndondlffeaa
