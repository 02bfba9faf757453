/- Facts and contracts: depth, star height, uses. -/
import Derived.Test.YtjnnabcpamionaaExprF
namespace Go.Proofs.Ytjnnabcpamionaa
open Go Go.RowKit
set_option linter.unusedVariables false
mutual
def shT : T → Nat | .node op _ ks => shL ks + (if op = 7 then 1 else 0)
def shL : List T → Nat | [] => 0 | k :: ks => max (shT k) (shL ks)
end
mutual
def usT : T → Bool | .node op _ ks => (op == 7) || usL ks
def usL : List T → Bool | [] => false | k :: ks => usT k || usL ks
end
theorem shL_append (a b : List T) : shL (a ++ b) = max (shL a) (shL b) := by
  induction a with
  | nil => simp [shL]
  | cons x a ih => simp only [List.cons_append, shL, ih]; omega
theorem shL_take_succ {ks : List T} {i : Nat} (h : i < ks.length) : shL (ks.take (i + 1)) = max (shL (ks.take i)) (shT ks[i]) := by
  rw [take_snoc h, shL_append]; simp [shL]
theorem shL_take_le (ks : List T) (i : Nat) : shL (ks.take i) ≤ shL ks := by
  have h := shL_append (ks.take i) (ks.drop i)
  rw [List.take_append_drop] at h
  omega
theorem shL_mem {ks : List T} {k : T} (h : k ∈ ks) : shT k ≤ shL ks := by
  induction ks with
  | nil => cases h
  | cons x a ih =>
    simp only [shL]
    rcases List.mem_cons.1 h with rfl | h
    · omega
    · have := ih h; omega
theorem sh_le : ∀ t : T, shT t ≤ depthT t := by
  intro t
  induction t using T.ind with
  | h op l ks ih =>
    have : shL ks ≤ depthL ks := by
      clear op l
      induction ks with
      | nil => simp [shL]
      | cons x a ih2 =>
        have h1 := ih x (by simp)
        have h2 := ih2 fun k hk => ih k (by simp [hk])
        simp only [shL, depthL]; omega
    simp only [shT, depthT]; split <;> omega
theorem us_sh : ∀ t : T, (shT t == 0) = !usT t := by
  intro t
  induction t using T.ind with
  | h op l ks ih =>
    have hL : (shL ks == 0) = !usL ks := by
      clear op l
      induction ks with
      | nil => rfl
      | cons x a ih2 =>
        have h1 := ih x (by simp)
        have h2 := ih2 fun k hk => ih k (by simp [hk])
        simp only [shL, usL, Bool.not_or, ← h1, ← h2]
        rw [Bool.eq_iff_iff]; simp <;> omega
    simp only [shT, usT, Bool.not_or, ← hL]
    by_cases h : op = 7
    · simp [h]
    · simp [h]
theorem usL_take {ks : List T} {i : Nat} (h : i < ks.length) : usL (ks.take (i + 1)) = (usL (ks.take i) || usT ks[i]) := by
  rw [take_snoc h]
  generalize ks.take i = a
  induction a with
  | nil => simp [usL]
  | cons x a ih => simp only [List.cons_append, usL, ih, Bool.or_assoc]
theorem usL_mem {ks : List T} {k : T} (h : k ∈ ks) (h1 : usT k = true) : usL ks = true := by
  induction ks with
  | nil => cases h
  | cons x a ih =>
    simp only [usL, Bool.or_eq_true]
    rcases List.mem_cons.1 h with rfl | h
    · exact .inl h1
    · exact .inr (ih h)
set_option maxRecDepth 100000 in
set_option maxHeartbeats 2000000 in
theorem depthP_any (op l : Int) (ks : List T) : ∀ (a : Option Addr) (c : Nat) (w : World), InX w op l ks a → sizeT (.node op l ks) ≤ 400 →
    Calls Try.prog 46 #[.agg #[.int .i64 op, .int .i64 l, .slice a ks.length c]] w fun e w' => e = .returned (.int .i64 (depthT (.node op l ks) : Nat)) ∧ Below w.heap.size w w' := by
  refine T.ind2 (P := fun op l ks => ∀ (a : Option Addr) (c : Nat) (w : World), InX w op l ks a → sizeT (.node op l ks) ≤ 400 →
    Calls Try.prog 46 #[.agg #[.int .i64 op, .int .i64 l, .slice a ks.length c]] w fun e w' => e = .returned (.int .i64 (depthT (.node op l ks) : Nat)) ∧ Below w.heap.size w w') ?_ op l ks
  clear op l ks
  intro op l ks ih a c w hin hsz
  have hlen := hin.2.2.2
  have hbd : depthL ks ≤ 400 := by have h1 := depth_le_size (.node op l ks); have h2 := sh_le (.node op l ks); simp only [depthT, shT] at h1 h2; (try split at h2) <;> omega
  have HBD := Lib.hid (fun i => show depthL (ks.take i) ≤ 400 from Nat.le_trans (depthL_take_le ks i) hbd)
  have HI := Lib.hid hin
  have IH := Lib.hid ih
  have HSZ := Lib.hid hsz
  clear hin ih hbd hsz
  go_enter Try.func46, Try.ntmps46
  go_wp2_with fail
  go_loopw [3, 8] (fun vm vi wr => ∃ (i m : Nat), i ≤ ks.length ∧ vi = .int .i64 i ∧ vm = .int .i64 m ∧ m = depthL (ks.take i) ∧ Below (w.heap.size + 1) (w.alloc (.cells #[.int .i64 op, .int .i64 l, .slice a ks.length c] 24)) wr) (fun _ vi _ => ks.length - (intOf vi).toNat)
  case atStart => exact ⟨0, 0, Nat.zero_le _, rfl, rfl, by simp [depthL], Below.refl _ _⟩
  case round =>
    rename World => wA
    obtain ⟨i, m, hi, rfl, rfl, hm, hb⟩ := hrel
    have hm4 : m ≤ 400 := by rw [hm]; exact HBD.out i
    have HM := Lib.hid hm
    have HB := Lib.hid hb
    obtain ⟨x0, x1, x2⟩ := box_cells hb
    clear hm hb
    by_cases hlt : i < ks.length
    · obtain ⟨ko, kl, kk, hk, hk2⟩ := kid_some hlt
      obtain ⟨b, off, a', c', rfl, hbz, c1, c2, c3, hx⟩ := ((HI.out.box _).keep (HB.out.mono (by simp))).kid hk
      have hi0 : (0 : Int) ≤ (i : Int) := by omega
      have hin2 : (i : Int) < (ks.length : Int) := by omega
      have hwi : IntKind.i64.wrap (i : Int) = (i : Int) := IntWalk.i64_in _ (by omega)
      have hks : sizeT (.node ko kl kk) ≤ 400 := by have h := sizeL_mem (List.mem_of_getElem? hk); have h2 := HSZ.out; simp only [sizeT] at h h2 ⊢; omega
      have HX := Lib.hid hx
      have HQ := Lib.hid (fun W (h : InX W ko kl kk a') => IH.out i ko kl kk hk a' c' W h hks)
      obtain ⟨d, hd⟩ : ∃ d, d = depthT (.node ko kl kk) := ⟨_, rfl⟩
      have hxx : ∃ m2 : Nat, m2 = depthL (ks.take (i + 1)) ∧ max (m : Int) (d : Int) = (m2 : Int) := ⟨_, rfl, by rw [depthL_take_succ hlt, ← HM.out, hk2, ← hd]; omega⟩
      obtain ⟨m2, hm2, hmax⟩ := hxx
      have HM2 := Lib.hid hm2
      have hd4 : d ≤ 400 := by rw [hd]; have h1 := depth_le_size (.node ko kl kk); have h2 := sh_le (.node ko kl kk); omega
      rw [← hd] at HQ
      obtain ⟨kn, hkn⟩ : ∃ kn, kn = kk.length := ⟨_, rfl⟩
      rw [← hkn] at HQ c3
      clear hd hm2 hkn hx hk hk2 hks
      go_wp2_with fail
      refine (HQ.out _ HX.out).mono ?_
      rintro e w3 ⟨rfl, hB⟩
      have HB2 := Lib.hid (HB.out.trans (hB.mono (by have := HB.out.size; simp at this ⊢; omega)))
      clear hB
      go_wp2_with fail
      exact ⟨⟨i + 1, m2, by omega, by go_num, rfl, HM2.out, HB2.out⟩, by simp [intOf]; omega⟩
    · obtain rfl : i = ks.length := by omega
      have hmf : m = depthL ks := by have := HM.out; rw [List.take_length] at this; exact this
      have HF := Lib.hid (show ((depthT (.node op l ks) : Nat) : Int) = (m : Int) + 1 by rw [hmf]; rfl)
      clear hmf
      go_wp2_with fail
      go_ret
      exact ⟨by rw [HF.out]; rfl, below_box HB.out⟩
set_option maxRecDepth 100000 in
set_option maxHeartbeats 2000000 in
theorem starP_any (op l : Int) (ks : List T) : ∀ (a : Option Addr) (c : Nat) (w : World), InX w op l ks a → sizeT (.node op l ks) ≤ 400 →
    Calls Try.prog 47 #[.agg #[.int .i64 op, .int .i64 l, .slice a ks.length c]] w fun e w' => e = .returned (.int .i64 (shT (.node op l ks) : Nat)) ∧ Below w.heap.size w w' := by
  refine T.ind2 (P := fun op l ks => ∀ (a : Option Addr) (c : Nat) (w : World), InX w op l ks a → sizeT (.node op l ks) ≤ 400 →
    Calls Try.prog 47 #[.agg #[.int .i64 op, .int .i64 l, .slice a ks.length c]] w fun e w' => e = .returned (.int .i64 (shT (.node op l ks) : Nat)) ∧ Below w.heap.size w w') ?_ op l ks
  clear op l ks
  intro op l ks ih a c w hin hsz
  have hlen := hin.2.2.2
  have hbd : shL ks ≤ 400 := by have h1 := depth_le_size (.node op l ks); have h2 := sh_le (.node op l ks); simp only [depthT, shT] at h1 h2; (try split at h2) <;> omega
  have HBD := Lib.hid (fun i => show shL (ks.take i) ≤ 400 from Nat.le_trans (shL_take_le ks i) hbd)
  have HI := Lib.hid hin
  have IH := Lib.hid ih
  have HSZ := Lib.hid hsz
  clear hin ih hbd hsz
  go_enter Try.func47, Try.ntmps47
  go_wp2_with fail
  go_loopw [3, 8] (fun vm vi wr => ∃ (i m : Nat), i ≤ ks.length ∧ vi = .int .i64 i ∧ vm = .int .i64 m ∧ m = shL (ks.take i) ∧ Below (w.heap.size + 1) (w.alloc (.cells #[.int .i64 op, .int .i64 l, .slice a ks.length c] 24)) wr) (fun _ vi _ => ks.length - (intOf vi).toNat)
  case atStart => exact ⟨0, 0, Nat.zero_le _, rfl, rfl, by simp [shL], Below.refl _ _⟩
  case round =>
    rename World => wA
    obtain ⟨i, m, hi, rfl, rfl, hm, hb⟩ := hrel
    have hm4 : m ≤ 400 := by rw [hm]; exact HBD.out i
    have HM := Lib.hid hm
    have HB := Lib.hid hb
    obtain ⟨x0, x1, x2⟩ := box_cells hb
    clear hm hb
    by_cases hlt : i < ks.length
    · obtain ⟨ko, kl, kk, hk, hk2⟩ := kid_some hlt
      obtain ⟨b, off, a', c', rfl, hbz, c1, c2, c3, hx⟩ := ((HI.out.box _).keep (HB.out.mono (by simp))).kid hk
      have hi0 : (0 : Int) ≤ (i : Int) := by omega
      have hin2 : (i : Int) < (ks.length : Int) := by omega
      have hwi : IntKind.i64.wrap (i : Int) = (i : Int) := IntWalk.i64_in _ (by omega)
      have hks : sizeT (.node ko kl kk) ≤ 400 := by have h := sizeL_mem (List.mem_of_getElem? hk); have h2 := HSZ.out; simp only [sizeT] at h h2 ⊢; omega
      have HX := Lib.hid hx
      have HQ := Lib.hid (fun W (h : InX W ko kl kk a') => IH.out i ko kl kk hk a' c' W h hks)
      obtain ⟨d, hd⟩ : ∃ d, d = shT (.node ko kl kk) := ⟨_, rfl⟩
      have hxx : ∃ m2 : Nat, m2 = shL (ks.take (i + 1)) ∧ max (m : Int) (d : Int) = (m2 : Int) := ⟨_, rfl, by rw [shL_take_succ hlt, ← HM.out, hk2, ← hd]; omega⟩
      obtain ⟨m2, hm2, hmax⟩ := hxx
      have HM2 := Lib.hid hm2
      have hd4 : d ≤ 400 := by rw [hd]; have h1 := depth_le_size (.node ko kl kk); have h2 := sh_le (.node ko kl kk); omega
      rw [← hd] at HQ
      obtain ⟨kn, hkn⟩ : ∃ kn, kn = kk.length := ⟨_, rfl⟩
      rw [← hkn] at HQ c3
      clear hd hm2 hkn hx hk hk2 hks
      go_wp2_with fail
      refine (HQ.out _ HX.out).mono ?_
      rintro e w3 ⟨rfl, hB⟩
      have HB2 := Lib.hid (HB.out.trans (hB.mono (by have := HB.out.size; simp at this ⊢; omega)))
      clear hB
      go_wp2_with fail
      exact ⟨⟨i + 1, m2, by omega, by go_num, rfl, HM2.out, HB2.out⟩, by simp [intOf]; omega⟩
    · obtain rfl : i = ks.length := by omega
      have hmf : m = shL ks := by have := HM.out; rw [List.take_length] at this; exact this
      by_cases h7 : op = 7
      · have HF := Lib.hid (show ((shT (.node op l ks) : Nat) : Int) = (m : Int) + 1 by rw [hmf, shT, if_pos h7]; rfl)
        have t7 : (op == 7) = true := by rw [h7]; rfl
        clear hmf h7
        go_wp2_with fail
        go_ret
        exact ⟨by rw [HF.out]; rfl, below_box HB.out⟩
      · have HF := Lib.hid (show ((shT (.node op l ks) : Nat) : Int) = (m : Int) by rw [hmf, shT, if_neg h7]; rfl)
        have t7 := ne_beq h7
        clear hmf h7
        go_wp2_with fail
        go_ret
        exact ⟨by rw [HF.out]; rfl, below_box HB.out⟩
set_option maxRecDepth 100000 in
set_option maxHeartbeats 2000000 in
theorem starR_any (op l : Int) (ks : List T) : ∀ (a : Option Addr) (c : Nat) (w : World), InX w op l ks a → sizeT (.node op l ks) ≤ 400 →
    Calls Try.prog 26 #[.agg #[.int .i64 op, .int .i64 l, .slice a ks.length c]] w fun e w' => e = .returned (.int .i64 (shT (.node op l ks) : Nat)) ∧ Below w.heap.size w w' := by
  refine T.ind2 (P := fun op l ks => ∀ (a : Option Addr) (c : Nat) (w : World), InX w op l ks a → sizeT (.node op l ks) ≤ 400 →
    Calls Try.prog 26 #[.agg #[.int .i64 op, .int .i64 l, .slice a ks.length c]] w fun e w' => e = .returned (.int .i64 (shT (.node op l ks) : Nat)) ∧ Below w.heap.size w w') ?_ op l ks
  clear op l ks
  intro op l ks ih a c w hin hsz
  have hlen := hin.2.2.2
  have hbd : shL ks ≤ 400 := by have h1 := depth_le_size (.node op l ks); have h2 := sh_le (.node op l ks); simp only [depthT, shT] at h1 h2; (try split at h2) <;> omega
  have HBD := Lib.hid (fun i => show shL (ks.take i) ≤ 400 from Nat.le_trans (shL_take_le ks i) hbd)
  have HI := Lib.hid hin
  have IH := Lib.hid ih
  have HSZ := Lib.hid hsz
  clear hin ih hbd hsz
  go_enter Try.func26, Try.ntmps26
  go_wp2_with fail
  go_loopw [3, 9] (fun vm vi wr => ∃ (i m : Nat), i ≤ ks.length ∧ vi = .int .i64 i ∧ vm = .int .i64 m ∧ m = shL (ks.take i) ∧ Below (w.heap.size + 1) (w.alloc (.cells #[.int .i64 op, .int .i64 l, .slice a ks.length c] 24)) wr) (fun _ vi _ => ks.length - (intOf vi).toNat)
  case atStart => exact ⟨0, 0, Nat.zero_le _, rfl, rfl, by simp [shL], Below.refl _ _⟩
  case round =>
    rename World => wA
    obtain ⟨i, m, hi, rfl, rfl, hm, hb⟩ := hrel
    have hm4 : m ≤ 400 := by rw [hm]; exact HBD.out i
    have HM := Lib.hid hm
    have HB := Lib.hid hb
    obtain ⟨x0, x1, x2⟩ := box_cells hb
    clear hm hb
    by_cases hlt : i < ks.length
    · obtain ⟨ko, kl, kk, hk, hk2⟩ := kid_some hlt
      obtain ⟨b, off, a', c', rfl, hbz, c1, c2, c3, hx⟩ := ((HI.out.box _).keep (HB.out.mono (by simp))).kid hk
      have hi0 : (0 : Int) ≤ (i : Int) := by omega
      have hin2 : (i : Int) < (ks.length : Int) := by omega
      have hwi : IntKind.i64.wrap (i : Int) = (i : Int) := IntWalk.i64_in _ (by omega)
      have hks : sizeT (.node ko kl kk) ≤ 400 := by have h := sizeL_mem (List.mem_of_getElem? hk); have h2 := HSZ.out; simp only [sizeT] at h h2 ⊢; omega
      have HX := Lib.hid hx
      have HQ := Lib.hid (fun W (h : InX W ko kl kk a') => IH.out i ko kl kk hk a' c' W h hks)
      obtain ⟨d, hd⟩ : ∃ d, d = shT (.node ko kl kk) := ⟨_, rfl⟩
      have hxx : ∃ m2 : Nat, m2 = shL (ks.take (i + 1)) ∧ max (m : Int) (d : Int) = (m2 : Int) := ⟨_, rfl, by rw [shL_take_succ hlt, ← HM.out, hk2, ← hd]; omega⟩
      obtain ⟨m2, hm2, hmax⟩ := hxx
      have HM2 := Lib.hid hm2
      have hd4 : d ≤ 400 := by rw [hd]; have h1 := depth_le_size (.node ko kl kk); have h2 := sh_le (.node ko kl kk); omega
      rw [← hd] at HQ
      obtain ⟨kn, hkn⟩ : ∃ kn, kn = kk.length := ⟨_, rfl⟩
      rw [← hkn] at HQ c3
      clear hd hm2 hkn hx hk hk2 hks
      go_wp2_with fail
      refine (HQ.out _ (HX.out.box _)).mono ?_
      rintro e w3 ⟨rfl, hB⟩
      have HB2 := Lib.hid ((HB.out.alloc (by have := HB.out.size; simp at this; omega) _).trans (hB.mono (by have := HB.out.size; simp at this ⊢; omega)))
      clear hB
      go_wp2_with fail
      exact ⟨⟨i + 1, m2, by omega, by go_num, rfl, HM2.out, HB2.out⟩, by simp [intOf]; omega⟩
    · obtain rfl : i = ks.length := by omega
      have hmf : m = shL ks := by have := HM.out; rw [List.take_length] at this; exact this
      by_cases h7 : op = 7
      · have HF := Lib.hid (show ((shT (.node op l ks) : Nat) : Int) = (m : Int) + 1 by rw [hmf, shT, if_pos h7]; rfl)
        have t7 : (op == 7) = true := by rw [h7]; rfl
        clear hmf h7
        go_wp2_with fail
        go_ret
        exact ⟨by rw [HF.out]; rfl, below_box HB.out⟩
      · have HF := Lib.hid (show ((shT (.node op l ks) : Nat) : Int) = (m : Int) by rw [hmf, shT, if_neg h7]; rfl)
        have t7 := ne_beq h7
        clear hmf h7
        go_wp2_with fail
        go_ret
        exact ⟨by rw [HF.out]; rfl, below_box HB.out⟩
set_option maxRecDepth 100000 in
set_option maxHeartbeats 2000000 in
theorem usesR_any (op l : Int) (ks : List T) : ∀ (a : Option Addr) (c : Nat) (w : World), InX w op l ks a →
    Calls Try.prog 27 #[.agg #[.int .i64 op, .int .i64 l, .slice a ks.length c], .int .i64 7] w fun e w' => e = .returned (.bool (usT (.node op l ks))) ∧ Below w.heap.size w w' := by
  refine T.ind2 (P := fun op l ks => ∀ (a : Option Addr) (c : Nat) (w : World), InX w op l ks a →
    Calls Try.prog 27 #[.agg #[.int .i64 op, .int .i64 l, .slice a ks.length c], .int .i64 7] w fun e w' => e = .returned (.bool (usT (.node op l ks))) ∧ Below w.heap.size w w') ?_ op l ks
  clear op l ks
  intro op l ks ih a c w hin
  have hlen := hin.2.2.2
  have HI := Lib.hid hin
  have IH := Lib.hid ih
  clear hin ih
  have HB0 := Lib.hid ((Below.refl w.heap.size w).alloc (Nat.le_refl _) (.cells #[.int .i64 op, .int .i64 l, .slice a ks.length c] 24))
  by_cases h7 : op = 7
  · have HF := Lib.hid (show usT (.node op l ks) = true by simp [usT, h7])
    have t7 : (op == 7) = true := by rw [h7]; rfl
    clear h7
    go_enter Try.func27, Try.ntmps27
    go_wp2_with fail
    go_ret
    exact ⟨by rw [HF.out]; rfl, HB0.out⟩
  · have H7 := Lib.hid (show usT (.node op l ks) = usL ks by simp [usT, h7])
    have t7 := ne_beq h7
    clear h7
    go_enter Try.func27, Try.ntmps27
    go_wp2_with fail
    go_loopw [14] (fun vi wr => ∃ (i : Nat), i ≤ ks.length ∧ vi = .int .i64 i ∧ usL (ks.take i) = false ∧ Below w.heap.size w wr) (fun vi _ => ks.length - (intOf vi).toNat)
    case atStart => exact ⟨0, Nat.zero_le _, rfl, rfl, HB0.out⟩
    case round =>
      rename World => wA
      obtain ⟨i, hi, rfl, hu, hb⟩ := hrel
      have HU := Lib.hid hu
      have HB := Lib.hid hb
      clear hu hb
      by_cases hlt : i < ks.length
      · obtain ⟨ko, kl, kk, hk, hk2⟩ := kid_some hlt
        obtain ⟨b, off, a', c', rfl, hbz, c1, c2, c3, hx⟩ := (HI.out.keep HB.out).kid hk
        have hi0 : (0 : Int) ≤ (i : Int) := by omega
        have hin2 : (i : Int) < (ks.length : Int) := by omega
        have hwi : IntKind.i64.wrap (i : Int) = (i : Int) := IntWalk.i64_in _ (by omega)
        have HX := Lib.hid hx
        have HQ := Lib.hid (fun W (h : InX W ko kl kk a') => IH.out i ko kl kk hk a' c' W h)
        obtain ⟨kn, hkn⟩ : ∃ kn, kn = kk.length := ⟨_, rfl⟩
        rw [← hkn] at HQ c3
        cases hu : usT (.node ko kl kk)
        · have HUU := Lib.hid hu
          have HN := Lib.hid (show usL (ks.take (i + 1)) = false by rw [usL_take hlt, HU.out, hk2, hu]; rfl)
          clear hkn hx hk hk2 hu
          go_wp2_with fail
          refine (HQ.out _ (HX.out.box _)).mono ?_
          rintro e w3 ⟨rfl, hB⟩
          rw [HUU.out]
          have HB2 := Lib.hid ((HB.out.alloc HB.out.size _).trans (hB.mono (by have := HB.out.size; simp; omega)))
          clear hB
          go_wp2_with fail
          exact ⟨⟨i + 1, by omega, by go_num, HN.out, HB2.out⟩, by simp [intOf]; omega⟩
        · have HUU := Lib.hid hu
          have HF := Lib.hid (show usL ks = true from usL_mem (List.mem_of_getElem? hk) hu)
          clear hkn hx hk hk2 hu
          go_wp2_with fail
          refine (HQ.out _ (HX.out.box _)).mono ?_
          rintro e w3 ⟨rfl, hB⟩
          rw [HUU.out]
          have HB2 := Lib.hid ((HB.out.alloc HB.out.size _).trans (hB.mono (by have := HB.out.size; simp; omega)))
          clear hB
          go_wp2_with fail
          go_ret
          exact ⟨by rw [H7.out, HF.out]; rfl, HB2.out⟩
      · obtain rfl : i = ks.length := by omega
        have HF := Lib.hid (show usL ks = false by have := HU.out; rw [List.take_length] at this; exact this)
        go_wp2_with fail
        go_ret
        exact ⟨by rw [H7.out, HF.out]; rfl, HB.out⟩
end Go.Proofs.Ytjnnabcpamionaa
