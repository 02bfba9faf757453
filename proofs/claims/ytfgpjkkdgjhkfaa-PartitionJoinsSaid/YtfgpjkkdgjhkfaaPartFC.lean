/- Contract: Join. -/
import Derived.Test.YtfgpjkkdgjhkfaaPartFA
namespace Go.Proofs.Ytfgpjkkdgjhkfaa
open Go Go.RowKit Go.Maps
set_option linter.unusedVariables false


set_option maxHeartbeats 400000 in
theorem join_no (a : Option Addr) (n c : Nat) (f : Nat → Int) (a' : Option Addr) (m c' : Nat) (g : Nat → Int) (w : World) (hr : RowI w a n f) (hs : RowI w a' m g) (hn : n ≤ maxLen) (hm : m ≤ maxLen) (hp : pairB n f m g = false) :
    Calls Try.prog 32 #[.slice a n c, .slice a' m c'] w fun e w' => e = .returned (.slice none 0 0) ∧ w = w' := by
  have H1 := Lib.hid hr
  have H2 := Lib.hid hs
  have HP := Lib.hid hp
  clear hr hs hp
  go_enter Try.func32, Try.ntmps32
  go_wp2_with fail
  refine (validPair_any _ _ _ _ _ _ _ _ _ H1.out H2.out hn hm).mono ?_
  rintro e w' ⟨rfl, rfl⟩
  rw [HP.out]
  go_wp2_with fail
  go_ret
  exact ⟨rfl, rfl⟩

def leF (f : Nat → Int) (n : Nat) : Nat → Int := getN (leastL f n)
set_option maxRecDepth 100000 in
set_option maxHeartbeats 2000000 in
theorem join_ok (a : Option Addr) (n c : Nat) (f : Nat → Int) (a' : Option Addr) (c' : Nat) (g : Nat → Int) (w : World) (hr : RowI w a n f) (hs : RowI w a' n g) (hp : pairB n f n g = true) :
    Calls Try.prog 32 #[.slice a n c, .slice a' n c'] w (Gives w n (can (joinF n f g))) := by
  have H1 := Lib.hid hr
  have H2 := Lib.hid hs
  have HP := Lib.hid hp
  obtain ⟨_, hvf, hvg⟩ := pairB_iff.1 hp
  have hn := (valP_iff.1 hvf).1
  have HVF := Lib.hid hvf
  have HVG := Lib.hid hvg
  have HE := Lib.hid (valP_iff.1 hvf).2
  have HE' := Lib.hid (valP_iff.1 hvg).2
  clear hr hs hp hvf hvg
  go_enter Try.func32, Try.ntmps32
  go_wp2_with fail
  refine (validPair_any _ _ _ _ _ _ _ _ _ H1.out H2.out (by unfold maxLen; omega) (by unfold maxLen; omega)).mono ?_
  rintro e w' ⟨rfl, rfl⟩
  rw [HP.out]
  go_wp2_with fail
  refine (discrete_ok _ _ hn).mono ?_
  rintro e w1 ⟨x, rfl, hx, ho, hB⟩
  have hxl := (ownsF_lt ho).2
  have HO := Lib.hid (show ownsF w1 w.heap.size x n (cF fun k => k) from ho)
  have HA := Lib.hid (show RowN w1 x a n f from ⟨H1.out.keep hB, (RowN.of_below H1.out hx).2⟩)
  have HR := Lib.hid (show RowN w1 x a' n g from ⟨H2.out.keep hB, (RowN.of_below H2.out hx).2⟩)
  have HB := Lib.hid hB
  clear ho hB
  go_wp2_with fail
  refine (leasts_ok _ _ _ _ _ HA.out.1 HVF.out).mono ?_
  rintro e w2 ⟨r2, c2, rfl, hR, hnew, hB⟩
  have HL := Lib.hid (RowN.of_new hR hnew hxl)
  have HA := Lib.hid (HA.out.keep hB)
  have HR := Lib.hid (HR.out.keep hB)
  have HO := Lib.hid (ownsF_below HO.out hB hxl)
  have HB := Lib.hid (HB.out.trans (hB.mono HB.out.size))
  have hxl2 : x < w2.heap.size := Nat.lt_of_lt_of_le hxl hB.size
  clear hR hnew hB
  go_wp2_with fail
  refine (leasts_ok _ _ _ _ _ HR.out.1 HVG.out).mono ?_
  rintro e w3 ⟨r3, c3, rfl, hR, hnew, hB⟩
  have HM := Lib.hid (RowN.of_new hR hnew hxl2)
  have HL := Lib.hid (HL.out.keep hB)
  have HA := Lib.hid (HA.out.keep hB)
  have HR := Lib.hid (HR.out.keep hB)
  have HO := Lib.hid (ownsF_below HO.out hB hxl2)
  have HB := Lib.hid (HB.out.trans (hB.mono HB.out.size))
  clear hR hnew hB
  have hcn := cls_le f n
  have hcn' := cls_le g n
  obtain ⟨K, hK⟩ : ∃ K, K = cls f n := ⟨_, rfl⟩
  obtain ⟨K', hK'⟩ : ∃ K', K' = cls g n := ⟨_, rfl⟩
  rw [← hK] at hcn HL ⊢
  rw [← hK'] at hcn' HM ⊢
  have HK := Lib.hid (show K = cls f n ∧ K' = cls g n from ⟨hK, hK'⟩)
  clear hK hK'
  go_wp2_with fail
  go_loopw [22] (fun vi wr => ∃ (k : Nat) (G : Nat → Nat), k ≤ n ∧ vi = .int .i64 k ∧ FI n G (rJ f g k) ∧ ownsF wr w.heap.size x n (cF G) ∧ w3.grownBy wr (some x)) (fun vi _ => n - (intOf vi).toNat)
  case atStart => exact ⟨0, fun k => k, Nat.zero_le _, rfl, FI.start n, HO.out, grown_refl _ _⟩
  case round =>
    obtain ⟨k, G, hk, rfl, hf, ho, hg⟩ := hrel
    have HF2 := Lib.hid hf
    have HO2 := Lib.hid ho
    have HG2 := Lib.hid hg
    clear hf ho hg
    by_cases hlt : k < n
    · have hfst := fst_le f k
      have hfst' := fst_le g k
      have hlf := canN_lt (f := f) hlt
      have hlg := canN_lt (f := g) hlt
      rw [← HK.out.1] at hlf
      rw [← HK.out.2] at hlg
      have hle1 := getN_least (f := f) hlt
      have hle2 := getN_least (f := g) hlt
      rcases (HA.out.put HG2.out).1 with h0 | ⟨b, off, rfl, hbz, hc⟩
      · omega
      rcases (HL.out.put HG2.out).1 with h0 | ⟨b2, off2, rfl, hbz2, hc2⟩
      · omega
      have hcf := (hc k hlt).1
      rw [HE.out k hlt, can] at hcf
      have hcl := (hc2 _ hlf).1
      rw [hle1] at hcl
      obtain ⟨m, hm⟩ : ∃ m, m = canN f k := ⟨_, rfl⟩
      obtain ⟨l, hl⟩ : ∃ l, l = fst f k := ⟨_, rfl⟩
      rw [← hm] at hcf hcl hlf
      rw [← hl] at hcl hfst
      have HL1 := Lib.hid hl
      clear hc hc2 hm hl hle1
      go_wp2_with fail
      refine (union_ok w.heap.size _ _ _ _ _ _ _ HO2.out HF2.out hlt (by omega) hn).mono ?_
      rintro e w4 ⟨rfl, G4, hf, ho, hg⟩
      have HF4 := Lib.hid hf
      have HO4 := Lib.hid ho
      have HG4 := Lib.hid (HG2.out.trans hg)
      clear hf ho hg
      rcases (HR.out.put HG4.out).1 with h0 | ⟨b', off', rfl, hbz', hc'⟩
      · omega
      rcases (HM.out.put HG4.out).1 with h0 | ⟨b3, off3, rfl, hbz3, hc3⟩
      · omega
      have hcg := (hc' k hlt).1
      rw [HE'.out k hlt, can] at hcg
      have hcm := (hc3 _ hlg).1
      rw [hle2] at hcm
      obtain ⟨m', hm'⟩ : ∃ m', m' = canN g k := ⟨_, rfl⟩
      obtain ⟨l', hl'⟩ : ∃ l', l' = fst g k := ⟨_, rfl⟩
      rw [← hm'] at hcg hcm hlg
      rw [← hl'] at hcm hfst'
      have HL2 := Lib.hid hl'
      clear hc' hc3 hm' hl' hle2
      go_wp2_with fail
      refine (union_ok w.heap.size _ _ _ _ _ _ _ HO4.out HF4.out hlt (by omega) hn).mono ?_
      rintro e w5 ⟨rfl, G5, hf, ho, hg⟩
      have HF5 := Lib.hid (show FI n G5 (rJ f g (k + 1)) by rw [rJ, ← HL1.out, ← HL2.out]; exact hf)
      have HO5 := Lib.hid ho
      have HG5 := Lib.hid (HG4.out.trans hg)
      clear hf ho hg
      go_wp2_with fail
      exact ⟨⟨k + 1, G5, by omega, by go_num, HF5.out, HO5.out, HG5.out⟩, by simp [intOf]; omega⟩
    · obtain rfl : n = k := by omega
      have HB4 := Lib.hid (HB.out.grown HG2.out HB.out.size (fun j hj => by cases hj; exact hx))
      go_wp2_with fail
      refine (part_ok w.heap.size _ _ _ _ _ HO2.out HF2.out hn).mono ?_
      rintro e w4 ⟨⟨r4, c4, rfl, hR⟩, hg⟩
      have HRR := Lib.hid hR
      have HB5 := Lib.hid (HB4.out.grown hg HB4.out.size (fun j hj => by cases hj; exact hx))
      clear hR hg
      go_wp2_with fail
      go_ret
      exact ⟨_, _, rfl, HRR.out, HB5.out⟩
end Go.Proofs.Ytfgpjkkdgjhkfaa
