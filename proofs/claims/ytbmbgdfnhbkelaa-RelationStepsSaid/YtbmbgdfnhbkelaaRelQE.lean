/- Walk: RelationSteps. -/
import Derived.Test.YtbmbgdfnhbkelaaRelW
import Derived.Test.YtbmbgdfnhbkelaaRelP
namespace Go.Proofs.Ytbmbgdfnhbkelaa
open Go Go.RowKit
set_option linter.unusedVariables false

set_option maxRecDepth 100000 in
set_option maxHeartbeats 2000000 in
theorem cRelationSteps_no (a : Option Addr) (na ca : Nat) (fa : Nat → Nat) (b : Option Addr) (nb cb : Nat) (fb : Nat → Nat) (x y : Int) (w : World) (ha : Row w a na fa) (hb : Row w b nb fb) (hp : pairB na fa nb fb = false) :
    Calls Try.prog 11 #[.slice a na ca, .slice b nb cb, .int .u64 x, .int .u64 y] w (Yes w) := by
  have HA := Lib.hid ha
  have HR := Lib.hid hb
  have HP := Lib.hid hp
  clear ha hb hp
  have HB := Lib.hid (Below.refl w.heap.size w)
  go_enter Try.func11, Try.ntmps11
  go_wp2_with fail
  refine (pair_any _ _ _ _ _ _ _ _ _ HA.out HR.out).mono ?_
  rintro e w' ⟨rfl, rfl⟩
  rw [HP.out]
  go_wp2_with fail
  refine (awake_any _).mono ?_
  rintro e w1 ⟨rfl, hB⟩
  have HA := Lib.hid (HA.out.keep hB)
  have HR := Lib.hid (HR.out.keep hB)
  have HB := Lib.hid (HB.out.trans (hB.mono HB.out.size))
  clear hB
  go_wp2_with fail
  go_ret
  exact ⟨rfl, HB.out⟩

theorem imageV_any (a : Option Addr) (n c : Nat) (f : Nat → Nat) (s : Nat) (w : World) (hr : Row w a n f) (hv : valB n f = true) (hs : s < 18446744073709551616) (r : Nat) (he : imgN f s n = r) :
    Calls Try.prog 31 #[.slice a n c, .int .u64 s] w fun e w' => e = .returned (.int .u64 (r : Int)) ∧ w = w' := by
  refine (image_any a n c f s w hr hs).mono ?_
  rw [if_pos hv, he]
  exact fun _ _ h => h
set_option maxRecDepth 100000 in
set_option maxHeartbeats 2000000 in
theorem cRelationSteps_yes (n : Nat) (a : Option Addr) (ca : Nat) (fa : Nat → Nat) (b : Option Addr) (cb : Nat) (fb : Nat → Nat) (x y : Nat) (w : World) (hx : x < 18446744073709551616) (hy : y < 18446744073709551616) (ha : Row w a n fa) (hb : Row w b n fb) (hp : pairB n fa n fb = true) :
    Calls Try.prog 11 #[.slice a n ca, .slice b n cb, .int .u64 x, .int .u64 y] w (Yes w) := by
  have HA := Lib.hid ha
  have HR := Lib.hid hb
  have HP := Lib.hid hp
  have VA := Lib.hid (pairB_iff.1 hp).1
  have VR := Lib.hid (pairB_iff.1 hp).2.1
  have VC := Lib.hid (compF_val (f := fa) (pairB_iff.1 hp).2.1)
  obtain ⟨p, hpp⟩ : ∃ p, p = imgN fa x n := ⟨_, rfl⟩
  obtain ⟨q, hq⟩ : ∃ q, q = imgN fb p n := ⟨_, rfl⟩
  obtain ⟨r, hr⟩ : ∃ r, r = imgN fa y n := ⟨_, rfl⟩
  have hpu : p < 18446744073709551616 := by rw [hpp]; exact imgN_u (Nat.le_refl _) ha.bound
  have hru : r < 18446744073709551616 := by rw [hr]; exact imgN_u (Nat.le_refl _) ha.bound
  have E1 := Lib.hid (show imgN (compF n fa fb) x n = q by rw [img_comp, hq, hpp])
  have E2 := Lib.hid hpp.symm
  have E3 := Lib.hid hq.symm
  obtain ⟨o, ho⟩ : ∃ o, o = x ||| y := ⟨_, rfl⟩
  obtain ⟨m, hm⟩ : ∃ m, m = p ||| r := ⟨_, rfl⟩
  have hou : o < 18446744073709551616 := by rw [ho]; exact or_u hx hy
  have E4 := Lib.hid (show imgN fa o n = m by rw [ho, hm, img_or, hpp, hr])
  have E5 := Lib.hid hr.symm
  have hS1 : bits .or .u64 (x : Int) (y : Int) = (o : Int) := by rw [ho]; exact u_or hx hy
  have hS2 : bits .or .u64 (p : Int) (r : Int) = (m : Int) := by rw [hm]; exact u_or hpu hru
  clear ha hb hp hpp hq hr ho hm
  have HB := Lib.hid (Below.refl w.heap.size w)
  go_enter Try.func11, Try.ntmps11
  go_wp2_with fail
  refine (pair_any _ _ _ _ _ _ _ _ _ HA.out HR.out).mono ?_
  rintro e w' ⟨rfl, rfl⟩
  rw [HP.out]
  go_wp2_with fail
  refine (compose_ok _ _ _ _ _ _ _ _ HA.out HR.out HP.out).mono ?_
  rintro e w1 ⟨r1, c1, rfl, hR, hB⟩
  have HA := Lib.hid (HA.out.keep hB)
  have HR := Lib.hid (HR.out.keep hB)
  have HB := Lib.hid (HB.out.trans (hB.mono HB.out.size))
  have HC := Lib.hid hR
  clear hR hB
  go_wp2_with fail
  refine (imageV_any _ _ _ _ x _ HC.out VC.out hx q E1.out).mono ?_
  rintro e w' ⟨rfl, rfl⟩
  go_wp2_with fail
  refine (imageV_any _ _ _ _ x _ HA.out VA.out hx p E2.out).mono ?_
  rintro e w' ⟨rfl, rfl⟩
  go_wp2_with fail
  refine (imageV_any _ _ _ _ p _ HR.out VR.out hpu q E3.out).mono ?_
  rintro e w' ⟨rfl, rfl⟩
  go_wp2_with fail
  refine (imageV_any _ _ _ _ o _ HA.out VA.out hou m E4.out).mono ?_
  rintro e w' ⟨rfl, rfl⟩
  go_wp2_with fail
  refine (imageV_any _ _ _ _ x _ HA.out VA.out hx p E2.out).mono ?_
  rintro e w' ⟨rfl, rfl⟩
  go_wp2_with fail
  refine (imageV_any _ _ _ _ y _ HA.out VA.out hy r E5.out).mono ?_
  rintro e w' ⟨rfl, rfl⟩
  go_wp2_with fail
  refine (awake_any _).mono ?_
  rintro e w2 ⟨rfl, hB⟩
  have HA := Lib.hid (HA.out.keep hB)
  have HR := Lib.hid (HR.out.keep hB)
  have HC := Lib.hid (HC.out.keep hB)
  have HB := Lib.hid (HB.out.trans (hB.mono HB.out.size))
  clear hB
  go_wp2_with fail
  go_ret
  exact ⟨rfl, HB.out⟩

theorem wRelationSteps {w : World} (a : Option Addr) (len cap : Nat) (z : List Int) (hz : IntRow .u64 w a len cap z) (b : Option Addr) (len2 cap2 : Nat) (z2 : List Int) (hz2 : IntRow .u64 w b len2 cap2 z2) (x : Int) (hx : (Lit.int .u64 x).wf = true) (y : Int) (hy : (Lit.int .u64 y).wf = true) :
    Calls Try.prog 11 #[.slice a len cap, .slice b len2 cap2, .int .u64 x, .int .u64 y] w (Yes w) := by
  obtain ⟨f, ha, _⟩ := row_in hz
  obtain ⟨g, hb, _⟩ := row_in hz2
  have h1 := bounds_u64 hx
  have h2 := bounds_u64 hy
  obtain ⟨x', rfl⟩ := Int.eq_ofNat_of_zero_le h1.1
  obtain ⟨y', rfl⟩ := Int.eq_ofNat_of_zero_le h2.1
  cases hp : pairB len f len2 g
  · exact cRelationSteps_no a len cap f b len2 cap2 g _ _ w ha hb hp
  · obtain rfl := (pairB_iff.1 hp).2.2
    exact cRelationSteps_yes len a cap f b cap2 g x' y' w (by omega) (by omega) ha hb hp
end Go.Proofs.Ytbmbgdfnhbkelaa
