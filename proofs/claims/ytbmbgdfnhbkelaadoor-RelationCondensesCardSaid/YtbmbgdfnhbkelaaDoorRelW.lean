/- Contract: awake; how the laws' arguments are told. -/
import Derived.Test.YtbmbgdfnhbkelaaDoorRelK
import Derived.Test.YtbmbgdfnhbkelaaDoorRelL
import Derived.Test.YtbmbgdfnhbkelaaDoorRelS
import Derived.Test.YtbmbgdfnhbkelaaDoorRows0
import Derived.OpenShut
namespace Go.Proofs.YtbmbgdfnhbkelaaDoor
open Go Go.RowKit
set_option linter.unusedVariables false

theorem row_in {w : World} {a : Option Addr} {len cap : Nat} {zs : List Int} (h : IntRow .u64 w a len cap zs) : ∃ f, Row w a len f ∧ (a = none → len = 0 ∧ cap = 0) := by
  refine ⟨fun i => (zs.getD i 0).toNat, ?_⟩
  rcases h with ⟨rfl, rfl, rfl, rfl⟩ | ⟨x, rfl, hl, hm, hz, hc, hw⟩
  · exact ⟨.inl rfl, fun _ => ⟨rfl, rfl⟩⟩
  · refine ⟨?_, fun h => by cases h⟩
    by_cases h0 : len = 0
    · exact .inl h0
    · obtain ⟨b, off, spot⟩ := x
      have hc0 := hc 0 (by omega)
      have hspot : spot = none := by simpa [Addr.add] using World.cell?_spot hc0
      subst hspot
      have key : ∀ i, i < len → w.cell? ⟨b, off + i, none⟩ = some (.int .u64 (((zs.getD i 0).toNat : Nat) : Int)) ∧ (zs.getD i 0).toNat < 18446744073709551616 := by
        intro i hi
        have h1 := hc i (by omega)
        have h2 : (⟨b, off, none⟩ : Addr).add i = ⟨b, off + i, none⟩ := by unfold Addr.add; split <;> simp_all
        have h3 : zs.getD i 0 ∈ zs := by
          rw [List.getD_eq_getElem?_getD, List.getElem?_eq_getElem (by omega)]
          exact List.getElem_mem _
        have h4 := bounds_u64 (hw _ h3)
        rw [h2] at h1
        have h5 : (((zs.getD i 0).toNat : Nat) : Int) = zs.getD i 0 := Int.toNat_of_nonneg h4.1
        rw [h5]
        exact ⟨h1, by omega⟩
      exact .inr ⟨b, off, rfl, cell_lt (s := none) (key 0 (by omega)).1, key⟩

/-- the law's end -/
def Yes (w : World) (e : Ending) (w' : World) : Prop := e = .returned (.bool true) ∧ Below w.heap.size w w'

theorem row_lit (w : World) (n : Nat) (f : Nat → Nat) (cs : Array Value) (hcs : cs.toList = rowU n f) (hsz : cs.size = n) (hn : n ≤ maxLen) (hf : ∀ i, i < n → f i < 18446744073709551616) :
    Row (w.alloc (.cells cs 37)) (some ⟨w.heap.size, 0, none⟩) n f := by
  have h := World.ownsRow_lit (base := w.heap.size) (e := 37) (size := 1) w cs n (Nat.le_refl _) hn (by omega)
  rw [hcs] at h
  exact Row.owned (e := 37) h hf

/-- two rows -/
def twoF (x y : Nat) (i : Nat) : Nat := if i = 0 then x else y
set_option maxHeartbeats 1000000 in
theorem awake_any (w : World) : Calls Tryd.prog 9 #[] w (Yes w) := by
  have H1 := Lib.hid (row_lit w 2 (twoF 2 0) #[.int .u64 2, .int .u64 0] rfl rfl (by unfold maxLen; omega) (fun i hi => by unfold twoF; split <;> decide))
  have HV := Lib.hid (show valB 2 (twoF 2 0) = true by decide)
  have HS := Lib.hid (show sameB 2 (clF 2 (twoF 2 0)) 2 (twoF 3 2) = true by decide)
  go_enter Tryd.func9, Tryd.ntmps9
  go_wp2_with fail
  refine (closure_ok _ _ _ _ _ H1.out HV.out).mono ?_
  rintro e w1 ⟨r, c, rfl, hR, hB⟩
  have HB : Hid (Below w.heap.size w w1) := Lib.hid (((Below.refl _ w).alloc (Nat.le_refl _) _).trans (hB.mono (by simp)))
  have HR := Lib.hid hR
  clear hR hB
  have H2 := Lib.hid (row_lit w1 2 (twoF 3 2) #[.int .u64 3, .int .u64 2] rfl rfl (by unfold maxLen; omega) (fun i hi => by unfold twoF; split <;> decide))
  have HRK := Lib.hid (HR.out.keep ((Below.refl _ w1).alloc (Nat.le_refl _) (.cells #[.int .u64 3, .int .u64 2] 37)))
  go_wp2_with fail
  refine (same_any _ _ _ _ _ _ _ _ _ HRK.out H2.out (by unfold maxLen; omega)).mono ?_
  rintro e w2 ⟨rfl, hB⟩
  rw [HS.out]
  have HB2 := Lib.hid ((HB.out.alloc HB.out.size _).trans (hB.mono (by have := HB.out.size; simp; omega)))
  clear hB
  go_wp2_with fail
  go_ret
  exact ⟨rfl, HB2.out⟩
end Go.Proofs.YtbmbgdfnhbkelaaDoor
