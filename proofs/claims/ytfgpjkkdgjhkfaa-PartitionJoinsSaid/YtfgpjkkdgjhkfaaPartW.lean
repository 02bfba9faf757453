/- Contract: awake; how the laws' arguments are told. -/
import Derived.Test.YtfgpjkkdgjhkfaaPartC
import Derived.Test.YtfgpjkkdgjhkfaaRows0
import Derived.OpenShut
namespace Go.Proofs.Ytfgpjkkdgjhkfaa
open Go Go.RowKit
set_option linter.unusedVariables false

theorem row_in {w : World} {a : Option Addr} {len cap : Nat} {zs : List Int} (h : IntRow .i64 w a len cap zs) : ∃ f, RowI w a len f ∧ len ≤ maxLen := by
  refine ⟨fun i => zs.getD i 0, ?_⟩
  rcases h with ⟨rfl, rfl, rfl, rfl⟩ | ⟨x, rfl, hl, hm, hz, hc, hw⟩
  · exact ⟨.inl rfl, Nat.zero_le _⟩
  · refine ⟨?_, by omega⟩
    by_cases h0 : len = 0
    · exact .inl h0
    · obtain ⟨b, off, spot⟩ := x
      have hc0 := hc 0 (by omega)
      have hspot : spot = none := by simpa [Addr.add] using World.cell?_spot hc0
      subst hspot
      have key : ∀ i, i < len → w.cell? ⟨b, off + i, none⟩ = some (.int .i64 (zs.getD i 0)) ∧ B64 (zs.getD i 0) := by
        intro i hi
        have h1 := hc i (by omega)
        have h2 : (⟨b, off, none⟩ : Addr).add i = ⟨b, off + i, none⟩ := by unfold Addr.add; split <;> simp_all
        have h3 : zs.getD i 0 ∈ zs := by
          rw [List.getD_eq_getElem?_getD, List.getElem?_eq_getElem (by omega)]
          exact List.getElem_mem _
        have h4 := bounds_i64 (hw _ h3)
        rw [h2] at h1
        exact ⟨h1, h4⟩
      exact .inr ⟨b, off, rfl, cell_lt (s := none) (key 0 (by omega)).1, key⟩

/-- the law's end -/
def Yes (w : World) (e : Ending) (w' : World) : Prop := e = .returned (.bool true) ∧ Below w.heap.size w w'

theorem row_lit (w : World) (n : Nat) (f : Nat → Int) (cs : Array Value) (hcs : cs.toList = rowF n f) (hsz : cs.size = n) (hn : n ≤ maxLen) (hf : ∀ i, i < n → B64 (f i)) :
    RowI (w.alloc (.cells cs 3)) (some ⟨w.heap.size, 0, none⟩) n f := by
  have h := World.ownsRow_lit (base := w.heap.size) (e := 3) (size := 1) w cs n (Nat.le_refl _) hn (by omega)
  rw [hcs] at h
  exact RowI.owned h hf

def awF (i : Nat) : Int := if i = 1 then 5 else 7
def awG (i : Nat) : Int := if i = 1 then 1 else 0
set_option maxHeartbeats 1000000 in
theorem awake_any (w : World) : Calls Try.prog 20 #[] w (Yes w) := by
  have H1 := Lib.hid (row_lit w 3 awF #[.int .i64 7, .int .i64 5, .int .i64 7] rfl rfl (by unfold maxLen; omega) (fun i hi => by unfold awF B64; split <;> decide))
  have HS := Lib.hid (show sameB (canLen 3) (can awF) 3 awG = true by decide)
  go_enter Try.func20, Try.ntmps20
  go_wp2_with fail
  refine (canonical_any _ _ _ _ _ H1.out (by unfold maxLen; omega)).mono ?_
  rintro e w1 ⟨r, c, rfl, hR, hB⟩
  have HB : Hid (Below w.heap.size w w1) := Lib.hid (((Below.refl _ w).alloc (Nat.le_refl _) _).trans (hB.mono (by simp)))
  have HR := Lib.hid hR
  clear hR hB
  have H2 := Lib.hid (row_lit w1 3 awG #[.int .i64 0, .int .i64 1, .int .i64 0] rfl rfl (by unfold maxLen; omega) (fun i hi => by unfold awG B64; split <;> decide))
  have HRK := Lib.hid (HR.out.keep ((Below.refl _ w1).alloc (Nat.le_refl _) (.cells #[.int .i64 0, .int .i64 1, .int .i64 0] 3)))
  go_wp2_with fail
  refine (same_any _ _ _ _ _ _ _ _ _ HRK.out H2.out (by unfold maxLen canLen; split <;> omega)).mono ?_
  rintro e w2 ⟨rfl, hB⟩
  rw [HS.out]
  have HB2 := Lib.hid ((HB.out.alloc HB.out.size _).trans (hB.mono (by have := HB.out.size; simp; omega)))
  clear hB
  go_wp2_with fail
  go_ret
  exact ⟨rfl, HB2.out⟩
end Go.Proofs.Ytfgpjkkdgjhkfaa
