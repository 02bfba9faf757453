/- Contract: small; facts for the walk of DfaEnumerates. -/
import Derived.Test.YtohoiebofkmjeacDfaLA
import Derived.Test.YtohoiebofkmjeacDfaH
import Derived.Test.YtohoiebofkmjeacDfaCP
import Derived.Test.YtohoiebofkmjeacDfaCR
namespace Go.Proofs.Ytohoiebofkmjeac
open Go Go.RowKit Go.Lib Go.Sort
open Go.Proofs.Ytohoiebofkmjeac.wrd.WordM (cmpW ext_list)
set_option linter.unusedVariables false
set_option maxHeartbeats 1000000 in
theorem small_any (d : DF) (af : Option Addr) (cf : Nat) (an : Option Addr) (cn : Nat) (k : Nat) (w : World) (hin : InD w d af an) :
    Calls Try.prog 6 #[dV d af cf an cn, .int .i64 k] w fun e w' => e = .returned (.bool (decide (d.n ≤ k) && valD d)) ∧ Below w.heap.size w w' := by
  have HI := Lib.hid hin
  have HQ := Lib.hid (fun W (h : InD W d af an) => lvalid_any d af cf an cn W h)
  have HB0 := Lib.hid ((Below.refl w.heap.size w).alloc (Nat.le_refl _) (dO d af cf an cn))
  have HI0 := Lib.hid (HI.out.box (dO d af cf an cn))
  clear hin
  by_cases hk : d.n ≤ k
  · have t : (d.n : Int) ≤ (k : Int) := by omega
    have HE := Lib.hid (show (decide (d.n ≤ k) && valD d) = valD d by simp [hk])
    clear hk
    go_enter Try.func6, Try.ntmps6
    go_wp2_with fail
    refine (HQ.out _ HI0.out).mono ?_
    rintro e w2 ⟨rfl, hB⟩
    have HB2 := Lib.hid (HB0.out.trans (hB.mono (by simp)))
    clear hB
    go_wp2_with fail
    go_ret
    exact ⟨by rw [HE.out]; rfl, HB2.out⟩
  · have t : ¬ (d.n : Int) ≤ (k : Int) := by omega
    have HE := Lib.hid (show (decide (d.n ≤ k) && valD d) = false by simp [hk])
    clear hk
    go_enter Try.func6, Try.ntmps6
    go_wp2_with fail
    go_ret
    exact ⟨by rw [HE.out]; rfl, HB0.out⟩
theorem cntK_snoc (l : List ByteArray) (u : ByteArray) (k : Nat) : cntK (l ++ [u]) k = if k = u.size then cntK l k + 1 else cntK l k := by
  rw [cntK_append]
  unfold cntK
  by_cases e : k = u.size
  · subst e; simp
  · rw [if_neg e]; simp [Ne.symm e]
theorem take_snocL {α : Type} {l : List α} {i : Nat} (h : i < l.length) : l.take (i + 1) = l.take i ++ [l[i]] := List.take_succ_eq_append_getElem h
def memS (s : ByteArray) (l : List ByteArray) : Bool := l.any fun u => decide (u = s)
theorem memS_iff {s : ByteArray} {l : List ByteArray} : memS s l = true ↔ s ∈ l := by simp [memS, List.any_eq_true]
theorem mem_takeB (s : ByteArray) (l : List ByteArray) {i : Nat} (h : i < l.length) : memS s (l.take (i + 1)) = (memS s (l.take i) || decide (l[i] = s)) := by
  unfold memS
  rw [take_snocL h, List.any_append]
  simp only [List.any_cons, List.any_nil, Bool.or_false]
theorem RowSt.getD {w : World} {a : Option Addr} {l : List ByteArray} (h : RowSt w a l) {j : Nat} (hj : j < l.length) : ∃ b off, a = some ⟨b, off, none⟩ ∧ w.cell? ⟨b, off + j, none⟩ = some (.string l[j]) := RowSt.at h hj
theorem RowSt.getQ {w : World} {a : Option Addr} {l : List ByteArray} (h : RowSt w a l) {j : Nat} {v : ByteArray} (hv : l[j]? = some v) : ∃ b off, a = some ⟨b, off, none⟩ ∧ w.cell? ⟨b, off + j, none⟩ = some (.string v) := by
  obtain ⟨hj, rfl⟩ := List.getElem?_eq_some_iff.1 hv
  exact RowSt.at h hj
end Go.Proofs.Ytohoiebofkmjeac
