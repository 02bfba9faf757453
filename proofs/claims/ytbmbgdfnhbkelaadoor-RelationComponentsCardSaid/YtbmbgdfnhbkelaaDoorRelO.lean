/- Contract: same. -/
import Derived.Test.YtbmbgdfnhbkelaaDoorRelN
import Derived.Test.YtbmbgdfnhbkelaaDoorRelW
namespace Go.Proofs.YtbmbgdfnhbkelaaDoor
open Go Go.RowKit
set_option linter.unusedVariables false

/-- the same numbers -/
def eqB (l m : List Nat) : Bool := decide (l = m)
theorem eqB_self (l : List Nat) : eqB l l = true := by simp [eqB]
theorem RowL.at {w : World} {a : Option Addr} {l : List Nat} (h : RowL w a l) {j : Nat} (hj : j < l.length) : ∃ b off, a = some ⟨b, off, none⟩ ∧ w.cell? ⟨b, off + j, none⟩ = some (.int .i64 (l[j] : Int)) := by
  rcases h with rfl | ⟨b, off, rfl, hl, hc⟩
  · simp at hj
  · exact ⟨b, off, rfl, hc j _ (List.getElem?_eq_getElem hj)⟩
set_option maxHeartbeats 1000000 in
theorem sameI_eq (a : Option Addr) (c : Nat) (l : List Nat) (a' : Option Addr) (c' : Nat) (m : List Nat) (w : World) (hr : RowL w a l) (hs : RowL w a' m) (hn : l.length ≤ maxLen) (hlm : l.length = m.length) :
    Calls Tryd.prog 10 #[.slice a l.length c, .slice a' m.length c'] w fun e w' => e = .returned (.bool (eqB l m)) ∧ Below w.heap.size w w' := by
  have H1 := Lib.hid hr
  have H2 := Lib.hid hs
  have HL := Lib.hid hlm
  clear hr hs
  unfold maxLen at hn
  obtain ⟨n, hn1⟩ : ∃ n, n = l.length := ⟨_, rfl⟩
  rw [← hlm, ← hn1]
  rw [← hn1] at hn
  have HN := Lib.hid hn1
  clear hlm hn1
  go_enter Tryd.func10, Tryd.ntmps10
  go_wp2_with fail
  go_loopw [13] (fun i wr => ∃ j : Nat, j ≤ n ∧ i = .int .i64 j ∧ (∀ t : Nat, t < j → l[t]? = m[t]?) ∧ Below w.heap.size w wr) (fun i _ => n - (intOf i).toNat)
  case atStart => exact ⟨0, Nat.zero_le _, rfl, fun t ht => by omega, Below.refl _ _⟩
  case round =>
    obtain ⟨j, hj, rfl, hall, hb⟩ := hrel
    have HA := Lib.hid hall
    have HB := Lib.hid hb
    clear hall hb
    by_cases hlt : j < n
    · have hl1 : j < l.length := by rw [← HN.out]; exact hlt
      have hl2 : j < m.length := by rw [← HL.out]; exact hl1
      obtain ⟨b, off, rfl, hcj⟩ := (H1.out.keep HB.out).at hl1
      obtain ⟨b', off', rfl, hcj'⟩ := (H2.out.keep HB.out).at hl2
      have e1 := Lib.hid (List.getElem?_eq_getElem hl1)
      have e2 := Lib.hid (List.getElem?_eq_getElem hl2)
      generalize l[j] = x at *
      generalize m[j] = y at *
      clear hl1 hl2
      have hj0 : (0 : Int) ≤ (j : Int) := by omega
      have hjn : (j : Int) < (n : Int) := by omega
      by_cases hf : x = y
      · have h1 : ((x : Int) != (y : Int)) = false := by rw [hf]; simp
        have HF := Lib.hid (show l[j]? = m[j]? by rw [e1.out, e2.out, hf])
        clear hf
        go_wp2_with fail
        go_quiet (fail)
        go_wp2_with fail
        exact ⟨⟨j + 1, by omega, by go_num, fun t ht => by
            by_cases et : t = j
            · subst et; exact HF.out
            · exact HA.out t (by omega), below_drewN HB.out _⟩, by simp [intOf]; omega⟩
      · have h1 : ((x : Int) != (y : Int)) = true := by rw [bne_iff_ne]; omega
        have HF := Lib.hid (show eqB l m = false by
          rw [eqB, decide_eq_false_iff_not]; intro h; apply hf
          have := e1.out; rw [h, e2.out] at this; injection this with this; exact this.symm)
        clear hf
        go_wp2_with fail
        go_quiet (fail)
        go_wp2_with fail
        go_ret
        exact ⟨by rw [HF.out]; rfl, below_drewN HB.out _⟩
    · obtain rfl : n = j := by omega
      have HF := Lib.hid (show eqB l m = true by
        rw [eqB, decide_eq_true_iff]
        apply List.ext_getElem?
        intro t
        by_cases ht : t < n
        · exact HA.out t ht
        · rw [List.getElem?_eq_none (by rw [← HN.out]; omega), List.getElem?_eq_none (by rw [← HL.out, ← HN.out]; omega)])
      go_wp2_with fail
      go_ret
      exact ⟨by rw [HF.out]; rfl, HB.out⟩
set_option maxHeartbeats 400000 in
/-- same -/
theorem sameI_any (a : Option Addr) (c : Nat) (l : List Nat) (a' : Option Addr) (c' : Nat) (m : List Nat) (w : World) (hr : RowL w a l) (hs : RowL w a' m) (hn : l.length ≤ maxLen) :
    Calls Tryd.prog 10 #[.slice a l.length c, .slice a' m.length c'] w fun e w' => e = .returned (.bool (eqB l m)) ∧ Below w.heap.size w w' := by
  by_cases hnm : l.length = m.length
  · exact sameI_eq a c l a' c' m w hr hs hn hnm
  · have HF := Lib.hid (show eqB l m = false by rw [eqB, decide_eq_false_iff_not]; intro h; exact hnm (by rw [h]))
    have h1 : ((l.length : Int) != (m.length : Int)) = true := by rw [bne_iff_ne]; omega
    clear hnm hr hs
    go_enter Tryd.func10, Tryd.ntmps10
    go_wp2_with fail
    go_ret
    exact ⟨by rw [HF.out]; rfl, Below.refl _ _⟩
end Go.Proofs.YtbmbgdfnhbkelaaDoor
