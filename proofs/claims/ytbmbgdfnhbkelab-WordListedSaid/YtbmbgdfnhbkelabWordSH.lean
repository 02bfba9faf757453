/- Contracts: the reference's Factors, Same; the walk of the law on factors. -/
import Derived.Test.YtbmbgdfnhbkelabWordSG
import Derived.Test.YtbmbgdfnhbkelabWordSI
import Derived.Test.YtbmbgdfnhbkelabWordX
namespace Go.Proofs.Ytbmbgdfnhbkelab
open Go Go.RowKit Go.Maps Go.Sort
open WordM
set_option linter.unusedVariables false

set_option maxRecDepth 100000 in
set_option maxHeartbeats 2000000 in
/-- the reference's Factors -/
theorem rfactors_ok (s : ByteArray) (n : Nat) (w : World) (hs : s.size ≤ 4096) (hn : n ≤ s.size) :
    Calls Try.prog 12 #[.string s, .int .i64 n] w (GivesS w (facN s n (s.size - n + 1))) := by
  obtain ⟨N, hN⟩ : ∃ N, N = s.size - n + 1 := ⟨_, rfl⟩
  rw [← hN]
  have hN2 : N ≤ 4097 := by omega
  have hnN : n + N = s.size + 1 := by omega
  clear hN
  have HSZ := Lib.hid (show ∀ k, k ≤ N → ∀ x, x ∈ facN s n k → x.size ≤ maxLen from fun k hk x hx => by
    obtain ⟨i, hi, rfl⟩ := facN_mem.1 hx
    rw [ByteArray.size_extract]; unfold maxLen; omega)
  go_enter Try.func12, Try.ntmps12
  go_wp2_with fail
  go_loopw [5, 6] (fun vl vi wr => ∃ (k : Nat) (a : Option Addr) (c : Nat), k ≤ N ∧ vi = .int .i64 k ∧ vl = .slice a (facN s n k).length c ∧ RowS wr a c (facN s n k) ∧ Below w.heap.size w wr) (fun _ vi _ => N - (intOf vi).toNat)
  case atStart => exact ⟨0, none, 0, Nat.zero_le _, rfl, rfl, .inl ⟨rfl, rfl, rfl⟩, Below.refl _ _⟩
  case round =>
    obtain ⟨k, a, c, hk, rfl, rfl, hr, hb⟩ := hrel
    have HR := Lib.hid hr
    have HB := Lib.hid hb
    have hlen := facN_len s n k
    have HS := Lib.hid (HSZ.out k hk)
    clear hr hb
    by_cases hlt : k < N
    · have hkl : k + n ≤ s.size := by omega
      have HX := Lib.hid (show (s.extract k (k + n)).size ≤ maxLen by rw [ByteArray.size_extract]; unfold maxLen; omega)
      have HL := Lib.hid (show (facN s n k).length ≤ 1048576 by omega)
      have HE : Hid (facN s n (k + 1) = insF (facN s n k) (s.extract k (k + n))) := Lib.hid rfl
      go_wp2_with fail
      refine (insert_any a c (facN s n k) (s.extract k (k + n)) _ HR.out HL.out HX.out HS.out).mono ?_
      rintro e w1 ⟨a1, c1, rfl, hR, hB⟩
      rw [← HE.out] at hR ⊢
      have HR1 := Lib.hid hR
      have HB1 := Lib.hid (HB.out.trans (hB.mono HB.out.size))
      clear hR hB
      go_wp2_with fail
      exact ⟨⟨k + 1, a1, c1, by omega, by go_num, rfl, HR1.out, HB1.out⟩, by simp [intOf]; omega⟩
    · obtain rfl : N = k := by omega
      have hkl : s.size < n + N := by omega
      go_wp2_with fail
      go_ret
      exact ⟨a, c, rfl, HR.out, HB.out⟩

def eqS (l m : List ByteArray) : Bool := decide (l = m)
theorem eqS_self (l : List ByteArray) : eqS l l = true := by simp [eqS]
theorem RowS.at {w : World} {a : Option Addr} {c : Nat} {l : List ByteArray} (h : RowS w a c l) {j : Nat} (hj : j < l.length) : ∃ b off, a = some ⟨b, off, none⟩ ∧ w.cell? ⟨b, off + j, none⟩ = some (.string l[j]) := by
  rcases h with ⟨_, rfl, _⟩ | ⟨b, off, rfl, hl, _, _, hc⟩
  · simp at hj
  · exact ⟨b, off, rfl, hc j _ (List.getElem?_eq_getElem hj)⟩
set_option maxHeartbeats 1000000 in
theorem sameS_eq (a : Option Addr) (c : Nat) (l : List ByteArray) (a' : Option Addr) (c' : Nat) (m : List ByteArray) (w : World) (hr : RowS w a c l) (hs : RowS w a' c' m) (hn : l.length ≤ maxLen) (hlm : l.length = m.length) :
    Calls Try.prog 9 #[.slice a l.length c, .slice a' m.length c'] w fun e w' => e = .returned (.bool (eqS l m)) ∧ Below w.heap.size w w' := by
  have H1 := Lib.hid hr
  have H2 := Lib.hid hs
  have HL := Lib.hid hlm
  clear hr hs
  unfold maxLen at hn
  obtain ⟨n, hn1⟩ : ∃ n, n = l.length := ⟨_, rfl⟩
  rw [← hlm, ← hn1]
  rw [← hn1] at hn
  have HN := Lib.hid hn1
  clear hlm hn1
  go_enter Try.func9, Try.ntmps9
  go_wp2_with fail
  go_loopw [13] (fun i wr => ∃ j : Nat, j ≤ n ∧ i = .int .i64 j ∧ (∀ t : Nat, t < j → l[t]? = m[t]?) ∧ Below w.heap.size w wr) (fun i _ => n - (intOf i).toNat)
  case atStart => exact ⟨0, Nat.zero_le _, rfl, fun t ht => by omega, Below.refl _ _⟩
  case round =>
    obtain ⟨j, hj, rfl, hall, hb⟩ := hrel
    have HA := Lib.hid hall
    have HB := Lib.hid hb
    clear hall hb
    by_cases hlt : j < n
    · have hl1 : j < l.length := by rw [← HN.out]; exact hlt
      have hl2 : j < m.length := by rw [← HL.out]; exact hl1
      obtain ⟨b, off, rfl, hcj⟩ := (H1.out.keep HB.out).at hl1
      obtain ⟨b', off', rfl, hcj'⟩ := (H2.out.keep HB.out).at hl2
      have e1 := Lib.hid (List.getElem?_eq_getElem hl1)
      have e2 := Lib.hid (List.getElem?_eq_getElem hl2)
      generalize l[j] = x at *
      generalize m[j] = y at *
      clear hl1 hl2
      have hj0 : (0 : Int) ≤ (j : Int) := by omega
      have hjn : (j : Int) < (n : Int) := by omega
      by_cases hf : x = y
      · have h1 : (x.toList == y.toList) = true := by rw [hf]; simp
        have h2 : (x.toList != y.toList) = false := by rw [hf]; simp
        have HF := Lib.hid (show l[j]? = m[j]? by rw [e1.out, e2.out, hf])
        clear hf
        go_wp2_with fail
        go_quiet (fail)
        go_wp2_with fail
        exact ⟨⟨j + 1, by omega, by go_num, fun t ht => by
            by_cases et : t = j
            · subst et; exact HF.out
            · exact HA.out t (by omega), ⟨HB.out.os, HB.out.tape, HB.out.output, HB.out.size, HB.out.block⟩⟩, by simp [intOf]; omega⟩
      · have h1 : (x.toList == y.toList) = false := by
          rw [beq_eq_false_iff_ne, Lib.toList_data, Lib.toList_data]; exact fun e => hf (ext_list e)
        have h2 : (x.toList != y.toList) = true := by
          rw [bne_iff_ne, Lib.toList_data, Lib.toList_data]; exact fun e => hf (ext_list e)
        have HF := Lib.hid (show eqS l m = false by
          rw [eqS, decide_eq_false_iff_not]; intro h; apply hf
          have := e1.out; rw [h, e2.out] at this; injection this with this; exact this.symm)
        clear hf
        go_wp2_with fail
        go_quiet (fail)
        go_wp2_with fail
        go_ret
        exact ⟨by rw [HF.out]; rfl, ⟨HB.out.os, HB.out.tape, HB.out.output, HB.out.size, HB.out.block⟩⟩
    · obtain rfl : n = j := by omega
      have HF := Lib.hid (show eqS l m = true by
        rw [eqS, decide_eq_true_iff]
        apply List.ext_getElem?
        intro t
        by_cases ht : t < n
        · exact HA.out t ht
        · rw [List.getElem?_eq_none (by rw [← HN.out]; omega), List.getElem?_eq_none (by rw [← HL.out, ← HN.out]; omega)])
      go_wp2_with fail
      go_ret
      exact ⟨by rw [HF.out]; rfl, HB.out⟩
set_option maxHeartbeats 400000 in
/-- the reference's Same -/
theorem sameS_any (a : Option Addr) (c : Nat) (l : List ByteArray) (a' : Option Addr) (c' : Nat) (m : List ByteArray) (w : World) (hr : RowS w a c l) (hs : RowS w a' c' m) (hn : l.length ≤ maxLen) :
    Calls Try.prog 9 #[.slice a l.length c, .slice a' m.length c'] w fun e w' => e = .returned (.bool (eqS l m)) ∧ Below w.heap.size w w' := by
  by_cases hnm : l.length = m.length
  · exact sameS_eq a c l a' c' m w hr hs hn hnm
  · have HF := Lib.hid (show eqS l m = false by rw [eqS, decide_eq_false_iff_not]; intro h; exact hnm (by rw [h]))
    have h1 : ((l.length : Int) != (m.length : Int)) = true := by rw [bne_iff_ne]; omega
    clear hnm hr hs
    go_enter Try.func9, Try.ntmps9
    go_wp2_with fail
    go_ret
    exact ⟨by rw [HF.out]; rfl, Below.refl _ _⟩

set_option maxHeartbeats 400000 in
theorem factors_no (s : ByteArray) (n : Int) (w : World) (h : n < 0 ∨ (s.size : Int) < n) :
    Calls Try.prog 11 #[.string s, .int .i64 n] w (GivesS w []) := by
  by_cases h0 : n < 0
  · clear h
    go_enter Try.func11, Try.ntmps11
    go_wp2_with fail
    go_ret
    exact ⟨none, 0, rfl, .inl ⟨rfl, rfl, rfl⟩, Below.refl _ _⟩
  · have h1 : (s.size : Int) < n := by omega
    clear h
    go_enter Try.func11, Try.ntmps11
    go_wp2_with fail
    go_ret
    exact ⟨none, 0, rfl, .inl ⟨rfl, rfl, rfl⟩, Below.refl _ _⟩
end Go.Proofs.Ytbmbgdfnhbkelab
