/- Contract: the reference's Subwords. -/
import Derived.Test.YtbmbgdfnhbkelabWordWA
import Derived.Test.YtbmbgdfnhbkelabWordSI
import Derived.Test.YtbmbgdfnhbkelabWordSH
namespace Go.Proofs.Ytbmbgdfnhbkelab
open Go Go.RowKit Go.Maps Go.Sort
open WordM
set_option linter.unusedVariables false

theorem inS_size {n i k : Nat} {c : ByteArray} {now : List ByteArray} (h : ∀ x, x ∈ now → x.size ≤ 16) (hc : c.size ≤ 1) (hk : k ≤ now.length) : ∀ x, x ∈ inS n c now k → x.size ≤ maxLen := by
  intro x hx
  unfold maxLen
  rcases (inS_mem hk).1 hx with h1 | ⟨y, h1, _, rfl⟩
  · have := h x h1; omega
  · have := h y (List.mem_of_mem_take h1); rw [ByteArray.size_append]; omega

set_option maxRecDepth 100000 in
set_option maxHeartbeats 4000000 in
/-- the reference's Subwords -/
theorem rsubwords_ok (s : ByteArray) (n : Nat) (w : World) (hs : s.size ≤ 16) (hn : n ≤ 9223372036854775807) :
    Calls Try.prog 10 #[.string s, .int .i64 n] w (GivesS w (subO s n s.size)) := by
  have HSZ := Lib.hid (subO_size s n)
  have HLE := Lib.hid (subO_len s n)
  obtain ⟨N, hN⟩ : ∃ N, N = s.size := ⟨_, rfl⟩
  have HN := Lib.hid hN
  rw [← hN] at hs ⊢
  have HE0 : Hid (subO s n 0 = [⟨#[]⟩]) := Lib.hid rfl
  clear hN
  go_enter Try.func10, Try.ntmps10
  go_wp2_with fail
  go_loopw [5, 6] (fun vl vi wr => ∃ (i : Nat) (a : Option Addr) (c : Nat), i ≤ N ∧ vi = .int .i64 i ∧ vl = .slice a (subO s n i).length c ∧ RowS wr a c (subO s n i) ∧ Below w.heap.size w wr) (fun _ vi _ => N - (intOf vi).toNat)
  case atStart => exact ⟨0, some ⟨w.heap.size, 0, none⟩, 1, Nat.zero_le _, rfl, rfl, .inr ⟨w.heap.size, 0, rfl, by simp, by rw [HE0.out]; exact Nat.le_refl _, by unfold maxLen; omega, fun j x hj => by
    rw [HE0.out] at hj
    have h0 : j = 0 := by
      cases j with
      | zero => rfl
      | succ j => simp at hj
    subst h0
    simp at hj
    subst hj
    simp⟩, (Below.refl _ _).alloc (Nat.le_refl _) _⟩
  case round =>
    obtain ⟨i, a, c, hi, rfl, rfl, hr, hb⟩ := hrel
    have HR := Lib.hid hr
    have HB := Lib.hid hb
    clear hr hb
    by_cases hlt : i < N
    · have hc1 : (s.extract i (i + 1)).size ≤ 1 := by rw [ByteArray.size_extract]; omega
      have hll : (subO s n i).length ≤ 65536 := Nat.le_trans (HLE.out i) (pow_le16 (by omega))
      have hsz : ∀ x, x ∈ subO s n i → x.size ≤ 16 := fun x hx => by have := HSZ.out i x hx; omega
      have HE : Hid (subO s n (i + 1) = inS n (s.extract i (i + 1)) (subO s n i) (subO s n i).length) := Lib.hid rfl
      have HSN := Lib.hid hsz
      have HC1 := Lib.hid hc1
      have HI0 : Hid (inS n (s.extract i (i + 1)) (subO s n i) 0 = subO s n i) := Lib.hid rfl
      clear hsz hc1
      generalize subO s n i = now at *
      have hsi : i < s.size := by rw [← HN.out]; exact hlt
      go_wp2_with fail
      go_loopw [5, 20] (fun vl vk wr => ∃ (k : Nat) (a' : Option Addr) (c' : Nat), k ≤ now.length ∧ vk = .int .i64 k ∧ vl = .slice a' (inS n (s.extract i (i + 1)) now k).length c' ∧ RowS wr a' c' (inS n (s.extract i (i + 1)) now k) ∧ RowS wr a c now ∧ Below w.heap.size w wr) (fun _ vk _ => now.length - (intOf vk).toNat)
      case atStart => exact ⟨0, a, c, Nat.zero_le _, rfl, by rw [HI0.out], by rw [HI0.out]; exact HR.out, HR.out, HB.out⟩
      case round =>
        obtain ⟨k, a', c', hk, rfl, rfl, hr1, hr2, hb1⟩ := hrel
        have HR1 := Lib.hid hr1
        have HR2 := Lib.hid hr2
        have HB1 := Lib.hid hb1
        clear hr1 hr2 hb1
        by_cases hkl : k < now.length
        · obtain ⟨b, off, rfl, hck⟩ := HR2.out.at hkl
          have hg : now.getD k ⟨#[]⟩ = now[k] := by rw [List.getD_eq_getElem?_getD, List.getElem?_eq_getElem hkl]; rfl
          have hxs := HSN.out _ (List.getElem_mem hkl)
          have HY := Lib.hid (fun h => hg ▸ inS_yes (c := s.extract i (i + 1)) (now := now) (n := n) (k := k) h)
          have HNO := Lib.hid (fun h => inS_no (c := s.extract i (i + 1)) (now := now) (n := n) (k := k) h)
          rw [hg] at HY HNO
          clear hg
          generalize now[k] = x at *
          have hln := inS_len (c := s.extract i (i + 1)) (now := now) (n := n) k
          have HL := Lib.hid (show (inS n (s.extract i (i + 1)) now k).length ≤ 1048576 by omega)
          clear hln
          have HS := Lib.hid (inS_size (n := n) (i := i) (k := k) HSN.out HC1.out hk)
          by_cases hx : x.size < n
          · have HI := Lib.hid (HY.out hx)
            clear HY HNO
            have HX := Lib.hid (show (x ++ s.extract i (i + 1)).size ≤ maxLen by have := HC1.out; rw [ByteArray.size_append]; unfold maxLen; omega)
            go_wp2_with fail
            refine (insert_any a' c' (inS n (s.extract i (i + 1)) now k) (x ++ s.extract i (i + 1)) _ HR1.out HL.out HX.out HS.out).mono ?_
            rintro e w1 ⟨a1, c1, rfl, hR, hB⟩
            rw [← HI.out] at hR ⊢
            have HR3 := Lib.hid hR
            have HR4 := Lib.hid (HR2.out.keep hB)
            have HB3 := Lib.hid (HB1.out.trans (hB.mono HB1.out.size))
            clear hR hB
            go_wp2_with fail
            exact ⟨⟨k + 1, a1, c1, by omega, by go_num, rfl, HR3.out, HR4.out, HB3.out⟩, by simp [intOf]; omega⟩
          · have HI := Lib.hid (HNO.out hx)
            clear HY HNO
            go_wp2_with fail
            exact ⟨⟨k + 1, a', c', by omega, by go_num, by rw [HI.out], by rw [HI.out]; exact HR1.out, HR2.out, HB1.out⟩, by simp [intOf]; omega⟩
        · obtain rfl : k = now.length := by omega
          rw [← HE.out] at HR1 ⊢
          go_wp2_with fail
          exact ⟨⟨i + 1, a', c', by omega, by go_num, rfl, HR1.out, HB1.out⟩, by simp [intOf]; omega⟩
    · obtain rfl : N = i := by omega
      have hsi : N = s.size := HN.out
      go_wp2_with fail
      go_ret
      exact ⟨a, c, rfl, HR.out, HB.out⟩
end Go.Proofs.Ytbmbgdfnhbkelab
