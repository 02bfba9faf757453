/- The walk of the law on deletions. -/
import Derived.Test.YtnhfagolmafonaaWordD
namespace Go.Proofs.Ytnhfagolmafonaa
open Go.RowKit Go.Sort
open WordM
set_option linter.unusedVariables false

theorem boolRow_at {w : World} {a : Option Addr} {len cap : Nat} {B : Nat → Bool} (h : BoolRow w a len cap B) :
    len = 0 ∨ ∃ b off, a = some ⟨b, off, none⟩ ∧ ∀ i, i < len → w.cell? ⟨b, off + i, none⟩ = some (.bool (B i)) := by
  rcases h with ⟨_, h, _⟩ | ⟨x, rfl, hl, _, hc⟩
  · exact .inl h
  · by_cases h0 : len = 0
    · exact .inl h0
    · obtain ⟨b, off, spot⟩ := x
      have hc0 := hc 0 (by omega)
      have hspot : spot = none := by simpa [Addr.add] using World.cell?_spot hc0
      subst hspot
      exact .inr ⟨b, off, rfl, fun i hi => by
        have h1 := hc i (by omega)
        have h2 : (⟨b, off, none⟩ : Addr).add i = ⟨b, off + i, none⟩ := by unfold Addr.add; split <;> simp_all
        rwa [h2] at h1⟩

theorem fac_extract {s : ByteArray} {i j : Nat} (hi : i ≤ j) (hj : j ≤ s.size) : facB (s.extract i j) s = true := by
  refine (contains_iff _ _).2 ⟨i, by rw [size_list]; omega, ?_⟩
  rw [extract_list]
  exact List.take_prefix _ _
theorem sub_snoc {p : ByteArray} {s : ByteArray} {n : Nat} (h : n < s.size) (hs : List.Sublist p.data.toList (s.data.toList.take n)) :
    List.Sublist (p ++ s.extract n (n + 1)).data.toList (s.data.toList.take (n + 1)) := by
  have h1 : (p ++ s.extract n (n + 1)).data.toList = p.data.toList ++ (s.extract n (n + 1)).data.toList := by simp
  have h2 : (s.extract n (n + 1)).data.toList = [s[n]] := by
    rw [extract_list, drop_at s n h, show n + 1 - n = 1 by omega]; rfl
  rw [h1, h2, take_snoc s n h]
  exact hs.append (List.Sublist.refl _)

set_option maxRecDepth 100000 in
set_option maxHeartbeats 2000000 in
theorem wWordDeletes (w : World) (s0 : ByteArray) (_ : s0.size ≤ maxLen) (ka : Option Addr) (kl kc : Nat) (B : Nat → Bool) (hB : BoolRow w ka kl kc B) (i : Int) (_ : (Lit.int .i64 i).wf = true) (j : Int) (_ : (Lit.int .i64 j).wf = true) (hsh : w.ShapedOpen Try.prog) :
    Calls Try.prog 10 #[.string s0, .slice ka kl kc, .int .i64 i, .int .i64 j] w fun e w' => e = .returned (.bool true) ∧ Below w.heap.size w w' := by
  have HX := Lib.hid (hasMax_of hsh)
  have HR := Lib.hid (boolRow_at hB)
  clear hsh hB
  have c1 := cutS_le s0 200
  go_enter Try.func10, Try.ntmps10
  go_wp2_with fail
  refine (cut_any _ _ _ (by omega) (by omega)).mono ?_
  rintro e w2 ⟨rfl, rfl⟩
  rw [show (200 : Int).toNat = 200 from rfl]
  generalize cutS s0 200 = s at *
  go_wp2_with fail
  go_loop [9, 10] (fun vu vn => ∃ (n : Nat) (p : ByteArray), vn = .int .i64 n ∧ vu = .string p ∧ n ≤ s.size ∧ p.size ≤ n ∧ List.Sublist p.data.toList (s.data.toList.take n)) (fun _ vn => s.size - (intOf vn).toNat)
  case atStart => exact ⟨0, ⟨#[]⟩, rfl, rfl, Nat.zero_le _, Nat.zero_le _, by simp⟩
  case round =>
    obtain ⟨n, p, rfl, rfl, hn, hp, hsub⟩ := hrel
    have HS := Lib.hid hsub
    clear hsub
    by_cases hlt : n < s.size
    · have hz1 : (s.extract n (n + 1)).size = 1 := by rw [ByteArray.size_extract]; omega
      have HN := Lib.hid (sub_snoc hlt HS.out)
      have HO := Lib.hid (show List.Sublist p.data.toList (s.data.toList.take (n + 1)) from HS.out.trans (by rw [take_snoc s n hlt]; exact List.sublist_append_left _ _))
      by_cases hk : n < kl
      · rcases HR.out with h0 | ⟨b, off, rfl, hc⟩
        · omega
        · have hcn := hc n hk
          clear hc
          cases hBn : B n
          · rw [hBn] at hcn
            clear hBn
            go_wp2_with fail
            exact ⟨⟨n + 1, p, by go_num, rfl, by omega, by omega, HO.out⟩, by simp [intOf]; omega⟩
          · rw [hBn] at hcn
            clear hBn
            go_wp2_with fail
            exact ⟨⟨n + 1, _, by go_num, rfl, by omega, by rw [ByteArray.size_append, hz1]; omega, HN.out⟩, by simp [intOf]; omega⟩
      · go_wp2_with fail
        exact ⟨⟨n + 1, _, by go_num, rfl, by omega, by rw [ByteArray.size_append, hz1]; omega, HN.out⟩, by simp [intOf]; omega⟩
    · have HT := Lib.hid (show subB p s = true by
        rw [subB_iff]; exact HS.out.trans (List.take_sublist _ _))
      have HP := Lib.hid (show p.size ≤ maxLen by unfold maxLen; omega)
      have HZ := Lib.hid (show s.size ≤ maxLen by unfold maxLen; omega)
      by_cases i0 : i < 0
      · go_wp2_with fail
        refine (sub_any p s _ HP.out HZ.out).mono ?_
        rintro e w5 ⟨rfl, hb5⟩
        rw [HT.out]
        go_wp2_with fail
        refine (awake_any _).mono ?_
        rintro e w7 ⟨rfl, hb7⟩
        have hb8 := hb5.trans (hb7.mono hb5.size)
        go_wp2_with fail
        go_ret
        exact ⟨rfl, hb8⟩
      by_cases ij : j < i
      · go_wp2_with fail
        refine (sub_any p s _ HP.out HZ.out).mono ?_
        rintro e w5 ⟨rfl, hb5⟩
        rw [HT.out]
        go_wp2_with fail
        refine (awake_any _).mono ?_
        rintro e w7 ⟨rfl, hb7⟩
        have hb8 := hb5.trans (hb7.mono hb5.size)
        go_wp2_with fail
        go_ret
        exact ⟨rfl, hb8⟩
      by_cases js : (s.size : Int) < j
      · go_wp2_with fail
        refine (sub_any p s _ HP.out HZ.out).mono ?_
        rintro e w5 ⟨rfl, hb5⟩
        rw [HT.out]
        go_wp2_with fail
        refine (awake_any _).mono ?_
        rintro e w7 ⟨rfl, hb7⟩
        have hb8 := hb5.trans (hb7.mono hb5.size)
        go_wp2_with fail
        go_ret
        exact ⟨rfl, hb8⟩
      · obtain ⟨ι, rfl⟩ := Int.eq_ofNat_of_zero_le (show 0 ≤ i by omega)
        obtain ⟨κ, rfl⟩ := Int.eq_ofNat_of_zero_le (show 0 ≤ j by omega)
        have HF := Lib.hid (fac_extract (s := s) (i := ι) (j := κ) (by omega) (by omega))
        go_wp2_with fail
        refine (sub_any p s _ HP.out HZ.out).mono ?_
        rintro e w5 ⟨rfl, hb5⟩
        rw [HT.out]
        have HX5 := Lib.hid (hasMax_below HX.out hb5 rfl)
        go_wp2_with fail
        refine (fac_any (s.extract ι κ) s _ (by omega) HX5.out).mono ?_
        rintro e w6 ⟨rfl, rfl⟩
        rw [HF.out]
        go_wp2_with fail
        refine (awake_any _).mono ?_
        rintro e w7 ⟨rfl, hb7⟩
        have hb8 := hb5.trans (hb7.mono hb5.size)
        go_wp2_with fail
        go_ret
        exact ⟨rfl, hb8⟩
end Go.Proofs.Ytnhfagolmafonaa
