/- Walk: PartitionJoins. -/
import Derived.Test.YtfgpjkkdgjhkfaaPartGB
import Derived.Test.YtfgpjkkdgjhkfaaPartQE
namespace Go.Proofs.Ytfgpjkkdgjhkfaa
open Go Go.RowKit Go.Maps
set_option linter.unusedVariables false

set_option maxRecDepth 100000 in
set_option maxHeartbeats 4000000 in
theorem cPartitionJoins_no1 (n : Int) (a : Option Addr) (m c : Nat) (A B : Nat → Int) (b : Option Addr) (m' c' : Nat) (A' B' : Nat → Int) (p : Option Addr) (k d : Nat) (f : Nat → Int) (w : World) (ha : RowP w a m A B) (hb : RowP w b m' A' B') (hf : RowI w p k f) (hm : m ≤ maxLen) (hm' : m' ≤ maxLen) (hp : mayB n m A B = false) :
    Calls Try.prog 11 #[.int .i64 n, .slice a m c, .slice b m' c', .slice p k d] w (Yes w) := by
  have HA := Lib.hid ha
  have HR := Lib.hid hb
  have HM := Lib.hid hm
  have HN := Lib.hid hm'
  have HP := Lib.hid hp
  unfold maxLen at hm hm'
  clear ha hb hf hp
  have HB := Lib.hid (Below.refl w.heap.size w)
  go_enter Try.func11, Try.ntmps11
  go_wp2_with fail
  refine (may_any _ _ _ _ _ _ _ HA.out HM.out).mono ?_
  rintro e w1 ⟨rfl, hB⟩
  rw [HP.out]
  have HA := Lib.hid (HA.out.keep hB)
  have HR := Lib.hid (HR.out.keep hB)
  have HB := Lib.hid (HB.out.trans (hB.mono HB.out.size))
  clear hB
  go_wp2_with fail
  refine (awake_any _).mono ?_
  rintro e w2 ⟨rfl, hB⟩
  have HA := Lib.hid (HA.out.keep hB)
  have HR := Lib.hid (HR.out.keep hB)
  have HB := Lib.hid (HB.out.trans (hB.mono HB.out.size))
  clear hB
  go_wp2_with fail
  go_ret
  exact ⟨rfl, HB.out⟩
set_option maxRecDepth 100000 in
set_option maxHeartbeats 4000000 in
theorem cPartitionJoins_no2 (n : Int) (a : Option Addr) (m c : Nat) (A B : Nat → Int) (b : Option Addr) (m' c' : Nat) (A' B' : Nat → Int) (p : Option Addr) (k d : Nat) (f : Nat → Int) (w : World) (ha : RowP w a m A B) (hb : RowP w b m' A' B') (hf : RowI w p k f) (hm : m ≤ maxLen) (hm' : m' ≤ maxLen) (hp : mayB n m A B = true) (hq : mayB n m' A' B' = false) :
    Calls Try.prog 11 #[.int .i64 n, .slice a m c, .slice b m' c', .slice p k d] w (Yes w) := by
  have HA := Lib.hid ha
  have HR := Lib.hid hb
  have HM := Lib.hid hm
  have HN := Lib.hid hm'
  have HP := Lib.hid hp
  have HQ := Lib.hid hq
  unfold maxLen at hm hm'
  clear ha hb hf hp hq
  have HB := Lib.hid (Below.refl w.heap.size w)
  go_enter Try.func11, Try.ntmps11
  go_wp2_with fail
  refine (may_any _ _ _ _ _ _ _ HA.out HM.out).mono ?_
  rintro e w1 ⟨rfl, hB⟩
  rw [HP.out]
  have HA := Lib.hid (HA.out.keep hB)
  have HR := Lib.hid (HR.out.keep hB)
  have HB := Lib.hid (HB.out.trans (hB.mono HB.out.size))
  clear hB
  go_wp2_with fail
  refine (may_any _ _ _ _ _ _ _ HR.out HN.out).mono ?_
  rintro e w2 ⟨rfl, hB⟩
  rw [HQ.out]
  have HA := Lib.hid (HA.out.keep hB)
  have HR := Lib.hid (HR.out.keep hB)
  have HB := Lib.hid (HB.out.trans (hB.mono HB.out.size))
  clear hB
  go_wp2_with fail
  refine (awake_any _).mono ?_
  rintro e w3 ⟨rfl, hB⟩
  have HA := Lib.hid (HA.out.keep hB)
  have HR := Lib.hid (HR.out.keep hB)
  have HB := Lib.hid (HB.out.trans (hB.mono HB.out.size))
  clear hB
  go_wp2_with fail
  go_ret
  exact ⟨rfl, HB.out⟩
set_option maxRecDepth 100000 in
set_option maxHeartbeats 4000000 in
theorem cPartitionJoins_n (n : Nat) (a : Option Addr) (m c : Nat) (A B : Nat → Int) (b : Option Addr) (m' c' : Nat) (A' B' : Nat → Int) (p : Option Addr) (k d : Nat) (f : Nat → Int) (w : World) (ha : RowP w a m A B) (hb : RowP w b m' A' B') (hf : RowI w p k f) (hm : m ≤ maxLen) (hm' : m' ≤ maxLen) (hp : mayB n m A B = true) (hq : mayB n m' A' B' = true) (h1 : 100 < n) :
    Calls Try.prog 11 #[.int .i64 n, .slice a m c, .slice b m' c', .slice p k d] w (Yes w) := by
  have HA := Lib.hid ha
  have HR := Lib.hid hb
  have HM := Lib.hid hm
  have HN := Lib.hid hm'
  have HP := Lib.hid hp
  have HQ := Lib.hid hq
  unfold maxLen at hm hm'
  clear ha hb hf hp hq
  have HB := Lib.hid (Below.refl w.heap.size w)
  go_enter Try.func11, Try.ntmps11
  go_wp2_with fail
  refine (may_any _ _ _ _ _ _ _ HA.out HM.out).mono ?_
  rintro e w1 ⟨rfl, hB⟩
  rw [HP.out]
  have HA := Lib.hid (HA.out.keep hB)
  have HR := Lib.hid (HR.out.keep hB)
  have HB := Lib.hid (HB.out.trans (hB.mono HB.out.size))
  clear hB
  go_wp2_with fail
  refine (may_any _ _ _ _ _ _ _ HR.out HN.out).mono ?_
  rintro e w2 ⟨rfl, hB⟩
  rw [HQ.out]
  have HA := Lib.hid (HA.out.keep hB)
  have HR := Lib.hid (HR.out.keep hB)
  have HB := Lib.hid (HB.out.trans (hB.mono HB.out.size))
  clear hB
  go_wp2_with fail
  refine (awake_any _).mono ?_
  rintro e w3 ⟨rfl, hB⟩
  have HA := Lib.hid (HA.out.keep hB)
  have HR := Lib.hid (HR.out.keep hB)
  have HB := Lib.hid (HB.out.trans (hB.mono HB.out.size))
  clear hB
  go_wp2_with fail
  go_ret
  exact ⟨rfl, HB.out⟩
set_option maxRecDepth 100000 in
set_option maxHeartbeats 4000000 in
theorem cPartitionJoins_m (n : Nat) (a : Option Addr) (m c : Nat) (A B : Nat → Int) (b : Option Addr) (m' c' : Nat) (A' B' : Nat → Int) (p : Option Addr) (k d : Nat) (f : Nat → Int) (w : World) (ha : RowP w a m A B) (hb : RowP w b m' A' B') (hf : RowI w p k f) (hm : m ≤ maxLen) (hm' : m' ≤ maxLen) (hp : mayB n m A B = true) (hq : mayB n m' A' B' = true) (h1 : n ≤ 100) (h2 : 100 < m) :
    Calls Try.prog 11 #[.int .i64 n, .slice a m c, .slice b m' c', .slice p k d] w (Yes w) := by
  have HA := Lib.hid ha
  have HR := Lib.hid hb
  have HM := Lib.hid hm
  have HN := Lib.hid hm'
  have HP := Lib.hid hp
  have HQ := Lib.hid hq
  unfold maxLen at hm hm'
  clear ha hb hf hp hq
  have HB := Lib.hid (Below.refl w.heap.size w)
  go_enter Try.func11, Try.ntmps11
  go_wp2_with fail
  refine (may_any _ _ _ _ _ _ _ HA.out HM.out).mono ?_
  rintro e w1 ⟨rfl, hB⟩
  rw [HP.out]
  have HA := Lib.hid (HA.out.keep hB)
  have HR := Lib.hid (HR.out.keep hB)
  have HB := Lib.hid (HB.out.trans (hB.mono HB.out.size))
  clear hB
  go_wp2_with fail
  refine (may_any _ _ _ _ _ _ _ HR.out HN.out).mono ?_
  rintro e w2 ⟨rfl, hB⟩
  rw [HQ.out]
  have HA := Lib.hid (HA.out.keep hB)
  have HR := Lib.hid (HR.out.keep hB)
  have HB := Lib.hid (HB.out.trans (hB.mono HB.out.size))
  clear hB
  go_wp2_with fail
  refine (awake_any _).mono ?_
  rintro e w3 ⟨rfl, hB⟩
  have HA := Lib.hid (HA.out.keep hB)
  have HR := Lib.hid (HR.out.keep hB)
  have HB := Lib.hid (HB.out.trans (hB.mono HB.out.size))
  clear hB
  go_wp2_with fail
  go_ret
  exact ⟨rfl, HB.out⟩
set_option maxRecDepth 100000 in
set_option maxHeartbeats 4000000 in
theorem cPartitionJoins_mm (n : Nat) (a : Option Addr) (m c : Nat) (A B : Nat → Int) (b : Option Addr) (m' c' : Nat) (A' B' : Nat → Int) (p : Option Addr) (k d : Nat) (f : Nat → Int) (w : World) (ha : RowP w a m A B) (hb : RowP w b m' A' B') (hf : RowI w p k f) (hm : m ≤ maxLen) (hm' : m' ≤ maxLen) (hp : mayB n m A B = true) (hq : mayB n m' A' B' = true) (h1 : n ≤ 100) (h2 : m ≤ 100) (h3 : 100 < m') :
    Calls Try.prog 11 #[.int .i64 n, .slice a m c, .slice b m' c', .slice p k d] w (Yes w) := by
  have HA := Lib.hid ha
  have HR := Lib.hid hb
  have HM := Lib.hid hm
  have HN := Lib.hid hm'
  have HP := Lib.hid hp
  have HQ := Lib.hid hq
  unfold maxLen at hm hm'
  clear ha hb hf hp hq
  have HB := Lib.hid (Below.refl w.heap.size w)
  go_enter Try.func11, Try.ntmps11
  go_wp2_with fail
  refine (may_any _ _ _ _ _ _ _ HA.out HM.out).mono ?_
  rintro e w1 ⟨rfl, hB⟩
  rw [HP.out]
  have HA := Lib.hid (HA.out.keep hB)
  have HR := Lib.hid (HR.out.keep hB)
  have HB := Lib.hid (HB.out.trans (hB.mono HB.out.size))
  clear hB
  go_wp2_with fail
  refine (may_any _ _ _ _ _ _ _ HR.out HN.out).mono ?_
  rintro e w2 ⟨rfl, hB⟩
  rw [HQ.out]
  have HA := Lib.hid (HA.out.keep hB)
  have HR := Lib.hid (HR.out.keep hB)
  have HB := Lib.hid (HB.out.trans (hB.mono HB.out.size))
  clear hB
  go_wp2_with fail
  refine (awake_any _).mono ?_
  rintro e w3 ⟨rfl, hB⟩
  have HA := Lib.hid (HA.out.keep hB)
  have HR := Lib.hid (HR.out.keep hB)
  have HB := Lib.hid (HB.out.trans (hB.mono HB.out.size))
  clear hB
  go_wp2_with fail
  go_ret
  exact ⟨rfl, HB.out⟩
set_option maxRecDepth 100000 in
set_option maxHeartbeats 4000000 in
theorem cPartitionJoins_pno (n : Nat) (a : Option Addr) (m c : Nat) (A B : Nat → Int) (b : Option Addr) (m' c' : Nat) (A' B' : Nat → Int) (p : Option Addr) (k d : Nat) (f : Nat → Int) (w : World) (ha : RowP w a m A B) (hb : RowP w b m' A' B') (hf : RowI w p k f) (hm : m ≤ maxLen) (hm' : m' ≤ maxLen) (hp : mayB n m A B = true) (hq : mayB n m' A' B' = true) (h1 : n ≤ 100) (h2 : m ≤ 100) (h3' : m' ≤ 100) (h0 : a = none → m = 0 ∧ c = 0) (h0' : b = none → m' = 0 ∧ c' = 0) (hk : k ≤ maxLen) (hv : valP k f = false) :
    Calls Try.prog 11 #[.int .i64 n, .slice a m c, .slice b m' c', .slice p k d] w (Yes w) := by
  have HV := Lib.hid hv
  have HKL := Lib.hid hk
  unfold maxLen at hk
  clear hv
  have HA := Lib.hid ha
  have HR := Lib.hid hb
  have HF := Lib.hid hf
  have HM := Lib.hid hm
  have HN := Lib.hid hm'
  have HP := Lib.hid hp
  have HQ := Lib.hid hq
  have hn : n ≤ 4096 := by omega
  have HNL := Lib.hid (show n ≤ maxLen by unfold maxLen; omega)
  have HSM := Lib.hid (both_same hp hq)
  have HBM := Lib.hid (both_may hp hq)
  have HPB := Lib.hid (pair_of (val_fr hn m A B) (val_fr hn m' A' B'))
  obtain ⟨L, hL⟩ : ∃ L, L = bothL A B m A' B' m' := ⟨_, rfl⟩
  have HLL := Lib.hid (show L.length = m + m' by rw [hL]; simp [bothL, prL_len])
  have HLE := Lib.hid (show rowPr L = rowPr (prL A B m) ++ rowPr (prL A' B' m') by rw [hL]; exact rowPr_append _ _)
  rw [← hL] at HSM HBM
  have HLB := Lib.hid (show ∀ z ∈ L, B64 z.1 ∧ B64 z.2 from fun z hz => by
    obtain ⟨i, hi⟩ := List.getElem?_of_mem hz
    have hlt : i < L.length := by
      apply Nat.lt_of_not_le; intro hle; rw [List.getElem?_eq_none hle] at hi; cases hi
    obtain ⟨e1, e2⟩ := getA_at hi
    have := (mayB_iff.1 HBM.out).2 i hlt
    rw [e1, e2] at this
    unfold B64; constructor <;> omega)
  have H0A := Lib.hid h0
  have H0B := Lib.hid h0'
  have H1c := Lib.hid (rowPr_length (prL A B m))
  have H2c := Lib.hid (rowPr_length (prL A' B' m'))
  rw [prL_len] at H1c H2c
  obtain ⟨X, hX⟩ : ∃ X, X = rowPr (prL A B m) := ⟨_, rfl⟩
  obtain ⟨Y, hY⟩ : ∃ Y, Y = rowPr (prL A' B' m') := ⟨_, rfl⟩
  have HX1 := Lib.hid (show ∀ u ∈ X, u.oneCell' = true by rw [hX]; exact rowPr_one)
  have HY1 := Lib.hid (show ∀ u ∈ Y, u.oneCell' = true by rw [hY]; exact rowPr_one)
  have HXA := Lib.hid (show ∀ (W : World) ad, RowP W (some ad) m A B → ∀ j u, X[j]? = some u → W.cell? (ad.add j) = some u by rw [hX]; exact fun W ad h => prL_at h)
  have HYA := Lib.hid (show ∀ (W : World) ad, RowP W (some ad) m' A' B' → ∀ j u, Y[j]? = some u → W.cell? (ad.add j) = some u by rw [hY]; exact fun W ad h => prL_at h)
  rw [← hX] at H1c HLE
  rw [← hY] at H2c HLE
  have hx : ((n : Int) != (n : Int)) = false := by simp
  clear ha hb hf hm hm' hp hq h0 h0' hL hX hY
  obtain ⟨i0, hi, hz0, hz1, hz2⟩ := info_parts infoP
  have HB := Lib.hid (Below.refl w.heap.size w)
  go_enter Try.func11, Try.ntmps11
  go_wp2_with fail
  refine (may_any _ _ _ _ _ _ _ HA.out HM.out).mono ?_
  rintro e w1 ⟨rfl, hB⟩
  rw [HP.out]
  have HA := Lib.hid (HA.out.keep hB)
  have HR := Lib.hid (HR.out.keep hB)
  have HF := Lib.hid (HF.out.keep hB)
  have HB := Lib.hid (HB.out.trans (hB.mono HB.out.size))
  clear hB
  go_wp2_with fail
  refine (may_any _ _ _ _ _ _ _ HR.out HN.out).mono ?_
  rintro e w2 ⟨rfl, hB⟩
  rw [HQ.out]
  have HA := Lib.hid (HA.out.keep hB)
  have HR := Lib.hid (HR.out.keep hB)
  have HF := Lib.hid (HF.out.keep hB)
  have HB := Lib.hid (HB.out.trans (hB.mono HB.out.size))
  clear hB
  have HA0 := Lib.hid HA.out
  have HR0 := Lib.hid HR.out
  have HF0 := Lib.hid HF.out
  have HB0 := Lib.hid HB.out
  have HC1 := Lib.hid (fun ad (e : a = some ad) j u (hu : X[j]? = some u) => HXA.out (w2.alloc (.cells #[] 39)) ad (by rw [← e]; exact HA.out.keep ((Below.refl _ _).alloc (Nat.le_refl _) _)) j u hu)
  go_wp2_with (at_builtin; refine wpList_append_opt rfl _ _ 36 rfl w2.heap.size 39 i0 (.agg #[.int .i64 0, .int .i64 0]) 2 16 Try.underlying36 hi hz0 hz1 hz2 rfl (by decide) _ 0 [] rfl (OwnP.empty w2) a m c X rfl H0A.out H1c.out HC1.out HX1.out ?c4 ?c5 ?c6 ?_)
  case c4 => unfold maxLen; omega
  case c5 => omega
  case c6 => simp
  intro v1 w3 h3 hg3
  have hB : Below w2.heap.size w2 w3 := ((Below.refl _ w2).alloc (Nat.le_refl _) (.cells #[] 39)).grown hg3 (by simp) (fun x hx => by cases hx; exact Nat.le_refl _)
  have H3 := Lib.hid (show w3.ownsRow w2.heap.size 39 2 v1 m X by simpa using h3)
  have HA := Lib.hid (HA.out.keep hB)
  have HR := Lib.hid (HR.out.keep hB)
  have HF := Lib.hid (HF.out.keep hB)
  have HB := Lib.hid (HB.out.trans (hB.mono HB.out.size))
  have HB23 := Lib.hid hB
  clear hB h3 hg3
  have HC2 := Lib.hid (fun ad (e : b = some ad) j u (hu : Y[j]? = some u) => HYA.out w3 ad (by rw [← e]; exact HR.out) j u hu)
  go_wp2_with (at_builtin; refine wpList_append_opt rfl _ _ 36 rfl w2.heap.size 39 i0 (.agg #[.int .i64 0, .int .i64 0]) 2 16 Try.underlying36 hi hz0 hz1 hz2 rfl (by decide) v1 m X rfl H3.out b m' c' Y rfl H0B.out H2c.out HC2.out HY1.out ?d4 ?d5 ?d6 ?_)
  case d4 => unfold maxLen; omega
  case d5 => omega
  case d6 => exact HB23.out.size
  intro v2 w4 h4 hg4
  have hB2 : Below w2.heap.size w2 w4 := HB23.out.grown hg4 HB23.out.size (fun x hx => (H3.out.lt x hx).1)
  have hO : OwnP w4 w2.heap.size v2 L := by unfold OwnP; rw [HLE.out, HLL.out]; exact h4
  obtain ⟨va, vc, N, hN, rfl⟩ := hO.shape
  have HL := Lib.hid (hO.row HLB.out)
  rw [← hN] at HL HSM HBM HLL
  have hNm := HLL.out
  have HNM := Lib.hid (show N ≤ maxLen by unfold maxLen; omega)
  have HA := Lib.hid (HA0.out.keep hB2)
  have HR := Lib.hid (HR0.out.keep hB2)
  have HF := Lib.hid (HF0.out.keep hB2)
  have HB := Lib.hid (HB0.out.trans (hB2.mono HB0.out.size))
  clear h4 hg4 hB2 hO hN hNm
  go_wp2_with fail
  refine (fromPairs_ok _ _ _ _ _ _ _ HA.out HM.out HP.out).mono ?_
  rintro e w5 ⟨r5, c5, rfl, hR, hB⟩
  have HA := Lib.hid (HA.out.keep hB)
  have HR := Lib.hid (HR.out.keep hB)
  have HF := Lib.hid (HF.out.keep hB)
  have HL := Lib.hid (HL.out.keep hB)
  have HB := Lib.hid (HB.out.trans (hB.mono HB.out.size))
  have HC := Lib.hid hR
  clear hR hB
  go_wp2_with fail
  refine (fromPairs_ok _ _ _ _ _ _ _ HR.out HN.out HQ.out).mono ?_
  rintro e w6 ⟨r6, c6, rfl, hR, hB⟩
  have HA := Lib.hid (HA.out.keep hB)
  have HR := Lib.hid (HR.out.keep hB)
  have HF := Lib.hid (HF.out.keep hB)
  have HL := Lib.hid (HL.out.keep hB)
  have HC := Lib.hid (HC.out.keep hB)
  have HB := Lib.hid (HB.out.trans (hB.mono HB.out.size))
  have HD := Lib.hid hR
  clear hR hB
  go_wp2_with fail
  refine (join_g _ _ _ _ _ _ _ _ HC.out HD.out HPB.out).mono ?_
  rintro e w7 ⟨r7, c7, rfl, hR, hB⟩
  have HA := Lib.hid (HA.out.keep hB)
  have HR := Lib.hid (HR.out.keep hB)
  have HF := Lib.hid (HF.out.keep hB)
  have HL := Lib.hid (HL.out.keep hB)
  have HC := Lib.hid (HC.out.keep hB)
  have HD := Lib.hid (HD.out.keep hB)
  have HB := Lib.hid (HB.out.trans (hB.mono HB.out.size))
  have HE := Lib.hid hR
  clear hR hB
  go_wp2_with fail
  refine (fromPairs_ok _ _ _ _ _ _ _ HL.out HNM.out HBM.out).mono ?_
  rintro e w8 ⟨r8, c8, rfl, hR, hB⟩
  have HA := Lib.hid (HA.out.keep hB)
  have HR := Lib.hid (HR.out.keep hB)
  have HF := Lib.hid (HF.out.keep hB)
  have HL := Lib.hid (HL.out.keep hB)
  have HC := Lib.hid (HC.out.keep hB)
  have HD := Lib.hid (HD.out.keep hB)
  have HE := Lib.hid (HE.out.keep hB)
  have HB := Lib.hid (HB.out.trans (hB.mono HB.out.size))
  have HK := Lib.hid hR
  clear hR hB
  go_wp2_with fail
  refine (same_any _ _ _ _ _ _ _ _ _ HK.out HE.out HNL.out).mono ?_
  rintro e w9 ⟨rfl, hB⟩
  rw [HSM.out]
  have HA := Lib.hid (HA.out.keep hB)
  have HR := Lib.hid (HR.out.keep hB)
  have HF := Lib.hid (HF.out.keep hB)
  have HL := Lib.hid (HL.out.keep hB)
  have HC := Lib.hid (HC.out.keep hB)
  have HD := Lib.hid (HD.out.keep hB)
  have HE := Lib.hid (HE.out.keep hB)
  have HK := Lib.hid (HK.out.keep hB)
  have HB := Lib.hid (HB.out.trans (hB.mono HB.out.size))
  clear hB
  go_wp2_with fail
  refine (validR_any _ _ _ _ _ HF.out HKL.out).mono ?_
  rintro e w10 ⟨rfl, hB⟩
  rw [HV.out]
  have HA := Lib.hid (HA.out.keep hB)
  have HR := Lib.hid (HR.out.keep hB)
  have HF := Lib.hid (HF.out.keep hB)
  have HL := Lib.hid (HL.out.keep hB)
  have HC := Lib.hid (HC.out.keep hB)
  have HD := Lib.hid (HD.out.keep hB)
  have HE := Lib.hid (HE.out.keep hB)
  have HK := Lib.hid (HK.out.keep hB)
  have HB := Lib.hid (HB.out.trans (hB.mono HB.out.size))
  clear hB
  go_wp2_with fail
  refine (awake_any _).mono ?_
  rintro e w11 ⟨rfl, hB⟩
  have HA := Lib.hid (HA.out.keep hB)
  have HR := Lib.hid (HR.out.keep hB)
  have HF := Lib.hid (HF.out.keep hB)
  have HL := Lib.hid (HL.out.keep hB)
  have HC := Lib.hid (HC.out.keep hB)
  have HD := Lib.hid (HD.out.keep hB)
  have HE := Lib.hid (HE.out.keep hB)
  have HK := Lib.hid (HK.out.keep hB)
  have HB := Lib.hid (HB.out.trans (hB.mono HB.out.size))
  clear hB
  go_wp2_with fail
  go_ret
  exact ⟨rfl, HB.out⟩
set_option maxRecDepth 100000 in
set_option maxHeartbeats 4000000 in
theorem cPartitionJoins_pbig (n : Nat) (a : Option Addr) (m c : Nat) (A B : Nat → Int) (b : Option Addr) (m' c' : Nat) (A' B' : Nat → Int) (p : Option Addr) (k d : Nat) (f : Nat → Int) (w : World) (ha : RowP w a m A B) (hb : RowP w b m' A' B') (hf : RowI w p k f) (hm : m ≤ maxLen) (hm' : m' ≤ maxLen) (hp : mayB n m A B = true) (hq : mayB n m' A' B' = true) (h1 : n ≤ 100) (h2 : m ≤ 100) (h3' : m' ≤ 100) (h0 : a = none → m = 0 ∧ c = 0) (h0' : b = none → m' = 0 ∧ c' = 0) (hk : k ≤ maxLen) (hv : valP k f = true) (hb100 : 100 < k) :
    Calls Try.prog 11 #[.int .i64 n, .slice a m c, .slice b m' c', .slice p k d] w (Yes w) := by
  have HV := Lib.hid hv
  have HKL := Lib.hid hk
  unfold maxLen at hk
  clear hv
  have HA := Lib.hid ha
  have HR := Lib.hid hb
  have HF := Lib.hid hf
  have HM := Lib.hid hm
  have HN := Lib.hid hm'
  have HP := Lib.hid hp
  have HQ := Lib.hid hq
  have hn : n ≤ 4096 := by omega
  have HNL := Lib.hid (show n ≤ maxLen by unfold maxLen; omega)
  have HSM := Lib.hid (both_same hp hq)
  have HBM := Lib.hid (both_may hp hq)
  have HPB := Lib.hid (pair_of (val_fr hn m A B) (val_fr hn m' A' B'))
  obtain ⟨L, hL⟩ : ∃ L, L = bothL A B m A' B' m' := ⟨_, rfl⟩
  have HLL := Lib.hid (show L.length = m + m' by rw [hL]; simp [bothL, prL_len])
  have HLE := Lib.hid (show rowPr L = rowPr (prL A B m) ++ rowPr (prL A' B' m') by rw [hL]; exact rowPr_append _ _)
  rw [← hL] at HSM HBM
  have HLB := Lib.hid (show ∀ z ∈ L, B64 z.1 ∧ B64 z.2 from fun z hz => by
    obtain ⟨i, hi⟩ := List.getElem?_of_mem hz
    have hlt : i < L.length := by
      apply Nat.lt_of_not_le; intro hle; rw [List.getElem?_eq_none hle] at hi; cases hi
    obtain ⟨e1, e2⟩ := getA_at hi
    have := (mayB_iff.1 HBM.out).2 i hlt
    rw [e1, e2] at this
    unfold B64; constructor <;> omega)
  have H0A := Lib.hid h0
  have H0B := Lib.hid h0'
  have H1c := Lib.hid (rowPr_length (prL A B m))
  have H2c := Lib.hid (rowPr_length (prL A' B' m'))
  rw [prL_len] at H1c H2c
  obtain ⟨X, hX⟩ : ∃ X, X = rowPr (prL A B m) := ⟨_, rfl⟩
  obtain ⟨Y, hY⟩ : ∃ Y, Y = rowPr (prL A' B' m') := ⟨_, rfl⟩
  have HX1 := Lib.hid (show ∀ u ∈ X, u.oneCell' = true by rw [hX]; exact rowPr_one)
  have HY1 := Lib.hid (show ∀ u ∈ Y, u.oneCell' = true by rw [hY]; exact rowPr_one)
  have HXA := Lib.hid (show ∀ (W : World) ad, RowP W (some ad) m A B → ∀ j u, X[j]? = some u → W.cell? (ad.add j) = some u by rw [hX]; exact fun W ad h => prL_at h)
  have HYA := Lib.hid (show ∀ (W : World) ad, RowP W (some ad) m' A' B' → ∀ j u, Y[j]? = some u → W.cell? (ad.add j) = some u by rw [hY]; exact fun W ad h => prL_at h)
  rw [← hX] at H1c HLE
  rw [← hY] at H2c HLE
  have hx : ((n : Int) != (n : Int)) = false := by simp
  clear ha hb hf hm hm' hp hq h0 h0' hL hX hY
  obtain ⟨i0, hi, hz0, hz1, hz2⟩ := info_parts infoP
  have HB := Lib.hid (Below.refl w.heap.size w)
  go_enter Try.func11, Try.ntmps11
  go_wp2_with fail
  refine (may_any _ _ _ _ _ _ _ HA.out HM.out).mono ?_
  rintro e w1 ⟨rfl, hB⟩
  rw [HP.out]
  have HA := Lib.hid (HA.out.keep hB)
  have HR := Lib.hid (HR.out.keep hB)
  have HF := Lib.hid (HF.out.keep hB)
  have HB := Lib.hid (HB.out.trans (hB.mono HB.out.size))
  clear hB
  go_wp2_with fail
  refine (may_any _ _ _ _ _ _ _ HR.out HN.out).mono ?_
  rintro e w2 ⟨rfl, hB⟩
  rw [HQ.out]
  have HA := Lib.hid (HA.out.keep hB)
  have HR := Lib.hid (HR.out.keep hB)
  have HF := Lib.hid (HF.out.keep hB)
  have HB := Lib.hid (HB.out.trans (hB.mono HB.out.size))
  clear hB
  have HA0 := Lib.hid HA.out
  have HR0 := Lib.hid HR.out
  have HF0 := Lib.hid HF.out
  have HB0 := Lib.hid HB.out
  have HC1 := Lib.hid (fun ad (e : a = some ad) j u (hu : X[j]? = some u) => HXA.out (w2.alloc (.cells #[] 39)) ad (by rw [← e]; exact HA.out.keep ((Below.refl _ _).alloc (Nat.le_refl _) _)) j u hu)
  go_wp2_with (at_builtin; refine wpList_append_opt rfl _ _ 36 rfl w2.heap.size 39 i0 (.agg #[.int .i64 0, .int .i64 0]) 2 16 Try.underlying36 hi hz0 hz1 hz2 rfl (by decide) _ 0 [] rfl (OwnP.empty w2) a m c X rfl H0A.out H1c.out HC1.out HX1.out ?c4 ?c5 ?c6 ?_)
  case c4 => unfold maxLen; omega
  case c5 => omega
  case c6 => simp
  intro v1 w3 h3 hg3
  have hB : Below w2.heap.size w2 w3 := ((Below.refl _ w2).alloc (Nat.le_refl _) (.cells #[] 39)).grown hg3 (by simp) (fun x hx => by cases hx; exact Nat.le_refl _)
  have H3 := Lib.hid (show w3.ownsRow w2.heap.size 39 2 v1 m X by simpa using h3)
  have HA := Lib.hid (HA.out.keep hB)
  have HR := Lib.hid (HR.out.keep hB)
  have HF := Lib.hid (HF.out.keep hB)
  have HB := Lib.hid (HB.out.trans (hB.mono HB.out.size))
  have HB23 := Lib.hid hB
  clear hB h3 hg3
  have HC2 := Lib.hid (fun ad (e : b = some ad) j u (hu : Y[j]? = some u) => HYA.out w3 ad (by rw [← e]; exact HR.out) j u hu)
  go_wp2_with (at_builtin; refine wpList_append_opt rfl _ _ 36 rfl w2.heap.size 39 i0 (.agg #[.int .i64 0, .int .i64 0]) 2 16 Try.underlying36 hi hz0 hz1 hz2 rfl (by decide) v1 m X rfl H3.out b m' c' Y rfl H0B.out H2c.out HC2.out HY1.out ?d4 ?d5 ?d6 ?_)
  case d4 => unfold maxLen; omega
  case d5 => omega
  case d6 => exact HB23.out.size
  intro v2 w4 h4 hg4
  have hB2 : Below w2.heap.size w2 w4 := HB23.out.grown hg4 HB23.out.size (fun x hx => (H3.out.lt x hx).1)
  have hO : OwnP w4 w2.heap.size v2 L := by unfold OwnP; rw [HLE.out, HLL.out]; exact h4
  obtain ⟨va, vc, N, hN, rfl⟩ := hO.shape
  have HL := Lib.hid (hO.row HLB.out)
  rw [← hN] at HL HSM HBM HLL
  have hNm := HLL.out
  have HNM := Lib.hid (show N ≤ maxLen by unfold maxLen; omega)
  have HA := Lib.hid (HA0.out.keep hB2)
  have HR := Lib.hid (HR0.out.keep hB2)
  have HF := Lib.hid (HF0.out.keep hB2)
  have HB := Lib.hid (HB0.out.trans (hB2.mono HB0.out.size))
  clear h4 hg4 hB2 hO hN hNm
  go_wp2_with fail
  refine (fromPairs_ok _ _ _ _ _ _ _ HA.out HM.out HP.out).mono ?_
  rintro e w5 ⟨r5, c5, rfl, hR, hB⟩
  have HA := Lib.hid (HA.out.keep hB)
  have HR := Lib.hid (HR.out.keep hB)
  have HF := Lib.hid (HF.out.keep hB)
  have HL := Lib.hid (HL.out.keep hB)
  have HB := Lib.hid (HB.out.trans (hB.mono HB.out.size))
  have HC := Lib.hid hR
  clear hR hB
  go_wp2_with fail
  refine (fromPairs_ok _ _ _ _ _ _ _ HR.out HN.out HQ.out).mono ?_
  rintro e w6 ⟨r6, c6, rfl, hR, hB⟩
  have HA := Lib.hid (HA.out.keep hB)
  have HR := Lib.hid (HR.out.keep hB)
  have HF := Lib.hid (HF.out.keep hB)
  have HL := Lib.hid (HL.out.keep hB)
  have HC := Lib.hid (HC.out.keep hB)
  have HB := Lib.hid (HB.out.trans (hB.mono HB.out.size))
  have HD := Lib.hid hR
  clear hR hB
  go_wp2_with fail
  refine (join_g _ _ _ _ _ _ _ _ HC.out HD.out HPB.out).mono ?_
  rintro e w7 ⟨r7, c7, rfl, hR, hB⟩
  have HA := Lib.hid (HA.out.keep hB)
  have HR := Lib.hid (HR.out.keep hB)
  have HF := Lib.hid (HF.out.keep hB)
  have HL := Lib.hid (HL.out.keep hB)
  have HC := Lib.hid (HC.out.keep hB)
  have HD := Lib.hid (HD.out.keep hB)
  have HB := Lib.hid (HB.out.trans (hB.mono HB.out.size))
  have HE := Lib.hid hR
  clear hR hB
  go_wp2_with fail
  refine (fromPairs_ok _ _ _ _ _ _ _ HL.out HNM.out HBM.out).mono ?_
  rintro e w8 ⟨r8, c8, rfl, hR, hB⟩
  have HA := Lib.hid (HA.out.keep hB)
  have HR := Lib.hid (HR.out.keep hB)
  have HF := Lib.hid (HF.out.keep hB)
  have HL := Lib.hid (HL.out.keep hB)
  have HC := Lib.hid (HC.out.keep hB)
  have HD := Lib.hid (HD.out.keep hB)
  have HE := Lib.hid (HE.out.keep hB)
  have HB := Lib.hid (HB.out.trans (hB.mono HB.out.size))
  have HK := Lib.hid hR
  clear hR hB
  go_wp2_with fail
  refine (same_any _ _ _ _ _ _ _ _ _ HK.out HE.out HNL.out).mono ?_
  rintro e w9 ⟨rfl, hB⟩
  rw [HSM.out]
  have HA := Lib.hid (HA.out.keep hB)
  have HR := Lib.hid (HR.out.keep hB)
  have HF := Lib.hid (HF.out.keep hB)
  have HL := Lib.hid (HL.out.keep hB)
  have HC := Lib.hid (HC.out.keep hB)
  have HD := Lib.hid (HD.out.keep hB)
  have HE := Lib.hid (HE.out.keep hB)
  have HK := Lib.hid (HK.out.keep hB)
  have HB := Lib.hid (HB.out.trans (hB.mono HB.out.size))
  clear hB
  go_wp2_with fail
  refine (validR_any _ _ _ _ _ HF.out HKL.out).mono ?_
  rintro e w10 ⟨rfl, hB⟩
  rw [HV.out]
  have HA := Lib.hid (HA.out.keep hB)
  have HR := Lib.hid (HR.out.keep hB)
  have HF := Lib.hid (HF.out.keep hB)
  have HL := Lib.hid (HL.out.keep hB)
  have HC := Lib.hid (HC.out.keep hB)
  have HD := Lib.hid (HD.out.keep hB)
  have HE := Lib.hid (HE.out.keep hB)
  have HK := Lib.hid (HK.out.keep hB)
  have HB := Lib.hid (HB.out.trans (hB.mono HB.out.size))
  clear hB
  go_wp2_with fail
  refine (awake_any _).mono ?_
  rintro e w11 ⟨rfl, hB⟩
  have HA := Lib.hid (HA.out.keep hB)
  have HR := Lib.hid (HR.out.keep hB)
  have HF := Lib.hid (HF.out.keep hB)
  have HL := Lib.hid (HL.out.keep hB)
  have HC := Lib.hid (HC.out.keep hB)
  have HD := Lib.hid (HD.out.keep hB)
  have HE := Lib.hid (HE.out.keep hB)
  have HK := Lib.hid (HK.out.keep hB)
  have HB := Lib.hid (HB.out.trans (hB.mono HB.out.size))
  clear hB
  go_wp2_with fail
  go_ret
  exact ⟨rfl, HB.out⟩
set_option maxRecDepth 100000 in
set_option maxHeartbeats 4000000 in
theorem cPartitionJoins_ok (n : Nat) (a : Option Addr) (m c : Nat) (A B : Nat → Int) (b : Option Addr) (m' c' : Nat) (A' B' : Nat → Int) (p : Option Addr) (k d : Nat) (f : Nat → Int) (w : World) (ha : RowP w a m A B) (hb : RowP w b m' A' B') (hf : RowI w p k f) (hm : m ≤ maxLen) (hm' : m' ≤ maxLen) (hp : mayB n m A B = true) (hq : mayB n m' A' B' = true) (h1 : n ≤ 100) (h2 : m ≤ 100) (h3' : m' ≤ 100) (h0 : a = none → m = 0 ∧ c = 0) (h0' : b = none → m' = 0 ∧ c' = 0) (hk : k ≤ maxLen) (hv : valP k f = true) (hb100 : k ≤ 100) :
    Calls Try.prog 11 #[.int .i64 n, .slice a m c, .slice b m' c', .slice p k d] w (Yes w) := by
  have HV := Lib.hid hv
  have HKL := Lib.hid hk
  have hk4 : k ≤ 4096 := by omega
  have HFS := Lib.hid (ownA_same hv)
  have HFM := Lib.hid (ownA_may (f := f) (k := cls f k) hk4)
  have hcn := cls_le f k
  have HAL := Lib.hid (fun j (hj : j ≤ cls f k) => (show (ownA f k j).length ≤ 10000 from Nat.le_trans (ownA_len f k j) (Nat.le_trans (Nat.mul_le_mul (Nat.le_trans hj (Nat.le_trans hcn hb100)) hb100) (Nat.le_refl 10000))))
  have HFB := Lib.hid (ownA_b (f := f) (k := cls f k) hk4)
  have HPOS := Lib.hid (fun c (hc : c < cls f k) => clL_pos hc)
  have HCLS := Lib.hid (fun W (h : RowI W p k f) => classes_ok p k d f W h HV.out)
  obtain ⟨M, hMe⟩ : ∃ M, M = cls f k := ⟨_, rfl⟩
  have HME := Lib.hid hMe
  rw [← hMe] at HFS HFM hcn HAL HFB HPOS HCLS
  clear hv hMe hk
  have HA := Lib.hid ha
  have HR := Lib.hid hb
  have HF := Lib.hid hf
  have HM := Lib.hid hm
  have HN := Lib.hid hm'
  have HP := Lib.hid hp
  have HQ := Lib.hid hq
  have hn : n ≤ 4096 := by omega
  have HNL := Lib.hid (show n ≤ maxLen by unfold maxLen; omega)
  have HSM := Lib.hid (both_same hp hq)
  have HBM := Lib.hid (both_may hp hq)
  have HPB := Lib.hid (pair_of (val_fr hn m A B) (val_fr hn m' A' B'))
  obtain ⟨L, hL⟩ : ∃ L, L = bothL A B m A' B' m' := ⟨_, rfl⟩
  have HLL := Lib.hid (show L.length = m + m' by rw [hL]; simp [bothL, prL_len])
  have HLE := Lib.hid (show rowPr L = rowPr (prL A B m) ++ rowPr (prL A' B' m') by rw [hL]; exact rowPr_append _ _)
  rw [← hL] at HSM HBM
  have HLB := Lib.hid (show ∀ z ∈ L, B64 z.1 ∧ B64 z.2 from fun z hz => by
    obtain ⟨i, hi⟩ := List.getElem?_of_mem hz
    have hlt : i < L.length := by
      apply Nat.lt_of_not_le; intro hle; rw [List.getElem?_eq_none hle] at hi; cases hi
    obtain ⟨e1, e2⟩ := getA_at hi
    have := (mayB_iff.1 HBM.out).2 i hlt
    rw [e1, e2] at this
    unfold B64; constructor <;> omega)
  have H0A := Lib.hid h0
  have H0B := Lib.hid h0'
  have H1c := Lib.hid (rowPr_length (prL A B m))
  have H2c := Lib.hid (rowPr_length (prL A' B' m'))
  rw [prL_len] at H1c H2c
  obtain ⟨X, hX⟩ : ∃ X, X = rowPr (prL A B m) := ⟨_, rfl⟩
  obtain ⟨Y, hY⟩ : ∃ Y, Y = rowPr (prL A' B' m') := ⟨_, rfl⟩
  have HX1 := Lib.hid (show ∀ u ∈ X, u.oneCell' = true by rw [hX]; exact rowPr_one)
  have HY1 := Lib.hid (show ∀ u ∈ Y, u.oneCell' = true by rw [hY]; exact rowPr_one)
  have HXA := Lib.hid (show ∀ (W : World) ad, RowP W (some ad) m A B → ∀ j u, X[j]? = some u → W.cell? (ad.add j) = some u by rw [hX]; exact fun W ad h => prL_at h)
  have HYA := Lib.hid (show ∀ (W : World) ad, RowP W (some ad) m' A' B' → ∀ j u, Y[j]? = some u → W.cell? (ad.add j) = some u by rw [hY]; exact fun W ad h => prL_at h)
  rw [← hX] at H1c HLE
  rw [← hY] at H2c HLE
  have hx : ((n : Int) != (n : Int)) = false := by simp
  clear ha hb hf hm hm' hp hq h0 h0' hL hX hY
  obtain ⟨i0, hi, hz0, hz1, hz2⟩ := info_parts infoP
  have HB := Lib.hid (Below.refl w.heap.size w)
  go_enter Try.func11, Try.ntmps11
  go_wp2_with fail
  refine (may_any _ _ _ _ _ _ _ HA.out HM.out).mono ?_
  rintro e w1 ⟨rfl, hB⟩
  rw [HP.out]
  have HA := Lib.hid (HA.out.keep hB)
  have HR := Lib.hid (HR.out.keep hB)
  have HF := Lib.hid (HF.out.keep hB)
  have HB := Lib.hid (HB.out.trans (hB.mono HB.out.size))
  clear hB
  go_wp2_with fail
  refine (may_any _ _ _ _ _ _ _ HR.out HN.out).mono ?_
  rintro e w2 ⟨rfl, hB⟩
  rw [HQ.out]
  have HA := Lib.hid (HA.out.keep hB)
  have HR := Lib.hid (HR.out.keep hB)
  have HF := Lib.hid (HF.out.keep hB)
  have HB := Lib.hid (HB.out.trans (hB.mono HB.out.size))
  clear hB
  have HA0 := Lib.hid HA.out
  have HR0 := Lib.hid HR.out
  have HF0 := Lib.hid HF.out
  have HB0 := Lib.hid HB.out
  have HC1 := Lib.hid (fun ad (e : a = some ad) j u (hu : X[j]? = some u) => HXA.out (w2.alloc (.cells #[] 39)) ad (by rw [← e]; exact HA.out.keep ((Below.refl _ _).alloc (Nat.le_refl _) _)) j u hu)
  go_wp2_with (at_builtin; refine wpList_append_opt rfl _ _ 36 rfl w2.heap.size 39 i0 (.agg #[.int .i64 0, .int .i64 0]) 2 16 Try.underlying36 hi hz0 hz1 hz2 rfl (by decide) _ 0 [] rfl (OwnP.empty w2) a m c X rfl H0A.out H1c.out HC1.out HX1.out ?c4 ?c5 ?c6 ?_)
  case c4 => unfold maxLen; omega
  case c5 => omega
  case c6 => simp
  intro v1 w3 h3 hg3
  have hB : Below w2.heap.size w2 w3 := ((Below.refl _ w2).alloc (Nat.le_refl _) (.cells #[] 39)).grown hg3 (by simp) (fun x hx => by cases hx; exact Nat.le_refl _)
  have H3 := Lib.hid (show w3.ownsRow w2.heap.size 39 2 v1 m X by simpa using h3)
  have HA := Lib.hid (HA.out.keep hB)
  have HR := Lib.hid (HR.out.keep hB)
  have HF := Lib.hid (HF.out.keep hB)
  have HB := Lib.hid (HB.out.trans (hB.mono HB.out.size))
  have HB23 := Lib.hid hB
  clear hB h3 hg3
  have HC2 := Lib.hid (fun ad (e : b = some ad) j u (hu : Y[j]? = some u) => HYA.out w3 ad (by rw [← e]; exact HR.out) j u hu)
  go_wp2_with (at_builtin; refine wpList_append_opt rfl _ _ 36 rfl w2.heap.size 39 i0 (.agg #[.int .i64 0, .int .i64 0]) 2 16 Try.underlying36 hi hz0 hz1 hz2 rfl (by decide) v1 m X rfl H3.out b m' c' Y rfl H0B.out H2c.out HC2.out HY1.out ?d4 ?d5 ?d6 ?_)
  case d4 => unfold maxLen; omega
  case d5 => omega
  case d6 => exact HB23.out.size
  intro v2 w4 h4 hg4
  have hB2 : Below w2.heap.size w2 w4 := HB23.out.grown hg4 HB23.out.size (fun x hx => (H3.out.lt x hx).1)
  have hO : OwnP w4 w2.heap.size v2 L := by unfold OwnP; rw [HLE.out, HLL.out]; exact h4
  obtain ⟨va, vc, N, hN, rfl⟩ := hO.shape
  have HL := Lib.hid (hO.row HLB.out)
  rw [← hN] at HL HSM HBM HLL
  have hNm := HLL.out
  have HNM := Lib.hid (show N ≤ maxLen by unfold maxLen; omega)
  have HA := Lib.hid (HA0.out.keep hB2)
  have HR := Lib.hid (HR0.out.keep hB2)
  have HF := Lib.hid (HF0.out.keep hB2)
  have HB := Lib.hid (HB0.out.trans (hB2.mono HB0.out.size))
  clear h4 hg4 hB2 hO hN hNm
  go_wp2_with fail
  refine (fromPairs_ok _ _ _ _ _ _ _ HA.out HM.out HP.out).mono ?_
  rintro e w5 ⟨r5, c5, rfl, hR, hB⟩
  have HA := Lib.hid (HA.out.keep hB)
  have HR := Lib.hid (HR.out.keep hB)
  have HF := Lib.hid (HF.out.keep hB)
  have HL := Lib.hid (HL.out.keep hB)
  have HB := Lib.hid (HB.out.trans (hB.mono HB.out.size))
  have HC := Lib.hid hR
  clear hR hB
  go_wp2_with fail
  refine (fromPairs_ok _ _ _ _ _ _ _ HR.out HN.out HQ.out).mono ?_
  rintro e w6 ⟨r6, c6, rfl, hR, hB⟩
  have HA := Lib.hid (HA.out.keep hB)
  have HR := Lib.hid (HR.out.keep hB)
  have HF := Lib.hid (HF.out.keep hB)
  have HL := Lib.hid (HL.out.keep hB)
  have HC := Lib.hid (HC.out.keep hB)
  have HB := Lib.hid (HB.out.trans (hB.mono HB.out.size))
  have HD := Lib.hid hR
  clear hR hB
  go_wp2_with fail
  refine (join_g _ _ _ _ _ _ _ _ HC.out HD.out HPB.out).mono ?_
  rintro e w7 ⟨r7, c7, rfl, hR, hB⟩
  have HA := Lib.hid (HA.out.keep hB)
  have HR := Lib.hid (HR.out.keep hB)
  have HF := Lib.hid (HF.out.keep hB)
  have HL := Lib.hid (HL.out.keep hB)
  have HC := Lib.hid (HC.out.keep hB)
  have HD := Lib.hid (HD.out.keep hB)
  have HB := Lib.hid (HB.out.trans (hB.mono HB.out.size))
  have HE := Lib.hid hR
  clear hR hB
  go_wp2_with fail
  refine (fromPairs_ok _ _ _ _ _ _ _ HL.out HNM.out HBM.out).mono ?_
  rintro e w8 ⟨r8, c8, rfl, hR, hB⟩
  have HA := Lib.hid (HA.out.keep hB)
  have HR := Lib.hid (HR.out.keep hB)
  have HF := Lib.hid (HF.out.keep hB)
  have HL := Lib.hid (HL.out.keep hB)
  have HC := Lib.hid (HC.out.keep hB)
  have HD := Lib.hid (HD.out.keep hB)
  have HE := Lib.hid (HE.out.keep hB)
  have HB := Lib.hid (HB.out.trans (hB.mono HB.out.size))
  have HK := Lib.hid hR
  clear hR hB
  go_wp2_with fail
  refine (same_any _ _ _ _ _ _ _ _ _ HK.out HE.out HNL.out).mono ?_
  rintro e w9 ⟨rfl, hB⟩
  rw [HSM.out]
  have HA := Lib.hid (HA.out.keep hB)
  have HR := Lib.hid (HR.out.keep hB)
  have HF := Lib.hid (HF.out.keep hB)
  have HL := Lib.hid (HL.out.keep hB)
  have HC := Lib.hid (HC.out.keep hB)
  have HD := Lib.hid (HD.out.keep hB)
  have HE := Lib.hid (HE.out.keep hB)
  have HK := Lib.hid (HK.out.keep hB)
  have HB := Lib.hid (HB.out.trans (hB.mono HB.out.size))
  clear hB
  go_wp2_with fail
  refine (validR_any _ _ _ _ _ HF.out HKL.out).mono ?_
  rintro e w10 ⟨rfl, hB⟩
  rw [HV.out]
  have HA := Lib.hid (HA.out.keep hB)
  have HR := Lib.hid (HR.out.keep hB)
  have HF := Lib.hid (HF.out.keep hB)
  have HL := Lib.hid (HL.out.keep hB)
  have HC := Lib.hid (HC.out.keep hB)
  have HD := Lib.hid (HD.out.keep hB)
  have HE := Lib.hid (HE.out.keep hB)
  have HK := Lib.hid (HK.out.keep hB)
  have HB := Lib.hid (HB.out.trans (hB.mono HB.out.size))
  clear hB
  go_wp2_with fail
  refine (HCLS.out _ HF.out).mono ?_
  rintro e w11 ⟨r11, c11, rfl, hR, hB⟩
  have HA := Lib.hid (HA.out.keep hB)
  have HR := Lib.hid (HR.out.keep hB)
  have HF := Lib.hid (HF.out.keep hB)
  have HL := Lib.hid (HL.out.keep hB)
  have HC := Lib.hid (HC.out.keep hB)
  have HD := Lib.hid (HD.out.keep hB)
  have HE := Lib.hid (HE.out.keep hB)
  have HK := Lib.hid (HK.out.keep hB)
  have HB := Lib.hid (HB.out.trans (hB.mono HB.out.size))
  have HG := Lib.hid hR
  clear hR hB
  go_wp2_with fail
  go_loopw [11, 76] (fun v vi wr => ∃ i : Nat, i ≤ M ∧ vi = .int .i64 i ∧ OwnP wr w11.heap.size v (ownA f k i) ∧ Below w11.heap.size w11 wr) (fun _ vi _ => M - (intOf vi).toNat)
  case atStart => exact ⟨0, Nat.zero_le _, rfl, OwnP.nil _ _, Below.refl _ _⟩
  case round =>
    rename World => wA
    obtain ⟨i, hi1, rfl, ho, hb⟩ := hrel
    have HO2 := Lib.hid ho
    have HB2 := Lib.hid hb
    clear ho hb
    by_cases hlt : i < M
    · rcases HG.out with h0 | ⟨b1, off1, rfl, hbz1, hc1⟩
      · omega
      obtain ⟨r, rc, hcell, hrow⟩ := hc1 i hlt
      have HROW := Lib.hid hrow
      have hlen := clL_len f k i
      have hpos := HPOS.out i hlt
      have hal := HAL.out i (by omega)
      have HAS := Lib.hid (ownA_succ f k i)
      have HLT := Lib.hid (fun t x (h : (clL f k i)[t]? = some x) => clL_lt (List.mem_of_getElem? h))
      obtain ⟨l, hl⟩ : ∃ l, l = clL f k i := ⟨_, rfl⟩
      rw [← hl] at hcell hrow hlen hpos HROW HAS HLT
      obtain ⟨q, hq⟩ : ∃ q, q = l.length := ⟨_, rfl⟩
      have HQL := Lib.hid hq
      rw [← hq] at hcell hlen hpos HAS
      have hcell1 := (HB2.out.cell (p := ⟨b1, off1 + i, none⟩) hbz1).trans hcell
      clear hc1 hrow hq hl hcell
      go_wp2_with fail
      go_loopw [11, 14] (fun v vj wq => ∃ j s : Nat, s = j + 1 ∧ s ≤ q ∧ vj = .int .i64 s ∧ OwnP wq w11.heap.size v (ownA f k i ++ cpL l j) ∧ Below w11.heap.size w11 wq) (fun _ vj _ => q - (intOf vj).toNat)
      case atStart => exact ⟨0, 1, rfl, hpos, rfl, by have := HO2.out; simpa [cpL] using this, HB2.out⟩
      case round =>
        rename World => wB
        obtain ⟨j, s, hs, hsq, rfl, ho, hb⟩ := hrel
        obtain ⟨va2, vc2, N2, hN2, rfl⟩ := ho.shape
        have HO3 := Lib.hid ho
        have HB3 := Lib.hid hb
        clear ho hb
        by_cases hjq : s < q
        · have hNB : N2 ≤ 20000 := by rw [hN2, List.length_append, cpL_len]; omega
          have HN2 := Lib.hid hN2
          have HCS := Lib.hid (cpL_succ l j)
          rcases HROW.out.keep HB3.out with h0 | ⟨b2, off2, rfl, hbz2, hc2⟩
          · rw [← HQL.out] at h0; omega
          have hcx := (hc2 j (by rw [← HQL.out]; omega)).1
          have hcy := (hc2 s (by rw [← HQL.out]; omega)).1
          have HYE := Lib.hid (show getN l s = getN l (j + 1) by rw [hs])
          obtain ⟨x, hxe⟩ : ∃ x, x = getN l j := ⟨_, rfl⟩
          obtain ⟨y, hye⟩ : ∃ y, y = getN l s := ⟨_, rfl⟩
          rw [← hxe] at hcx
          rw [← hye] at hcy
          have HXY := Lib.hid (show x = getN l j ∧ y = getN l (j + 1) from ⟨hxe, by rw [hye, hs]⟩)
          have HSJ := Lib.hid hs
          have hsub : (s : Int) - 1 = (j : Int) := by omega
          have hw1 : IntKind.i64.wrap ((s : Int) - 1) = (j : Int) := by rw [hsub]; exact IntWalk.i64_in _ (by omega)
          have hw2 : wrap64 ((s : Int) - 1) = (j : Int) := by rw [hsub]; exact IntWalk.wrap64_in _ (by omega)
          have hwj : IntKind.i64.wrap (j : Int) = (j : Int) := IntWalk.i64_in _ (by omega)
          have hws : IntKind.i64.wrap (s : Int) = (s : Int) := IntWalk.i64_in _ (by omega)
          have hj0 : (0 : Int) ≤ (j : Int) := by omega
          have hjq2 : (j : Int) < (q : Int) := by omega
          have hs0 : (0 : Int) ≤ (s : Int) := by omega
          have hsq2 : (s : Int) < (q : Int) := by omega
          have hsq3 : s + 1 ≤ q := hjq
          have M1 := Lib.hid (show N2 + 1 ≤ maxLen by unfold maxLen; omega)
          have M2 := Lib.hid (show (N2 + 1) * 16 ≤ 140737488355328 by omega)
          have HSZ := Lib.hid HB3.out.size
          have HOW := Lib.hid (show wB.ownsRow w11.heap.size 39 2 (.slice va2 N2 vc2) N2 (rowPr (ownA f k i ++ cpL l j)) from by have := HO3.out; unfold OwnP at this; rw [← hN2] at this; exact this)
          clear hc2 hN2 hs hxe hye
          go_wp2_with fail
          go_region_law (
            refine step_push2 (w1 := wB) rfl (.tmp 86) (.tmp 97) 36 rfl w11.heap.size 39 i0 (.agg #[.int .i64 0, .int .i64 0]) 16 Try.underlying36 hi hz0 hz1 hz2 rfl (.slice va2 N2 vc2) N2 (rowPr (ownA f k i ++ cpL l j)) rfl (.int .i64 x) (.int .i64 y) rfl HOW.out rfl rfl rfl M1.out M2.out HSZ.out ?_
            intro v' w6 h6 hg6
            have HO6 := Lib.hid (show OwnP w6 w11.heap.size v' (ownA f k i ++ cpL l (j + 1)) by
              unfold OwnP
              rw [HCS.out, ← List.append_assoc, rowPr_append, List.length_append, ← HN2.out, ← HXY.out.1, ← HXY.out.2]
              exact h6)
            have HB6 := Lib.hid ((HB3.out.alloc HB3.out.size (.cells #[.int .i64 x, .int .i64 y] 39)).grown hg6 (by have := HSZ.out; simp; omega) (fun t ht => (HOW.out.lt t ht).1))
            clear h6 hg6)
          all_goals
            go_wp2_with fail
            exact ⟨⟨j + 1, s + 1, by rw [HSJ.out], hsq3, by go_num, HO6.out, HB6.out⟩, by simp [intOf]; omega⟩
        · have hqs : q = s := by omega
          have HE := Lib.hid (show ownA f k i ++ cpL l j = ownA f k (i + 1) by rw [HAS.out, hqs, hs]; rfl)
          clear hqs hs hN2
          go_wp2_with fail
          exact ⟨⟨i + 1, by omega, by go_num, by rw [← HE.out]; exact HO3.out, HB3.out⟩, by simp [intOf]; omega⟩
    · obtain rfl : M = i := by omega
      obtain ⟨va3, vc3, N3, hN3, rfl⟩ := HO2.out.shape
      have HL3 := Lib.hid (HO2.out.row HFB.out)
      rw [← hN3] at HL3 HFS HFM
      have hal := HAL.out M (Nat.le_refl M)
      rw [← hN3] at hal
      have HNM3 := Lib.hid (show N3 ≤ maxLen by unfold maxLen; omega)
      have HF := Lib.hid (HF.out.keep HB2.out)
      have HB := Lib.hid (HB.out.trans (HB2.out.mono HB.out.size))
      clear hN3
      go_wp2_with fail
      refine (fromPairs_ok _ _ _ _ _ _ _ HL3.out HNM3.out HFM.out).mono ?_
      rintro e w12 ⟨r12, c12, rfl, hR, hB⟩
      have HF := Lib.hid (HF.out.keep hB)
      have HB := Lib.hid (HB.out.trans (hB.mono HB.out.size))
      have HZ := Lib.hid hR
      clear hR hB
      go_wp2_with fail
      refine (same_any _ _ _ _ _ _ _ _ _ HZ.out HF.out HKL.out).mono ?_
      rintro e w13 ⟨rfl, hB⟩
      rw [HFS.out]
      have HB := Lib.hid (HB.out.trans (hB.mono HB.out.size))
      clear hB
      go_wp2_with fail
      refine (awake_any _).mono ?_
      rintro e w14 ⟨rfl, hB⟩
      have HB := Lib.hid (HB.out.trans (hB.mono HB.out.size))
      clear hB
      go_wp2_with fail
      go_ret
      exact ⟨rfl, HB.out⟩
theorem wPartitionJoins {w : World} (n : Int) (hwf : (Lit.int .i64 n).wf = true) (a : Option Addr) (m c : Nat) (A B : Nat → Int) (x : PairRow w a m c A B) (b : Option Addr) (m' c' : Nat) (A' B' : Nat → Int) (y : PairRow w b m' c' A' B') (p : Option Addr) (k d : Nat) (zs : List Int) (z : IntRow .i64 w p k d zs) : Calls Try.prog 11 #[.int .i64 n, .slice a m c, .slice b m' c', .slice p k d] w (Yes w) := by
  obtain ⟨ha, hm, h0⟩ := row_inP x
  obtain ⟨hb, hm', h0'⟩ := row_inP y
  obtain ⟨f, hf, hk⟩ := row_in z
  cases hp : mayB n m A B
  · exact cPartitionJoins_no1 n a m c A B b m' c' A' B' p k d f w ha hb hf hm hm' hp
  cases hq : mayB n m' A' B'
  · exact cPartitionJoins_no2 n a m c A B b m' c' A' B' p k d f w ha hb hf hm hm' hp hq
  obtain ⟨t, rfl⟩ : ∃ t : Nat, n = t := ⟨n.toNat, by have := (mayB_iff.1 hp).1; omega⟩
  by_cases h1 : 100 < t
  · exact cPartitionJoins_n t a m c A B b m' c' A' B' p k d f w ha hb hf hm hm' hp hq h1
  by_cases h2 : 100 < m
  · exact cPartitionJoins_m t a m c A B b m' c' A' B' p k d f w ha hb hf hm hm' hp hq (by omega) h2
  by_cases h3 : 100 < m'
  · exact cPartitionJoins_mm t a m c A B b m' c' A' B' p k d f w ha hb hf hm hm' hp hq (by omega) (by omega) h3
  cases hv : valP k f
  · exact cPartitionJoins_pno t a m c A B b m' c' A' B' p k d f w ha hb hf hm hm' hp hq (by omega) (by omega) (by omega) h0 h0' hk hv
  · by_cases hb100 : 100 < k
    · exact cPartitionJoins_pbig t a m c A B b m' c' A' B' p k d f w ha hb hf hm hm' hp hq (by omega) (by omega) (by omega) h0 h0' hk hv hb100
    · exact cPartitionJoins_ok t a m c A B b m' c' A' B' p k d f w ha hb hf hm hm' hp hq (by omega) (by omega) (by omega) h0 h0' hk hv (by omega)
end Go.Proofs.Ytfgpjkkdgjhkfaa
