/- Contracts: step, Step, the reference's Step. -/
import Derived.Test.YtdoifdpmgmlpdaaNfaD
import Derived.Test.YtdoifdpmgmlpdaaNfaG
namespace Go.Proofs.Ytdoifdpmgmlpdaa
open Go Go.RowKit
open Go.Proofs.Ytdoifdpmgmlpdaa.rel (u_or or_u shl_u pow_lt64 pow_le64)
set_option linter.unusedVariables false
theorem stepE_no {s acc : Nat} {x : Int} {e : Ed} (h : hitB s x e = false) : stepE s x acc e = acc := by simp [stepE, h]
theorem stepE_yes {s acc : Nat} {x : Int} {e : Ed} (h : hitB s x e = true) : stepE s x acc e = acc ||| 2 ^ e.t.toNat := by simp [stepE, h]
theorem ToB.u {n : Nat} {es : List Ed} (h : ToB n es) (hn : n ≤ 64) (s : Nat) (x : Int) (i : Nat) : stepL (es.take i) s x < 18446744073709551616 :=
  Nat.lt_of_lt_of_le (stepL_lt (h.take i) s x) (pow_le64 hn)
set_option maxRecDepth 100000 in
set_option maxHeartbeats 4000000 in
/-- step -/
theorem step_any (L S : Int) (st fi : Nat) (es : List Ed) (a : Option Addr) (c : Nat) (s : Nat) (x : Int) (m : Nat) (w : World) (hin : InN w L S st fi a es) (hto : ToB m es) (hm : m ≤ 64) (hs : s < 18446744073709551616) :
    Calls Try.prog 36 #[.agg #[.int .i64 L, .int .i64 S, .int .u64 st, .int .u64 fi, .slice a es.length c], .int .u64 s, .int .i64 x] w fun e w' => e = .returned (.int .u64 (stepL es s x : Nat)) ∧ Below w.heap.size w w' := by
  have hlen := hin.2.2.2.2.2
  have HI := Lib.hid hin
  have HTO := Lib.hid hto
  have HU := Lib.hid (hto.u hm s x)
  have HS := Lib.hid hs
  obtain ⟨n, hn⟩ : ∃ n, n = es.length := ⟨_, rfl⟩
  have HN := Lib.hid hn
  rw [← hn] at hlen ⊢
  clear hin hn hto hs
  go_enter Try.func36, Try.ntmps36
  go_wp2_with fail
  go_loopw [7, 13] (fun vn vi wr => ∃ i : Nat, i ≤ n ∧ vi = .int .i64 i ∧ vn = .int .u64 (stepL (es.take i) s x : Nat) ∧ Below (w.heap.size + 1) (w.alloc (.cells #[.int .i64 L, .int .i64 S, .int .u64 st, .int .u64 fi, .slice a n c] 25)) wr) (fun _ vi _ => n - (intOf vi).toNat)
  case atStart => exact ⟨0, Nat.zero_le _, rfl, rfl, Below.refl _ _⟩
  case round =>
    rename World => wA
    obtain ⟨i, hi, rfl, rfl, hb⟩ := hrel
    have HB := Lib.hid hb
    obtain ⟨z0, z1, z2, z3, z4⟩ := nbox_cells hb
    clear hb
    by_cases hlt : i < n
    · have hle : i < es.length := by rw [← HN.out]; exact hlt
      have HIN := Lib.hid ((HI.out.1.keep ((Below.refl _ w).alloc (Nat.le_refl _) (.cells #[.int .i64 L, .int .i64 S, .int .u64 st, .int .u64 fi, .slice a n c] 25))).keep (HB.out.mono (by simp)))
      obtain ⟨b, off, rfl, hbz, c1, c2, c3, g1, g2, g3⟩ := HIN.out.at hle
      obtain ⟨k1, k2, k3, k4⟩ := HTO.out.at hle
      have hi0 : (0 : Int) ≤ (i : Int) := by omega
      have hin2 : (i : Int) < (n : Int) := by omega
      have hwi : IntKind.i64.wrap (i : Int) = (i : Int) := IntWalk.i64_in _ (by omega)
      have HST := Lib.hid (stepL_take (s := s) (x := x) hle)
      obtain ⟨e, he⟩ : ∃ e, e = es.getD i noE := ⟨_, rfl⟩
      rw [← he] at c1 c2 c3 g1 g2 g3 k1 k2 k3 k4 HST
      clear he hle
      obtain ⟨ef, el, et⟩ := e
      dsimp only at c1 c2 c3 g1 g2 g3 k1 k2 k3 k4 HST
      obtain ⟨fn, rfl⟩ : ∃ q : Nat, ef = (q : Int) := ⟨ef.toNat, by omega⟩
      obtain ⟨tn, rfl⟩ : ∃ q : Nat, et = (q : Int) := ⟨et.toNat, by omega⟩
      have hft : fn ≤ 64 ∧ tn < 64 := by omega
      have hcu := HU.out i
      have HSN := Lib.hid (show stepL (es.take (i + 1)) s x = stepE s x (stepL (es.take i) s x) ⟨(fn : Int), el, (tn : Int)⟩ from HST.out)
      obtain ⟨cur, hc⟩ : ∃ q, q = stepL (es.take i) s x := ⟨_, rfl⟩
      rw [← hc] at hcu HSN ⊢
      have HB1 := Lib.hid (HB.out.alloc (by have := HB.out.size; simp at this; omega) (.cells #[.int .i64 fn, .int .i64 el, .int .i64 tn] 44))
      clear hc k1 k2 k3 k4
      by_cases hx : el = x
      · subst hx
        cases ht : s.testBit fn
        · have HF := Lib.hid (show stepE s el cur ⟨(fn : Int), el, (tn : Int)⟩ = cur from stepE_no (by simp [hitB, ht]))
          have HT := Lib.hid ht
          clear ht
          go_wp2_with fail
          refine (nhas_any s fn _ HS.out hft.1).mono ?_
          rintro r w' ⟨rfl, rfl⟩
          rw [HT.out]
          go_wp2_with fail
          exact ⟨⟨i + 1, by omega, by go_num, by rw [HSN.out, HF.out], HB1.out⟩, by simp [intOf]; omega⟩
        · have HF := Lib.hid (show stepE s el cur ⟨(fn : Int), el, (tn : Int)⟩ = cur ||| 2 ^ tn from stepE_yes (by simp [hitB, ht]))
          have HT := Lib.hid ht
          have hor := u_or hcu (pow_lt64 hft.2)
          have hsh := shl_u hft.2
          obtain ⟨p, hp⟩ : ∃ p, p = 2 ^ tn := ⟨_, rfl⟩
          have HP := Lib.hid hp
          rw [← hp] at hor hsh HF
          obtain ⟨q, hq⟩ : ∃ q, q = cur ||| p := ⟨_, rfl⟩
          rw [← hq] at hor HF
          clear ht hp hq
          go_wp2_with fail
          refine (nhas_any s fn _ HS.out hft.1).mono ?_
          rintro r w' ⟨rfl, rfl⟩
          rw [HT.out]
          go_wp2_with fail
          exact ⟨⟨i + 1, by omega, by go_num, by rw [HSN.out, HF.out], HB1.out⟩, by simp [intOf]; omega⟩
      · have HF := Lib.hid (show stepE s x cur ⟨(fn : Int), el, (tn : Int)⟩ = cur from stepE_no (by simp [hitB, hx]))
        have tx : (el == x) = false := by simpa using hx
        clear hx
        go_wp2_with fail
        exact ⟨⟨i + 1, by omega, by go_num, by rw [HSN.out, HF.out], HB1.out⟩, by simp [intOf]; omega⟩
    · obtain rfl : i = n := by omega
      have HE := Lib.hid (show es.take i = es by rw [HN.out, List.take_length])
      go_wp2_with fail
      go_ret
      exact ⟨by rw [HE.out]; rfl, below_nbox HB.out⟩
set_option maxRecDepth 100000 in
set_option maxHeartbeats 4000000 in
/-- the reference's Step -/
theorem rstep_any (L S : Int) (st fi : Nat) (es : List Ed) (a : Option Addr) (c : Nat) (s : Nat) (x : Int) (m : Nat) (w : World) (hin : InN w L S st fi a es) (hto : ToB m es) (hm : m ≤ 64) (hs : s < 18446744073709551616) :
    Calls Try.prog 14 #[.agg #[.int .i64 L, .int .i64 S, .int .u64 st, .int .u64 fi, .slice a es.length c], .int .u64 s, .int .i64 x] w fun e w' => e = .returned (.int .u64 (stepL es s x : Nat)) ∧ Below w.heap.size w w' := by
  have hlen := hin.2.2.2.2.2
  have HI := Lib.hid hin
  have HTO := Lib.hid hto
  have HU := Lib.hid (hto.u hm s x)
  have HS := Lib.hid hs
  obtain ⟨n, hn⟩ : ∃ n, n = es.length := ⟨_, rfl⟩
  have HN := Lib.hid hn
  rw [← hn] at hlen ⊢
  clear hin hn hto hs
  go_enter Try.func14, Try.ntmps14
  go_wp2_with fail
  go_loopw [7, 13] (fun vn vi wr => ∃ i : Nat, i ≤ n ∧ vi = .int .i64 i ∧ vn = .int .u64 (stepL (es.take i) s x : Nat) ∧ Below (w.heap.size + 1) (w.alloc (.cells #[.int .i64 L, .int .i64 S, .int .u64 st, .int .u64 fi, .slice a n c] 25)) wr) (fun _ vi _ => n - (intOf vi).toNat)
  case atStart => exact ⟨0, Nat.zero_le _, rfl, rfl, Below.refl _ _⟩
  case round =>
    rename World => wA
    obtain ⟨i, hi, rfl, rfl, hb⟩ := hrel
    have HB := Lib.hid hb
    obtain ⟨z0, z1, z2, z3, z4⟩ := nbox_cells hb
    clear hb
    by_cases hlt : i < n
    · have hle : i < es.length := by rw [← HN.out]; exact hlt
      have HIN := Lib.hid ((HI.out.1.keep ((Below.refl _ w).alloc (Nat.le_refl _) (.cells #[.int .i64 L, .int .i64 S, .int .u64 st, .int .u64 fi, .slice a n c] 25))).keep (HB.out.mono (by simp)))
      obtain ⟨b, off, rfl, hbz, c1, c2, c3, g1, g2, g3⟩ := HIN.out.at hle
      obtain ⟨k1, k2, k3, k4⟩ := HTO.out.at hle
      have hi0 : (0 : Int) ≤ (i : Int) := by omega
      have hin2 : (i : Int) < (n : Int) := by omega
      have hwi : IntKind.i64.wrap (i : Int) = (i : Int) := IntWalk.i64_in _ (by omega)
      have HST := Lib.hid (stepL_take (s := s) (x := x) hle)
      obtain ⟨e, he⟩ : ∃ e, e = es.getD i noE := ⟨_, rfl⟩
      rw [← he] at c1 c2 c3 g1 g2 g3 k1 k2 k3 k4 HST
      clear he hle
      obtain ⟨ef, el, et⟩ := e
      dsimp only at c1 c2 c3 g1 g2 g3 k1 k2 k3 k4 HST
      obtain ⟨fn, rfl⟩ : ∃ q : Nat, ef = (q : Int) := ⟨ef.toNat, by omega⟩
      obtain ⟨tn, rfl⟩ : ∃ q : Nat, et = (q : Int) := ⟨et.toNat, by omega⟩
      have hft : fn ≤ 64 ∧ tn < 64 := by omega
      have hcu := HU.out i
      have HSN := Lib.hid (show stepL (es.take (i + 1)) s x = stepE s x (stepL (es.take i) s x) ⟨(fn : Int), el, (tn : Int)⟩ from HST.out)
      obtain ⟨cur, hc⟩ : ∃ q, q = stepL (es.take i) s x := ⟨_, rfl⟩
      rw [← hc] at hcu HSN ⊢
      have HB1 := Lib.hid (HB.out.alloc (by have := HB.out.size; simp at this; omega) (.cells #[.int .i64 fn, .int .i64 el, .int .i64 tn] 44))
      clear hc k1 k2 k3 k4
      by_cases hx : el = x
      · subst hx
        cases ht : s.testBit fn
        · have HF := Lib.hid (show stepE s el cur ⟨(fn : Int), el, (tn : Int)⟩ = cur from stepE_no (by simp [hitB, ht]))
          have HT := Lib.hid ht
          clear ht
          go_wp2_with fail
          refine (rel.rhas_any s fn _ HS.out hft.1).mono ?_
          rintro r w' ⟨rfl, rfl⟩
          rw [HT.out]
          go_wp2_with fail
          exact ⟨⟨i + 1, by omega, by go_num, by rw [HSN.out, HF.out], HB1.out⟩, by simp [intOf]; omega⟩
        · have HF := Lib.hid (show stepE s el cur ⟨(fn : Int), el, (tn : Int)⟩ = cur ||| 2 ^ tn from stepE_yes (by simp [hitB, ht]))
          have HT := Lib.hid ht
          have hor := u_or hcu (pow_lt64 hft.2)
          have hsh := shl_u hft.2
          obtain ⟨p, hp⟩ : ∃ p, p = 2 ^ tn := ⟨_, rfl⟩
          have HP := Lib.hid hp
          rw [← hp] at hor hsh HF
          obtain ⟨q, hq⟩ : ∃ q, q = cur ||| p := ⟨_, rfl⟩
          rw [← hq] at hor HF
          clear ht hp hq
          go_wp2_with fail
          refine (rel.rhas_any s fn _ HS.out hft.1).mono ?_
          rintro r w' ⟨rfl, rfl⟩
          rw [HT.out]
          go_wp2_with fail
          refine (rel.rbit_any tn _ hft.2).mono ?_
          rintro r w' ⟨rfl, rfl⟩
          rw [← HP.out]
          go_wp2_with fail
          exact ⟨⟨i + 1, by omega, by go_num, by rw [HSN.out, HF.out], HB1.out⟩, by simp [intOf]; omega⟩
      · have HF := Lib.hid (show stepE s x cur ⟨(fn : Int), el, (tn : Int)⟩ = cur from stepE_no (by simp [hitB, hx]))
        have tx : (el == x) = false := by simpa using hx
        clear hx
        go_wp2_with fail
        exact ⟨⟨i + 1, by omega, by go_num, by rw [HSN.out, HF.out], HB1.out⟩, by simp [intOf]; omega⟩
    · obtain rfl : i = n := by omega
      have HE := Lib.hid (show es.take i = es by rw [HN.out, List.take_length])
      go_wp2_with fail
      go_ret
      exact ⟨by rw [HE.out]; rfl, below_nbox HB.out⟩
set_option maxRecDepth 100000 in
set_option maxHeartbeats 4000000 in
/-- Step -/
theorem Step_any (L S : Int) (st fi : Nat) (es : List Ed) (a : Option Addr) (c : Nat) (s : Nat) (x : Int) (w : World) (hin : InN w L S st fi a es) (hs : s < 18446744073709551616) :
    Calls Try.prog 12 #[.agg #[.int .i64 L, .int .i64 S, .int .u64 st, .int .u64 fi, .slice a es.length c], .int .u64 s, .int .i64 x] w fun e w' => e = .returned (.int .u64 ((if valN L S st fi es then stepL es s x else 0 : Nat) : Int)) ∧ Below w.heap.size w w' := by
  have HI := Lib.hid hin
  have HV := Lib.hid (fun W (h : InN W L S st fi a es) => nvalid_any L S st fi es a c W h)
  have HST := Lib.hid (fun (hv : valN L S st fi es = true) W (h : InN W L S st fi a es) => step_any L S st fi es a c s x S.toNat W h (valN_to hv) (by have := (valN_iff.1 hv).1; omega) hs)
  obtain ⟨r, hr⟩ : ∃ r, r = stepL es s x := ⟨_, rfl⟩
  obtain ⟨n, hn⟩ : ∃ n, n = es.length := ⟨_, rfl⟩
  rw [← hr] at HST ⊢
  rw [← hn] at HV HST ⊢
  clear hr hn
  have HB0 := Lib.hid ((Below.refl w.heap.size w).alloc (Nat.le_refl _) (.cells #[.int .i64 L, .int .i64 S, .int .u64 st, .int .u64 fi, .slice a n c] 25))
  have HI0 := Lib.hid (HI.out.box (.cells #[.int .i64 L, .int .i64 S, .int .u64 st, .int .u64 fi, .slice a n c] 25))
  cases hv : valN L S st fi es
  · have HVV := Lib.hid hv
    clear hv hin HST
    rw [if_neg (by decide)]
    go_enter Try.func12, Try.ntmps12
    go_wp2_with fail
    refine (HV.out _ HI0.out).mono ?_
    rintro e w2 ⟨rfl, hB⟩
    rw [HVV.out]
    have HB2 := Lib.hid (HB0.out.trans (hB.mono (by simp)))
    clear hB
    go_wp2_with fail
    go_ret
    exact ⟨rfl, HB2.out⟩
  · have HVV := Lib.hid hv
    have HS2 := Lib.hid (HST.out hv)
    clear hv hin HST
    rw [if_pos rfl]
    go_enter Try.func12, Try.ntmps12
    go_wp2_with fail
    refine (HV.out _ HI0.out).mono ?_
    rintro e w2 ⟨rfl, hB⟩
    rw [HVV.out]
    have HB1 := Lib.hid (show Below (w.heap.size + 1) _ _ from hB.mono (by simp))
    obtain ⟨z0, z1, z2, z3, z4⟩ := nbox_cells HB1.out
    have HI2 := Lib.hid (HI0.out.keep hB)
    clear hB
    go_wp2_with fail
    refine (HS2.out _ HI2.out).mono ?_
    rintro e w3 ⟨rfl, hB⟩
    have HB2 := Lib.hid (below_nbox (HB1.out.trans (hB.mono (by have := HB1.out.size; simp at this; omega))))
    clear hB
    go_wp2_with fail
    go_ret
    exact ⟨rfl, HB2.out⟩
end Go.Proofs.Ytdoifdpmgmlpdaa
