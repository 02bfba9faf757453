/- Contracts: the reference's level, part, Format. -/
import Derived.Test.YtjnnabcpamionaaExprI
import Derived.Test.YtjnnabcpamionaaExprH
import Derived.Laws.Concat
namespace Go.Proofs.Ytjnnabcpamionaa
open Go Go.RowKit
set_option linter.unusedVariables false
theorem sos_append (a b : List Int) : strOfNums (a ++ b) = strOfNums a ++ strOfNums b := by
  apply ByteArray.ext
  simp [strOfNums, ByteArray.data_append]
set_option maxHeartbeats 1000000 in
theorem levelR_any (op : Int) (w : World) : Calls Try.prog 61 #[.int .i64 op] w fun e w' => e = .returned (.int .i64 (lvl op)) ∧ w = w' := by
  rcases op_cases op with h | h | h | h | h | h | h | h | h
  case inr.inr.inr.inr.inr.inr.inr.inr =>
    obtain ⟨h1, h2, h3, h4, h5, h6, h7, h8⟩ := h
    have H := Lib.hid (show lvl op = 6 by unfold lvl; simp [h4, h5, h6, h7, h8])
    have t4 := ne_beq h4
    have t5 := ne_beq h5
    have t6 := ne_beq h6
    have t7 := ne_beq h7
    have t8 := ne_beq h8
    clear h1 h2 h3 h4 h5 h6 h7 h8
    go_enter Try.func61, Try.ntmps61
    go_wp2_with fail
    go_ret
    exact ⟨by rw [H.out]; rfl, rfl⟩
  all_goals
    subst h
    go_enter Try.func61, Try.ntmps61
    go_wp2_with fail
    go_ret
    exact ⟨rfl, rfl⟩
theorem fmtK_nd (n op l : Int) (ks : List T) : fmtK n (.node op l ks) = paren (decide (n ≤ lvl op)) (fmtT (.node op l ks)) := rfl
/-- what the reference's Format promises of a tree -/
def FmtR (op l : Int) (ks : List T) : Prop := ∀ (a : Option Addr) (c : Nat) (w : World), InX w op l ks a → sizeT (.node op l ks) ≤ 400 →
    Calls Try.prog 16 #[.agg #[.int .i64 op, .int .i64 l, .slice a ks.length c]] w fun e w' => e = .returned (.string (strOfNums (fmtT (.node op l ks)))) ∧ Below w.heap.size w w'
set_option maxRecDepth 100000 in
set_option maxHeartbeats 1000000 in
theorem part_of (op l : Int) (ks : List T) (hT : FmtR op l ks) (least : Int) (a : Option Addr) (c : Nat) (w : World) (hin : InX w op l ks a) (hsz : sizeT (.node op l ks) ≤ 400) :
    Calls Try.prog 42 #[.agg #[.int .i64 op, .int .i64 l, .slice a ks.length c], .int .i64 least] w fun e w' => e = .returned (.string (strOfNums (fmtK least (.node op l ks)))) ∧ Below w.heap.size w w' := by
  have HQ := Lib.hid (fun W h => hT a c W h hsz)
  have hlen := fmtT_len (.node op l ks)
  obtain ⟨s, hs⟩ : ∃ s, s = strOfNums (fmtT (.node op l ks)) := ⟨_, rfl⟩
  have HS := Lib.hid hs
  have hss : s.size ≤ 10000 := by rw [hs, strOfNums_size]; omega
  obtain ⟨n, hn⟩ : ∃ n, n = ks.length := ⟨_, rfl⟩
  rw [← hs] at HQ
  rw [← hn] at HQ ⊢
  have HX0 := Lib.hid (hin.box (.cells #[.int .i64 op, .int .i64 l, .slice a n c] 24))
  have HB0 := Lib.hid ((Below.refl w.heap.size w).alloc (Nat.le_refl _) (.cells #[.int .i64 op, .int .i64 l, .slice a n c] 24))
  obtain ⟨lv, hlv2⟩ : ∃ lv, lv = lvl op := ⟨_, rfl⟩
  have HLV := Lib.hid hlv2
  clear hs hn hT hin hlv2 hlen
  by_cases hlv : lv < least
  · have HF := Lib.hid (show strOfNums (fmtK least (.node op l ks)) = ⟨#[40]⟩ ++ s ++ ⟨#[41]⟩ by
      rw [HS.out, show fmtK least (.node op l ks) = [40] ++ fmtT (.node op l ks) ++ [41] from (by rw [fmtK_nd, decide_eq_false (by have := HLV.out; omega)] : fmtK least (.node op l ks) = paren false (fmtT (.node op l ks))), sos_append, sos_append]; rfl)
    go_enter Try.func42, Try.ntmps42
    go_wp2_with (go_at_call 61; refine (levelR_any _ _).mono ?_; rintro e w' ⟨rfl, rfl⟩; rw [← HLV.out])
    refine (HQ.out _ HX0.out).mono ?_
    rintro e w2 ⟨rfl, hB⟩
    have HB2 := Lib.hid (HB0.out.trans (hB.mono (by simp)))
    clear hB
    go_wp2_with fail
    go_ret
    exact ⟨by rw [HF.out]; rfl, HB2.out⟩
  · have HF := Lib.hid (show strOfNums (fmtK least (.node op l ks)) = s by
      rw [HS.out, show fmtK least (.node op l ks) = fmtT (.node op l ks) from (by rw [fmtK_nd, decide_eq_true (by have := HLV.out; omega)] : fmtK least (.node op l ks) = paren true (fmtT (.node op l ks)))])
    have hd : decide (lv < least) = false := by simp; omega
    go_enter Try.func42, Try.ntmps42
    go_wp2_with (go_at_call 61; refine (levelR_any _ _).mono ?_; rintro e w' ⟨rfl, rfl⟩; rw [← HLV.out])
    refine (HQ.out _ HX0.out).mono ?_
    rintro e w2 ⟨rfl, hB⟩
    have HB2 := Lib.hid (HB0.out.trans (hB.mono (by simp)))
    clear hB
    go_wp2_with fail
    go_ret
    exact ⟨by rw [HF.out]; rfl, HB2.out⟩
theorem fmtT_oq {op l : Int} {ks : List T} : fmtT (.node op l ks) = if op = 1 then [48] else if op = 2 then [49] else if op = 3 then [97 + l] else if op = 4 then fmtL [124] 2 ks else if op = 6 then fmtL [38] 3 ks else if op = 5 then fmtL [] 4 ks else if op = 8 then [33] ++ fmtH 4 ks else fmtH 5 ks ++ [42] := by
  rw [fmtT]
set_option maxRecDepth 100000 in
set_option maxHeartbeats 4000000 in
theorem formatR_of (op l : Int) (ks : List T) : wfT 6 (.node op l ks) = true → FmtR op l ks := by
  refine T.ind2 (P := fun op l ks => wfT 6 (.node op l ks) = true → FmtR op l ks) ?_ op l ks
  clear op l ks
  intro op l ks ih hwf a c w hin hsz
  obtain ⟨hk, hl, hkids⟩ := wfT_node.1 hwf
  have hT : ∀ (i : Nat) (op' l' : Int) (ls : List T), ks[i]? = some (.node op' l' ls) → ∀ (least : Int) (a : Option Addr) (c : Nat) (w : World), InX w op' l' ls a →
      Calls Try.prog 42 #[.agg #[.int .i64 op', .int .i64 l', .slice a ls.length c], .int .i64 least] w fun e w' => e = .returned (.string (strOfNums (fmtK least (.node op' l' ls)))) ∧ Below w.heap.size w w' := fun i op' l' ls h least a c w hx =>
    part_of op' l' ls (ih i op' l' ls h (hkids _ (List.mem_of_getElem? h))) least a c w hx (by have := sizeL_mem (List.mem_of_getElem? h); simp only [sizeT] at hsz this ⊢; omega)
  have hfl := fmtT_len (.node op l ks)
  have HX0 := Lib.hid (hin.box (.cells #[.int .i64 op, .int .i64 l, .slice a ks.length c] 24))
  have HB0 := Lib.hid ((Below.refl w.heap.size w).alloc (Nat.le_refl _) (.cells #[.int .i64 op, .int .i64 l, .slice a ks.length c] 24))
  have hkl := hin.2.2.2
  have HI := Lib.hid hin
  have HT := Lib.hid hT
  clear hin hT ih hwf hkids
  rcases op_cases op with h | h | h | h | h | h | h | h | h
  case inr.inr.inr.inr.inr.inr.inr.inr => exact absurd (kidsOk_no ks.length h) (by rw [hk]; decide)
  · have HF := Lib.hid (show strOfNums (fmtT (.node op l ks)) = ⟨#[48]⟩ by rw [fmtT_oq, h]; rfl)
    subst h
    clear hk hl hfl hsz
    go_enter Try.func16, Try.ntmps16
    go_wp2_with fail
    go_ret
    exact ⟨by rw [HF.out]; rfl, HB0.out⟩
  · have HF := Lib.hid (show strOfNums (fmtT (.node op l ks)) = ⟨#[49]⟩ by rw [fmtT_oq, h]; rfl)
    subst h
    clear hk hl hfl hsz
    go_enter Try.func16, Try.ntmps16
    go_wp2_with fail
    go_ret
    exact ⟨by rw [HF.out]; rfl, HB0.out⟩
  · have HF := Lib.hid (show strOfNums (fmtT (.node op l ks)) = strOfNums [97 + l] by rw [fmtT_oq, h]; rfl)
    have hl2 : 0 ≤ l ∧ l < 6 := by rw [letOk_3 h] at hl; simpa using hl
    subst h
    have hr2 : IntKind.i64.wrap (97 + l) = 97 + l := IntWalk.i64_in _ (by omega)
    have hr3 : (97 + l) % 256 = 97 + l := by omega
    have hcv := fun (W : World) (g : Nat) (x : Int) (h : W.cell? ⟨g, 0, none⟩ = some (.int .u8 x)) => run_convert_bytes_arg (P := Try.prog) W 40 5 Try.underlying40 Try.underlying5 g 0 1 1 [x] rfl (fun i hi => by
      obtain rfl : i = 0 := by omega
      simpa using h) 9 Try.underlying9
    clear hk hl hfl hsz
    go_enter Try.func16, Try.ntmps16
    go_wp2_with fail
    go_ret
    exact ⟨by rw [HF.out]; rfl, HB0.out.alloc (by simp) _⟩
  · have HF := Lib.hid (show fmtT (.node op l ks) = fmtL [124] 2 ks by rw [fmtT_oq, h]; rfl)
    have HSZ := Lib.hid (show ∀ i, (fmtL [124] 2 (ks.take i)).length ≤ 1600 from fun i => by have := fmtL_take_len [124] 2 ks i; have h2 := HF.out; rw [h2] at hfl; omega)
    subst h
    clear hk hl hfl
    go_enter Try.func16, Try.ntmps16
    go_wp2_with fail
    go_loopw [3, 45] (fun vs vi wr => ∃ (i : Nat), i ≤ ks.length ∧ vi = .int .i64 i ∧ vs = .string (strOfNums (fmtL [124] 2 (ks.take i))) ∧ Below w.heap.size w wr) (fun _ vi _ => ks.length - (intOf vi).toNat)
    case atStart => exact ⟨0, Nat.zero_le _, rfl, rfl, HB0.out⟩
    case round =>
      rename World => wA
      obtain ⟨i, hi, rfl, rfl, hb⟩ := hrel
      have HB := Lib.hid hb
      clear hb
      by_cases hlt : i < ks.length
      · obtain ⟨ko, kl, kk, hk, hk2⟩ := kid_some hlt
        obtain ⟨b, off, a', c', rfl, hbz, c1, c2, c3, hx⟩ := (HI.out.keep HB.out).kid hk
        have hi0 : (0 : Int) ≤ (i : Int) := by omega
        have hin2 : (i : Int) < (ks.length : Int) := by omega
        have hwi : IntKind.i64.wrap (i : Int) = (i : Int) := IntWalk.i64_in _ (by omega)
        have HQ := Lib.hid (fun W (h : InX W ko kl kk a') => HT.out i ko kl kk hk 2 a' c' W h)
        have HX := Lib.hid hx
        obtain ⟨P, hP⟩ : ∃ P, P = strOfNums (fmtK 2 (.node ko kl kk)) := ⟨_, rfl⟩
        have hps : P.size ≤ 10000 := by rw [hP, strOfNums_size]; have := fmtK_len 2 (.node ko kl kk); have h3 := sizeL_mem (List.mem_of_getElem? hk); simp only [sizeT] at hsz h3 this; omega
        obtain ⟨t0, ht0⟩ : ∃ t0, t0 = strOfNums (fmtL [124] 2 (ks.take i)) := ⟨_, rfl⟩
        have hts : t0.size ≤ 10000 := by rw [ht0, strOfNums_size]; have := HSZ.out i; omega
        have HPT := Lib.hid (And.intro hP ht0)
        have HK2 := Lib.hid hk2
        obtain ⟨kn, hkn⟩ : ∃ kn, kn = kk.length := ⟨_, rfl⟩
        rw [← hkn, ← hP] at HQ
        rw [← hkn] at c3
        rw [← ht0]
        clear hP ht0 hk hk2 hx hkn
        by_cases h0 : i = 0
        · have HN := Lib.hid (show t0 ++ P = strOfNums (fmtL [124] 2 (ks.take (i + 1))) by
            rw [HPT.out.1, HPT.out.2]; subst h0; rw [Nat.zero_add, fmtL_take0 hlt, HK2.out]; rfl)
          have hd1 : decide ((0 : Int) < (i : Int)) = false := by simp; omega
          have hd2 : ¬ (0 : Int) < (i : Int) := by omega
          clear h0
          go_wp2_with fail
          refine (HQ.out _ (HX.out.box _)).mono ?_
          rintro e w3 ⟨rfl, hB⟩
          have HB3 := Lib.hid ((HB.out.alloc HB.out.size _).trans (hB.mono (by have := HB.out.size; simp; omega)))
          clear hB
          go_wp2_with fail
          exact ⟨⟨i + 1, by omega, by go_num, by rw [← HN.out], HB3.out⟩, by simp [intOf]; omega⟩
        · have HN := Lib.hid (show t0 ++ ⟨#[124]⟩ ++ P = strOfNums (fmtL [124] 2 (ks.take (i + 1))) by
            rw [HPT.out.1, HPT.out.2, fmtL_take hlt (by omega), HK2.out, sos_append, sos_append]; rfl)
          have hd2 : (0 : Int) < (i : Int) := by omega
          clear h0
          go_wp2_with fail
          refine (HQ.out _ (HX.out.box _)).mono ?_
          rintro e w3 ⟨rfl, hB⟩
          have HB3 := Lib.hid ((HB.out.alloc HB.out.size _).trans (hB.mono (by have := HB.out.size; simp; omega)))
          clear hB
          go_wp2_with fail
          exact ⟨⟨i + 1, by omega, by go_num, by rw [← HN.out], HB3.out⟩, by simp [intOf]; omega⟩
      · obtain rfl : i = ks.length := by omega
        have HFF := Lib.hid (show strOfNums (fmtT (.node 4 l ks)) = strOfNums (fmtL [124] 2 (ks.take ks.length)) by rw [HF.out, List.take_length])
        go_wp2_with fail
        go_ret
        exact ⟨by rw [HFF.out]; rfl, HB.out⟩
  · have HF := Lib.hid (show fmtT (.node op l ks) = fmtL [] 4 ks by rw [fmtT_oq, h]; rfl)
    have HSZ := Lib.hid (show ∀ i, (fmtL [] 4 (ks.take i)).length ≤ 1600 from fun i => by have := fmtL_take_len [] 4 ks i; have h2 := HF.out; rw [h2] at hfl; omega)
    subst h
    clear hk hl hfl
    go_enter Try.func16, Try.ntmps16
    go_wp2_with fail
    go_loopw [3, 45] (fun vs vi wr => ∃ (i : Nat), i ≤ ks.length ∧ vi = .int .i64 i ∧ vs = .string (strOfNums (fmtL [] 4 (ks.take i))) ∧ Below w.heap.size w wr) (fun _ vi _ => ks.length - (intOf vi).toNat)
    case atStart => exact ⟨0, Nat.zero_le _, rfl, rfl, HB0.out⟩
    case round =>
      rename World => wA
      obtain ⟨i, hi, rfl, rfl, hb⟩ := hrel
      have HB := Lib.hid hb
      clear hb
      by_cases hlt : i < ks.length
      · obtain ⟨ko, kl, kk, hk, hk2⟩ := kid_some hlt
        obtain ⟨b, off, a', c', rfl, hbz, c1, c2, c3, hx⟩ := (HI.out.keep HB.out).kid hk
        have hi0 : (0 : Int) ≤ (i : Int) := by omega
        have hin2 : (i : Int) < (ks.length : Int) := by omega
        have hwi : IntKind.i64.wrap (i : Int) = (i : Int) := IntWalk.i64_in _ (by omega)
        have HQ := Lib.hid (fun W (h : InX W ko kl kk a') => HT.out i ko kl kk hk 4 a' c' W h)
        have HX := Lib.hid hx
        obtain ⟨P, hP⟩ : ∃ P, P = strOfNums (fmtK 4 (.node ko kl kk)) := ⟨_, rfl⟩
        have hps : P.size ≤ 10000 := by rw [hP, strOfNums_size]; have := fmtK_len 4 (.node ko kl kk); have h3 := sizeL_mem (List.mem_of_getElem? hk); simp only [sizeT] at hsz h3 this; omega
        obtain ⟨t0, ht0⟩ : ∃ t0, t0 = strOfNums (fmtL [] 4 (ks.take i)) := ⟨_, rfl⟩
        have hts : t0.size ≤ 10000 := by rw [ht0, strOfNums_size]; have := HSZ.out i; omega
        have HPT := Lib.hid (And.intro hP ht0)
        have HK2 := Lib.hid hk2
        obtain ⟨kn, hkn⟩ : ∃ kn, kn = kk.length := ⟨_, rfl⟩
        rw [← hkn, ← hP] at HQ
        rw [← hkn] at c3
        rw [← ht0]
        clear hP ht0 hk hk2 hx hkn
        by_cases h0 : i = 0
        · have HN := Lib.hid (show t0 ++ P = strOfNums (fmtL [] 4 (ks.take (i + 1))) by
            rw [HPT.out.1, HPT.out.2]; subst h0; rw [Nat.zero_add, fmtL_take0 hlt, HK2.out]; rfl)
          have hd1 : decide ((0 : Int) < (i : Int)) = false := by simp; omega
          have hd2 : ¬ (0 : Int) < (i : Int) := by omega
          clear h0
          go_wp2_with fail
          refine (HQ.out _ (HX.out.box _)).mono ?_
          rintro e w3 ⟨rfl, hB⟩
          have HB3 := Lib.hid ((HB.out.alloc HB.out.size _).trans (hB.mono (by have := HB.out.size; simp; omega)))
          clear hB
          go_wp2_with fail
          exact ⟨⟨i + 1, by omega, by go_num, by rw [← HN.out], HB3.out⟩, by simp [intOf]; omega⟩
        · have HN := Lib.hid (show t0 ++ ⟨#[]⟩ ++ P = strOfNums (fmtL [] 4 (ks.take (i + 1))) by
            rw [HPT.out.1, HPT.out.2, fmtL_take hlt (by omega), HK2.out, sos_append, sos_append]; rfl)
          have hd2 : (0 : Int) < (i : Int) := by omega
          clear h0
          go_wp2_with fail
          refine (HQ.out _ (HX.out.box _)).mono ?_
          rintro e w3 ⟨rfl, hB⟩
          have HB3 := Lib.hid ((HB.out.alloc HB.out.size _).trans (hB.mono (by have := HB.out.size; simp; omega)))
          clear hB
          go_wp2_with fail
          exact ⟨⟨i + 1, by omega, by go_num, by rw [← HN.out], HB3.out⟩, by simp [intOf]; omega⟩
      · obtain rfl : i = ks.length := by omega
        have HFF := Lib.hid (show strOfNums (fmtT (.node 5 l ks)) = strOfNums (fmtL [] 4 (ks.take ks.length)) by rw [HF.out, List.take_length])
        go_wp2_with fail
        go_ret
        exact ⟨by rw [HFF.out]; rfl, HB.out⟩
  · have HF := Lib.hid (show fmtT (.node op l ks) = fmtL [38] 3 ks by rw [fmtT_oq, h]; rfl)
    have HSZ := Lib.hid (show ∀ i, (fmtL [38] 3 (ks.take i)).length ≤ 1600 from fun i => by have := fmtL_take_len [38] 3 ks i; have h2 := HF.out; rw [h2] at hfl; omega)
    subst h
    clear hk hl hfl
    go_enter Try.func16, Try.ntmps16
    go_wp2_with fail
    go_loopw [3, 45] (fun vs vi wr => ∃ (i : Nat), i ≤ ks.length ∧ vi = .int .i64 i ∧ vs = .string (strOfNums (fmtL [38] 3 (ks.take i))) ∧ Below w.heap.size w wr) (fun _ vi _ => ks.length - (intOf vi).toNat)
    case atStart => exact ⟨0, Nat.zero_le _, rfl, rfl, HB0.out⟩
    case round =>
      rename World => wA
      obtain ⟨i, hi, rfl, rfl, hb⟩ := hrel
      have HB := Lib.hid hb
      clear hb
      by_cases hlt : i < ks.length
      · obtain ⟨ko, kl, kk, hk, hk2⟩ := kid_some hlt
        obtain ⟨b, off, a', c', rfl, hbz, c1, c2, c3, hx⟩ := (HI.out.keep HB.out).kid hk
        have hi0 : (0 : Int) ≤ (i : Int) := by omega
        have hin2 : (i : Int) < (ks.length : Int) := by omega
        have hwi : IntKind.i64.wrap (i : Int) = (i : Int) := IntWalk.i64_in _ (by omega)
        have HQ := Lib.hid (fun W (h : InX W ko kl kk a') => HT.out i ko kl kk hk 3 a' c' W h)
        have HX := Lib.hid hx
        obtain ⟨P, hP⟩ : ∃ P, P = strOfNums (fmtK 3 (.node ko kl kk)) := ⟨_, rfl⟩
        have hps : P.size ≤ 10000 := by rw [hP, strOfNums_size]; have := fmtK_len 3 (.node ko kl kk); have h3 := sizeL_mem (List.mem_of_getElem? hk); simp only [sizeT] at hsz h3 this; omega
        obtain ⟨t0, ht0⟩ : ∃ t0, t0 = strOfNums (fmtL [38] 3 (ks.take i)) := ⟨_, rfl⟩
        have hts : t0.size ≤ 10000 := by rw [ht0, strOfNums_size]; have := HSZ.out i; omega
        have HPT := Lib.hid (And.intro hP ht0)
        have HK2 := Lib.hid hk2
        obtain ⟨kn, hkn⟩ : ∃ kn, kn = kk.length := ⟨_, rfl⟩
        rw [← hkn, ← hP] at HQ
        rw [← hkn] at c3
        rw [← ht0]
        clear hP ht0 hk hk2 hx hkn
        by_cases h0 : i = 0
        · have HN := Lib.hid (show t0 ++ P = strOfNums (fmtL [38] 3 (ks.take (i + 1))) by
            rw [HPT.out.1, HPT.out.2]; subst h0; rw [Nat.zero_add, fmtL_take0 hlt, HK2.out]; rfl)
          have hd1 : decide ((0 : Int) < (i : Int)) = false := by simp; omega
          have hd2 : ¬ (0 : Int) < (i : Int) := by omega
          clear h0
          go_wp2_with fail
          refine (HQ.out _ (HX.out.box _)).mono ?_
          rintro e w3 ⟨rfl, hB⟩
          have HB3 := Lib.hid ((HB.out.alloc HB.out.size _).trans (hB.mono (by have := HB.out.size; simp; omega)))
          clear hB
          go_wp2_with fail
          exact ⟨⟨i + 1, by omega, by go_num, by rw [← HN.out], HB3.out⟩, by simp [intOf]; omega⟩
        · have HN := Lib.hid (show t0 ++ ⟨#[38]⟩ ++ P = strOfNums (fmtL [38] 3 (ks.take (i + 1))) by
            rw [HPT.out.1, HPT.out.2, fmtL_take hlt (by omega), HK2.out, sos_append, sos_append]; rfl)
          have hd2 : (0 : Int) < (i : Int) := by omega
          clear h0
          go_wp2_with fail
          refine (HQ.out _ (HX.out.box _)).mono ?_
          rintro e w3 ⟨rfl, hB⟩
          have HB3 := Lib.hid ((HB.out.alloc HB.out.size _).trans (hB.mono (by have := HB.out.size; simp; omega)))
          clear hB
          go_wp2_with fail
          exact ⟨⟨i + 1, by omega, by go_num, by rw [← HN.out], HB3.out⟩, by simp [intOf]; omega⟩
      · obtain rfl : i = ks.length := by omega
        have HFF := Lib.hid (show strOfNums (fmtT (.node 6 l ks)) = strOfNums (fmtL [38] 3 (ks.take ks.length)) by rw [HF.out, List.take_length])
        go_wp2_with fail
        go_ret
        exact ⟨by rw [HFF.out]; rfl, HB.out⟩
  · have hn1 : ks.length = 1 := by rw [kidsOk_1 _ (by omega)] at hk; simp at hk; omega
    have hlt : 0 < ks.length := by omega
    obtain ⟨ko, kl, kk, hk0, hk2⟩ := kid_some hlt
    obtain ⟨P, hP⟩ : ∃ P, P = strOfNums (fmtK 5 (.node ko kl kk)) := ⟨_, rfl⟩
    have hps : P.size ≤ 10000 := by rw [hP, strOfNums_size]; have := fmtK_len 5 (.node ko kl kk); have h3 := sizeL_mem (List.mem_of_getElem? hk0); simp only [sizeT] at hsz h3 this; omega
    have HF := Lib.hid (show strOfNums (fmtT (.node op l ks)) = P ++ ⟨#[42]⟩ by rw [show fmtT (.node op l ks) = fmtK 5 ks[0] ++ ([42] : List Int) by rw [fmtT_oq, h, ← fmtH_get hlt]; rfl, hk2, sos_append, ← hP]; rfl)
    obtain ⟨b, off, a', c', rfl, hbz, d1, d2, d3, hx⟩ := (HI.out.keep HB0.out).kid hk0
    simp only [Nat.zero_mul, Nat.add_zero] at d1 d2 d3
    have HQ := Lib.hid (HT.out 0 ko kl kk hk0 5 a' c' _ hx)
    obtain ⟨kn, hkn⟩ : ∃ kn, kn = kk.length := ⟨_, rfl⟩
    rw [← hkn, ← hP] at HQ
    rw [← hkn] at d3
    have hl0 : (0 : Int) < (ks.length : Int) := by omega
    subst h
    clear hk hl hfl hsz hP hk0 hk2 hx hkn hn1
    go_enter Try.func16, Try.ntmps16
    go_wp2_with fail
    refine HQ.out.mono ?_
    rintro e w3 ⟨rfl, hB⟩
    have HB3 := Lib.hid (HB0.out.trans (hB.mono (by simp)))
    clear hB
    go_wp2_with fail
    go_ret
    exact ⟨by rw [HF.out]; rfl, HB3.out⟩
  · have hn1 : ks.length = 1 := by rw [kidsOk_1 _ (by omega)] at hk; simp at hk; omega
    have hlt : 0 < ks.length := by omega
    obtain ⟨ko, kl, kk, hk0, hk2⟩ := kid_some hlt
    obtain ⟨P, hP⟩ : ∃ P, P = strOfNums (fmtK 4 (.node ko kl kk)) := ⟨_, rfl⟩
    have hps : P.size ≤ 10000 := by rw [hP, strOfNums_size]; have := fmtK_len 4 (.node ko kl kk); have h3 := sizeL_mem (List.mem_of_getElem? hk0); simp only [sizeT] at hsz h3 this; omega
    have HF := Lib.hid (show strOfNums (fmtT (.node op l ks)) = ⟨#[33]⟩ ++ P by rw [show fmtT (.node op l ks) = ([33] : List Int) ++ fmtK 4 ks[0] by rw [fmtT_oq, h, ← fmtH_get hlt]; rfl, hk2, sos_append, ← hP]; rfl)
    obtain ⟨b, off, a', c', rfl, hbz, d1, d2, d3, hx⟩ := (HI.out.keep HB0.out).kid hk0
    simp only [Nat.zero_mul, Nat.add_zero] at d1 d2 d3
    have HQ := Lib.hid (HT.out 0 ko kl kk hk0 4 a' c' _ hx)
    obtain ⟨kn, hkn⟩ : ∃ kn, kn = kk.length := ⟨_, rfl⟩
    rw [← hkn, ← hP] at HQ
    rw [← hkn] at d3
    have hl0 : (0 : Int) < (ks.length : Int) := by omega
    subst h
    clear hk hl hfl hsz hP hk0 hk2 hx hkn hn1
    go_enter Try.func16, Try.ntmps16
    go_wp2_with fail
    refine HQ.out.mono ?_
    rintro e w3 ⟨rfl, hB⟩
    have HB3 := Lib.hid (HB0.out.trans (hB.mono (by simp)))
    clear hB
    go_wp2_with fail
    go_ret
    exact ⟨by rw [HF.out]; rfl, HB3.out⟩
end Go.Proofs.Ytjnnabcpamionaa
