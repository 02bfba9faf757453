/- Contracts: wellFormed, Validate, valid. -/
import Derived.Test.YtdoifdpmgmlpdaaExprC
namespace Go.Proofs.Ytdoifdpmgmlpdaa
open Go Go.RowKit
set_option linter.unusedVariables false
/-- an expression by value -/
def InX (w : World) (op l : Int) (ks : List T) (a : Option Addr) : Prop := InK w a ks ∧ B64 op ∧ B64 l ∧ ks.length ≤ 9223372036854775807
theorem InX.keep {w w' : World} {op l : Int} {ks : List T} {a : Option Addr} (h : InX w op l ks a) (hb : Below w.heap.size w w') : InX w' op l ks a := ⟨h.1.keep hb, h.2⟩
theorem InX.box {w : World} {op l : Int} {ks : List T} {a : Option Addr} (h : InX w op l ks a) (o : Obj) : InX (w.alloc o) op l ks a := h.keep ((Below.refl _ _).alloc (Nat.le_refl _) _)
/-- the i-th kid -/
theorem InX.kid {w : World} {op0 l0 : Int} {a : Option Addr} {ks : List T} (h : InX w op0 l0 ks a) {i : Nat} {op l : Int} {ls : List T} (hk : ks[i]? = some (.node op l ls)) :
    ∃ b off a' c', a = some ⟨b, off, none⟩ ∧ b < w.heap.size ∧ w.cell? ⟨b, off + i * 3, none⟩ = some (.int .i64 op) ∧ w.cell? ⟨b, off + i * 3 + 1, none⟩ = some (.int .i64 l) ∧ w.cell? ⟨b, off + i * 3 + 2, none⟩ = some (.slice a' ls.length c') ∧ InX w op l ls a' := by
  obtain ⟨b, off, a', c', h1, h2, h3, h4, h5, h6, h7, h8, h9⟩ := h.1.kid hk
  exact ⟨b, off, a', c', h1, h2, h3, h4, h5, h9, h6, h7, h8⟩
theorem wfT_kids {L op l : Int} {ks : List T} (h : kidsOk op ks.length = false) : wfT L (.node op l ks) = false := by
  rw [← Bool.not_eq_true, wfT_node, h]; simp
theorem wfT_let {L op l : Int} {ks : List T} (h : letOk op l L = false) : wfT L (.node op l ks) = false := by
  rw [← Bool.not_eq_true, wfT_node, h]; simp
theorem wfT_all {L op l : Int} {ks : List T} (h1 : kidsOk op ks.length = true) (h2 : letOk op l L = true) (h : ∀ k, k ∈ ks → wfT L k = true) : wfT L (.node op l ks) = true := wfT_node.2 ⟨h1, h2, h⟩
theorem wfT_bad {L op l : Int} {ks : List T} {k : T} (h : k ∈ ks) (h1 : wfT L k = false) : wfT L (.node op l ks) = false := by
  rw [← Bool.not_eq_true, wfT_node]
  intro h2
  rw [h2.2.2 k h] at h1
  cases h1
theorem take_mem_succ {ks : List T} {i : Nat} (h : i < ks.length) {P : T → Prop} (h1 : ∀ k, k ∈ ks.take i → P k) (h2 : P ks[i]) : ∀ k, k ∈ ks.take (i + 1) → P k := by
  intro k hk
  rw [take_snoc h, List.mem_append] at hk
  rcases hk with hk | hk
  · exact h1 k hk
  · simp at hk; rw [hk]; exact h2
set_option maxRecDepth 100000 in
set_option maxHeartbeats 1000000 in
theorem wellFormed_any (op l : Int) (ks : List T) : ∀ (L : Int) (a : Option Addr) (c : Nat) (w : World), InX w op l ks a →
    Calls Try.prog 89 #[.agg #[.int .i64 op, .int .i64 l, .slice a ks.length c], .int .i64 L] w fun e w' => e = .returned (.bool (wfT L (.node op l ks))) ∧ Below w.heap.size w w' := by
  refine T.ind2 (P := fun op l ks => ∀ (L : Int) (a : Option Addr) (c : Nat) (w : World), InX w op l ks a →
    Calls Try.prog 89 #[.agg #[.int .i64 op, .int .i64 l, .slice a ks.length c], .int .i64 L] w fun e w' => e = .returned (.bool (wfT L (.node op l ks))) ∧ Below w.heap.size w w') ?_ op l ks
  clear op l ks
  intro op l ks ih L a c w hin
  have hlen := hin.2.2.2
  have HI := Lib.hid hin
  have IH := Lib.hid ih
  clear hin ih
  have HB0 := Lib.hid ((Below.refl w.heap.size w).alloc (Nat.le_refl _) (.cells #[.int .i64 op, .int .i64 l, .slice a ks.length c] 49))
  cases hk : kidsOk op ks.length
  · have HK := Lib.hid hk
    have HF := Lib.hid (wfT_kids (L := L) (l := l) hk)
    clear hk
    go_enter Try.func89, Try.ntmps89
    go_wp2_with (go_at_call 96; refine (validKids_any _ _ _ hlen).mono ?_; rintro e w' ⟨rfl, rfl⟩; rw [HK.out])
    go_ret
    exact ⟨by rw [HF.out]; rfl, HB0.out⟩
  cases hl : letOk op l L
  · have HK := Lib.hid hk
    have HL := Lib.hid hl
    have HF := Lib.hid (wfT_let (ks := ks) hl)
    clear hk hl
    go_enter Try.func89, Try.ntmps89
    go_wp2_with (go_at_call 96; refine (validKids_any _ _ _ hlen).mono ?_; rintro e w' ⟨rfl, rfl⟩; rw [HK.out])
    refine (validLetter_any _ _ _ _ _ _ _).mono ?_
    rintro e w2 ⟨rfl, hB⟩
    rw [HL.out]
    have HB2 := Lib.hid (HB0.out.trans (hB.mono (by simp)))
    clear hB
    go_wp2_with fail
    go_ret
    exact ⟨by rw [HF.out]; rfl, HB2.out⟩
  · have HK := Lib.hid hk
    have HL := Lib.hid hl
    clear hk hl
    go_enter Try.func89, Try.ntmps89
    go_wp2_with (go_at_call 96; refine (validKids_any _ _ _ hlen).mono ?_; rintro e w' ⟨rfl, rfl⟩; rw [HK.out])
    refine (validLetter_any _ _ _ _ _ _ _).mono ?_
    rintro e w2 ⟨rfl, hB⟩
    rw [HL.out]
    have HB1 := Lib.hid (show Below (w.heap.size + 1) (w.alloc (.cells #[.int .i64 op, .int .i64 l, .slice a ks.length c] 49)) w2 from hB.mono (by simp))
    have hx2 := (box_cells HB1.out).2.2
    clear hB
    go_wp2_with fail
    go_loopw [22] (fun vi wr => ∃ (i : Nat), i ≤ ks.length ∧ vi = .int .i64 i ∧ (∀ k, k ∈ ks.take i → wfT L k = true) ∧ Below (w.heap.size + 1) (w.alloc (.cells #[.int .i64 op, .int .i64 l, .slice a ks.length c] 49)) wr) (fun vi _ => ks.length - (intOf vi).toNat)
    case atStart => exact ⟨0, Nat.zero_le _, rfl, by simp, HB1.out⟩
    case round =>
      obtain ⟨i, hi, rfl, hall, hb⟩ := hrel
      have HA := Lib.hid hall
      have HB := Lib.hid hb
      clear hall hb hx2
      have hx2 := (box_cells HB.out).2.2
      by_cases hlt : i < ks.length
      · obtain ⟨ko, kl, kk, hk, hk2⟩ := kid_some hlt
        have HKI := Lib.hid ((HI.out.box _).keep (HB.out.mono (by simp)))
        obtain ⟨b, off, a', c', rfl, hbz, c1, c2, c3, hin'⟩ := HKI.out.kid hk
        have hq := IH.out i ko kl kk hk
        have HIN := Lib.hid hin'
        have hi0 : (0 : Int) ≤ (i : Int) := by omega
        have hin2 : (i : Int) < (ks.length : Int) := by omega
        have hwi : IntKind.i64.wrap (i : Int) = (i : Int) := IntWalk.i64_in _ (by omega)
        have hmem := List.getElem_mem hlt
        obtain ⟨kn, hkn⟩ : ∃ kn, kn = kk.length := ⟨_, rfl⟩
        have HQ := Lib.hid (fun W (h : InX W ko kl kk a') => hq L a' c' W h)
        rw [← hkn] at c3 HQ
        cases hs : wfT L (.node ko kl kk)
        · have HF := Lib.hid (wfT_bad (op := op) (l := l) hmem (by rw [hk2]; exact hs))
          have HS := Lib.hid hs
          clear hin' hkn hq hs hk hk2 hmem
          go_wp2_with fail
          refine (HQ.out _ HIN.out).mono ?_
          rintro e w3 ⟨rfl, hB⟩
          rw [HS.out]
          have HB2 := Lib.hid (HB.out.trans (hB.mono (by have := HB.out.size; simp at this; omega)))
          clear hB
          go_wp2_with fail
          go_ret
          exact ⟨by rw [HF.out]; rfl, below_box HB2.out⟩
        · have HN := Lib.hid (take_mem_succ hlt HA.out (by rw [hk2]; exact hs))
          have HS := Lib.hid hs
          clear hin' hkn hq hs hk hk2 hmem
          go_wp2_with fail
          refine (HQ.out _ HIN.out).mono ?_
          rintro e w3 ⟨rfl, hB⟩
          rw [HS.out]
          have HB2 := Lib.hid (HB.out.trans (hB.mono (by have := HB.out.size; simp at this; omega)))
          clear hB
          go_wp2_with fail
          exact ⟨⟨i + 1, by omega, by go_num, HN.out, HB2.out⟩, by simp [intOf]; omega⟩
      · obtain rfl : i = ks.length := by omega
        have HF := Lib.hid (wfT_all (L := L) HK.out HL.out (by have := HA.out; rw [List.take_length] at this; exact this))
        go_wp2_with fail
        go_ret
        exact ⟨by rw [HF.out]; rfl, below_box HB.out⟩

set_option maxHeartbeats 1000000 in
theorem validate_any (op l : Int) (ks : List T) (L : Int) (a : Option Addr) (c : Nat) (w : World) (hin : InX w op l ks a) :
    Calls Try.prog 69 #[.agg #[.int .i64 op, .int .i64 l, .slice a ks.length c], .int .i64 L] w fun e w' => e = .returned (.int .i64 (errT (.node op l ks) L)) ∧ Below w.heap.size w w' := by
  have HI := Lib.hid hin
  have HQ1 := Lib.hid (fun W (h : InX W op l ks a) => within_any op l ks a c W h.1 h.2.1 h.2.2.1 h.2.2.2)
  have HQ2 := Lib.hid (fun W (h : InX W op l ks a) => wellFormed_any op l ks L a c W h)
  clear hin
  obtain ⟨n, hn⟩ : ∃ n, n = ks.length := ⟨_, rfl⟩
  rw [← hn] at HQ1 HQ2 ⊢
  clear hn
  have HB0 := Lib.hid ((Below.refl w.heap.size w).alloc (Nat.le_refl _) (.cells #[.int .i64 op, .int .i64 l, .slice a n c] 49))
  have HI0 := Lib.hid (HI.out.box (.cells #[.int .i64 op, .int .i64 l, .slice a n c] 49))
  cases h1 : mayB L
  · have HM := Lib.hid h1
    have HF := Lib.hid (errT_may (t := .node op l ks) h1)
    clear h1
    go_enter Try.func69, Try.ntmps69
    go_wp2_with (go_at_call 87; refine (validLetters_any _ _).mono ?_; rintro e w' ⟨rfl, rfl⟩; rw [HM.out])
    go_ret
    exact ⟨by rw [HF.out]; rfl, HB0.out⟩
  cases h2 : withinB (.node op l ks)
  · have HM := Lib.hid h1
    have HW := Lib.hid h2
    have HF := Lib.hid (errT_lim h1 h2)
    clear h1 h2
    go_enter Try.func69, Try.ntmps69
    go_wp2_with (go_at_call 87; refine (validLetters_any _ _).mono ?_; rintro e w' ⟨rfl, rfl⟩; rw [HM.out])
    refine (HQ1.out _ HI0.out).mono ?_
    rintro e w2 ⟨rfl, hB⟩
    rw [HW.out]
    have HB2 := Lib.hid (HB0.out.trans (hB.mono (by simp)))
    clear hB
    go_wp2_with fail
    go_ret
    exact ⟨by rw [HF.out]; rfl, HB2.out⟩
  cases h3 : wfT L (.node op l ks)
  · have HM := Lib.hid h1
    have HW := Lib.hid h2
    have HS := Lib.hid h3
    have HF := Lib.hid (errT_shape h1 h2 h3)
    clear h1 h2 h3
    go_enter Try.func69, Try.ntmps69
    go_wp2_with (go_at_call 87; refine (validLetters_any _ _).mono ?_; rintro e w' ⟨rfl, rfl⟩; rw [HM.out])
    refine (HQ1.out _ HI0.out).mono ?_
    rintro e w2 ⟨rfl, hB⟩
    rw [HW.out]
    have HB1 := Lib.hid (show Below (w.heap.size + 1) _ _ from hB.mono (by simp))
    obtain ⟨x0, x1, x2⟩ := box_cells HB1.out
    have HI2 := Lib.hid (HI0.out.keep (HB1.out.mono (by simp)))
    clear hB
    go_wp2_with fail
    refine (HQ2.out _ HI2.out).mono ?_
    rintro e w3 ⟨rfl, hB⟩
    rw [HS.out]
    have HB2 := Lib.hid (below_box (HB1.out.trans (hB.mono (by have := HB1.out.size; simp at this; omega))))
    clear hB
    go_wp2_with fail
    go_ret
    exact ⟨by rw [HF.out]; rfl, HB2.out⟩
  · have HM := Lib.hid h1
    have HW := Lib.hid h2
    have HS := Lib.hid h3
    have HF := Lib.hid (errT_ok h1 h2 h3)
    clear h1 h2 h3
    go_enter Try.func69, Try.ntmps69
    go_wp2_with (go_at_call 87; refine (validLetters_any _ _).mono ?_; rintro e w' ⟨rfl, rfl⟩; rw [HM.out])
    refine (HQ1.out _ HI0.out).mono ?_
    rintro e w2 ⟨rfl, hB⟩
    rw [HW.out]
    have HB1 := Lib.hid (show Below (w.heap.size + 1) _ _ from hB.mono (by simp))
    obtain ⟨x0, x1, x2⟩ := box_cells HB1.out
    have HI2 := Lib.hid (HI0.out.keep (HB1.out.mono (by simp)))
    clear hB
    go_wp2_with fail
    refine (HQ2.out _ HI2.out).mono ?_
    rintro e w3 ⟨rfl, hB⟩
    rw [HS.out]
    have HB2 := Lib.hid (below_box (HB1.out.trans (hB.mono (by have := HB1.out.size; simp at this; omega))))
    clear hB
    go_wp2_with fail
    go_ret
    exact ⟨by rw [HF.out]; rfl, HB2.out⟩
theorem errT_eq0 (t : T) : (errT t 6 == 0) = valB t := by
  have h := errT_six t
  cases hv : valB t
  · rw [ne_beq]; intro h2; rw [h.1 h2] at hv; cases hv
  · rw [h.2 hv]; rfl
end Go.Proofs.Ytdoifdpmgmlpdaa
