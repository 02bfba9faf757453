/- Contracts: appendText, Format. -/
import Derived.Test.YthmdndondlffeaaExprH
namespace Go.Proofs.Ythmdndondlffeaa
open Go Go.RowKit Go.Lib
set_option linter.unusedVariables false
attribute [local go_sem ↓] Go.wp_at_zero Go.wp_at_succ
/-- append of one byte -/
theorem wpList_push {w : World} {ops : Array Oper} {rest : List Oper} {o : Oper} {a : Act} {Q : Exit → Act → World → Prop} (hgd : o.guard = none) (s x : Operand)
    (ho : o.op = .call { callee := .builtin .append, args := #[s, x], argTypes := #[53, 53] })
    (base : Nat) (v : Value) (l : List Int) (hs : a.eval s = v) (hown : OwnB w base v l)
    (g c : Nat) (b : Int) (hx : a.eval x = .slice (some ⟨g, 0, none⟩) 1 c) (hc : w.cell? ⟨g, 0, none⟩ = some (.int .u8 b)) (hlen : l.length ≤ 200000) (hbase : base ≤ w.heap.size)
    (h : ∀ v' w', TextS base w w' v v' (l ++ [b]) → wpList Try.prog ops Q rest (a.put o.dst v') w') : wpList Try.prog ops Q (o :: rest) a w := by
  obtain ⟨i0, hi, hz0, hz1, hz2⟩ := info_parts infoB
  refine wpList_append_own_at (w := w) hgd s x 53 ho base 5 i0 (.int .u8 0) 1 1 Try.underlying53 hi hz0 hz1 hz2 rfl (by decide) v l.length (l.map encB) hs hown ⟨g, 0, none⟩ 1 c [.int .u8 b] hx rfl (fun j y hy => ?_) (by intro y hy; rw [List.mem_singleton] at hy; subst hy; rfl) (by unfold maxLen; omega) (by omega) hbase ?_
  · have h0 : j = 0 := by
      cases j with
      | zero => rfl
      | succ j => simp at hy
    subst h0
    simp at hy
    subst hy
    simpa [Addr.add] using hc
  · intro v' w1 h1 h2 _ h3
    exact h _ _ (textS_push h1 h2 h3)
theorem fmtT_op {op l : Int} {ks : List T} : fmtT (.node op l ks) = if op = 1 then [48] else if op = 2 then [49] else if op = 3 then [97 + l] else if op = 4 then fmtL [124] 2 ks else if op = 6 then fmtL [38] 3 ks else if op = 5 then fmtL [] 4 ks else if op = 8 then [33] ++ fmtH 4 ks else fmtH 5 ks ++ [42] := by
  rw [fmtT]
set_option maxRecDepth 100000 in
set_option maxHeartbeats 2000000 in
theorem text_of (op l : Int) (ks : List T) : wfT 6 (.node op l ks) = true → TextOf op l ks := by
  refine T.ind2 (P := fun op l ks => wfT 6 (.node op l ks) = true → TextOf op l ks) ?_ op l ks
  clear op l ks
  intro op l ks ih hwf base v s a c w0 w hin hbase hbel hown hlen
  obtain ⟨hk, hl, hkids⟩ := wfT_node.1 hwf
  have hT : ∀ (i : Nat) (op' l' : Int) (ls : List T), ks[i]? = some (.node op' l' ls) → TextOf op' l' ls := fun i op' l' ls h => ih i op' l' ls h (hkids _ (List.mem_of_getElem? h))
  have hbs : base ≤ w.heap.size := by rw [hbase]; exact hbel.size
  have HI := Lib.hid hin
  have HBASE := Lib.hid hbase
  have HT := Lib.hid hT
  have HO := Lib.hid hown
  have HO1 := Lib.hid ((TextS.refl hown).alloc (.cells #[.int .i64 op, .int .i64 l, .slice a ks.length c] 24))
  have HB1 := Lib.hid (hbel.alloc hbs (.cells #[.int .i64 op, .int .i64 l, .slice a ks.length c] 24))
  have hsl : s.length ≤ 100000 := by omega
  have HLEN := Lib.hid hlen
  clear hin hbase hT hown hbel ih hwf hkids hlen
  obtain ⟨n, hn⟩ : ∃ n, n = ks.length := ⟨_, rfl⟩
  have HN := Lib.hid hn
  have hlist : ∀ (sb : ByteArray) (sep : List Int) (least : Int), strCells sb = sep.map encB → sb.size = sep.length → fmtT (.node op l ks) = fmtL sep least ks → Hid (∀ W (h1 : Below base w0 W) (h2 : OwnB W base v s), Calls Try.prog 49 #[v, .slice a n c, .string sb, .int .i64 least] W (TextP base W v (s ++ fmtT (.node op l ks)))) := by
    intro sb sep least h1 h2 h3 W h4 h5
    rw [h3, HN.out]
    have := HLEN.out
    rw [h3] at this
    have h6 := HI.out
    exact appendList_any ks HT.out sb sep h1 h2 least base v s a c w0 W ⟨h6.1, by unfold B64; omega, by unfold B64; omega, h6.2.2.2⟩ HBASE.out h4 h5 this
  rw [← hn] at HO1 HB1 ⊢
  rcases op_cases op with h | h | h | h | h | h | h | h | h
  · have HF := Lib.hid (show fmtT (.node op l ks) = [48] by rw [fmtT_op, h]; rfl)
    subst h
    clear hlist hn hk hl
    go_enter Try.func37, Try.ntmps37
    go_wp2_with (at_builtin; refine wpList_push rfl _ _ rfl base _ s rfl (HO1.out.own.alloc _) _ _ 48 rfl (by simp [go_sem]) (by omega) (by simp; omega) ?_)
    intro v1 w1 hS1
    have HS := Lib.hid ((HO1.out.alloc _).trans hS1)
    clear hS1
    go_wp2_with fail
    go_ret
    exact ⟨_, rfl, by rw [HF.out]; exact HS.out⟩
  · have HF := Lib.hid (show fmtT (.node op l ks) = [49] by rw [fmtT_op, h]; rfl)
    subst h
    clear hlist hn hk hl
    go_enter Try.func37, Try.ntmps37
    go_wp2_with (at_builtin; refine wpList_push rfl _ _ rfl base _ s rfl (HO1.out.own.alloc _) _ _ 49 rfl (by simp [go_sem]) (by omega) (by simp; omega) ?_)
    intro v1 w1 hS1
    have HS := Lib.hid ((HO1.out.alloc _).trans hS1)
    clear hS1
    go_wp2_with fail
    go_ret
    exact ⟨_, rfl, by rw [HF.out]; exact HS.out⟩
  · have HF := Lib.hid (show fmtT (.node op l ks) = [97 + l] by rw [fmtT_op, h]; rfl)
    have hl2 : 0 ≤ l ∧ l < 6 := by rw [letOk_3 h] at hl; simpa using hl
    subst h
    have hr2 : l % 256 = l := by omega
    have hr3 : (97 + l) % 256 = 97 + l := by omega
    clear hlist hn hk hl
    go_enter Try.func37, Try.ntmps37
    go_wp2_with (at_builtin; refine wpList_push rfl _ _ rfl base _ s rfl (HO1.out.own.alloc _) _ _ (97 + l) rfl (by simp [go_sem]) (by omega) (by simp; omega) ?_)
    intro v1 w1 hS1
    have HS := Lib.hid ((HO1.out.alloc _).trans hS1)
    clear hS1
    go_wp2_with fail
    go_ret
    exact ⟨_, rfl, by rw [HF.out]; exact HS.out⟩
  · have HQ := hlist ⟨#[124]⟩ [124] 2 rfl rfl (by rw [fmtT_op, h]; rfl)
    subst h
    clear hlist hn hk hl
    go_enter Try.func37, Try.ntmps37
    go_wp2_with fail
    refine (HQ.out _ HB1.out HO1.out.own).mono ?_
    rintro e w3 ⟨v3, rfl, hS3⟩
    have HS := Lib.hid (HO1.out.trans hS3)
    clear hS3
    go_wp2_with fail
    go_ret
    exact ⟨_, rfl, HS.out⟩
  · have HQ := hlist ⟨#[]⟩ [] 4 rfl rfl (by rw [fmtT_op, h]; rfl)
    subst h
    clear hlist hn hk hl
    go_enter Try.func37, Try.ntmps37
    go_wp2_with fail
    refine (HQ.out _ HB1.out HO1.out.own).mono ?_
    rintro e w3 ⟨v3, rfl, hS3⟩
    have HS := Lib.hid (HO1.out.trans hS3)
    clear hS3
    go_wp2_with fail
    go_ret
    exact ⟨_, rfl, HS.out⟩
  · have HQ := hlist ⟨#[38]⟩ [38] 3 rfl rfl (by rw [fmtT_op, h]; rfl)
    subst h
    clear hlist hn hk hl
    go_enter Try.func37, Try.ntmps37
    go_wp2_with fail
    refine (HQ.out _ HB1.out HO1.out.own).mono ?_
    rintro e w3 ⟨v3, rfl, hS3⟩
    have HS := Lib.hid (HO1.out.trans hS3)
    clear hS3
    go_wp2_with fail
    go_ret
    exact ⟨_, rfl, HS.out⟩
  · have hn1 : n = 1 := by rw [kidsOk_1 _ (.inl h)] at hk; have := HN.out; simp at hk; omega
    have hlt : 0 < ks.length := by have := HN.out; omega
    have HF := Lib.hid (show fmtT (.node op l ks) = fmtK 5 ks[0] ++ [42] by rw [fmtT_op, h, ← fmtH_get hlt]; rfl)
    obtain ⟨ko, kl, kk, hk0, hk2⟩ := kid_some hlt
    rw [hk2] at HF
    obtain ⟨b, off, a', c', rfl, hbz, d1, d2, d3, hin0⟩ := HI.out.kid hk0
    have hbz2 : b < base := by rw [HBASE.out]; exact hbz
    have c1 := (HB1.out.cell (p := ⟨b, off + 0 * 3, none⟩) hbz2).trans d1
    have c2 := (HB1.out.cell (p := ⟨b, off + 0 * 3 + 1, none⟩) hbz2).trans d2
    have c3 := (HB1.out.cell (p := ⟨b, off + 0 * 3 + 2, none⟩) hbz2).trans d3
    simp only [Nat.zero_mul, Nat.add_zero] at c1 c2 c3
    have HQ := Lib.hid (appendKid_any ko kl kk (HT.out 0 ko kl kk hk0) 5 base v s a' c' w0 _ hin0 HBASE.out HB1.out HO1.out.own (by have := HLEN.out; rw [HF.out, List.length_append] at this; omega))
    have HL2 := Lib.hid (show (s ++ fmtK 5 (.node ko kl kk)).length ≤ 200000 by have := HLEN.out; rw [HF.out, List.length_append] at this; rw [List.length_append]; omega)
    obtain ⟨kn, hkn⟩ : ∃ kn, kn = kk.length := ⟨_, rfl⟩
    rw [← hkn] at c3 HQ
    have HBS := Lib.hid (show base ≤ (w.alloc (.cells #[.int .i64 op, .int .i64 l, .slice (some ⟨b, off, none⟩) n c] 24)).heap.size by simp; omega)
    subst h
    clear hlist hn hk hl d1 d2 d3 hin0 hkn hk0 hk2 hn1
    have hlt1 : (0 : Int) < (n : Int) := by have := HN.out; omega
    go_enter Try.func37, Try.ntmps37
    go_wp2_with fail
    refine HQ.out.mono ?_
    rintro e w3 ⟨v3, rfl, hS3⟩
    have HS3 := Lib.hid hS3
    have HBS3 := Lib.hid (Nat.le_trans HBS.out hS3.grow.size)
    clear hS3
    go_wp2_with (at_builtin; refine wpList_push rfl _ _ rfl base _ (s ++ fmtK 5 (.node ko kl kk)) rfl (HS3.out.own.alloc _) _ _ 42 rfl (by simp [go_sem]) HL2.out (by have := HBS3.out; simp at this ⊢; omega) ?_)
    intro v1 w1 hS1
    have HS := Lib.hid (((HO1.out.trans HS3.out).alloc _).trans hS1)
    clear hS1
    go_wp2_with fail
    go_ret
    exact ⟨_, rfl, by rw [HF.out]; first | exact HS.out | (rw [← List.append_assoc]; exact HS.out)⟩
  · have hn1 : n = 1 := by rw [kidsOk_1 _ (.inr h)] at hk; have := HN.out; simp at hk; omega
    have hlt : 0 < ks.length := by have := HN.out; omega
    have HF := Lib.hid (show fmtT (.node op l ks) = ([33] : List Int) ++ fmtK 4 ks[0] by rw [fmtT_op, h, ← fmtH_get hlt]; rfl)
    obtain ⟨ko, kl, kk, hk0, hk2⟩ := kid_some hlt
    rw [hk2] at HF
    obtain ⟨b, off, a', c', rfl, hbz, d1, d2, d3, hin0⟩ := HI.out.kid hk0
    have hbz2 : b < base := by rw [HBASE.out]; exact hbz
    have c1 := (HB1.out.cell (p := ⟨b, off + 0 * 3, none⟩) hbz2).trans d1
    have c2 := (HB1.out.cell (p := ⟨b, off + 0 * 3 + 1, none⟩) hbz2).trans d2
    have c3 := (HB1.out.cell (p := ⟨b, off + 0 * 3 + 2, none⟩) hbz2).trans d3
    simp only [Nat.zero_mul, Nat.add_zero] at c1 c2 c3
    have HQ := Lib.hid (fun v1 W (h1 : Below base w0 W) (h2 : OwnB W base v1 (s ++ [33])) => appendKid_any ko kl kk (HT.out 0 ko kl kk hk0) 4 base v1 (s ++ [33]) a' c' w0 W hin0 HBASE.out h1 h2 (by have := HLEN.out; rw [HF.out, List.length_append] at this; rw [List.length_append]; omega))
    obtain ⟨kn, hkn⟩ : ∃ kn, kn = kk.length := ⟨_, rfl⟩
    rw [← hkn] at c3 HQ
    have hne0 : ∀ b, w.heap.size ≤ b → some b ≠ v.ownBlock := fun b hb e => by have := (World.ownsRow.lt HO.out b e.symm).2; omega
    subst h
    clear hlist hn hk hl d1 d2 d3 hin0 hkn hk0 hk2 hn1
    have hlt1 : (0 : Int) < (n : Int) := by have := HN.out; omega
    have hlt0 : 0 < n := by have := HN.out; omega
    have hbb : b < w.heap.size := by omega
    go_enter Try.func37, Try.ntmps37
    go_wp2_with fail
    have hneb : some b ≠ v.ownBlock := fun e => by have := (World.ownsRow.lt HO.out b e.symm).1; omega
    go_region_held3 (fun w' => w'.cell? ⟨w.heap.size, 2, none⟩ = some (.slice (some ⟨b, off, none⟩) n c) ∧ w'.cell? ⟨b, off, none⟩ = some (.int .i64 ko) ∧ w'.cell? ⟨b, off + 1, none⟩ = some (.int .i64 kl) ∧ w'.cell? ⟨b, off + 2, none⟩ = some (.slice a' kn c'))
      (go_keep)
      (first
        | (show if Region.wanted ⟨some 48, _, _, _, _, _⟩ _ = true then _ else _
           refine step_push (o := ⟨some 48, _, _, _, _, _⟩) rfl (.tmp 46) (.tmp 47) (by rfl) base v s (by rfl) (by repeat (first | with_reducible exact HO.out | with_reducible apply OwnB.alloc | with_reducible apply OwnB.drew)) _ _ 33 (by rfl) (by simp [go_sem]) (by omega) w0 (by simp; omega) (by repeat (first | with_reducible exact HB1.out | with_reducible apply Below.drew | (with_reducible refine Below.alloc ?_ (by first | omega | (simp; omega)) _))) ?_
           intro v1 w1 hS1 hat1 hB1
           have j2 := hS1.cell (b := w.heap.size) (o := 2) (by first | (simp [go_sem]; rfl) | simp [go_sem]) (hne0 _ (Nat.le_refl _))
           have j3 := hS1.cell (cell_al c1) hneb
           have j4 := hS1.cell (cell_al c2) hneb
           have j5 := hS1.cell (cell_al c3) hneb)
        | (go_at_call 50
           refine (HQ.out v1 _ hB1 hS1.own).mono ?_
           rintro e w3 ⟨v3, rfl, hS3⟩
           have hn1 : some w.heap.size ≠ v1.ownBlock := by
             rcases hat1 with e | e
             · rw [e]; exact hne0 _ (Nat.le_refl _)
             · rw [e]; intro e2; injection e2 with e2; first | omega | (simp at e2; done) | (simp at e2; omega)
           have hnb1 : some b ≠ v1.ownBlock := by
             rcases hat1 with e | e
             · rw [e]; exact hneb
             · rw [e]; intro e2; injection e2 with e2; first | omega | (simp at e2; done) | (simp at e2; omega)
           have j2 := hS3.cell j2 hn1
           have j3 := hS3.cell j3 hnb1
           have j4 := hS3.cell j4 hnb1
           have j5 := hS3.cell j5 hnb1))
    have hfin : TextS base w w3 v v3 (s ++ fmtT (.node 8 l ks)) := by
      rw [HF.out, ← List.append_assoc]
      refine TextS.trans (l1 := s ++ [33]) ?_ hS3
      refine TextS.trans (l1 := s) ?_ hS1
      repeat (first | with_reducible exact TextS.refl HO.out | with_reducible apply TextS.alloc | with_reducible apply TextS.drew)
    have HFF := Lib.hid hfin
    clear hfin hS1 hS3
    go_wp2_with fail
    go_ret
    exact ⟨_, rfl, HFF.out⟩
  · exact absurd (kidsOk_no ks.length h) (by rw [hk]; decide)
/-- 'string(b)' of a text of the call's own -/
theorem convert_own {w : World} {base : Nat} {v : Value} {l : List Int} (h : OwnB w base v l) :
    (convert 53 9 v).run Try.prog w = .ok (.string (strOfNums l)) w := by
  rcases h.2 with ⟨rfl, h0⟩ | ⟨g, cap, cur, rfl, _⟩
  · obtain rfl : l = [] := List.length_eq_zero_iff.1 h0
    rw [run_convert_bytes_nil w 53 5 Try.underlying53 Try.underlying5 0 0 9 Try.underlying9]; rfl
  · refine run_convert_bytes_arg w 53 5 Try.underlying53 Try.underlying5 g 0 l.length cap l rfl (fun i hi => ?_) 9 Try.underlying9
    have hc := World.ownsRow.cellAt h i (by omega)
    rw [Nat.zero_add, hc]
    simp [show i < l.length by omega]
/-- what Format returns -/
def textB (t : T) : ByteArray := if valB t = true then strOfNums (fmtT t) else ⟨#[]⟩
theorem textB_no {t : T} (h : valB t = false) : textB t = ⟨#[]⟩ := by simp [textB, h]
theorem textB_yes {t : T} (h : valB t = true) : textB t = strOfNums (fmtT t) := by simp [textB, h]
theorem valB_size {t : T} (h : valB t = true) : sizeT t ≤ 400 ∧ depthT t ≤ 40 ∧ wfT 6 t = true := by
  simp only [valB, withinB, Bool.and_eq_true, decide_eq_true_eq] at h
  exact ⟨h.1.1, h.1.2, h.2⟩
set_option maxRecDepth 100000 in
set_option maxHeartbeats 1000000 in
theorem format_any (op l : Int) (ks : List T) (a : Option Addr) (c : Nat) (w : World) (hin : InX w op l ks a) :
    Calls Try.prog 20 #[.agg #[.int .i64 op, .int .i64 l, .slice a ks.length c]] w fun e w' => e = .returned (.string (textB (.node op l ks))) ∧ Below w.heap.size w w' := by
  have HI := Lib.hid hin
  have HV := Lib.hid (fun W (h : InX W op l ks a) => valid_any op l ks a c W h)
  clear hin
  have HB0 := Lib.hid ((Below.refl w.heap.size w).alloc (Nat.le_refl _) (.cells #[.int .i64 op, .int .i64 l, .slice a ks.length c] 24))
  have HI0 := Lib.hid (HI.out.box (.cells #[.int .i64 op, .int .i64 l, .slice a ks.length c] 24))
  cases hv : valB (.node op l ks)
  · have HF := Lib.hid (textB_no hv)
    have HVV := Lib.hid hv
    clear hv
    obtain ⟨n, hn⟩ : ∃ n, n = ks.length := ⟨_, rfl⟩
    rw [← hn] at HV HB0 HI0 ⊢
    clear hn
    go_enter Try.func20, Try.ntmps20
    go_wp2_with fail
    refine (HV.out _ HI0.out).mono ?_
    rintro e w2 ⟨rfl, hB⟩
    rw [HVV.out]
    have HB2 := Lib.hid (HB0.out.trans (hB.mono (by simp)))
    clear hB
    go_wp2_with fail
    go_ret
    exact ⟨by rw [HF.out]; rfl, HB2.out⟩
  · have HF := Lib.hid (textB_yes hv)
    have hsz := valB_size hv
    have hlen := fmtT_len (.node op l ks)
    have HT := Lib.hid (fun W (h : InX W op l ks a) => text_of op l ks hsz.2.2 W.heap.size (.slice none 0 0) [] a c W W h rfl (Below.refl _ _) (World.ownsRow_nil _ _ _ _) (by simp only [List.length_nil]; omega))
    have HVV := Lib.hid hv
    clear hv hsz hlen
    obtain ⟨n, hn⟩ : ∃ n, n = ks.length := ⟨_, rfl⟩
    rw [← hn] at HV HB0 HI0 HT ⊢
    clear hn
    go_enter Try.func20, Try.ntmps20
    go_wp2_with fail
    refine (HV.out _ HI0.out).mono ?_
    rintro e w2 ⟨rfl, hB⟩
    rw [HVV.out]
    have HB1 := Lib.hid (show Below (w.heap.size + 1) _ w2 from hB.mono (by simp))
    obtain ⟨x0, x1, x2⟩ := box_cells HB1.out
    have HI2 := Lib.hid (HI0.out.keep hB)
    clear hB
    go_wp2_with fail
    refine (HT.out _ HI2.out).mono ?_
    rintro e w3 ⟨v3, rfl, hS⟩
    rw [List.nil_append] at hS
    have hcv := convert_own hS.own
    have HB3 := Lib.hid (below_box (HB1.out.trans ((hS.below (l0 := []) (World.ownsRow_nil _ _ _ _) (Below.refl _ _) (Nat.le_refl _)).mono (by have := HB1.out.size; simp at this; omega))))
    clear hS
    go_wp2_with fail
    go_ret
    exact ⟨by rw [HF.out]; rfl, HB3.out⟩
end Go.Proofs.Ythmdndondlffeaa
