/- Contracts: little; the normal form of a list that the law writes. -/
import Derived.Test.YthmdndondlffeaaExprOA
namespace Go.Proofs.Ythmdndondlffeaa
open Go Go.RowKit Go.Sort
set_option linter.unusedVariables false
def littleB (t : T) (m : Int) : Bool := valB t && decide ((sizeT t : Int) ≤ m) && decide ((depthT t : Int) ≤ 12)
theorem little_parts {t : T} {m : Int} (h : littleB t m = true) : valB t = true ∧ (sizeT t : Int) ≤ m ∧ depthT t ≤ 12 := by
  simp only [littleB, Bool.and_eq_true, decide_eq_true_eq] at h
  exact ⟨h.1.1, h.1.2, by omega⟩
set_option maxRecDepth 100000 in
set_option maxHeartbeats 2000000 in
theorem little_any (op l : Int) (ks : List T) (m : Int) (a : Option Addr) (c : Nat) (w : World) (hin : InX w op l ks a) :
    Calls Try.prog 13 #[.agg #[.int .i64 op, .int .i64 l, .slice a ks.length c], .int .i64 m] w fun e w' => e = .returned (.bool (littleB (.node op l ks) m)) ∧ Below w.heap.size w w' := by
  have HI := Lib.hid hin
  have DV := Lib.hid (fun W (h : InX W op l ks a) => validR_any op l ks a c W h)
  have DS := Lib.hid (fun (hv : valB (.node op l ks) = true) W (h : InX W op l ks a) => sizeR_any op l ks a c W h (valB_size hv).1)
  have DD := Lib.hid (fun (hv : valB (.node op l ks) = true) W (h : InX W op l ks a) => depthR_any op l ks a c W h (valB_size hv).1)
  obtain ⟨n, hn⟩ : ∃ n, n = ks.length := ⟨_, rfl⟩
  rw [← hn] at DV DS DD ⊢
  have HB0 := Lib.hid ((Below.refl w.heap.size w).alloc (Nat.le_refl _) (.cells #[.int .i64 op, .int .i64 l, .slice a n c] 24))
  have HX0 := Lib.hid (HI.out.box (.cells #[.int .i64 op, .int .i64 l, .slice a n c] 24))
  have BX0 := Lib.hid (Box.new w (.int .i64 op) (.int .i64 l) (.slice a n c))
  clear hn hin
  cases hv : valB (.node op l ks)
  · have HF := Lib.hid (show littleB (.node op l ks) m = false by simp [littleB, hv])
    have HV := Lib.hid hv
    clear hv
    go_enter Try.func13, Try.ntmps13
    go_wp2_with fail
    refine (DV.out _ HX0.out).mono ?_
    rintro e w1 ⟨rfl, hB⟩
    rw [HV.out]
    have HB1 := Lib.hid (HB0.out.trans (hB.mono (by simp)))
    clear hB
    go_wp2_with fail
    go_ret
    exact ⟨by rw [HF.out]; rfl, HB1.out⟩
  · have DSY := Lib.hid (DS.out hv)
    have DDY := Lib.hid (DD.out hv)
    have HV := Lib.hid hv
    obtain ⟨s, hs⟩ : ∃ s : Int, s = (sizeT (.node op l ks) : Nat) := ⟨_, rfl⟩
    obtain ⟨d, hd⟩ : ∃ d : Int, d = (depthT (.node op l ks) : Nat) := ⟨_, rfl⟩
    have hF : littleB (.node op l ks) m = (decide (s ≤ m) && decide (d ≤ 12)) := by rw [littleB, hv, hs, hd]; rfl
    rw [← hs] at DSY
    rw [← hd] at DDY
    clear hv hs hd DS DD
    by_cases h1 : s ≤ m
    · by_cases h2 : d ≤ 12
      · have HF := Lib.hid (show littleB (.node op l ks) m = true by rw [hF]; simp [h1, h2])
        clear hF
        go_enter Try.func13, Try.ntmps13
        go_wp2_with fail
        refine (DV.out _ HX0.out).mono ?_
        rintro e w1 ⟨rfl, hB⟩
        rw [HV.out]
        have HB1 := Lib.hid (HB0.out.trans (hB.mono (by simp)))
        have HX1 := Lib.hid (HX0.out.keep hB)
        have BX1 := Lib.hid (BX0.out.keep hB)
        obtain ⟨p0, p1, p2⟩ := BX1.out
        clear hB
        go_wp2_with fail
        refine (DSY.out _ HX1.out).mono ?_
        rintro e w2 ⟨rfl, hB⟩
        have HB2 := Lib.hid (HB1.out.trans (hB.mono HB1.out.size))
        have HX2 := Lib.hid (HX1.out.keep hB)
        clear p0 p1 p2
        obtain ⟨p0, p1, p2⟩ := BX1.out.keep hB
        clear hB
        go_wp2_with fail
        refine (DDY.out _ HX2.out).mono ?_
        rintro e w3 ⟨rfl, hB⟩
        have HB3 := Lib.hid (HB2.out.trans (hB.mono HB2.out.size))
        clear hB
        go_wp2_with fail
        go_ret
        exact ⟨by rw [HF.out]; rfl, HB3.out⟩
      · have HF := Lib.hid (show littleB (.node op l ks) m = false by rw [hF]; simp [h2])
        have h2' : decide (d ≤ 12) = false := by simp; omega
        clear hF
        go_enter Try.func13, Try.ntmps13
        go_wp2_with fail
        refine (DV.out _ HX0.out).mono ?_
        rintro e w1 ⟨rfl, hB⟩
        rw [HV.out]
        have HB1 := Lib.hid (HB0.out.trans (hB.mono (by simp)))
        have HX1 := Lib.hid (HX0.out.keep hB)
        have BX1 := Lib.hid (BX0.out.keep hB)
        obtain ⟨p0, p1, p2⟩ := BX1.out
        clear hB
        go_wp2_with fail
        refine (DSY.out _ HX1.out).mono ?_
        rintro e w2 ⟨rfl, hB⟩
        have HB2 := Lib.hid (HB1.out.trans (hB.mono HB1.out.size))
        have HX2 := Lib.hid (HX1.out.keep hB)
        clear p0 p1 p2
        obtain ⟨p0, p1, p2⟩ := BX1.out.keep hB
        clear hB
        go_wp2_with fail
        refine (DDY.out _ HX2.out).mono ?_
        rintro e w3 ⟨rfl, hB⟩
        have HB3 := Lib.hid (HB2.out.trans (hB.mono HB2.out.size))
        clear hB
        go_wp2_with fail
        go_ret
        exact ⟨by rw [HF.out]; rfl, HB3.out⟩
    · have HF := Lib.hid (show littleB (.node op l ks) m = false by rw [hF]; simp [h1])
      have h1' : decide (s ≤ m) = false := by simp; omega
      clear hF
      go_enter Try.func13, Try.ntmps13
      go_wp2_with fail
      refine (DV.out _ HX0.out).mono ?_
      rintro e w1 ⟨rfl, hB⟩
      rw [HV.out]
      have HB1 := Lib.hid (HB0.out.trans (hB.mono (by simp)))
      have HX1 := Lib.hid (HX0.out.keep hB)
      have BX1 := Lib.hid (BX0.out.keep hB)
      obtain ⟨p0, p1, p2⟩ := BX1.out
      clear hB
      go_wp2_with fail
      refine (DSY.out _ HX1.out).mono ?_
      rintro e w2 ⟨rfl, hB⟩
      have HB2 := Lib.hid (HB1.out.trans (hB.mono HB1.out.size))
      clear hB
      go_wp2_with fail
      go_ret
      exact ⟨by rw [HF.out]; rfl, HB2.out⟩
theorem enc_at : ∀ (l : List Ex) (i r : Nat) (hi : i < l.length) (hr : r < 3), (l.flatMap Ex.enc)[i * 3 + r]? = some ((l[i].enc)[r]'hr) := by
  intro l
  induction l with
  | nil => intro i r hi; simp at hi
  | cons a l ih =>
    intro i r hi hr
    simp only [List.flatMap_cons]
    have h3 : a.enc.length = 3 := rfl
    cases i with
    | zero => rw [List.getElem?_append_left (by omega), Nat.zero_mul, Nat.zero_add, List.getElem?_eq_getElem (by omega)]; rfl
    | succ j =>
      rw [List.getElem?_append_right (by omega), h3, show (j + 1) * 3 + r - 3 = j * 3 + r by omega, ih j r (by simpa using hi) hr]
      rfl
/-- a block that was written at once -/
theorem inK_block {w : World} {g : Nat} {xs : List Ex} {e : TypeId} (hb : w.heap[g]? = some (.cells (xs.flatMap Ex.enc).toArray e (0, 0))) (hx : ∀ x, x ∈ xs → InX w x.op x.l x.ks x.a) : InK w (some ⟨g, 0, none⟩) (xs.map Ex.t) := by
  have key : ∀ i r (hi : i < xs.length) (hr : r < 3), w.cell? ⟨g, i * 3 + r, none⟩ = some ((xs[i].enc)[r]'hr) := fun i r hi hr => by
    have h := enc_at xs i r hi hr
    simp only [World.cell?, hb]
    simpa using h
  refine .row g 0 _ (fun i => (xs[i]?.getD ⟨0, 0, [], none, 0⟩).a) (fun i => (xs[i]?.getD ⟨0, 0, [], none, 0⟩).c) (Array.getElem?_eq_some_iff.1 hb).1 (fun i k hk => ?_) (fun i k hk => ?_) (fun i k hk => ?_)
  all_goals
    have hi : i < xs.length := by have := (List.getElem?_eq_some_iff.1 hk).1; simpa using this
    have e : xs[i]?.getD ⟨0, 0, [], none, 0⟩ = xs[i] := by simp [hi]
    obtain rfl : xs[i].t = k := by simpa [hi] using hk
    try rw [e]
  · simp only [Nat.zero_add]
    exact ⟨key i 0 hi (by omega), key i 1 hi (by omega), key i 2 hi (by omega)⟩
  · have := hx xs[i] (List.getElem_mem hi)
    exact ⟨this.2.1, this.2.2.1, this.2.2.2⟩
  · exact (hx xs[i] (List.getElem_mem hi)).1
theorem val_list {op : Int} (hop : op = 4 ∨ op = 5 ∨ op = 6) {ts : List T} (hl : 2 ≤ ts.length) (hs : sizeL ts ≤ 399) (hd : depthL ts ≤ 39) (hw : ∀ t, t ∈ ts → wfT 6 t = true) : valB (.node op 0 ts) = true := by
  simp only [valB, withinB, Bool.and_eq_true, decide_eq_true_eq]
  refine ⟨⟨by simp only [sizeT]; omega, by simp only [depthT]; omega⟩, wfT_node.2 ⟨?_, ?_, hw⟩⟩
  · rcases hop with rfl | rfl | rfl <;> simp [kidsOk, hl]
  · rcases hop with rfl | rfl | rfl <;> simp [letOk]
/-- Normal of a list whose kids lie in one block -/
theorem nrm_list {W : World} {op ro rl : Int} {rk : List T} (hop : op = 4 ∨ op = 5 ∨ op = 6) (xs : List Ex) (hv : valB (.node op 0 (xs.map Ex.t)) = true) (hr : nrmT (.node op 0 (xs.map Ex.t)) = .node ro rl rk) (g n c rn : Nat) (hn : n = xs.length) (hrn : rn = rk.length) (hb : W.heap[g]? = some (.cells (xs.flatMap Ex.enc).toArray 24 (0, 0))) (hx : ∀ x, x ∈ xs → InX W x.op x.l x.ks x.a) :
    Calls Try.prog 6 #[.agg #[.int .i64 op, .int .i64 0, .slice (some ⟨g, 0, none⟩) n c]] W fun e w' => ∃ a c, e = .returned (.agg #[.int .i64 ro, .int .i64 rl, .slice a rn c]) ∧ InX w' ro rl rk a ∧ Below W.heap.size W w' := by
  subst hn hrn
  have hlen : xs.length ≤ 400 := by
    have h1 := (valB_size hv).1
    simp only [sizeT] at h1
    have h2 := sizeL_len (xs.map Ex.t)
    rw [List.length_map] at h2
    omega
  have h := normalP_yes op 0 (xs.map Ex.t) (some ⟨g, 0, none⟩) c W ⟨inK_block hb hx, by unfold B64; omega, by unfold B64; omega, by rw [List.length_map]; omega⟩ hv
  rw [hr, List.length_map] at h
  exact h.mono fun e w' h => give_node.1 h
end Go.Proofs.Ythmdndondlffeaa
