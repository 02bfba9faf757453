/- Rows of counts; contracts: add, longer. -/
import Derived.Test.YtdoifdpmgmlpdaaNfaW
import Derived.Test.YtdoifdpmgmlpdaaNfaE
import Derived.Lib.MinMax
namespace Go.Proofs.Ytdoifdpmgmlpdaa
open Go Go.RowKit
set_option linter.unusedVariables false
def rowC (n : Nat) (f : Nat → Nat) : List Value := (List.range n).map fun t => Value.int .i64 (f t : Int)
theorem rowC_length (n : Nat) (f : Nat → Nat) : (rowC n f).length = n := by simp [rowC]
theorem rowC_get {n : Nat} {f : Nat → Nat} {j : Nat} (h : j < n) : (rowC n f)[j]? = some (Value.int .i64 (f j : Int)) := by simp [rowC, h]
theorem rowC_congr {n : Nat} {f g : Nat → Nat} (h : ∀ t, t < n → f t = g t) : rowC n f = rowC n g := by
  apply List.ext_getElem?
  intro j
  by_cases hj : j < n
  · rw [rowC_get hj, rowC_get hj, h j hj]
  · rw [List.getElem?_eq_none (by rw [rowC_length]; omega), List.getElem?_eq_none (by rw [rowC_length]; omega)]
theorem rowC_set {n : Nat} {f : Nat → Nat} {j x : Nat} : (rowC n f).set j (.int .i64 (x : Int)) = rowC n fun t => if t = j then x else f t := by
  apply List.ext_getElem?
  intro k
  rw [List.getElem?_set]
  by_cases hk : k < n
  · rw [rowC_get hk, rowC_get hk]
    by_cases e : j = k
    · subst e; simp [rowC_length, hk]
    · rw [if_neg e, if_neg (Ne.symm e)]
  · rw [List.getElem?_eq_none (by rw [rowC_length]; omega), List.getElem?_eq_none (by rw [rowC_length]; omega), rowC_length]
    simp
    omega
theorem rowC_made (n : Nat) : (madeCells #[Value.int .i64 0] n).toList = rowC n fun _ => 0 := by
  rw [toList_madeCells_one]
  apply List.ext_getElem?
  intro k
  by_cases hk : k < n
  · rw [rowC_get hk]; simp [hk]
  · rw [List.getElem?_eq_none (by simp; omega), List.getElem?_eq_none (by rw [rowC_length]; omega)]
def ownsC (w : World) (base g n : Nat) (f : Nat → Nat) : Prop := w.ownsRow base 3 1 (.slice (some ⟨g, 0, none⟩) n n) n (rowC n f)
theorem ownsC.cell {w : World} {base g n : Nat} {f : Nat → Nat} (h : ownsC w base g n f) {j : Nat} (hj : j < n) : w.cell? ⟨g, j, none⟩ = some (.int .i64 (f j : Int)) := by
  rw [World.ownsRow.cellAt h j (by omega), rowC_get hj]
theorem ownsC.free {w : World} {base g n : Nat} {f : Nat → Nat} (h : ownsC w base g n f) (j : Nat) : w.frozen? ⟨g, j, none⟩ = false := World.ownsRow.frozenAt h j
theorem ownsC.congr {w : World} {base g n : Nat} {f f' : Nat → Nat} (h : ownsC w base g n f) (hf : ∀ t, t < n → f t = f' t) : ownsC w base g n f' := by
  unfold ownsC at h ⊢
  rwa [← rowC_congr hf]
theorem ownsC.drew {w : World} {base g n : Nat} {f : Nat → Nat} (h : ownsC w base g n f) : ownsC w.drew base g n f := h
theorem ownsC.set {w : World} {base g n : Nat} {f : Nat → Nat} (h : ownsC w base g n f) (j x : Nat) : ownsC (w.setCell ⟨g, j, none⟩ (.int .i64 (x : Int))) base g n (fun t => if t = j then x else f t) := by
  have := (World.ownsRow.stored h j (.int .i64 (x : Int))).1
  unfold ownsC
  rwa [rowC_set] at this
theorem ownsC.keep {w w' : World} {base g n : Nat} {f : Nat → Nat} (h : ownsC w base g n f) (hb : Below w.heap.size w w') : ownsC w' base g n f := rel.ownsRow_keep h hb
theorem ownsC.lt {w : World} {base g n : Nat} {f : Nat → Nat} (h : ownsC w base g n f) : base ≤ g ∧ g < w.heap.size := World.ownsRow.lt h g rfl
theorem ownsC.made {w : World} {base g n : Nat} (h : w.ownsRow base 3 1 (.slice (some ⟨g, 0, none⟩) n n) n (madeCells #[Value.int .i64 0] n).toList) : ownsC w base g n (fun _ => 0) := by
  unfold ownsC; rw [← rowC_made]; exact h
theorem infoInt : (Try.prog.info? 3).map (fun i => (i.zero, i.size, i.bytes)) = some (some (.int .i64 0), 1, 8) := by kernel_rfl
/-- at a lie the counts f, all at most 2^31 -/
def RowC (w : World) (a : Option Addr) (n : Nat) (f : Nat → Nat) : Prop :=
  n = 0 ∨ ∃ b, a = some ⟨b, 0, none⟩ ∧ b < w.heap.size ∧ ∀ i, i < n → w.cell? ⟨b, i, none⟩ = some (.int .i64 (f i : Int)) ∧ f i ≤ 2147483648
theorem RowC.keep {w w' : World} {a : Option Addr} {n : Nat} {f : Nat → Nat} (h : RowC w a n f) (hb : Below w.heap.size w w') : RowC w' a n f := by
  rcases h with h | ⟨b, rfl, hl, hc⟩
  · exact .inl h
  · exact .inr ⟨b, rfl, Nat.lt_of_lt_of_le hl hb.size, fun i hi => ⟨by rw [hb.cell (p := ⟨b, i, none⟩) hl]; exact (hc i hi).1, (hc i hi).2⟩⟩
theorem ownsC.row {w : World} {base g n : Nat} {f : Nat → Nat} (h : ownsC w base g n f) (hf : ∀ i, i < n → f i ≤ 2147483648) : RowC w (some ⟨g, 0, none⟩) n f := by
  by_cases h0 : n = 0
  · exact .inl h0
  · exact .inr ⟨g, rfl, h.lt.2, fun i hi => ⟨h.cell hi, hf i hi⟩⟩
set_option maxRecDepth 100000 in
set_option maxHeartbeats 1000000 in
theorem add_any (x y : Nat) (w : World) (hx : x ≤ 2147483648) (hy : y ≤ 2147483648) :
    Calls Try.prog 42 #[.int .i64 x, .int .i64 y] w fun e w' => e = .returned (.int .i64 (satR (x + y) : Nat)) ∧ w = w' := by
  have hm : min ((x : Int) + (y : Int)) 2147483648 = ((satR (x + y) : Nat) : Int) := by unfold satR; omega
  obtain ⟨z, hz⟩ : ∃ z, z = satR (x + y) := ⟨_, rfl⟩
  rw [← hz] at hm ⊢
  clear hz
  go_enter Try.func42, Try.ntmps42
  go_wp2_with fail
  go_ret
  first | exact ⟨rfl, rfl⟩ | exact ⟨by rw [hm], rfl⟩
theorem longE_no {c acc : Nat → Nat} {x : Int} {e : Ed} (h : e.l ≠ x) : longE c x acc e = acc := by simp [longE, h]
theorem longE_yes {c acc : Nat → Nat} {x : Int} {e : Ed} (h : e.l = x) (q : Nat) : longE c x acc e q = if q = e.t.toNat then satR (acc q + c e.f.toNat) else acc q := by simp [longE, h]
set_option maxRecDepth 100000 in
set_option maxHeartbeats 4000000 in
theorem longer_any (L : Int) (m st fi : Nat) (es : List Ed) (a : Option Addr) (c : Nat) (a2 : Option Addr) (cc : Nat → Nat) (x : Int) (w : World) (hin : InN w L (m : Int) st fi a es) (hto : ToB m es) (hm : m ≤ 64) (hrow : RowC w a2 m cc) :
    Calls Try.prog 41 #[.agg #[.int .i64 L, .int .i64 (m : Int), .int .u64 st, .int .u64 fi, .slice a es.length c], .slice a2 m m, .int .i64 x] w fun e w' => ∃ a3, e = .returned (.slice a3 m m) ∧ RowC w' a3 m (longL es cc x) ∧ Below w.heap.size w w' := by
  obtain ⟨i0, hi0, hz0, hz1, hz2⟩ := info_parts infoInt
  have hlen := hin.2.2.2.2.2
  have HI := Lib.hid hin
  have HTO := Lib.hid hto
  have HRW := Lib.hid hrow
  obtain ⟨n, hn⟩ : ∃ n, n = es.length := ⟨_, rfl⟩
  have HN := Lib.hid hn
  rw [← hn] at hlen ⊢
  have HB0 := Lib.hid ((Below.refl w.heap.size w).alloc (Nat.le_refl _) (.cells #[.int .i64 L, .int .i64 (m : Int), .int .u64 st, .int .u64 fi, .slice a n c] 25))
  obtain ⟨z0, z1, z2, z3, z4⟩ := (nbox_cells (Below.refl (w.heap.size + 1) (w.alloc (.cells #[.int .i64 L, .int .i64 (m : Int), .int .u64 st, .int .u64 fi, .slice a n c] 25))))
  clear hin hn hto hrow
  go_enter Try.func41, Try.ntmps41
  go_wp2_with (refine wpList_make_full _ rfl _ _ 54 rfl w.heap.size 3 i0 (.int .i64 0) 1 Try.underlying54 hi0 hz0 hz1 .i64 .i64 _ _ m rfl rfl (by simp) (by simp) ?c1 ?c2 ?c3 ?_)
  case c1 => rw [hz2]; omega
  case c2 => unfold maxLen; omega
  case c3 => simp
  intro w1 hown0 hg1
  have HO := Lib.hid (ownsC.made hown0)
  have hgw : Below (w.heap.size + 1) (w.alloc (.cells #[.int .i64 L, .int .i64 (m : Int), .int .u64 st, .int .u64 fi, .slice a n c] 25)) w1 := (Below.refl _ _).grown hg1 (by simp) (by intro k hk; cases hk)
  have HB1 := Lib.hid hgw
  clear z0 z1 z2 z3 z4
  obtain ⟨z0, z1, z2, z3, z4⟩ := nbox_cells hgw
  clear hown0 hg1 hgw
  go_wp2_with fail
  go_loopw [16] (fun vi wr => ∃ i : Nat, i ≤ n ∧ vi = .int .i64 i ∧ ownsC wr w.heap.size (w.heap.size + 1) m (longL (es.take i) cc x) ∧ Below (w.heap.size + 1) (w.alloc (.cells #[.int .i64 L, .int .i64 (m : Int), .int .u64 st, .int .u64 fi, .slice a n c] 25)) wr) (fun vi _ => n - (intOf vi).toNat)
  case atStart => exact ⟨0, Nat.zero_le _, rfl, HO.out, HB1.out⟩
  case round =>
    rename World => wA
    obtain ⟨i, hi, rfl, ho, hb⟩ := hrel
    have HOA := Lib.hid ho
    have HB := Lib.hid hb
    by_cases hlt : i < n
    · have hle : i < es.length := by rw [← HN.out]; exact hlt
      have HIN := Lib.hid ((HI.out.1.keep ((Below.refl _ w).alloc (Nat.le_refl _) (.cells #[.int .i64 L, .int .i64 (m : Int), .int .u64 st, .int .u64 fi, .slice a n c] 25))).keep (hb.mono (by simp)))
      obtain ⟨b, off, rfl, hbz, c1, c2, c3, g1, g2, g3⟩ := HIN.out.at hle
      obtain ⟨k1, k2, k3, k4⟩ := HTO.out.at hle
      have hi0' : (0 : Int) ≤ (i : Int) := by omega
      have hin2 : (i : Int) < (n : Int) := by omega
      have hwi : IntKind.i64.wrap (i : Int) = (i : Int) := IntWalk.i64_in _ (by omega)
      have HST := Lib.hid (longL_take (c := cc) (x := x) hle)
      obtain ⟨e, he⟩ : ∃ e, e = es.getD i noE := ⟨_, rfl⟩
      rw [← he] at c1 c2 c3 g1 g2 g3 k1 k2 k3 k4 HST
      clear he hle
      obtain ⟨ef, el, et⟩ := e
      dsimp only at c1 c2 c3 g1 g2 g3 k1 k2 k3 k4 HST
      obtain ⟨fn, rfl⟩ : ∃ q : Nat, ef = (q : Int) := ⟨ef.toNat, by omega⟩
      obtain ⟨tn, rfl⟩ : ∃ q : Nat, et = (q : Int) := ⟨et.toNat, by omega⟩
      have hft : fn < m ∧ tn < m := by omega
      have hle31 := @longL_le cc x (es.take i) tn
      have HSN := Lib.hid (show longL (es.take (i + 1)) cc x = longE cc x (longL (es.take i) cc x) ⟨(fn : Int), el, (tn : Int)⟩ from HST.out)
      obtain ⟨cur, hc⟩ : ∃ q, q = longL (es.take i) cc x := ⟨_, rfl⟩
      rw [← hc] at hle31 HSN HOA
      have HOB := Lib.hid (HOA.out.keep ((Below.refl _ wA).alloc (Nat.le_refl _) (.cells #[.int .i64 fn, .int .i64 el, .int .i64 tn] 44)))
      have HB1' := Lib.hid (hb.alloc (by have := hb.size; simp at this; omega) (.cells #[.int .i64 fn, .int .i64 el, .int .i64 tn] 44))
      clear hc k1 k2 k3 k4 ho
      by_cases hx : el = x
      · rcases (HRW.out.keep HB0.out).keep (hb.mono (by simp)) with h0 | ⟨b2, rfl, hb2, hc2⟩
        · omega
        have hcf0 := (hc2 fn hft.1).1
        have hc31 := (hc2 fn hft.1).2
        have hcf : (World.alloc wA (.cells #[.int .i64 fn, .int .i64 el, .int .i64 tn] 44)).cell? ⟨b2, fn, none⟩ = some (.int .i64 (cc fn : Int)) := by rw [cell_alloc_lt hb2]; exact hcf0
        have hct := HOB.out.cell hft.2
        have hfz := HOB.out.free tn
        have hADD := Lib.hid (fun W => add_any (cur tn) (cc fn) W hle31 hc31)
        obtain ⟨z, hz⟩ : ∃ z, z = satR (cur tn + cc fn) := ⟨_, rfl⟩
        have HX := Lib.hid (show ∀ t, t < m → (if t = tn then z else cur t) = longE cc x cur ⟨(fn : Int), el, (tn : Int)⟩ t from fun t _ => by
          rw [longE_yes hx, hz]
          simp only [Int.toNat_natCast]
          by_cases e1 : t = tn
          · subst e1; rfl
          · rw [if_neg e1, if_neg e1])
        rw [← hz] at hADD
        obtain ⟨u1, hu1⟩ : ∃ u, u = cur tn := ⟨_, rfl⟩
        obtain ⟨u2, hu2⟩ : ∃ u, u = cc fn := ⟨_, rfl⟩
        rw [← hu1] at hct hADD
        rw [← hu2] at hcf hADD
        have j1 : (0 : Int) ≤ (fn : Int) := by omega
        have j2 : (fn : Int) < (m : Int) := by omega
        have j3 : IntKind.i64.wrap (fn : Int) = (fn : Int) := IntWalk.i64_in _ (by omega)
        have j4 : (0 : Int) ≤ (tn : Int) := by omega
        have j5 : (tn : Int) < (m : Int) := by omega
        have j6 : IntKind.i64.wrap (tn : Int) = (tn : Int) := IntWalk.i64_in _ (by omega)
        have x0 : (World.alloc wA (.cells #[.int .i64 fn, .int .i64 el, .int .i64 tn] 44)).cell? ⟨wA.heap.size, 0, none⟩ = some (.int .i64 fn) := by simp [go_sem]
        have x1 : (World.alloc wA (.cells #[.int .i64 fn, .int .i64 el, .int .i64 tn] 44)).cell? ⟨wA.heap.size, 1, none⟩ = some (.int .i64 el) := by simp [go_sem]
        have x2 : (World.alloc wA (.cells #[.int .i64 fn, .int .i64 el, .int .i64 tn] 44)).cell? ⟨wA.heap.size, 2, none⟩ = some (.int .i64 tn) := by simp [go_sem]
        subst hx
        clear hb hc2 hcf0 hz hu1 hu2 hle31 hc31 hb2
        go_wp2_with fail
        generalize World.alloc wA (.cells #[.int .i64 fn, .int .i64 el, .int .i64 tn] 44) = wB at *
        refine wp_region_still_tail 15 (by kernel_rfl) (by kernel_rfl) ?_
        simp only [List.take_succ_cons, List.take_zero, List.drop_succ_cons, List.drop_zero]
        repeat still_step
        still_call ((hADD.out _).mono fun e w' ⟨h1, h2⟩ => ⟨h1, h2.symm⟩)
        repeat still_step
        refine wpStill_nil ?_
        change wpList _ _ _ _ _ wB.drew
        go_wp2_with fail
        exact ⟨⟨i + 1, by omega, by go_num, by rw [HSN.out]; exact (ownsC.set HOB.out.drew tn z).congr HX.out, HB1'.out.drew.setCell (by simp) _⟩, by simp [intOf]; omega⟩
      · have HF := Lib.hid (longE_no (c := cc) (acc := cur) (e := ⟨(fn : Int), el, (tn : Int)⟩) hx)
        have tx : (el == x) = false := by simpa using hx
        clear hx hb
        go_wp2_with fail
        exact ⟨⟨i + 1, by omega, by go_num, by rw [HSN.out, HF.out]; exact HOB.out, HB1'.out⟩, by simp [intOf]; omega⟩
    · obtain rfl : i = n := by omega
      have hE : es.take i = es := by rw [HN.out, List.take_length]
      rw [hE] at HOA
      have HR := Lib.hid (HOA.out.row fun j _ => longL_le es j)
      clear ho hb hE
      go_wp2_with fail
      go_ret
      exact ⟨_, rfl, HR.out, below_nbox HB.out⟩
end Go.Proofs.Ytdoifdpmgmlpdaa
