/- Contracts: OnesCount64 (0 to 127), Members, the reference's Members, same. -/
import Derived.Test.YtdoifdpmgmlpdaaRelA
import Derived.Laws.Bits128
import Derived.RegionTactic
namespace Go.Proofs.Ytdoifdpmgmlpdaa.rel
open Go Go.RowKit
set_option maxRecDepth 100000
set_option linter.unusedVariables false

theorem infoI : (Try.prog.info? 3).map (fun i => (i.zero, i.size, i.bytes)) = some (some (.int .i64 0), 1, 8) := by kernel_rfl

/-- a small number -/
def Cnt (w : World) (e : Ending) (w' : World) : Prop := ∃ q : Nat, q ≤ 127 ∧ e = .returned (.int .i64 (q : Int)) ∧ w = w'
theorem cnt_mod (X : Int) (w : World) : Cnt w (.returned (.int .i64 (X % 128))) w :=
  ⟨(X % 128).toNat, by omega, by rw [Int.toNat_of_nonneg (by omega)], rfl⟩
theorem cnt_bits (X : Int) (w : World) : Cnt w (.returned (.int .i64 (bits .and .i64 X 127))) w := by
  rw [i64_and127]; exact cnt_mod X w
set_option maxRecDepth 100000 in
set_option maxHeartbeats 1000000 in
theorem ones_any (x : Nat) (w : World) (hx : x < 18446744073709551616) :
    Calls Try.prog 59 #[.int .u64 x] w (Cnt w) := by
  go_enter Try.func59, Try.ntmps59
  go_wp2_with fail
  go_ret
  first | exact cnt_bits _ _ | exact cnt_mod _ _

/-! ### lists of numbers -/
def rowI (l : List Nat) : List Value := l.map fun (x : Nat) => Value.int .i64 (x : Int)
theorem rowI_get {l : List Nat} {i x : Nat} (h : l[i]? = some x) : (rowI l)[i]? = some (.int .i64 (x : Int)) := by simp [rowI, h]
/-- at a there are the numbers of l -/
def RowL (w : World) (a : Option Addr) (l : List Nat) : Prop :=
  l = [] ∨ ∃ b off, a = some ⟨b, off, none⟩ ∧ b < w.heap.size ∧ ∀ i x : Nat, l[i]? = some x → w.cell? ⟨b, off + i, none⟩ = some (.int .i64 (x : Int))
theorem RowL.keep {w w' : World} {a : Option Addr} {l : List Nat} (h : RowL w a l) (hb : Below w.heap.size w w') : RowL w' a l := by
  rcases h with h | ⟨b, off, rfl, hl, hc⟩
  · exact .inl h
  · exact .inr ⟨b, off, rfl, Nat.lt_of_lt_of_le hl hb.size, fun i x hi => by rw [hb.cell (p := ⟨b, off + i, none⟩) hl]; exact hc i x hi⟩
theorem RowL.of_own {w : World} {base : Nat} {e : TypeId} {v : Value} {l : List Nat} (h : w.ownsRow base e 1 v l.length (rowI l)) : ∃ a c, v = .slice a l.length c ∧ RowL w a l := by
  rcases h.2 with ⟨rfl, h0⟩ | ⟨g, cap, cur, rfl, hg, hh, _⟩
  · rw [h0]; exact ⟨none, 0, rfl, .inl (List.length_eq_zero_iff.1 h0)⟩
  · refine ⟨_, _, rfl, ?_⟩
    by_cases h0 : l = []
    · exact .inl h0
    · have hpos : 0 < l.length := List.length_pos_iff.2 h0
      have key : ∀ i x : Nat, l[i]? = some x → w.cell? ⟨g, 0 + i, none⟩ = some (.int .i64 (x : Int)) := by
        intro i x hi
        have hlt : i < l.length := by
          apply Nat.lt_of_not_le; intro hle; rw [List.getElem?_eq_none hle] at hi; cases hi
        rw [Nat.zero_add, World.ownsRow.cellAt h i (by omega), rowI_get hi]
      exact .inr ⟨g, 0, rfl, cell_lt (s := none) (by have := key 0 (l[0]) (by simp); rw [Nat.zero_add] at this; exact this), key⟩
/-- the call returns a slice that reads as the numbers of l, and leaves what was there -/
def GivesL (w : World) (l : List Nat) (e : Ending) (w' : World) : Prop :=
  ∃ (r : Option Addr) (c : Nat), e = .returned (.slice r l.length c) ∧ RowL w' r l ∧ Below w.heap.size w w'

theorem ownsRow_keep {w w' : World} {base size n : Nat} {e : TypeId} {v : Value} {xs : List Value} (h : w.ownsRow base e size v n xs) (hb : Below w.heap.size w w') : w'.ownsRow base e size v n xs := by
  obtain ⟨h1, h2⟩ := h
  refine ⟨h1, ?_⟩
  rcases h2 with h2 | ⟨g, cap, cur, hv, hg, hh, r⟩
  · exact Or.inl h2
  · have hlt : g < w.heap.size := by
      apply Nat.lt_of_not_le; intro hle
      rw [Array.getElem?_eq_none hle] at hh; cases hh
    exact Or.inr ⟨g, cap, cur, hv, hg, by rw [hb.block g hlt]; exact hh, r⟩
/-- the same, and the slice is a new one -/
def GivesM (w : World) (l : List Nat) (e : Ending) (w' : World) : Prop :=
  ∃ (r : Option Addr) (c : Nat), e = .returned (.slice r l.length c) ∧ RowL w' r l ∧ Below w.heap.size w w' ∧ ∀ x, r = some x → w.heap.size ≤ x.block
theorem RowL.setCell {w : World} {a : Option Addr} {l : List Nat} (h : RowL w a l) (p : Addr) (v : Value) (hne : ∀ x, a = some x → x.block ≠ p.block) : RowL (w.setCell p v) a l := by
  rcases h with h | ⟨b, off, rfl, hl, hc⟩
  · exact .inl h
  · exact .inr ⟨b, off, rfl, by simpa [World.setCell] using hl, fun i x hi => by
      rw [World.cell?_of_block (w := w) (Below.heap_setCell w p v b (hne _ rfl))]; exact hc i x hi⟩
/-- the bits of s below k, in ascending order -/
def mem (s k : Nat) : List Nat := (List.range k).filter fun i => s.testBit i
theorem mem_yes {s k : Nat} (h : s.testBit k = true) : mem s (k + 1) = mem s k ++ [k] := by simp [mem, List.range_succ, List.filter_append, h]
theorem mem_no {s k : Nat} (h : s.testBit k = false) : mem s (k + 1) = mem s k := by simp [mem, List.range_succ, List.filter_append, h]
theorem mem_len (s k : Nat) : (mem s k).length ≤ k := by
  have := List.length_filter_le (fun i => s.testBit i) (List.range k)
  simpa [mem] using this
theorem own_snoc {w : World} {base : Nat} {e : TypeId} {v : Value} {l l' : List Nat} {k : Nat} (hl : l' = l ++ [k]) (h : w.ownsRow base e 1 v (l.length + 1) (rowI l ++ [.int .i64 (k : Int)])) : w.ownsRow base e 1 v l'.length (rowI l') := by
  subst hl
  simpa [rowI] using h

theorem cell_new (w : World) (u : Value) (e : TypeId) : ∀ j x, ([u] : List Value)[j]? = some x → (w.alloc (.cells #[u] e)).cell? ((⟨w.heap.size, 0, none⟩ : Addr).add j) = some x := by
  intro j x h
  have h0 : j = 0 := by
    cases j with
    | zero => rfl
    | succ j => simp at h
  subst h0
  have := World.ownsRow_lit (base := 0) (e := e) (size := 1) w #[u] 1 (Nat.zero_le _) (by unfold maxLen; omega) rfl
  have hc := World.ownsRow.cellAt this 0 (by omega)
  simpa [Addr.add] using hc.trans h

set_option maxRecDepth 100000 in
set_option maxHeartbeats 1000000 in
/-- relation.Members -/
theorem members_own (s : Nat) (w : World) (hs : s < 18446744073709551616) :
    Calls Try.prog 40 #[.int .u64 s] w (GivesM w (mem s 64)) := by
  obtain ⟨i0, hi, hz0, hz1, hz2⟩ := info_parts infoI
  go_enter Try.func40, Try.ntmps40
  go_wp2_with fail
  refine (ones_any _ _ hs).mono ?_
  rintro e w' ⟨q, hq, rfl, rfl⟩
  go_wp2_with (refine wpList_make_own _ rfl _ _ 54 rfl w.heap.size 3 i0 (.int .i64 0) 1 Try.underlying54 hi hz0 hz1 .i64 .i64 _ q rfl rfl rfl ?c1 ?c2 ?c3 ?_)
  case c1 => rw [hz2]; omega
  case c2 => unfold maxLen; omega
  case c3 => exact Nat.le_refl _
  intro w1 hown0 hg1
  have hb : Below w.heap.size w w1 := (Below.refl _ w).grown hg1 (Nat.le_refl _) (by intro k hk; cases hk)
  have HO := Lib.hid hown0
  have HB := Lib.hid hb
  clear hown0 hg1 hb
  go_wp2_with fail
  go_loopw [3, 8] (fun v vi wr => ∃ k : Nat, k ≤ 64 ∧ vi = .int .i64 k ∧ wr.ownsRow w.heap.size 3 1 v (mem s k).length (rowI (mem s k)) ∧ Below w.heap.size w wr) (fun _ vi _ => 64 - (intOf vi).toNat)
  case atStart => exact ⟨0, Nat.zero_le _, rfl, HO.out, HB.out⟩
  case round =>
    obtain ⟨k, hk, rfl, ho, hb⟩ := hrel
    have hml := mem_len s k
    have HO2 := Lib.hid ho
    have HB2 := Lib.hid hb
    clear ho hb
    by_cases hlt : k < 64
    · cases ht : s.testBit k
      · have HT := Lib.hid ht
        have HX := Lib.hid (mem_no ht)
        clear ht
        go_wp2_with fail
        refine (has_any s k _ hs (by omega)).mono ?_
        rintro e w' ⟨rfl, rfl⟩
        rw [HT.out]
        go_wp2_with fail
        exact ⟨⟨k + 1, by omega, by go_num, by rw [HX.out]; exact HO2.out, HB2.out⟩, by simp [intOf]; omega⟩
      · have HT := Lib.hid ht
        have HX := Lib.hid (mem_yes ht)
        clear ht
        obtain ⟨ra, rc, rfl, _⟩ := RowL.of_own HO2.out
        go_wp2_with fail
        refine (has_any s k _ hs (by omega)).mono ?_
        rintro e w' ⟨rfl, rfl⟩
        rw [HT.out]
        go_wp2_with (at_builtin; refine wpList_append_own _ rfl _ _ 54 rfl w.heap.size 3 i0 (.int .i64 0) 1 8 Try.underlying54 hi hz0 hz1 hz2 rfl (by decide) _ _ _ rfl (HO2.out.alloc _) ⟨wr.heap.size, 0, none⟩ 1 1 [.int .i64 (k : Int)] rfl rfl (cell_new _ _ _) ?c2 ?c3 ?c4 ?c5 ?_)
        case c2 => simp [Value.oneCell']
        case c3 => unfold maxLen; omega
        case c4 => omega
        case c5 => have := HB2.out.size; simp; omega
        intro v' w2 hown1 hg2 _
        have hb2 : Below w.heap.size w w2 := (HB2.out.alloc HB2.out.size _).grown hg2 (by have := HB2.out.size; simp; omega) (by intro q hq; exact (HO2.out.lt q hq).1)
        have HO3 := Lib.hid (own_snoc HX.out hown1)
        have HB3 := Lib.hid hb2
        clear hg2 hown1 hb2
        go_wp2_with fail
        exact ⟨⟨k + 1, by omega, by go_num, HO3.out, HB3.out⟩, by simp [intOf]; omega⟩
    · obtain rfl : k = 64 := by omega
      obtain ⟨ra, rc, rfl, hrow⟩ := RowL.of_own HO2.out
      have HW := Lib.hid hrow
      have HF := Lib.hid (show ∀ x, ra = some x → w.heap.size ≤ x.block from fun x hx => (HO2.out.lt x.block (by rw [hx]; rfl)).1)
      clear hrow
      go_wp2_with fail
      go_ret
      exact ⟨ra, rc, rfl, HW.out, HB2.out, HF.out⟩
theorem members_any (s : Nat) (w : World) (hs : s < 18446744073709551616) :
    Calls Try.prog 40 #[.int .u64 s] w (GivesL w (mem s 64)) :=
  (members_own s w hs).mono fun _ _ ⟨r, c, h1, h2, h3, _⟩ => ⟨r, c, h1, h2, h3⟩
end Go.Proofs.Ytdoifdpmgmlpdaa.rel
