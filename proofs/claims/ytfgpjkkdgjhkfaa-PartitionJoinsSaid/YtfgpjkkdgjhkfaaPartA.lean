/- Rows of integers; contracts: count, Valid, validPair, validSize, Count. -/
import Derived.Test.YtfgpjkkdgjhkfaaChecked
import Derived.Test.YtfgpjkkdgjhkfaaPartM
import Derived.WalkSpells
import Derived.WalkLawsBesides
import Derived.WalkArith
import Derived.Laws.AppendOwnNone
import Derived.Maps.AppendAt
namespace Go.Proofs.Ytfgpjkkdgjhkfaa
open Go Go.RowKit
set_option linter.unusedVariables false

theorem infoI : (Try.prog.info? 3).map (fun i => (i.zero, i.size, i.bytes)) = some (some (.int .i64 0), 1, 8) := by kernel_rfl
def B64 (x : Int) : Prop := -9223372036854775808 ≤ x ∧ x ≤ 9223372036854775807
theorem B64.wf {x : Int} (h : B64 x) : (Lit.int .i64 x).wf = true := WalkArith.wf_i64 h

/-! ### rows of integers given by a function -/
def rowF (n : Nat) (f : Nat → Int) : List Value := (List.range n).map fun t => Value.int .i64 (f t)
theorem rowF_length (n : Nat) (f : Nat → Int) : (rowF n f).length = n := by simp [rowF]
theorem rowF_get {n : Nat} {f : Nat → Int} {j : Nat} (h : j < n) : (rowF n f)[j]? = some (Value.int .i64 (f j)) := by simp [rowF, h]
theorem rowF_congr {n : Nat} {f g : Nat → Int} (h : ∀ t, t < n → f t = g t) : rowF n f = rowF n g := by
  apply List.ext_getElem?
  intro j
  by_cases hj : j < n
  · rw [rowF_get hj, rowF_get hj, h j hj]
  · rw [List.getElem?_eq_none (by rw [rowF_length]; omega), List.getElem?_eq_none (by rw [rowF_length]; omega)]
theorem rowF_set {n : Nat} {f : Nat → Int} {j : Nat} {x : Int} : (rowF n f).set j (.int .i64 x) = rowF n fun t => if t = j then x else f t := by
  apply List.ext_getElem?
  intro k
  rw [List.getElem?_set]
  by_cases hk : k < n
  · rw [rowF_get hk, rowF_get hk]
    by_cases e : j = k
    · subst e; simp [rowF_length, hk]
    · rw [if_neg e, if_neg (Ne.symm e)]
  · rw [List.getElem?_eq_none (by rw [rowF_length]; omega), List.getElem?_eq_none (by rw [rowF_length]; omega), rowF_length]
    simp
    omega
theorem rowF_made (n : Nat) : (madeCells #[Value.int .i64 0] n).toList = rowF n fun _ => 0 := by
  rw [toList_madeCells_one]
  apply List.ext_getElem?
  intro k
  by_cases hk : k < n
  · rw [rowF_get hk]; simp [hk]
  · rw [List.getElem?_eq_none (by simp; omega), List.getElem?_eq_none (by rw [rowF_length]; omega)]
/-- a row of integers of the call's own -/
def ownsF (w : World) (base g n : Nat) (f : Nat → Int) : Prop := w.ownsRow base 3 1 (.slice (some ⟨g, 0, none⟩) n n) n (rowF n f)
theorem ownsF_cell {w : World} {base g n : Nat} {f : Nat → Int} (h : ownsF w base g n f) {j : Nat} (hj : j < n) : w.cell? ⟨g, j, none⟩ = some (.int .i64 (f j)) := by
  have := World.ownsRow.cellAt h j (by omega)
  rw [this, rowF_get hj]
theorem ownsF_free {w : World} {base g n : Nat} {f : Nat → Int} (h : ownsF w base g n f) (j : Nat) : w.frozen? ⟨g, j, none⟩ = false := World.ownsRow.frozenAt h j
theorem ownsF_congr {w : World} {base g n : Nat} {f f' : Nat → Int} (h : ownsF w base g n f) (hf : ∀ t, t < n → f t = f' t) : ownsF w base g n f' := by
  unfold ownsF at h ⊢
  rwa [← rowF_congr hf]
theorem ownsF_drew {w : World} {base g n : Nat} {f : Nat → Int} (h : ownsF w base g n f) : ownsF w.drew base g n f := h
theorem ownsF_drewN {w : World} {base g n q : Nat} {f : Nat → Int} (h : ownsF w base g n f) : ownsF (w.drewN q) base g n f := h
theorem ownsF_set {w : World} {base g n : Nat} {f : Nat → Int} (h : ownsF w base g n f) (j : Nat) (x : Int) : ownsF (w.setCell ⟨g, j, none⟩ (.int .i64 x)) base g n (fun t => if t = j then x else f t) := by
  have := (World.ownsRow.stored h j (.int .i64 x)).1
  unfold ownsF
  rwa [rowF_set] at this
theorem ownsF_kept {w w' : World} {base g n : Nat} {f : Nat → Int} {row : Option Nat} (h : ownsF w base g n f) (hg : w.grownBy w' row) (hne : some g ≠ row) : ownsF w' base g n f := World.ownsRow.kept h hg (.inr hne)
theorem ownsF_below {w w' : World} {base g n B : Nat} {f : Nat → Int} (h : ownsF w base g n f) (hb : Below B w w') (hg : g < B) : ownsF w' base g n f := by
  refine ⟨h.1, ?_⟩
  rcases h.2 with ⟨h1, h2⟩ | ⟨g', cap, cur, he, h1, h2, h3⟩
  · cases h1
  · have : g = g' := by injection he with e1; injection e1 with e2; injection e2
    subst this
    exact .inr ⟨g, cap, cur, he, h1, by rw [hb.block g hg]; exact h2, h3⟩
theorem ownsF_lt {w : World} {base g n : Nat} {f : Nat → Int} (h : ownsF w base g n f) : base ≤ g ∧ g < w.heap.size := World.ownsRow.lt h g rfl
/-- the first k entries are f's, the others z -/
def upG (k : Nat) (z : Int) (f : Nat → Int) (t : Nat) : Int := if t < k then f t else z
theorem upG_zero (z : Int) (f : Nat → Int) (t : Nat) : upG 0 z f t = z := by simp [upG]
theorem upG_all {n : Nat} {z : Int} {f : Nat → Int} {t : Nat} (h : t < n) : upG n z f t = f t := by simp [upG, h]
theorem ownsF_up {w : World} {base g n : Nat} {k : Nat} {z x : Int} {f : Nat → Int} (ho : ownsF w base g n (upG k z f)) (hx : x = f k) : ownsF (w.setCell ⟨g, k, none⟩ (.int .i64 x)) base g n (upG (k + 1) z f) := by
  refine ownsF_congr (ownsF_set ho k x) fun t ht => ?_
  unfold upG
  by_cases et : t = k
  · subst et; rw [if_pos rfl, if_pos (by omega), hx]
  · rw [if_neg et]
    by_cases h2 : t < k
    · rw [if_pos h2, if_pos (by omega)]
    · rw [if_neg h2, if_neg (by omega)]

theorem below_drewN {B : Nat} {a w : World} (h : Below B a w) (n : Nat) : Below B a (w.drewN n) := ⟨h.os, h.tape, h.output, h.size, h.block⟩
theorem grown_drewN {a w : World} {r : Option Nat} (h : a.grownBy w r) (n : Nat) : a.grownBy (w.drewN n) r := ⟨h.os, h.tape, h.output, h.size, h.block⟩
theorem grown_refl (w : World) (r : Option Nat) : w.grownBy w r := World.grownBy.refl w r
theorem cell_lt {w : World} {b o : Nat} {s : Option Nat} {v : Value} (h : w.cell? ⟨b, o, none⟩ = some v) : b < w.heap.size := by
  apply Nat.lt_of_not_le
  intro hle
  have : w.heap[b]? = none := by simp [hle]
  simp [World.cell?, this] at h

/-- at a there are n integers f 0, f 1, .. -/
def RowI (w : World) (a : Option Addr) (n : Nat) (f : Nat → Int) : Prop :=
  n = 0 ∨ ∃ b off, a = some ⟨b, off, none⟩ ∧ b < w.heap.size ∧ ∀ i, i < n → w.cell? ⟨b, off + i, none⟩ = some (.int .i64 (f i)) ∧ B64 (f i)
theorem RowI.keep {w w' : World} {a : Option Addr} {n : Nat} {f : Nat → Int} (h : RowI w a n f) (hb : Below w.heap.size w w') : RowI w' a n f := by
  rcases h with h | ⟨b, off, rfl, hl, hc⟩
  · exact .inl h
  · exact .inr ⟨b, off, rfl, Nat.lt_of_lt_of_le hl hb.size, fun i hi => ⟨by rw [hb.cell (p := ⟨b, off + i, none⟩) hl]; exact (hc i hi).1, (hc i hi).2⟩⟩
theorem RowI.congr {w : World} {a : Option Addr} {n : Nat} {f g : Nat → Int} (h : RowI w a n f) (hf : ∀ i, i < n → f i = g i) : RowI w a n g := by
  rcases h with h | ⟨b, off, rfl, hl, hc⟩
  · exact .inl h
  · exact .inr ⟨b, off, rfl, hl, fun i hi => by rw [← hf i hi]; exact hc i hi⟩
theorem RowI.bound {w : World} {a : Option Addr} {n : Nat} {f : Nat → Int} (h : RowI w a n f) : ∀ i, i < n → B64 (f i) := by
  rcases h with h | ⟨b, off, rfl, hl, hc⟩
  · intro i hi; omega
  · exact fun i hi => (hc i hi).2
theorem RowI.owned {w : World} {base g n : Nat} {f : Nat → Int} (h : ownsF w base g n f) (hf : ∀ i, i < n → B64 (f i)) : RowI w (some ⟨g, 0, none⟩) n f := by
  by_cases h0 : n = 0
  · exact .inl h0
  · refine .inr ⟨g, 0, rfl, cell_lt (s := none) (ownsF_cell h (show 0 < n by omega)), fun i hi => ⟨?_, hf i hi⟩⟩
    rw [Nat.zero_add]
    exact ownsF_cell h hi
/-- .. and the block g is another one -/
def RowN (w : World) (g : Nat) (a : Option Addr) (n : Nat) (f : Nat → Int) : Prop := RowI w a n f ∧ ∀ p : Addr, a = some p → n = 0 ∨ p.block ≠ g
theorem RowN.put {w w' : World} {g n : Nat} {a : Option Addr} {f : Nat → Int} (h : RowN w g a n f) (hg : w.grownBy w' (some g)) : RowN w' g a n f := by
  refine ⟨?_, h.2⟩
  rcases h.1 with h1 | ⟨b, off, rfl, hl, hc⟩
  · exact .inl h1
  · by_cases h0 : n = 0
    · exact .inl h0
    have hne : b ≠ g := (h.2 _ rfl).resolve_left h0
    refine .inr ⟨b, off, rfl, Nat.lt_of_lt_of_le hl hg.size, fun i hi => ⟨?_, (hc i hi).2⟩⟩
    exact hg.cell (hc i hi).1 (fun e => hne (by injection e))
theorem RowN.of_below {w : World} {g n : Nat} {a : Option Addr} {f : Nat → Int} (h : RowI w a n f) (hg : w.heap.size ≤ g) : RowN w g a n f := by
  refine ⟨h, fun p hp => ?_⟩
  rcases h with h1 | ⟨b, off, rfl, hl, hc⟩
  · exact .inl h1
  · injection hp with hp; subst hp; exact .inr (fun e => by simp at e; omega)
theorem RowN.keep {w w' : World} {g n : Nat} {a : Option Addr} {f : Nat → Int} (h : RowN w g a n f) (hb : Below w.heap.size w w') : RowN w' g a n f := ⟨h.1.keep hb, h.2⟩

/-- the call returns a slice that reads as the n integers f, and leaves what was there -/
def Gives (w : World) (n : Nat) (f : Nat → Int) (e : Ending) (w' : World) : Prop :=
  ∃ (r : Option Addr) (c : Nat), e = .returned (.slice r n c) ∧ RowI w' r n f ∧ Below w.heap.size w w'
theorem Gives.congr {w w' : World} {n : Nat} {f g : Nat → Int} {e : Ending} (h : Gives w n f e w') (hf : ∀ i, i < n → f i = g i) : Gives w n g e w' := by
  obtain ⟨r, c, he, hr, hb⟩ := h
  exact ⟨r, c, he, hr.congr hf, hb⟩
theorem Gives.nil {w : World} {f : Nat → Int} : Gives w 0 f (.returned (.slice none 0 0)) w := ⟨none, 0, rfl, .inl rfl, Below.refl _ _⟩
/-- the call returns a new slice of its own with the n integers f -/
def Fresh (w : World) (n : Nat) (f : Nat → Int) (e : Ending) (w' : World) : Prop :=
  ∃ g, e = .returned (.slice (some ⟨g, 0, none⟩) n n) ∧ w.heap.size ≤ g ∧ ownsF w' w.heap.size g n f ∧ Below w.heap.size w w'
theorem Fresh.gives {w w' : World} {n : Nat} {f : Nat → Int} {e : Ending} (h : Fresh w n f e w') (hf : ∀ i, i < n → B64 (f i)) : Gives w n f e w' := by
  obtain ⟨g, rfl, hg, ho, hb⟩ := h
  exact ⟨_, _, rfl, RowI.owned ho hf, hb⟩
theorem Fresh.own {w w' : World} {n : Nat} {z : Int} {f : Nat → Int} (h : ownsF w' w.heap.size w.heap.size n (upG n z f)) (hb : Below w.heap.size w w') : Fresh w n f (.returned (.slice (some ⟨w.heap.size, 0, none⟩) n n)) w' :=
  ⟨_, rfl, Nat.le_refl _, ownsF_congr h fun t ht => upG_all ht, hb⟩
theorem can_b {f : Nat → Int} {i : Nat} (h : i ≤ 9223372036854775807) : B64 (can f i) := by
  have := canN_le f i; unfold B64 can; omega

/-! ### count -/
def cntV (n : Nat) (f : Nat → Int) : Nat := if valP n f = true then cls f n else 0
theorem cntV_yes {n : Nat} {f : Nat → Int} (h : valP n f = true) : cntV n f = cls f n := by rw [cntV, if_pos h]
theorem cntV_no {n : Nat} {f : Nat → Int} (h : valP n f = false) : cntV n f = 0 := by rw [cntV, if_neg (by rw [h]; decide)]
set_option maxHeartbeats 1000000 in
theorem count_any (a : Option Addr) (n c : Nat) (f : Nat → Int) (w : World) (hr : RowI w a n f) (hn : n ≤ maxLen) :
    Calls Try.prog 43 #[.slice a n c] w fun e w' => e = .returned (.tuple #[.int .i64 (cntV n f : Int), .bool (valP n f)]) ∧ w = w' := by
  unfold maxLen at hn
  have H1 := Lib.hid hr
  clear hr
  by_cases hl : 4096 < n
  · have HV := Lib.hid (valP_long (f := f) hl)
    have HC := Lib.hid (cntV_no HV.out)
    go_enter Try.func43, Try.ntmps43
    go_wp2_with fail
    go_ret2
    exact ⟨by rw [HV.out, HC.out]; rfl, rfl⟩
  · go_enter Try.func43, Try.ntmps43
    go_wp2_with fail
    go_loopw [4, 11] (fun vc vi wr => ∃ k : Nat, k ≤ n ∧ vi = .int .i64 k ∧ vc = .int .i64 (cls f k : Int) ∧ (∀ j, j < k → f j = can f j) ∧ w = wr) (fun _ vi _ => n - (intOf vi).toNat)
    case atStart => exact ⟨0, Nat.zero_le _, rfl, rfl, fun j hj => by omega, rfl⟩
    case round =>
      obtain ⟨k, hk, rfl, rfl, hall, rfl⟩ := hrel
      have HA := Lib.hid hall
      clear hall
      have hck := cls_le f k
      by_cases hlt : k < n
      · rcases H1.out with h0 | ⟨b, off, rfl, hbz, hc⟩
        · omega
        have hcj := (hc k hlt).1
        clear hc
        obtain ⟨x, hx⟩ : ∃ x, x = f k := ⟨_, rfl⟩
        obtain ⟨m, hm⟩ : ∃ m, m = cls f k := ⟨_, rfl⟩
        rw [← hx] at hcj
        rw [← hm] at hck ⊢
        by_cases hv : f k = can f k
        · obtain ⟨h0, h1⟩ := ok_pre hv
          rw [← hx] at h0 h1
          rw [← hm] at h1
          have HALL := Lib.hid (show ∀ j, j < k + 1 → f j = can f j from fun j hj => by
            by_cases e : j = k
            · rw [e]; exact hv
            · exact HA.out j (by omega))
          by_cases hnew : fst f k = k
          · have HN := Lib.hid (cls_yes hnew)
            have ht : (x == (m : Int)) = true := by rw [hx, hm]; simp [(ok_new hv).2 hnew]
            have HM := Lib.hid hm
            clear hx hm hv hnew
            go_wp2_with fail
            exact ⟨⟨k + 1, by omega, by go_num, by rw [HN.out, ← HM.out]; go_num, HALL.out, trivial⟩, by simp [intOf]; omega⟩
          · have HN := Lib.hid (cls_no hnew)
            have ht : (x == (m : Int)) = false := by rw [beq_eq_false_iff_ne, hx, hm]; exact fun h => hnew ((ok_new hv).1 h)
            have HM := Lib.hid hm
            clear hx hm hv hnew
            go_wp2_with fail
            exact ⟨⟨k + 1, by omega, by go_num, by rw [HN.out, ← HM.out], HALL.out, trivial⟩, by simp [intOf]; omega⟩
        · have HV := Lib.hid (valP_not hlt hv)
          have HC := Lib.hid (cntV_no HV.out)
          by_cases hneg : x < 0
          · clear hx hm hv
            go_wp2_with fail
            go_ret2
            exact ⟨by rw [HV.out, HC.out]; rfl, rfl⟩
          · have hgt : (m : Int) < x := by
              apply Int.lt_of_not_ge; intro h
              exact hv (pre_ok HA.out (by omega) (by omega))
            clear hx hm hv
            go_wp2_with fail
            go_ret2
            exact ⟨by rw [HV.out, HC.out]; rfl, rfl⟩
      · obtain rfl : n = k := by omega
        have HV := Lib.hid (show valP n f = true from valP_iff.2 ⟨by omega, HA.out⟩)
        have HC := Lib.hid (cntV_yes HV.out)
        go_wp2_with fail
        go_ret2
        exact ⟨by rw [HV.out, HC.out]; rfl, rfl⟩
set_option maxHeartbeats 400000 in
theorem valid_any (a : Option Addr) (n c : Nat) (f : Nat → Int) (w : World) (hr : RowI w a n f) (hn : n ≤ maxLen) :
    Calls Try.prog 18 #[.slice a n c] w fun e w' => e = .returned (.bool (valP n f)) ∧ w = w' := by
  have H1 := Lib.hid hr
  clear hr
  go_enter Try.func18, Try.ntmps18
  go_wp2_with fail
  refine (count_any _ _ _ _ _ H1.out hn).mono ?_
  rintro e w' ⟨rfl, rfl⟩
  go_wp2_with fail
  go_ret
  exact ⟨rfl, rfl⟩
set_option maxHeartbeats 400000 in
theorem countP_any (a : Option Addr) (n c : Nat) (f : Nat → Int) (w : World) (hr : RowI w a n f) (hn : n ≤ maxLen) :
    Calls Try.prog 21 #[.slice a n c] w fun e w' => e = .returned (.int .i64 (cntV n f : Int)) ∧ w = w' := by
  have H1 := Lib.hid hr
  clear hr
  go_enter Try.func21, Try.ntmps21
  go_wp2_with fail
  refine (count_any _ _ _ _ _ H1.out hn).mono ?_
  rintro e w' ⟨rfl, rfl⟩
  go_wp2_with fail
  go_ret
  exact ⟨rfl, rfl⟩
/-- two valid partitions of as many points -/
def pairB (n : Nat) (f : Nat → Int) (m : Nat) (g : Nat → Int) : Bool := decide (n = m) && valP n f && valP m g
theorem pairB_iff {n m : Nat} {f g : Nat → Int} : pairB n f m g = true ↔ n = m ∧ valP n f = true ∧ valP m g = true := by simp [pairB, and_assoc]
set_option maxHeartbeats 1000000 in
theorem validPair_any (a : Option Addr) (n c : Nat) (f : Nat → Int) (a' : Option Addr) (m c' : Nat) (g : Nat → Int) (w : World) (hr : RowI w a n f) (hs : RowI w a' m g) (hn : n ≤ maxLen) (hm : m ≤ maxLen) :
    Calls Try.prog 45 #[.slice a n c, .slice a' m c'] w fun e w' => e = .returned (.bool (pairB n f m g)) ∧ w = w' := by
  have H1 := Lib.hid hr
  have H2 := Lib.hid hs
  clear hr hs
  by_cases hnm : n = m
  · subst hnm
    cases hf : valP n f
    · have HP := Lib.hid (show pairB n f n g = false by simp [pairB, hf])
      have HF := Lib.hid hf
      clear hf
      go_enter Try.func45, Try.ntmps45
      go_wp2_with (go_at_call 18; refine (valid_any _ _ _ _ _ H1.out hn).mono ?_; rintro e w' ⟨rfl, rfl⟩; rw [HF.out])
      go_ret
      exact ⟨by rw [HP.out]; rfl, rfl⟩
    · have HP := Lib.hid (show pairB n f n g = valP n g by simp [pairB, hf])
      have HF := Lib.hid hf
      clear hf
      go_enter Try.func45, Try.ntmps45
      go_wp2_with fail
      refine (valid_any _ _ _ _ _ H1.out hn).mono ?_
      rintro e w' ⟨rfl, rfl⟩
      rw [HF.out]
      go_wp2_with fail
      refine (valid_any _ _ _ _ _ H2.out hm).mono ?_
      rintro e w' ⟨rfl, rfl⟩
      go_wp2_with fail
      go_ret
      exact ⟨by rw [HP.out]; rfl, rfl⟩
  · have ht : ((n : Int) == (m : Int)) = false := by rw [beq_eq_false_iff_ne]; omega
    have HP := Lib.hid (show pairB n f m g = false by simp [pairB, hnm])
    go_enter Try.func45, Try.ntmps45
    go_wp2_with fail
    go_ret
    exact ⟨by rw [HP.out]; rfl, rfl⟩
/-- a number of points -/
def sizeB (n : Int) : Bool := decide (0 ≤ n ∧ n ≤ 4096)
set_option maxHeartbeats 400000 in
theorem validSize_any (n : Int) (w : World) : Calls Try.prog 44 #[.int .i64 n] w fun e w' => e = .returned (.bool (sizeB n)) ∧ w = w' := by
  by_cases h0 : 0 ≤ n
  · by_cases h1 : n ≤ 4096
    · have HS := Lib.hid (show sizeB n = true by simp [sizeB]; omega)
      go_enter Try.func44, Try.ntmps44
      go_wp2_with fail
      go_ret
      exact ⟨by rw [HS.out]; rfl, rfl⟩
    · have HS := Lib.hid (show sizeB n = false by simp [sizeB]; omega)
      go_enter Try.func44, Try.ntmps44
      go_wp2_with fail
      go_ret
      exact ⟨by rw [HS.out]; rfl, rfl⟩
  · have HS := Lib.hid (show sizeB n = false by simp [sizeB]; omega)
    go_enter Try.func44, Try.ntmps44
    go_wp2_with fail
    go_ret
    exact ⟨by rw [HS.out]; rfl, rfl⟩
end Go.Proofs.Ytfgpjkkdgjhkfaa
