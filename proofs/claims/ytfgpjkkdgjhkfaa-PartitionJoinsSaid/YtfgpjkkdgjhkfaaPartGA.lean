/- Contracts: FromPairs, MayPairs, the reference's FromPairs. -/
import Derived.Test.YtfgpjkkdgjhkfaaPartFA
import Derived.Test.YtfgpjkkdgjhkfaaPartFD
namespace Go.Proofs.Ytfgpjkkdgjhkfaa
open Go Go.RowKit Go.Maps
set_option linter.unusedVariables false


/-- at a there are m pairs of integers -/
def RowP (w : World) (a : Option Addr) (m : Nat) (A B : Nat → Int) : Prop :=
  m = 0 ∨ ∃ b off, a = some ⟨b, off, none⟩ ∧ b < w.heap.size ∧ ∀ i, i < m → (w.cell? ⟨b, off + i * 2, none⟩ = some (.int .i64 (A i)) ∧ w.cell? ⟨b, off + i * 2 + 1, none⟩ = some (.int .i64 (B i))) ∧ B64 (A i) ∧ B64 (B i)
theorem RowP.keep {w w' : World} {a : Option Addr} {m : Nat} {A B : Nat → Int} (h : RowP w a m A B) (hb : Below w.heap.size w w') : RowP w' a m A B := by
  rcases h with h | ⟨b, off, rfl, hl, hc⟩
  · exact .inl h
  · exact .inr ⟨b, off, rfl, Nat.lt_of_lt_of_le hl hb.size, fun i hi => ⟨⟨by rw [hb.cell (p := ⟨b, off + i * 2, none⟩) hl]; exact (hc i hi).1.1, by rw [hb.cell (p := ⟨b, off + i * 2 + 1, none⟩) hl]; exact (hc i hi).1.2⟩, (hc i hi).2⟩⟩
/-- all points are points of n -/
def inB (n : Int) (A B : Nat → Int) (i : Nat) : Bool := decide (0 ≤ A i ∧ A i < n ∧ 0 ≤ B i ∧ B i < n)
def mayB (n : Int) (m : Nat) (A B : Nat → Int) : Bool := sizeB n && (List.range m).all fun i => inB n A B i
theorem mayB_iff {n : Int} {m : Nat} {A B : Nat → Int} : mayB n m A B = true ↔ (0 ≤ n ∧ n ≤ 4096) ∧ ∀ i, i < m → 0 ≤ A i ∧ A i < n ∧ 0 ≤ B i ∧ B i < n := by
  simp [mayB, sizeB, inB, List.all_eq_true]
set_option maxRecDepth 100000 in
set_option maxHeartbeats 1000000 in
theorem may_in (a : Option Addr) (n m c : Nat) (A B : Nat → Int) (w : World) (hr : RowP w a m A B) (hm : m ≤ maxLen) (hn : n ≤ 4096) :
    Calls Try.prog 37 #[.int .i64 n, .slice a m c] w fun e w' => e = .returned (.bool (mayB n m A B)) ∧ Below w.heap.size w w' := by
  have H1 := Lib.hid hr
  unfold maxLen at hm
  clear hr
  go_enter Try.func37, Try.ntmps37
  go_wp2_with fail
  go_loopw [15] (fun vi wr => ∃ k : Nat, k ≤ m ∧ vi = .int .i64 k ∧ (∀ i, i < k → 0 ≤ A i ∧ A i < n ∧ 0 ≤ B i ∧ B i < n) ∧ Below w.heap.size w wr) (fun vi _ => m - (intOf vi).toNat)
  case atStart => exact ⟨0, Nat.zero_le _, rfl, fun i hi => by omega, Below.refl _ _⟩
  case round =>
    obtain ⟨k, hk, rfl, hall, hb⟩ := hrel
    have HALL := Lib.hid hall
    have HB := Lib.hid hb
    clear hall hb
    by_cases hlt : k < m
    · rcases H1.out.keep HB.out with h0 | ⟨b, off, rfl, hbz, hc⟩
      · omega
      obtain ⟨⟨hca, hcb⟩, _⟩ := hc k hlt
      clear hc
      by_cases hok : 0 ≤ A k ∧ A k < n ∧ 0 ≤ B k ∧ B k < n
      · obtain ⟨h1, h2, h3, h4⟩ := hok
        go_wp2_with fail
        exact ⟨⟨k + 1, by omega, by go_num, fun i hi => by
          by_cases e : i = k
          · subst e; exact ⟨h1, h2, h3, h4⟩
          · exact HALL.out i (by omega), HB.out.alloc HB.out.size _⟩, by simp [intOf]; omega⟩
      · have HF := Lib.hid (show mayB n m A B = false by rw [← Bool.not_eq_true, mayB_iff]; exact fun h => hok (h.2 k hlt))
        by_cases h1 : A k < 0
        · clear hok
          go_wp2_with fail
          go_ret
          exact ⟨by rw [HF.out]; rfl, HB.out.alloc HB.out.size _⟩
        · by_cases h2 : (n : Int) ≤ A k
          · have h1' : 0 ≤ A k := by omega
            clear hok
            go_wp2_with fail
            go_ret
            exact ⟨by rw [HF.out]; rfl, HB.out.alloc HB.out.size _⟩
          · by_cases h3 : B k < 0
            · have h1' : 0 ≤ A k := by omega
              have h2' : A k < (n : Int) := by omega
              clear hok
              go_wp2_with fail
              go_ret
              exact ⟨by rw [HF.out]; rfl, HB.out.alloc HB.out.size _⟩
            · have h1' : 0 ≤ A k := by omega
              have h2' : A k < (n : Int) := by omega
              have h3' : 0 ≤ B k := by omega
              have h4' : (n : Int) ≤ B k := by omega
              clear hok
              go_wp2_with fail
              go_ret
              exact ⟨by rw [HF.out]; rfl, HB.out.alloc HB.out.size _⟩
    · obtain rfl : m = k := by omega
      have HF := Lib.hid (show mayB n m A B = true from mayB_iff.2 ⟨by omega, HALL.out⟩)
      go_wp2_with fail
      go_ret
      exact ⟨by rw [HF.out]; rfl, HB.out⟩
set_option maxHeartbeats 400000 in
theorem may_no (a : Option Addr) (n : Int) (m c : Nat) (A B : Nat → Int) (w : World) (hn : ¬ (0 ≤ n ∧ n ≤ 4096)) :
    Calls Try.prog 37 #[.int .i64 n, .slice a m c] w fun e w' => e = .returned (.bool (mayB n m A B)) ∧ Below w.heap.size w w' := by
  have HF := Lib.hid (show mayB n m A B = false by rw [← Bool.not_eq_true, mayB_iff]; exact fun h => hn h.1)
  by_cases h0 : n < 0
  · clear hn
    go_enter Try.func37, Try.ntmps37
    go_wp2_with fail
    go_ret
    exact ⟨by rw [HF.out]; rfl, Below.refl _ _⟩
  · have h1 : 0 ≤ n := by omega
    have h2 : 4096 < n := by omega
    clear hn
    go_enter Try.func37, Try.ntmps37
    go_wp2_with fail
    go_ret
    exact ⟨by rw [HF.out]; rfl, Below.refl _ _⟩
theorem may_any (a : Option Addr) (n : Int) (m c : Nat) (A B : Nat → Int) (w : World) (hr : RowP w a m A B) (hm : m ≤ maxLen) :
    Calls Try.prog 37 #[.int .i64 n, .slice a m c] w fun e w' => e = .returned (.bool (mayB n m A B)) ∧ Below w.heap.size w w' := by
  by_cases hn : 0 ≤ n ∧ n ≤ 4096
  · obtain ⟨k, rfl⟩ : ∃ k : Nat, n = k := ⟨n.toNat, by omega⟩
    exact may_in a k m c A B w hr hm (by omega)
  · exact may_no a n m c A B w hn
/-- a point as a natural number -/
def ptN (A : Nat → Int) (t : Nat) : Nat := (A t).toNat
/-- what FromPairs gives -/
def frF (m : Nat) (A B : Nat → Int) : Nat → Int := can (pairF m (ptN A) (ptN B))
theorem pt_in {n : Nat} {m : Nat} {A B : Nat → Int} (h : mayB n m A B = true) : ∀ t, t < m → ptN A t < n ∧ ptN B t < n := fun t ht => by
  have := (mayB_iff.1 h).2 t ht
  unfold ptN; omega
set_option maxRecDepth 100000 in
set_option maxHeartbeats 2000000 in
theorem fromPairs_in (a : Option Addr) (n m c : Nat) (A B : Nat → Int) (w : World) (hr : RowP w a m A B) (hm : m ≤ maxLen) (hn : n ≤ 4096) :
    Calls Try.prog 36 #[.int .i64 n, .slice a m c] w fun e w' => (mayB n m A B = true → Gives w n (frF m A B) e w') ∧ (mayB n m A B = false → e = .returned (.slice none 0 0) ∧ Below w.heap.size w w') := by
  have H1 := Lib.hid hr
  have HS := Lib.hid (sizeB_yes hn)
  unfold maxLen at hm
  clear hr
  go_enter Try.func36, Try.ntmps36
  go_wp2_with fail
  refine (validSize_any _ _).mono ?_
  rintro e w' ⟨rfl, rfl⟩
  rw [HS.out]
  go_wp2_with fail
  refine (discrete_ok _ _ hn).mono ?_
  rintro e w1 ⟨x, rfl, hx, ho, hB⟩
  have HO := Lib.hid (show ownsF w1 w.heap.size x n (cF fun k => k) from ho)
  have HB := Lib.hid hB
  have HX := Lib.hid hx
  clear ho hB hx
  go_wp2_with fail
  go_loopw [16] (fun vi wr => ∃ (k : Nat) (G : Nat → Nat), k ≤ m ∧ vi = .int .i64 k ∧ (∀ i, i < k → 0 ≤ A i ∧ A i < n ∧ 0 ≤ B i ∧ B i < n) ∧ FI n G (rP (ptN A) (ptN B) k) ∧ ownsF wr w.heap.size x n (cF G) ∧ w1.grownBy wr (some x)) (fun vi _ => m - (intOf vi).toNat)
  case atStart => exact ⟨0, fun k => k, Nat.zero_le _, rfl, fun i hi => by omega, FI.start n, HO.out, grown_refl _ _⟩
  case round =>
    obtain ⟨k, G, hk, rfl, hall, hf, ho, hg⟩ := hrel
    have HALL := Lib.hid hall
    have HF2 := Lib.hid hf
    have HO2 := Lib.hid ho
    have HG2 := Lib.hid hg
    have HB2 := Lib.hid (HB.out.grown hg HB.out.size (fun j hj => by cases hj; exact HX.out))
    clear hall hf ho hg
    by_cases hlt : k < m
    · rcases H1.out.keep HB2.out with h0 | ⟨b, off, rfl, hbz, hc⟩
      · omega
      obtain ⟨⟨hca, hcb⟩, _⟩ := hc k hlt
      clear hc
      have hk0 : (0 : Int) ≤ (k : Int) := by omega
      have hkm : (k : Int) < (m : Int) := by omega
      by_cases hok : 0 ≤ A k ∧ A k < n ∧ 0 ≤ B k ∧ B k < n
      · have HOK := Lib.hid hok
        obtain ⟨h1, h2, h3, h4⟩ := hok
        obtain ⟨p, hp⟩ : ∃ p : Nat, p = ptN A k := ⟨_, rfl⟩
        obtain ⟨q, hq⟩ : ∃ q : Nat, q = ptN B k := ⟨_, rfl⟩
        have hpa : A k = (p : Int) := by rw [hp]; unfold ptN; omega
        have hqb : B k = (q : Int) := by rw [hq]; unfold ptN; omega
        rw [hpa] at hca h2
        rw [hqb] at hcb h4
        have hpn : p < n := by omega
        have hqn : q < n := by omega
        have HPQ := Lib.hid (show p = ptN A k ∧ q = ptN B k from ⟨hp, hq⟩)
        have hmn : ¬ min (p : Int) (q : Int) < 0 := by omega
        have hmx : ¬ (n : Int) ≤ max (p : Int) (q : Int) := by omega
        clear hp hq hpa hqb h1 h2 h3 h4
        go_wp2_with fail
        go_quiet (fail)
        go_wp2_with fail
        refine (union_ok w.heap.size _ _ _ _ _ _ _ (show ownsF (World.drewN _ _) _ _ _ _ from HO2.out) HF2.out hpn hqn hn).mono ?_
        rintro e w5 ⟨rfl, G5, hf, ho, hg⟩
        have HF5 := Lib.hid (show FI n G5 (rP (ptN A) (ptN B) (k + 1)) by rw [rP, ← HPQ.out.1, ← HPQ.out.2]; exact hf)
        have HO5 := Lib.hid ho
        have HG5 := Lib.hid ((grown_drewN HG2.out _).trans hg)
        clear hf ho hg
        go_wp2_with fail
        exact ⟨⟨k + 1, G5, by omega, by go_num, fun i hi => by
          by_cases e : i = k
          · subst e; exact HOK.out
          · exact HALL.out i (by omega), HF5.out, HO5.out, HG5.out⟩, by simp [intOf]; omega⟩
      · have HF := Lib.hid (show mayB n m A B = false by rw [← Bool.not_eq_true, mayB_iff]; exact fun h => hok (h.2 k hlt))
        by_cases hmn : min (A k) (B k) < 0
        · clear hok
          go_wp2_with fail
          go_quiet (fail)
          go_wp2_with fail
          go_ret
          exact ⟨fun h => (by rw [HF.out] at h; cases h), fun _ => ⟨rfl, below_drewN HB2.out _⟩⟩
        · have hmx : (n : Int) ≤ max (A k) (B k) := by omega
          clear hok
          go_wp2_with fail
          go_quiet (fail)
          go_wp2_with fail
          go_ret
          exact ⟨fun h => (by rw [HF.out] at h; cases h), fun _ => ⟨rfl, below_drewN HB2.out _⟩⟩
    · obtain rfl : m = k := by omega
      have HF := Lib.hid (show mayB n m A B = true from mayB_iff.2 ⟨by omega, HALL.out⟩)
      go_wp2_with fail
      refine (part_ok w.heap.size _ _ _ _ _ HO2.out HF2.out hn).mono ?_
      rintro e w4 ⟨⟨r4, c4, rfl, hR⟩, hg⟩
      have HRR := Lib.hid hR
      have HB5 := Lib.hid (HB2.out.grown hg HB2.out.size (fun j hj => by cases hj; exact HX.out))
      clear hR hg
      go_wp2_with fail
      go_ret
      exact ⟨fun _ => ⟨_, _, rfl, HRR.out, HB5.out⟩, fun h => (by rw [HF.out] at h; cases h)⟩
theorem fromPairs_ok (a : Option Addr) (n m c : Nat) (A B : Nat → Int) (w : World) (hr : RowP w a m A B) (hm : m ≤ maxLen) (hp : mayB n m A B = true) :
    Calls Try.prog 36 #[.int .i64 n, .slice a m c] w (Gives w n (frF m A B)) :=
  (fromPairs_in a n m c A B w hr hm (by have := (mayB_iff.1 hp).1; omega)).mono fun _ _ h => h.1 hp
set_option maxHeartbeats 400000 in
theorem fromPairs_size (a : Option Addr) (n : Int) (m c : Nat) (w : World) (hn : ¬ (0 ≤ n ∧ n ≤ 4096)) :
    Calls Try.prog 36 #[.int .i64 n, .slice a m c] w fun e w' => e = .returned (.slice none 0 0) ∧ Below w.heap.size w w' := by
  have HS := Lib.hid (sizeB_no hn)
  clear hn
  go_enter Try.func36, Try.ntmps36
  go_wp2_with fail
  refine (validSize_any _ _).mono ?_
  rintro e w' ⟨rfl, rfl⟩
  rw [HS.out]
  go_wp2_with fail
  go_ret
  exact ⟨rfl, Below.refl _ _⟩
theorem fromPairs_no (a : Option Addr) (n : Int) (m c : Nat) (A B : Nat → Int) (w : World) (hr : RowP w a m A B) (hm : m ≤ maxLen) (hp : mayB n m A B = false) :
    Calls Try.prog 36 #[.int .i64 n, .slice a m c] w fun e w' => e = .returned (.slice none 0 0) ∧ Below w.heap.size w w' := by
  by_cases hn : 0 ≤ n ∧ n ≤ 4096
  · obtain ⟨k, rfl⟩ : ∃ k : Nat, n = k := ⟨n.toNat, by omega⟩
    exact (fromPairs_in a k m c A B w hr hm (by omega)).mono fun _ _ h => h.2 hp
  · exact fromPairs_size a n m c w hn
theorem mP_b {n m : Nat} {A B : Nat → Nat} (hn : n ≤ 4096) (hA : ∀ t, t < m → A t < n ∧ B t < n) : ∀ {i : Nat}, i ≤ m → ∀ k, k < n → B64 (mP A B i k)
  | 0, _, k, hk => by
    show B64 (k : Int)
    unfold B64; omega
  | i + 1, hi, k, hk => by
    show B64 (mrgI (mP A B i) (A i) (B i) k)
    unfold mrgI
    split
    · exact mP_b hn hA (Nat.le_of_succ_le hi) _ (hA i hi).1
    · exact mP_b hn hA (Nat.le_of_succ_le hi) _ hk
set_option maxRecDepth 100000 in
set_option maxHeartbeats 2000000 in
theorem fromPairsR_ok (a : Option Addr) (n m c : Nat) (A B : Nat → Int) (w : World) (hr : RowP w a m A B) (hm : m ≤ maxLen) (hp : mayB n m A B = true) :
    Calls Try.prog 38 #[.int .i64 n, .slice a m c] w (Gives w n (can (mP (ptN A) (ptN B) m))) := by
  have H1 := Lib.hid hr
  have hn : n ≤ 4096 := by have := (mayB_iff.1 hp).1; omega
  have HP := Lib.hid (mayB_iff.1 hp).2
  have HBD := Lib.hid (fun i (hi : i ≤ m) k (hk : k < n) => mP_b hn (pt_in hp) hi k hk)
  unfold maxLen at hm
  clear hr hp
  go_enter Try.func38, Try.ntmps38
  go_wp2_with fail
  refine (discreteR_ok _ _ hn).mono ?_
  rintro e w1 ⟨x, rfl, hx, ho, hB⟩
  have HO := Lib.hid (show ownsC w1 w.heap.size x n n (mP (ptN A) (ptN B) 0) from ho)
  have HB := Lib.hid hB
  have HX := Lib.hid hx
  clear ho hB hx
  go_wp2_with fail
  go_loopw [12] (fun vi wr => ∃ k : Nat, k ≤ m ∧ vi = .int .i64 k ∧ ownsC wr w.heap.size x n n (mP (ptN A) (ptN B) k) ∧ Below w.heap.size w wr) (fun vi _ => m - (intOf vi).toNat)
  case atStart => exact ⟨0, Nat.zero_le _, rfl, HO.out, HB.out⟩
  case round =>
    obtain ⟨k, hk, rfl, ho, hb⟩ := hrel
    have HO2 := Lib.hid ho
    have HB2 := Lib.hid hb
    clear ho hb
    by_cases hlt : k < m
    · rcases H1.out.keep HB2.out with h0 | ⟨b, off, rfl, hbz, hc⟩
      · omega
      obtain ⟨⟨hca, hcb⟩, _⟩ := hc k hlt
      obtain ⟨h1, h2, h3, h4⟩ := HP.out k hlt
      clear hc
      obtain ⟨p, hp⟩ : ∃ p : Nat, p = ptN A k := ⟨_, rfl⟩
      obtain ⟨q, hq⟩ : ∃ q : Nat, q = ptN B k := ⟨_, rfl⟩
      have hpa : A k = (p : Int) := by rw [hp]; unfold ptN; omega
      have hqb : B k = (q : Int) := by rw [hq]; unfold ptN; omega
      rw [hpa] at hca h2
      rw [hqb] at hcb h4
      have hpn : p < n := by omega
      have hqn : q < n := by omega
      have HPQ := Lib.hid (show p = ptN A k ∧ q = ptN B k from ⟨hp, hq⟩)
      clear hp hq hpa hqb h1 h2 h3 h4
      go_wp2_with fail
      refine (merge_ok w.heap.size _ _ _ _ _ _ _ (World.ownsRow.alloc HO2.out (.cells #[.int .i64 (p : Int), .int .i64 (q : Int)] 39)) hpn hqn hn).mono ?_
      rintro e w5 ⟨rfl, ho, hg⟩
      have HO5 := Lib.hid (show ownsC w5 w.heap.size x n n (mP (ptN A) (ptN B) (k + 1)) by rw [mP, ← HPQ.out.1, ← HPQ.out.2]; exact ho)
      have HB5 := Lib.hid ((HB2.out.alloc HB2.out.size (.cells #[.int .i64 (p : Int), .int .i64 (q : Int)] 39)).grown hg (by have := HB2.out.size; simp; omega) (fun j hj => by cases hj; exact HX.out))
      clear ho hg
      go_wp2_with fail
      exact ⟨⟨k + 1, by omega, by go_num, HO5.out, HB5.out⟩, by simp [intOf]; omega⟩
    · obtain rfl : m = k := by omega
      have HRR := Lib.hid (RowI.ownedC HO2.out (HBD.out m (Nat.le_refl m)))
      go_wp2_with fail
      refine (canonicalR_any _ _ _ _ _ HRR.out (by unfold maxLen; omega)).mono ?_
      rintro e w3 ⟨r3, c3, rfl, hR, hB⟩
      rw [canLen_yes hn] at hR ⊢
      have HC := Lib.hid hR
      have HB3 := Lib.hid (HB2.out.trans (hB.mono HB2.out.size))
      clear hR hB
      go_wp2_with fail
      go_ret
      exact ⟨_, _, rfl, HC.out, HB3.out⟩
end Go.Proofs.Ytfgpjkkdgjhkfaa
