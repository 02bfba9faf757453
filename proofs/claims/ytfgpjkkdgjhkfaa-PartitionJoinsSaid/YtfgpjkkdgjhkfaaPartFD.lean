/- Contracts: the reference's Merge, Join. -/
import Derived.Test.YtfgpjkkdgjhkfaaPartFA
namespace Go.Proofs.Ytfgpjkkdgjhkfaa
open Go Go.RowKit Go.Maps
set_option linter.unusedVariables false


def ownsC (w : World) (base g n cap : Nat) (f : Nat → Int) : Prop := w.ownsRow base 3 1 (.slice (some ⟨g, 0, none⟩) n cap) n (rowF n f)
theorem ownsC_cell {w : World} {base g n cap : Nat} {f : Nat → Int} (h : ownsC w base g n cap f) {j : Nat} (hj : j < n) : w.cell? ⟨g, j, none⟩ = some (.int .i64 (f j)) := by
  have := World.ownsRow.cellAt h j (by omega)
  rw [this, rowF_get hj]
theorem ownsC_free {w : World} {base g n cap : Nat} {f : Nat → Int} (h : ownsC w base g n cap f) (j : Nat) : w.frozen? ⟨g, j, none⟩ = false := World.ownsRow.frozenAt h j
theorem ownsC_congr {w : World} {base g n cap : Nat} {f f' : Nat → Int} (h : ownsC w base g n cap f) (hf : ∀ t, t < n → f t = f' t) : ownsC w base g n cap f' := by
  unfold ownsC at h ⊢
  rwa [← rowF_congr hf]
theorem ownsC_set {w : World} {base g n cap : Nat} {f : Nat → Int} (h : ownsC w base g n cap f) (j : Nat) (x : Int) : ownsC (w.setCell ⟨g, j, none⟩ (.int .i64 x)) base g n cap (fun t => if t = j then x else f t) := by
  have := (World.ownsRow.stored h j (.int .i64 x)).1
  unfold ownsC
  rwa [rowF_set] at this
theorem RowI.ownedC {w : World} {base g n cap : Nat} {f : Nat → Int} (h : ownsC w base g n cap f) (hf : ∀ i, i < n → B64 (f i)) : RowI w (some ⟨g, 0, none⟩) n f := by
  by_cases h0 : n = 0
  · exact .inl h0
  · refine .inr ⟨g, 0, rfl, cell_lt (s := none) (ownsC_cell h (show 0 < n by omega)), fun i hi => ⟨?_, hf i hi⟩⟩
    rw [Nat.zero_add]
    exact ownsC_cell h hi
/-- the entries before k are F's, the others f's -/
def mixI (k : Nat) (F f : Nat → Int) (t : Nat) : Int := if t < k then F t else f t
theorem mixI_zero (F f : Nat → Int) (t : Nat) : mixI 0 F f t = f t := by simp [mixI]
theorem mixI_at (k : Nat) (F f : Nat → Int) : mixI k F f k = f k := by simp [mixI]
theorem mixI_all {n t : Nat} {F f : Nat → Int} (h : t < n) : mixI n F f t = F t := by simp [mixI, h]
theorem ownsC_mix {w : World} {base g n cap : Nat} {F f : Nat → Int} {j : Nat} {x : Int} (h : ownsC w base g n cap (mixI j F f)) (hx : x = F j) : ownsC (w.setCell ⟨g, j, none⟩ (.int .i64 x)) base g n cap (mixI (j + 1) F f) := by
  refine ownsC_congr (ownsC_set h j x) fun t ht => ?_
  unfold mixI
  by_cases et : t = j
  · subst et; rw [if_pos rfl, if_pos (by omega), hx]
  · rw [if_neg et]
    by_cases h2 : t < j
    · rw [if_pos h2, if_pos (by omega)]
    · rw [if_neg h2, if_neg (by omega)]
theorem ownsC_pass {w : World} {base g n cap : Nat} {F f : Nat → Int} {j : Nat} (h : ownsC w base g n cap (mixI j F f)) (hx : f j = F j) : ownsC w base g n cap (mixI (j + 1) F f) := by
  refine ownsC_congr h fun t ht => ?_
  unfold mixI
  by_cases et : t = j
  · subst et; rw [if_neg (by omega), if_pos (by omega), hx]
  · by_cases h2 : t < j
    · rw [if_pos h2, if_pos (by omega)]
    · rw [if_neg h2, if_neg (by omega)]
theorem own_some {w : World} {base : Nat} {v : Value} {n : Nat} {f : Nat → Int} (h : w.ownsRow base 3 1 v n (rowF n f)) (hv : v ≠ .slice none 0 0) : ∃ g cap, v = .slice (some ⟨g, 0, none⟩) n cap ∧ base ≤ g ∧ ownsC w base g n cap f := by
  rcases h.2 with ⟨h1, _⟩ | ⟨g, cap, cur, rfl, hg, _⟩
  · exact absurd h1 hv
  · exact ⟨g, cap, rfl, hg, h⟩
theorem lit_empty (w : World) (f : Nat → Int) : (w.alloc (.cells #[] 3)).ownsRow w.heap.size 3 1 (.slice (some ⟨w.heap.size, 0, none⟩) 0 0) 0 (rowF 0 f) :=
  World.ownsRow_lit w #[] 0 (Nat.le_refl _) (by unfold maxLen; omega) rfl

set_option maxRecDepth 100000 in
set_option maxHeartbeats 1000000 in
theorem merge_ok (base g n cap i j : Nat) (f : Nat → Int) (w : World) (ho : ownsC w base g n cap f) (hi : i < n) (hj : j < n) (hn : n ≤ 4096) :
    Calls Try.prog 49 #[.slice (some ⟨g, 0, none⟩) n cap, .int .i64 i, .int .i64 j] w fun e w' => e = .returned (.tuple #[]) ∧ ownsC w' base g n cap (mrgI f i j) ∧ w.grownBy w' (some g) := by
  have hci := ownsC_cell ho hi
  have hcj := ownsC_cell ho hj
  have HO := Lib.hid (ownsC_congr ho fun t _ => (mixI_zero (mrgI f i j) f t).symm)
  clear ho
  have hi0 : (0 : Int) ≤ (i : Int) := by omega
  have hin : (i : Int) < (n : Int) := by omega
  have hj0 : (0 : Int) ≤ (j : Int) := by omega
  have hjn : (j : Int) < (n : Int) := by omega
  go_enter Try.func49, Try.ntmps49
  go_wp2_with fail
  go_quiet (fail)
  go_wp2_with fail
  go_loopw [19] (fun vi wr => ∃ k : Nat, k ≤ n ∧ vi = .int .i64 k ∧ ownsC wr base g n cap (mixI k (mrgI f i j) f) ∧ w.grownBy wr (some g)) (fun vi _ => n - (intOf vi).toNat)
  case atStart => exact ⟨0, Nat.zero_le _, rfl, by first | exact HO.out | exact (HO.out : _), by first | exact grown_refl _ _ | exact grown_drewN (grown_refl _ _) _⟩
  case round =>
    obtain ⟨k, hk, rfl, ho, hg⟩ := hrel
    have HO2 := Lib.hid ho
    have HG2 := Lib.hid hg
    by_cases hlt : k < n
    · have hck := ownsC_cell ho hlt
      have hfk := ownsC_free ho k
      rw [mixI_at] at hck
      clear ho hg
      by_cases he : f k = f j
      · have ht : (f k == f j) = true := by simp [he]
        have HE := Lib.hid (show f i = mrgI f i j k by unfold mrgI; rw [if_pos he])
        clear he
        go_wp2_with fail
        exact ⟨⟨k + 1, by omega, by go_num, ownsC_mix HO2.out HE.out, grown_set HG2.out _ _⟩, by simp [intOf]; omega⟩
      · have ht : (f k == f j) = false := by rw [beq_eq_false_iff_ne]; exact he
        have HE := Lib.hid (show f k = mrgI f i j k by unfold mrgI; rw [if_neg he])
        clear he
        go_wp2_with fail
        exact ⟨⟨k + 1, by omega, by go_num, ownsC_pass HO2.out HE.out, HG2.out⟩, by simp [intOf]; omega⟩
    · obtain rfl : n = k := by omega
      clear ho hg
      go_wp2_with fail
      go_end0
      exact ⟨rfl, ownsC_congr HO2.out fun t ht => mixI_all ht, HG2.out⟩

theorem jR_bound {n : Nat} {p q : Nat → Int} (h : ∀ i, i < n → B64 (p i)) : ∀ {i : Nat}, i ≤ n → ∀ k, k < n → B64 (jR p q i k)
  | 0, _, k, hk => h k hk
  | i + 1, hi, k, hk => by
    have h2 := fst_le q i
    rw [jR]
    split
    · unfold mrgI
      split
      · exact jR_bound h (Nat.le_of_succ_le hi) _ (by omega)
      · exact jR_bound h (Nat.le_of_succ_le hi) _ hk
    · exact jR_bound h (Nat.le_of_succ_le hi) _ hk
theorem fst_first {q : Nat → Int} {i j : Nat} (hj : j < i) (hall : ∀ t, t < j → q i ≠ q t) (e : q i = q j) : fst q i = j := by
  have h1 : fst q i ≤ j := fst_least e.symm
  apply Nat.le_antisymm h1
  apply Nat.le_of_not_lt
  intro h2
  exact hall _ h2 (fst_val q i).symm
theorem fst_none {q : Nat → Int} {i : Nat} (hall : ∀ t, t < i → q i ≠ q t) : fst q i = i := by
  have h1 := fst_le q i
  apply Nat.le_antisymm h1
  apply Nat.le_of_not_lt
  intro h2
  exact hall _ h2 (fst_val q i).symm

set_option maxRecDepth 100000 in
set_option maxHeartbeats 4000000 in
theorem joinR_some (ad : Addr) (n c : Nat) (f : Nat → Int) (a' : Option Addr) (c' : Nat) (q : Nat → Int) (w : World) (hr : RowI w (some ad) n f) (hs : RowI w a' n q) (hn : n ≤ 4096) :
    Calls Try.prog 34 #[.slice (some ad) n c, .slice a' n c'] w (Gives w n (can (jR f q n))) := by
  have HBD := Lib.hid (fun i (hi : i ≤ n) k (hk : k < n) => jR_bound (q := q) hr.bound hi k hk)
  have H2 := Lib.hid hs
  obtain ⟨i0, hi, hz0, hz1, hz2⟩ := info_parts infoI
  have HN := Lib.hid (show ∀ j u, (rowF n f)[j]? = some u → (w.alloc (.cells #[] 3)).cell? (ad.add j) = some u by
    intro j u hu
    have hj : j < n := by
      apply Nat.lt_of_not_le
      intro hle
      rw [List.getElem?_eq_none (by rw [rowF_length]; omega)] at hu
      cases hu
    rw [rowF_get hj] at hu
    rcases hr with h0 | ⟨b, off, he, hl, hc⟩
    · omega
    · obtain rfl : ad = ⟨b, off, none⟩ := Option.some.inj he
      have h2 : (⟨b, off, none⟩ : Addr).add j = ⟨b, off + j, none⟩ := by unfold Addr.add; split <;> simp_all
      rw [h2, Below.cell (B := w.heap.size) ((Below.refl _ w).alloc (Nat.le_refl _) _) hl, (hc j hj).1, hu])
  clear hr hs
  go_enter Try.func34, Try.ntmps34
  go_wp2_with (at_builtin; refine wpList_append_own _ rfl _ _ 22 rfl w.heap.size 3 i0 (.int .i64 0) 1 8 Try.underlying22 hi hz0 hz1 hz2 rfl (by decide) _ 0 _ rfl (lit_empty w f) ad n c (rowF n f) rfl ?c1 HN.out ?c2 ?c3 ?c4 ?c5 ?_)
  case c1 => rw [rowF_length]; omega
  case c2 => intro u hu; simp only [rowF, List.mem_map] at hu; obtain ⟨t, _, rfl⟩ := hu; rfl
  case c3 => unfold maxLen; omega
  case c4 => omega
  case c5 => simp
  intro v' w1 hown1 hg1 hv1
  have hb1 : Below w.heap.size w w1 := ((Below.refl _ w).alloc (Nat.le_refl _) _).grown hg1 (by simp) (by intro q hq; injection hq with hq; subst hq; exact Nat.le_refl _)
  obtain ⟨g, cap, rfl, hg, ho⟩ := own_some (n := n) (f := f) (by simpa [rowF] using hown1) hv1
  have HO : Hid (ownsC w1 w.heap.size g n cap (jR f q 0)) := Lib.hid ho
  have HB := Lib.hid hb1
  have HG := Lib.hid hg
  clear hown1 hg1 hv1 hb1 ho
  go_wp2_with fail
  go_loopw [13] (fun vi wr => ∃ i : Nat, i ≤ n ∧ vi = .int .i64 i ∧ ownsC wr w.heap.size g n cap (jR f q i) ∧ Below w.heap.size w wr) (fun vi _ => n - (intOf vi).toNat)
  case atStart => exact ⟨0, Nat.zero_le _, rfl, HO.out, HB.out⟩
  case round =>
    obtain ⟨i, hi1, rfl, ho, hb⟩ := hrel
    have HO2 := Lib.hid ho
    have HB2 := Lib.hid hb
    clear ho hb
    by_cases hin : i < n
    · go_wp2_with fail
      go_loopw [7] (fun vj wq => ∃ j : Nat, j ≤ i ∧ vj = .int .i64 j ∧ (∀ t, t < j → q i ≠ q t) ∧ ownsC wq w.heap.size g n cap (jR f q i) ∧ Below w.heap.size w wq) (fun vj _ => i - (intOf vj).toNat)
      case atStart => exact ⟨0, Nat.zero_le _, rfl, fun t ht => by omega, HO2.out, HB2.out⟩
      case round =>
        obtain ⟨j, hj, rfl, hall, ho, hb⟩ := hrel
        have HALL := Lib.hid hall
        have HO3 := Lib.hid ho
        have HB3 := Lib.hid hb
        clear hall ho hb
        by_cases hji : j < i
        · rcases H2.out.keep HB3.out with h0 | ⟨b, off, rfl, hbz, hc⟩
          · omega
          have hqi := (hc i hin).1
          have hqj := (hc j (by omega)).1
          clear hc
          have hi0 : (0 : Int) ≤ (i : Int) := by omega
          have hinn : (i : Int) < (n : Int) := by omega
          have hj0 : (0 : Int) ≤ (j : Int) := by omega
          have hjnn : (j : Int) < (n : Int) := by omega
          have hjii : (j : Int) < (i : Int) := by omega
          by_cases he : q i = q j
          · have ht : (q i == q j) = true := by simp [he]
            have hfj := fst_first hji HALL.out he
            have HJ := Lib.hid (show jR f q (i + 1) = mrgI (jR f q i) i j by rw [jR, hfj, if_pos hji])
            clear he hfj
            go_wp2_with fail
            go_quiet (fail)
            go_wp2_with fail
            refine (merge_ok w.heap.size _ _ _ _ _ _ _ (show ownsC (World.drewN _ _) _ _ _ _ _ from HO3.out) hin (by omega) hn).mono ?_
            rintro e w4 ⟨rfl, ho, hg⟩
            have HO4 := Lib.hid (show ownsC w4 w.heap.size g n cap (jR f q (i + 1)) by rw [HJ.out]; exact ho)
            have HB4 := Lib.hid ((below_drewN HB3.out _).grown hg (below_drewN HB3.out _).size (fun k hk => by cases hk; exact HG.out))
            clear ho hg
            go_wp2_with fail
            exact ⟨⟨i + 1, by omega, by go_num, HO4.out, HB4.out⟩, by simp [intOf]; omega⟩
          · have ht : (q i == q j) = false := by rw [beq_eq_false_iff_ne]; exact he
            have HE := Lib.hid he
            clear he
            go_wp2_with fail
            go_quiet (fail)
            go_wp2_with fail
            exact ⟨⟨j + 1, by omega, by go_num, fun t ht => by
              by_cases et : t = j
              · subst et; exact HE.out
              · exact HALL.out t (by omega), HO3.out, below_drewN HB3.out _⟩, by simp [intOf]; omega⟩
        · obtain rfl : i = j := by omega
          have hfn := fst_none HALL.out
          have HJ := Lib.hid (show jR f q (i + 1) = jR f q i by rw [jR, hfn, if_neg (by omega)])
          clear hfn
          go_wp2_with fail
          exact ⟨⟨i + 1, by omega, by go_num, by rw [HJ.out]; exact HO3.out, HB3.out⟩, by simp [intOf]; omega⟩
    · obtain rfl : n = i := by omega
      have HRR := Lib.hid (RowI.ownedC HO2.out (HBD.out n (Nat.le_refl n)))
      go_wp2_with fail
      refine (canonicalR_any _ _ _ _ _ HRR.out (by unfold maxLen; omega)).mono ?_
      rintro e w3 ⟨r3, c3, rfl, hR, hB⟩
      rw [canLen_yes hn] at hR ⊢
      have HC := Lib.hid hR
      have HB3 := Lib.hid (HB2.out.trans (hB.mono HB2.out.size))
      clear hR hB
      go_wp2_with fail
      go_ret
      exact ⟨_, _, rfl, HC.out, HB3.out⟩
set_option maxRecDepth 100000 in
set_option maxHeartbeats 1000000 in
theorem joinR_none (f : Nat → Int) (a' : Option Addr) (c' : Nat) (w : World) :
    Calls Try.prog 34 #[.slice none 0 0, .slice a' 0 c'] w (Gives w 0 f) := by
  go_enter Try.func34, Try.ntmps34
  go_wp2_with fail
  go_loop [13] (fun i => i = .int .i64 0) (fun _ => 0)
  case atStart => rfl
  case round =>
    subst hrel
    go_wp2_with fail
    refine (canonicalR_any _ 0 _ f _ (.inl rfl) (by unfold maxLen; omega)).mono ?_
    rintro e w3 ⟨r3, c3, rfl, hR, hB⟩
    have HB3 := Lib.hid (((Below.refl w.heap.size w).alloc (Nat.le_refl _) (.cells #[] 3)).trans (hB.mono (by simp)))
    clear hR hB
    go_wp2_with fail
    go_ret
    exact ⟨_, _, rfl, .inl rfl, HB3.out⟩
end Go.Proofs.Ytfgpjkkdgjhkfaa
