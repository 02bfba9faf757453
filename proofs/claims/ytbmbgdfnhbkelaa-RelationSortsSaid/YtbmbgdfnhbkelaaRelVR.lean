/- Contract: the reference's Topological. -/
import Derived.Test.YtbmbgdfnhbkelaaRelV
namespace Go.Proofs.Ytbmbgdfnhbkelaa
open Go Go.RowKit
set_option linter.unusedVariables false

def lenV : Value → Nat | .slice _ l _ => l | _ => 0
/-- point i may be placed next as far as the first j points say -/
def frB (f : Nat → Nat) (p i : Nat) : Nat → Bool
  | 0 => !p.testBit i
  | j + 1 => frB f p i j && (decide (j = i) || p.testBit j || !(f j).testBit i)
theorem frB_iff {f : Nat → Nat} {p i : Nat} : ∀ {j : Nat}, frB f p i j = true ↔ p.testBit i = false ∧ ∀ t, t < j → t = i ∨ p.testBit t = true ∨ (f t).testBit i = false
  | 0 => by simp [frB]
  | j + 1 => by
    rw [frB, Bool.and_eq_true, frB_iff (j := j)]
    constructor
    · rintro ⟨⟨h1, h2⟩, h3⟩
      refine ⟨h1, fun t ht => ?_⟩
      by_cases e : t = j
      · subst e; simpa [or_assoc] using h3
      · exact h2 t (by omega)
    · rintro ⟨h1, h2⟩
      exact ⟨⟨h1, fun t ht => h2 t (by omega)⟩, by have := h2 j (by omega); simpa [or_assoc] using this⟩
theorem zero_iff_bits {x : Nat} : x = 0 ↔ ∀ t, x.testBit t = false := by
  constructor
  · rintro rfl t; simp
  · intro h; apply Nat.eq_of_testBit_eq; intro t; rw [h t]; simp
theorem free_frB {f : Nat → Nat} {p i n : Nat} (hn : n ≤ 64) (hi : i < n) (hp : p < 18446744073709551616) : freeB (transF n f) p i = frB f p i n := by
  have hu : transF n f i < 18446744073709551616 := trN_u hn
  rw [Bool.eq_iff_iff, frB_iff, freeB, Bool.and_eq_true, Bool.not_eq_true', decide_eq_true_iff, zero_iff_bits]
  constructor
  · rintro ⟨h1, h2⟩
    refine ⟨h1, fun t ht => ?_⟩
    have h := h2 t
    rw [← Bool.not_eq_true, andN_bit (andN_u hu) (pow_lt64 (by omega)), andN_bit hu hp, transF_bit] at h
    by_cases e : t = i
    · exact .inl e
    · by_cases hpt : p.testBit t = true
      · exact .inr (.inl hpt)
      · refine .inr (.inr ?_)
        rw [← Bool.not_eq_true]
        intro hf
        apply h
        exact ⟨⟨⟨ht, hf⟩, by simpa using hpt⟩, by rw [Nat.testBit_two_pow]; simp; omega⟩
  · rintro ⟨h1, h2⟩
    refine ⟨h1, fun t => ?_⟩
    rw [← Bool.not_eq_true, andN_bit (andN_u hu) (pow_lt64 (by omega)), andN_bit hu hp, transF_bit]
    rintro ⟨⟨⟨ht, hf⟩, hpt⟩, hti⟩
    rcases h2 t ht with e | e | e
    · subst e; rw [Nat.testBit_two_pow_self] at hti; cases hti
    · rw [e] at hpt; cases hpt
    · rw [e] at hf; cases hf

/-- what holds within a step: not found yet, or the step is done -/
def St (b : Nat → Nat) (n k : Nat) (l : List Nat) (p : Nat) (fd : Bool) (i : Nat) (l' : List Nat) (p' : Nat) : Prop :=
  (fd = false → l' = l ∧ p' = p ∧ ∀ t, t < i → freeB b p t = false) ∧ (fd = true → topN b n (k + 1) = some (l', p'))

set_option maxRecDepth 100000 in
set_option maxHeartbeats 4000000 in
theorem rtopo_ok (a : Option Addr) (n c : Nat) (f : Nat → Nat) (w : World) (hr : Row w a n f) (hn : n ≤ 64) :
    Calls Try.prog 34 #[.slice a n c] w (GivesLB w (topL (transF n f) n) (topB (transF n f) n)) := by
  have HA := Lib.hid hr
  have HFR := Lib.hid (fun p i (hi : i < n) (hp : p < 18446744073709551616) => free_frB (f := f) hn hi hp)
  clear hr
  obtain ⟨b, hb0⟩ : ∃ b, b = transF n f := ⟨_, rfl⟩
  rw [← hb0] at HFR ⊢
  clear hb0
  obtain ⟨i0, hi, hz0, hz1, hz2⟩ := info_parts infoI
  go_enter Try.func34, Try.ntmps34
  go_wp2_with fail
  go_loopw [4, 5] (fun v vp wr => ∃ (k p : Nat) (l : List Nat), k ≤ n ∧ vp = .int .u64 p ∧ topN b n k = some (l, p) ∧ wr.ownsRow w.heap.size 3 1 v l.length (rowI l) ∧ Below w.heap.size w wr) (fun v _ _ => n - lenV v)
  case atStart => exact ⟨0, 0, [], Nat.zero_le _, rfl, rfl, World.ownsRow_nil w w.heap.size 3 1, Below.refl _ _⟩
  case round =>
    obtain ⟨k, p, l, hk, rfl, htop, ho, hb⟩ := hrel
    obtain ⟨hpu, hlen⟩ := topN_u hn htop
    have HP := Lib.hid htop
    have HL := Lib.hid hlen
    have hlk : l.length ≤ n := by omega
    have HO3 := Lib.hid ho
    have HB3 := Lib.hid hb
    clear htop ho hb hlen
    obtain ⟨ra, rc, rfl, hrow⟩ := RowL.of_own HO3.out
    have HW := Lib.hid hrow
    clear hrow
    by_cases hlt : k < n
    · have hll : l.length < n := by have := HL.out; omega
      go_wp2_with fail
      obtain ⟨wo, rfl⟩ : ∃ wo : World, wo = wr := ⟨_, rfl⟩
      go_loopw [4, 5, 6, 7] (fun v vp vf vi wr => ∃ (fd : Bool) (i p' : Nat) (l' : List Nat), i ≤ n ∧ vi = .int .i64 i ∧ vf = .bool fd ∧ vp = .int .u64 p' ∧ St b n k l p fd i l' p' ∧ wr.ownsRow w.heap.size 3 1 v l'.length (rowI l') ∧ Below w.heap.size w wr) (fun _ _ _ vi _ => n - (intOf vi).toNat)
      case atStart => exact ⟨false, 0, p, l, Nat.zero_le _, rfl, rfl, rfl, ⟨fun _ => ⟨rfl, rfl, fun t ht => by omega⟩, fun h => by cases h⟩, HO3.out, HB3.out⟩
      case round =>
        obtain ⟨fd, i, p', l', hi1, rfl, rfl, rfl, hst, ho, hb⟩ := hrel
        obtain ⟨hst0, hst1⟩ := hst
        have HO4 := Lib.hid ho
        have HB4 := Lib.hid hb
        clear ho hb
        obtain ⟨ra2, rc2, rfl, _⟩ := RowL.of_own HO4.out
        cases fd with
        | true =>
          have HN := Lib.hid (hst1 rfl)
          have hlen2 := (topN_u hn HN.out).2
          have HL2 := Lib.hid hlen2
          clear hst0 hst1 hlen2
          by_cases hin : i < n
          · go_wp2_with fail
            exact ⟨⟨k + 1, p', l', by omega, rfl, HN.out, HO4.out, HB4.out⟩, by have := HL.out; have := HL2.out; simp [lenV]; omega⟩
          · go_wp2_with fail
            exact ⟨⟨k + 1, p', l', by omega, rfl, HN.out, HO4.out, HB4.out⟩, by have := HL.out; have := HL2.out; simp [lenV]; omega⟩
        | false =>
          obtain ⟨rfl, rfl, hall⟩ := hst0 rfl
          have HA2 := Lib.hid hall
          clear hst1 hst0 hall
          by_cases hin : i < n
          · cases hpi : p'.testBit i
            all_goals
              have HPI := Lib.hid hpi
              have HF0 := Lib.hid (show frB f p' i 0 = !p'.testBit i from rfl)
              rw [hpi] at HF0
              clear hpi
              go_wp2_with fail
              refine (rhas_any p' i _ hpu (by omega)).mono ?_
              rintro e w' ⟨rfl, rfl⟩
              rw [HPI.out]
              go_wp2_with fail
              go_loop [8, 31] (fun vf vj => ∃ j : Nat, j ≤ n ∧ vj = .int .i64 j ∧ vf = .bool (frB f p' i j)) (fun _ vj => n - (intOf vj).toNat)
              case atStart => exact ⟨0, Nat.zero_le _, rfl, by rw [HF0.out]; rfl⟩
              case round =>
                obtain ⟨j, hj1, rfl, rfl⟩ := hrel
                by_cases hjn : j < n
                · rcases HA.out.keep HB4.out with h0 | ⟨bb, off, rfl, hbz, hc⟩
                  · omega
                  have hcj := (hc j hjn).1
                  have hfu := (hc j hjn).2
                  clear hc
                  cases hfr : frB f p' i j
                  · have HX := Lib.hid (show frB f p' i (j + 1) = false by rw [frB, hfr]; rfl)
                    clear hfr
                    go_wp2_with fail
                    exact ⟨⟨j + 1, by omega, by go_num, by rw [HX.out]⟩, by simp [intOf]; omega⟩
                  · by_cases hji : j = i
                    · have HX := Lib.hid (show frB f p' i (j + 1) = true by rw [frB, hfr, hji]; simp)
                      have hjI : ((j : Int) == (i : Int)) = true := by rw [hji]; simp
                      clear hfr hji
                      go_wp2_with fail
                      exact ⟨⟨j + 1, by omega, by go_num, by rw [HX.out]⟩, by simp [intOf]; omega⟩
                    · have hjI : ((j : Int) == (i : Int)) = false := by rw [beq_eq_false_iff_ne]; omega
                      cases hpj : p'.testBit j
                      · cases hfj : (f j).testBit i
                        all_goals
                          have HPJ := Lib.hid hpj
                          have HFJ := Lib.hid hfj
                          have HX := Lib.hid (show frB f p' i (j + 1) = _ by rw [frB, hfr, hpj, hfj])
                          simp only [hji, decide_false, Bool.true_and, Bool.false_or, Bool.not_false, Bool.not_true] at HX
                          clear hfr hpj hfj hji
                          go_wp2_with fail
                          refine (rhas_any p' j _ hpu (by omega)).mono ?_
                          rintro e w' ⟨rfl, rfl⟩
                          rw [HPJ.out]
                          go_wp2_with fail
                          refine (rhas_any _ i _ hfu (by omega)).mono ?_
                          rintro e w' ⟨rfl, rfl⟩
                          rw [HFJ.out]
                          go_wp2_with fail
                          exact ⟨⟨j + 1, by omega, by go_num, by rw [HX.out]⟩, by simp [intOf]; omega⟩
                      · have HPJ := Lib.hid hpj
                        have HX := Lib.hid (show frB f p' i (j + 1) = true by rw [frB, hfr, hpj]; simp)
                        clear hfr hpj hji
                        go_wp2_with fail
                        refine (rhas_any p' j _ hpu (by omega)).mono ?_
                        rintro e w' ⟨rfl, rfl⟩
                        rw [HPJ.out]
                        go_wp2_with fail
                        exact ⟨⟨j + 1, by omega, by go_num, by rw [HX.out]⟩, by simp [intOf]; omega⟩
                · obtain rfl : n = j := by omega
                  have HE := Lib.hid (HFR.out p' i hin hpu)
                  cases hfr : frB f p' i n
                  · have HX := Lib.hid (show freeB b p' i = false by rw [HE.out, hfr])
                    have HFF := Lib.hid hfr
                    clear hfr
                    go_wp2_with fail
                    exact ⟨⟨false, i + 1, p', l', by omega, by go_num, rfl, rfl, ⟨fun _ => ⟨rfl, rfl, fun t ht => by
                      by_cases et : t = i
                      · subst et; exact HX.out
                      · exact HA2.out t (by omega)⟩, fun h => by cases h⟩, HO4.out, HB4.out⟩, by simp [intOf]; omega⟩
                  · have HX := Lib.hid (topN_step HP.out (next_some hin HA2.out (by rw [HE.out, hfr])))
                    clear hfr
                    obtain ⟨q, hq⟩ : ∃ q, q = 2 ^ i := ⟨_, rfl⟩
                    have hqu : q < 18446744073709551616 := by rw [hq]; exact pow_lt64 (by omega)
                    obtain ⟨y, hy⟩ : ∃ y, y = p' ||| q := ⟨_, rfl⟩
                    have h1 : bits .or .u64 (p' : Int) (q : Int) = (y : Int) := by rw [hy]; exact u_or hpu hqu
                    rw [← hq, ← hy] at HX
                    have HB35 := Lib.hid (fun W : World => show Calls Try.prog 35 #[.int .i64 i] W fun e w' => e = .returned (.int .u64 (q : Int)) ∧ W = w' from by rw [hq]; exact rbit_any i W (by omega))
                    clear hy hq hqu
                    go_wp2_with (at_builtin; refine wpList_append_own _ rfl _ _ 33 rfl w.heap.size 3 i0 (.int .i64 0) 1 8 Try.underlying33 hi hz0 hz1 hz2 rfl (by decide) _ _ _ rfl (HO4.out.alloc _) ⟨wr.heap.size, 0, none⟩ 1 1 [.int .i64 (i : Int)] rfl rfl (cell_new _ _ _) ?c2 ?c3 ?c4 ?c5 ?_)
                    case c2 => simp [Value.oneCell']
                    case c3 => unfold maxLen; omega
                    case c4 => omega
                    case c5 => have := HB4.out.size; simp; omega
                    intro v' w4 hown1 hg2 _
                    have hb2 : Below w.heap.size w w4 := (HB4.out.alloc HB4.out.size _).grown hg2 (by have := HB4.out.size; simp; omega) (by intro q hq; exact (HO4.out.lt q hq).1)
                    have HO5 := Lib.hid (own_snoc (l' := l' ++ [i]) rfl hown1)
                    have HB5 := Lib.hid hb2
                    clear hg2 hown1 hb2
                    go_wp2_with fail
                    refine (HB35.out _).mono ?_
                    rintro e w' ⟨rfl, rfl⟩
                    go_wp2_with fail
                    exact ⟨⟨true, i + 1, y, l' ++ [i], by omega, by go_num, rfl, rfl, ⟨(fun h => by cases h), fun _ => HX.out⟩, HO5.out, HB5.out⟩, by simp [intOf]; omega⟩
          · obtain rfl : n = i := by omega
            have hnx := next_none HA2.out
            have HE1 := Lib.hid (show topL b n = [] by unfold topL; rw [topN_stop HP.out hnx n hlt])
            have HE2 := Lib.hid (show topB b n = false by unfold topB; rw [topN_stop HP.out hnx n hlt]; rfl)
            clear hnx
            go_wp2_with fail
            go_ret2
            exact ⟨none, 0, by rw [HE1.out, HE2.out]; rfl, .inl HE1.out, HB4.out⟩
    · have HKN := Lib.hid (show n = k by omega)
      have hll : ¬ l.length < n := by have := HL.out; omega
      have HE1 := Lib.hid (show topL b n = l by unfold topL; have := HP.out; rw [← HKN.out] at this; rw [this])
      have HE2 := Lib.hid (show topB b n = true by unfold topB; have := HP.out; rw [← HKN.out] at this; rw [this]; rfl)
      go_wp2_with fail
      go_ret2
      exact ⟨ra, rc, by rw [HE1.out, HE2.out]; rfl, by rw [HE1.out]; exact HW.out, HB3.out⟩
end Go.Proofs.Ytbmbgdfnhbkelaa
