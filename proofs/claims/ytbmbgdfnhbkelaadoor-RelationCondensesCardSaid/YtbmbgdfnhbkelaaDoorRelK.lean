/- Contract: the reference's Closure. -/
import Derived.Test.YtbmbgdfnhbkelaaDoorRelT
import Derived.Deep.RegionWith
import Derived.Test.YtbmbgdfnhbkelaaDoorRelLM
import Derived.Laws.AppendOwnNone
namespace Go.Proofs.YtbmbgdfnhbkelaaDoor
open Go Go.RowKit
set_option linter.unusedVariables false

/-- rows before i are F's, the others f's -/
def mixF (i : Nat) (F f : Nat → Nat) (t : Nat) : Nat := if t < i then F t else f t
theorem mixF_zero (F f : Nat → Nat) (t : Nat) : mixF 0 F f t = f t := by simp [mixF]
theorem mixF_at (i : Nat) (F f : Nat → Nat) : mixF i F f i = f i := by simp [mixF]
theorem mixF_all {n t : Nat} {F f : Nat → Nat} (h : t < n) : mixF n F f t = F t := by simp [mixF, h]
theorem ownsC_mix {w : World} {base g n cap : Nat} {e : TypeId} {F f : Nat → Nat} {j x : Nat} (h : ownsC w base g n cap e (mixF j F f)) (hx : x = F j) : ownsC (w.setCell ⟨g, j, none⟩ (.int .u64 (x : Int))) base g n cap e (mixF (j + 1) F f) := by
  refine ownsC_congr (ownsC_set h j x) fun t ht => ?_
  unfold mixF
  by_cases et : t = j
  · subst et; rw [if_pos rfl, if_pos (by omega), hx]
  · rw [if_neg et]
    by_cases h2 : t < j
    · rw [if_pos h2, if_pos (by omega)]
    · rw [if_neg h2, if_neg (by omega)]
theorem own_some {w : World} {base : Nat} {e : TypeId} {v : Value} {n : Nat} {f : Nat → Nat} (h : w.ownsRow base e 1 v n (rowU n f)) (hv : v ≠ .slice none 0 0) : ∃ g cap, v = .slice (some ⟨g, 0, none⟩) n cap ∧ base ≤ g ∧ ownsC w base g n cap e f := by
  rcases h.2 with ⟨h1, _⟩ | ⟨g, cap, cur, rfl, hg, _⟩
  · exact absurd h1 hv
  · exact ⟨g, cap, rfl, hg, h⟩

theorem lit_empty (w : World) (f : Nat → Nat) : (w.alloc (.cells #[] 37)).ownsRow w.heap.size 37 1 (.slice (some ⟨w.heap.size, 0, none⟩) 0 0) 0 (rowU 0 f) :=
  World.ownsRow_lit w #[] 0 (Nat.le_refl _) (by unfold maxLen; omega) rfl

set_option maxHeartbeats 1000000 in
theorem rclosure_nil (f : Nat → Nat) (w : World) :
    Calls Tryd.prog 22 #[.slice none 0 0] w (Gives w 0 f) := by
  go_enter Tryd.func22, Tryd.ntmps22
  go_wp2_with fail
  go_loop [12] (fun i => i = .int .i64 0) (fun _ => 0)
  case atStart => rfl
  case round =>
    subst hrel
    go_wp2_with fail
    go_loop [28] (fun i => i = .int .i64 0) (fun _ => 0)
    case atStart => rfl
    case round =>
      subst hrel
      go_wp2_with fail
      go_ret
      exact ⟨_, _, rfl, .inl rfl, (Below.refl _ _).alloc (Nat.le_refl _) _⟩

set_option maxHeartbeats 2000000 in
theorem rclosure_some (ad : Addr) (n c : Nat) (f : Nat → Nat) (w : World) (hr : Row w (some ad) n f) (hn : n ≤ 64) :
    Calls Tryd.prog 22 #[.slice (some ad) n c] w (Gives w n (clF n f)) := by
  have HU := Lib.hid (fun k (h : k ≤ n) i (hi : i < n) => warF_u (f := fun i => f i ||| 2 ^ i) (n := n) (fun i hi => or_u (hr.bound i hi) (pow_lt64 (by omega))) h i hi)
  have HFU := Lib.hid hr.bound
  obtain ⟨i0, hi, hz0, hz1, hz2⟩ := info_parts infoU
  have HN := Lib.hid (show ∀ j u, (rowU n f)[j]? = some u → (w.alloc (.cells #[] 37)).cell? (ad.add j) = some u by
    intro j u hu
    have hj : j < n := by
      apply Nat.lt_of_not_le
      intro hle
      rw [List.getElem?_eq_none (by rw [rowU_length]; omega)] at hu
      cases hu
    rw [rowU_get hj] at hu
    rcases hr with h0 | ⟨b, off, he, hl, hc⟩
    · omega
    · obtain rfl : ad = ⟨b, off, none⟩ := Option.some.inj he
      have h2 : (⟨b, off, none⟩ : Addr).add j = ⟨b, off + j, none⟩ := by unfold Addr.add; split <;> simp_all
      rw [h2, Below.cell (B := w.heap.size) ((Below.refl _ w).alloc (Nat.le_refl _) _) hl, (hc j hj).1, hu])
  clear hr
  go_enter Tryd.func22, Tryd.ntmps22
  go_wp2_with (at_builtin; refine wpList_append_own _ rfl _ _ 22 rfl w.heap.size 37 i0 (.int .u64 0) 1 8 Tryd.underlying22 hi hz0 hz1 hz2 rfl (by decide) _ 0 _ rfl (lit_empty w f) ad n c (rowU n f) rfl ?c1 HN.out ?c2 ?c3 ?c4 ?c5 ?_)
  case c1 => rw [rowU_length]; omega
  case c2 => intro u hu; simp only [rowU, List.mem_map] at hu; obtain ⟨t, _, rfl⟩ := hu; rfl
  case c3 => unfold maxLen; omega
  case c4 => omega
  case c5 => simp
  intro v' w1 hown1 hg1 hv1
  have hb1 : Below w.heap.size w w1 := ((Below.refl _ w).alloc (Nat.le_refl _) _).grown hg1 (by simp) (by intro q hq; injection hq with hq; subst hq; exact Nat.le_refl _)
  obtain ⟨g, cap, rfl, hg, ho⟩ := own_some (n := n) (f := f) (by simpa [rowU] using hown1) hv1
  have HO : Hid (ownsC w1 w.heap.size g n cap 37 (mixF 0 (fun i => f i ||| 2 ^ i) f)) := Lib.hid (ownsC_congr ho fun t _ => (mixF_zero _ _ t).symm)
  have HB := Lib.hid hb1
  clear hown1 hg1 hv1 hb1 ho
  go_wp2_with fail
  go_loopw [12] (fun vi wr => ∃ i : Nat, i ≤ n ∧ vi = .int .i64 i ∧ ownsC wr w.heap.size g n cap 37 (mixF i (fun i => f i ||| 2 ^ i) f) ∧ Below w.heap.size w wr) (fun vi _ => n - (intOf vi).toNat)
  case atStart => exact ⟨0, Nat.zero_le _, rfl, HO.out, HB.out⟩
  case round =>
    obtain ⟨i, hi1, rfl, ho, hb⟩ := hrel
    by_cases hlt : i < n
    · have hci := ownsC_cell ho hlt
      have hfi := ownsC_free ho i
      rw [mixF_at] at hci
      have HO2 := Lib.hid ho
      have HB2 := Lib.hid hb
      clear ho hb
      have hS : bits .or .u64 (f i : Int) ((2 ^ i : Nat) : Int) = ((f i ||| 2 ^ i : Nat) : Int) := u_or (HFU.out i hlt) (pow_lt64 (by omega))
      have hi0 : (0 : Int) ≤ (i : Int) := by omega
      have hin : (i : Int) < (n : Int) := by omega
      obtain ⟨p, hp⟩ : ∃ p, p = 2 ^ i := ⟨_, rfl⟩
      have HB35 := Lib.hid (fun W : World => show Calls Tryd.prog 24 #[.int .i64 i] W fun e w' => e = .returned (.int .u64 (p : Int)) ∧ W = w' from by rw [hp]; exact rbit_any i W (by omega))
      rw [← hp] at hS
      obtain ⟨x, hx⟩ : ∃ x, x = f i ||| p := ⟨_, rfl⟩
      rw [← hx] at hS
      have HX := Lib.hid (show x = (fun i => f i ||| 2 ^ i) i by rw [hx, hp])
      clear hp hx
      go_wp2_with fail
      go_region_with (go_at_call 24; refine (HB35.out _).mono ?_; rintro e w' ⟨rfl, rfl⟩)
      all_goals
        go_wp2_with fail
        exact ⟨⟨i + 1, by omega, by go_num, ownsC_mix (ownsC_drew HO2.out) HX.out, HB2.out.drew.setCell hg _⟩, by simp [intOf]; omega⟩
    · obtain rfl : n = i := by omega
      have HO2 : Hid (ownsC wr w.heap.size g n cap 37 (warF (fun i => f i ||| 2 ^ i) 0)) := Lib.hid (ownsC_congr ho fun t ht => mixF_all ht)
      have HB2 := Lib.hid hb
      clear ho hb
      go_wp2_with fail
      obtain ⟨wq, rfl⟩ : ∃ wq : World, wq = wr := ⟨_, rfl⟩
      go_loopw [28] (fun vk wr => ∃ k : Nat, k ≤ n ∧ vk = .int .i64 k ∧ ownsC wr w.heap.size g n cap 37 (warF (fun i => f i ||| 2 ^ i) k) ∧ Below w.heap.size w wr) (fun vk _ => n - (intOf vk).toNat)
      case atStart => exact ⟨0, Nat.zero_le _, rfl, HO2.out, HB2.out⟩
      case round =>
        obtain ⟨k, hk1, rfl, ho, hb⟩ := hrel
        have HO3 := Lib.hid ho
        have HB3 := Lib.hid hb
        clear ho hb
        by_cases hltk : k < n
        · have HF := Lib.hid (HU.out k hk1)
          have HW : Hid (warF (fun i => f i ||| 2 ^ i) (k + 1) = stF (warF (fun i => f i ||| 2 ^ i) k) k) := Lib.hid rfl
          generalize warF (fun i => f i ||| 2 ^ i) k = F at *
          go_wp2_with fail
          obtain ⟨wo, rfl⟩ : ∃ wo : World, wo = wr := ⟨_, rfl⟩
          go_loopw [33] (fun vi wr => ∃ i : Nat, i ≤ n ∧ vi = .int .i64 i ∧ ownsC wr w.heap.size g n cap 37 (wsF F k i) ∧ Below w.heap.size w wr) (fun vi _ => n - (intOf vi).toNat)
          case atStart => exact ⟨0, Nat.zero_le _, rfl, ownsC_congr HO3.out (fun t _ => (wsF_zero F k t).symm), HB3.out⟩
          case round =>
            obtain ⟨i, hi1, rfl, ho, hb⟩ := hrel
            by_cases hlti : i < n
            · have hci := ownsC_cell ho hlti
              have hck := ownsC_cell ho hltk
              have hfi := ownsC_free ho i
              rw [wsF_at] at hci
              rw [wsF_mid] at hck
              have hFi := HF.out i hlti
              have HO4 := Lib.hid ho
              have HB4 := Lib.hid hb
              clear ho hb
              cases ht : (F i).testBit k
              · have HT := Lib.hid ht
                have HX := Lib.hid (show stF F k i = F i by simp [stF, ht])
                clear ht
                go_wp2_with fail
                refine (rhas_any _ k _ hFi (by omega)).mono ?_
                rintro e w' ⟨rfl, rfl⟩
                rw [HT.out]
                go_wp2_with fail
                exact ⟨⟨i + 1, by omega, by go_num, ownsC_pass HO4.out HX.out, HB4.out⟩, by simp [intOf]; omega⟩
              · have HT := Lib.hid ht
                obtain ⟨x, hx⟩ : ∃ x, x = F i ||| F k := ⟨_, rfl⟩
                have hS : bits .or .u64 (F i : Int) (F k : Int) = (x : Int) := by rw [hx]; exact u_or hFi (HF.out k hltk)
                have HX := Lib.hid (show x = stF F k i by simp [stF, ht, hx])
                clear ht hx
                have hj0 : (0 : Int) ≤ (k : Int) := by omega
                have hjn : (k : Int) < (n : Int) := by omega
                have hi0 : (0 : Int) ≤ (i : Int) := by omega
                have hin : (i : Int) < (n : Int) := by omega
                go_wp2_with fail
                refine (rhas_any _ k _ hFi (by omega)).mono ?_
                rintro e w' ⟨rfl, rfl⟩
                rw [HT.out]
                go_wp2_with fail
                go_region
                all_goals
                  go_wp2_with fail
                  exact ⟨⟨i + 1, by omega, by go_num, ownsC_ws (ownsC_drew HO4.out) HX.out, HB4.out.drew.setCell hg _⟩, by simp [intOf]; omega⟩
            · obtain rfl : n = i := by omega
              have HO4 := Lib.hid (ownsC_congr ho (f' := stF F k) (fun t ht => wsF_all ht))
              have HB4 := Lib.hid hb
              clear ho hb
              go_wp2_with fail
              exact ⟨⟨k + 1, by omega, by go_num, by rw [HW.out]; exact HO4.out, HB4.out⟩, by simp [intOf]; omega⟩
        · obtain rfl : n = k := by omega
          go_wp2_with fail
          go_ret
          exact ⟨_, _, rfl, Row.ownedC HO3.out (HU.out n (Nat.le_refl _)), HB3.out⟩

/-- the reference's Closure -/
theorem rclosure_ok (a : Option Addr) (n c : Nat) (f : Nat → Nat) (w : World) (hr : Row w a n f) (hn : n ≤ 64) (hnil : a = none → n = 0 ∧ c = 0) :
    Calls Tryd.prog 22 #[.slice a n c] w (Gives w n (clF n f)) := by
  cases a with
  | none => obtain ⟨rfl, rfl⟩ := hnil rfl; exact rclosure_nil _ w
  | some x => exact rclosure_some x n c f w hr hn
end Go.Proofs.YtbmbgdfnhbkelaaDoor
