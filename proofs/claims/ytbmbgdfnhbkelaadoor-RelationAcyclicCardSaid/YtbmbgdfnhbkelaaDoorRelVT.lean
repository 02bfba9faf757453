/- Contract: Topological. -/
import Derived.Test.YtbmbgdfnhbkelaaDoorRelV
namespace Go.Proofs.YtbmbgdfnhbkelaaDoor
open Go Go.RowKit
set_option linter.unusedVariables false

set_option maxRecDepth 100000 in
set_option maxHeartbeats 2000000 in
theorem topo_ok (a : Option Addr) (n c : Nat) (f : Nat → Nat) (w : World) (hr : Row w a n f) (hv : valB n f = true) :
    Calls Tryd.prog 19 #[.slice a n c] w (GivesLB w (topL (transF n f) n) (topB (transF n f) n)) := by
  have hn := (valB_iff.1 hv).1
  have HA := Lib.hid hr
  have HV := Lib.hid hv
  clear hr hv
  obtain ⟨i0, hi, hz0, hz1, hz2⟩ := info_parts infoI
  go_enter Tryd.func19, Tryd.ntmps19
  go_wp2_with fail
  refine (valid_any _ _ _ _ _ HA.out).mono ?_
  rintro e w' ⟨rfl, rfl⟩
  rw [HV.out]
  go_wp2_with fail
  refine (trans_ok _ _ _ _ _ HA.out HV.out).mono ?_
  rintro e w1 ⟨r, cr, rfl, hR, hB⟩
  have HT := Lib.hid hR
  have HB1 := Lib.hid hB
  clear hR hB
  generalize transF n f = b at *
  go_wp2_with (refine wpList_make_own _ rfl _ _ 23 rfl w1.heap.size 3 i0 (.int .i64 0) 1 Tryd.underlying23 hi hz0 hz1 .i64 .i64 _ n rfl rfl rfl ?c1 ?c2 ?c3 ?_)
  case c1 => rw [hz2]; omega
  case c2 => unfold maxLen; omega
  case c3 => exact Nat.le_refl _
  intro w2 hown0 hg1
  have hb : Below w1.heap.size w1 w2 := (Below.refl _ w1).grown hg1 (Nat.le_refl _) (by intro k hk; cases hk)
  have HO := Lib.hid hown0
  have HB2 := Lib.hid hb
  clear hown0 hg1 hb
  go_wp2_with fail
  go_loopw [6, 7, 19] (fun vp v vi wr => ∃ (k p : Nat) (l : List Nat), k ≤ n ∧ vi = .int .i64 k ∧ vp = .int .u64 p ∧ topN b n k = some (l, p) ∧ wr.ownsRow w1.heap.size 3 1 v l.length (rowI l) ∧ Below w1.heap.size w1 wr) (fun _ _ vi _ => n - (intOf vi).toNat)
  case atStart => exact ⟨0, 0, [], Nat.zero_le _, rfl, rfl, rfl, HO.out, HB2.out⟩
  case round =>
    obtain ⟨k, p, l, hk, rfl, rfl, htop, ho, hb⟩ := hrel
    obtain ⟨hpu, hlen⟩ := topN_u hn htop
    have HP := Lib.hid htop
    have HL := Lib.hid hlen
    have hl64 : l.length ≤ 64 := by omega
    have HO3 := Lib.hid ho
    have HB3 := Lib.hid hb
    clear htop ho hb hlen
    obtain ⟨ra, rc, rfl, hrow⟩ := RowL.of_own HO3.out
    have HW := Lib.hid hrow
    clear hrow
    by_cases hlt : k < n
    · cases hnx : nextO b p n with
      | none =>
        have HX := Lib.hid hnx
        have HE1 := Lib.hid (show topL b n = [] by unfold topL; rw [topN_stop HP.out hnx n hlt])
        have HE2 := Lib.hid (show topB b n = false by unfold topB; rw [topN_stop HP.out hnx n hlt]; rfl)
        clear hnx
        go_wp2_with fail
        refine (nextPoint_any _ _ _ _ p _ (HT.out.keep HB3.out) hn hpu).mono ?_
        rintro e w3 ⟨rfl, hB⟩
        rw [HX.out, optZ]
        have HB4 := Lib.hid ((HB1.out.trans (HB3.out.mono HB1.out.size)).trans (hB.mono (Nat.le_trans HB1.out.size HB3.out.size)))
        clear hB
        go_wp2_with fail
        go_ret2
        exact ⟨none, 0, by rw [HE1.out, HE2.out]; rfl, .inl HE1.out, HB4.out⟩
      | some i =>
        have HX := Lib.hid hnx
        have HN := Lib.hid (topN_step HP.out hnx)
        have hin := next_lt hnx
        clear hnx
        obtain ⟨q, hq⟩ : ∃ q, q = 2 ^ i := ⟨_, rfl⟩
        have hqu : q < 18446744073709551616 := by rw [hq]; exact pow_lt64 (by omega)
        have hw := shl_u (j := i) (by omega)
        rw [← hq] at hw
        obtain ⟨y, hy⟩ : ∃ y, y = p ||| q := ⟨_, rfl⟩
        have h1 : bits .or .u64 (p : Int) (q : Int) = (y : Int) := by rw [hy]; exact u_or hpu hqu
        have HN2 := Lib.hid (show topN b n (k + 1) = some (l ++ [i], y) by rw [HN.out, hy, hq])
        clear hy hq hqu
        go_wp2_with fail
        refine (nextPoint_any _ _ _ _ p _ (HT.out.keep HB3.out) hn hpu).mono ?_
        rintro e w3 ⟨rfl, hB⟩
        rw [HX.out, optZ]
        have HO4 := Lib.hid (ownsRow_keep HO3.out hB)
        have HB4 := Lib.hid (HB3.out.trans (hB.mono HB3.out.size))
        clear hB
        go_wp2_with (at_builtin; refine wpList_append_own _ rfl _ _ 23 rfl w1.heap.size 3 i0 (.int .i64 0) 1 8 Tryd.underlying23 hi hz0 hz1 hz2 rfl (by decide) _ _ _ rfl (HO4.out.alloc _) ⟨w3.heap.size, 0, none⟩ 1 1 [.int .i64 (i : Int)] rfl rfl (cell_new _ _ _) ?c2 ?c3 ?c4 ?c5 ?_)
        case c2 => simp [Value.oneCell']
        case c3 => unfold maxLen; omega
        case c4 => omega
        case c5 => have := HB4.out.size; simp; omega
        intro v' w4 hown1 hg2 _
        have hb2 : Below w1.heap.size w1 w4 := (HB4.out.alloc HB4.out.size _).grown hg2 (by have := HB4.out.size; simp; omega) (by intro q hq; exact (HO4.out.lt q hq).1)
        have HO5 := Lib.hid (own_snoc (l' := l ++ [i]) rfl hown1)
        have HB5 := Lib.hid hb2
        clear hg2 hown1 hb2
        go_wp2_with fail
        exact ⟨⟨k + 1, y, l ++ [i], by omega, by go_num, rfl, HN2.out, HO5.out, HB5.out⟩, by simp [intOf]; omega⟩
    · obtain rfl : n = k := by omega
      have HE1 := Lib.hid (show topL b n = l by unfold topL; rw [HP.out])
      have HE2 := Lib.hid (show topB b n = true by unfold topB; rw [HP.out]; rfl)
      have HB4 := Lib.hid (HB1.out.trans (HB3.out.mono HB1.out.size))
      go_wp2_with fail
      go_ret2
      exact ⟨ra, rc, by rw [HE1.out, HE2.out]; rfl, by rw [HE1.out]; exact HW.out, HB4.out⟩

set_option maxHeartbeats 400000 in
theorem topo_no (a : Option Addr) (n c : Nat) (f : Nat → Nat) (w : World) (hr : Row w a n f) (hv : valB n f = false) :
    Calls Tryd.prog 19 #[.slice a n c] w (GivesLB w [] false) := by
  have HA := Lib.hid hr
  have HV := Lib.hid hv
  clear hr hv
  go_enter Tryd.func19, Tryd.ntmps19
  go_wp2_with fail
  refine (valid_any _ _ _ _ _ HA.out).mono ?_
  rintro e w' ⟨rfl, rfl⟩
  rw [HV.out]
  go_wp2_with fail
  go_ret2
  exact ⟨none, 0, rfl, .inl rfl, Below.refl _ _⟩
end Go.Proofs.YtbmbgdfnhbkelaaDoor
