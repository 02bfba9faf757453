/- Contracts: Components, Order. -/
import Derived.Test.YtbmbgdfnhbkelaaDoorRelCT
namespace Go.Proofs.YtbmbgdfnhbkelaaDoor
open Go Go.RowKit
set_option linter.unusedVariables false

set_option maxHeartbeats 1000000 in
/-- relation.Components of a relation -/
theorem components_ok (a : Option Addr) (n c : Nat) (f : Nat → Nat) (w : World) (hr : Row w a n f) (hv : valB n f = true) (hT : Tab w) :
    Calls Tryd.prog 6 #[.slice a n c] w (GivesL w (numL n (clF n f))) := by
  have HA := Lib.hid hr
  have HV := Lib.hid hv
  have HP := Lib.hid (clF_pre hv)
  have HTab := Lib.hid hT
  clear hr hv hT
  go_enter Tryd.func6, Tryd.ntmps6
  go_wp2_with fail
  refine (valid_any _ _ _ _ _ HA.out).mono ?_
  rintro e w' ⟨rfl, rfl⟩
  rw [HV.out]
  go_wp2_with fail
  refine (closure_ok _ _ _ _ _ HA.out HV.out).mono ?_
  rintro e w1 ⟨r1, c1, rfl, hR, hB⟩
  have HC := Lib.hid hR
  have HB1 := Lib.hid hB
  clear hR hB
  go_wp2_with fail
  refine (comps_ok _ _ _ _ _ HC.out HP.out (HTab.out.keep HB1.out)).mono ?_
  rintro e w2 ⟨r2, c2, rfl, hR, hB⟩
  have HL := Lib.hid hR
  have HB2 := Lib.hid (HB1.out.trans (hB.mono HB1.out.size))
  clear hR hB
  go_wp2_with fail
  go_ret
  exact ⟨r2, c2, rfl, HL.out, HB2.out⟩
set_option maxHeartbeats 400000 in
theorem components_no (a : Option Addr) (n c : Nat) (f : Nat → Nat) (w : World) (hr : Row w a n f) (hv : valB n f = false) :
    Calls Tryd.prog 6 #[.slice a n c] w (GivesL w []) := by
  have HA := Lib.hid hr
  have HV := Lib.hid hv
  clear hr hv
  go_enter Tryd.func6, Tryd.ntmps6
  go_wp2_with fail
  refine (valid_any _ _ _ _ _ HA.out).mono ?_
  rintro e w' ⟨rfl, rfl⟩
  rw [HV.out]
  go_wp2_with fail
  go_ret
  exact ⟨none, 0, rfl, .inl rfl, Below.refl _ _⟩

theorem numL_at {n i : Nat} {c : Nat → Nat} (hi : i < n) : (numL n c)[i]? = some (numF n c i) := by simp [numL, hi]
theorem RowL.num {w : World} {a : Option Addr} {n i : Nat} {c : Nat → Nat} (h : RowL w a (numL n c)) (hi : i < n) : ∃ b off, a = some ⟨b, off, none⟩ ∧ b < w.heap.size ∧ ∀ j, j < n → w.cell? ⟨b, off + j, none⟩ = some (.int .i64 (numF n c j : Int)) := by
  rcases h with h | ⟨b, off, rfl, hl, hc⟩
  · have := numL_len n c; rw [h] at this; simp at this; omega
  · exact ⟨b, off, rfl, hl, fun j hj => hc j _ (numL_at hj)⟩
theorem take_snocL {l : List Nat} {q : Nat} (h : q < l.length) : l.take (q + 1) = l.take q ++ [l[q]] := by
  rw [List.take_succ_eq_append_getElem h]

set_option maxRecDepth 100000 in
set_option maxHeartbeats 4000000 in
/-- relation.Order of a relation -/
theorem order_ok (a : Option Addr) (n cc : Nat) (f : Nat → Nat) (w : World) (hr : Row w a n f) (hv : valB n f = true) (hT : Tab w) :
    Calls Tryd.prog 7 #[.slice a n cc] w (Gives w (cntN n (clF n f) n) (ordF n (clF n f))) := by
  have HA := Lib.hid hr
  have HV := Lib.hid hv
  have HP := Lib.hid (clF_pre hv)
  have hn := (valB_iff.1 hv).1
  have HTab := Lib.hid hT
  clear hr hv hT
  obtain ⟨c, hcl⟩ : ∃ c, c = clF n f := ⟨_, rfl⟩
  rw [← hcl] at HP ⊢
  have HCL := Lib.hid hcl
  clear hcl
  obtain ⟨K, hK⟩ : ∃ K, K = cntN n c n := ⟨_, rfl⟩
  have hKn : K ≤ n := by rw [hK]; exact cnt_le
  have HNK := Lib.hid (show ∀ i, i < n → numF n c i < K from fun i hi => by rw [hK]; exact num_lt HP.out hi hi)
  rw [← hK]
  have HKE := Lib.hid hK
  clear hK
  obtain ⟨i0, hi, hz0, hz1, hz2⟩ := info_parts infoU
  go_enter Tryd.func7, Tryd.ntmps7
  go_wp2_with fail
  refine (valid_any _ _ _ _ _ HA.out).mono ?_
  rintro e w' ⟨rfl, rfl⟩
  rw [HV.out]
  go_wp2_with fail
  refine (closure_ok _ _ _ _ _ HA.out HV.out).mono ?_
  rintro e w1 ⟨r1, c1, rfl, hR, hB⟩
  rw [← HCL.out] at hR
  have HC := Lib.hid hR
  have HB1 := Lib.hid hB
  clear hR hB
  go_wp2_with fail
  refine (comps_ok _ _ _ _ _ HC.out HP.out (HTab.out.keep HB1.out)).mono ?_
  rintro e w2 ⟨r2, c2, rfl, hR, hB⟩
  have HL := Lib.hid hR
  have HC2 := Lib.hid (HC.out.keep hB)
  have HB2 := Lib.hid (HB1.out.trans (hB.mono HB1.out.size))
  clear hR hB
  rw [numL_len, ← HKE.out]
  go_wp2_with (refine wpList_make_full _ rfl _ _ 22 rfl w.heap.size 37 i0 (.int .u64 0) 1 Tryd.underlying22 hi hz0 hz1 .i64 .i64 _ _ K rfl rfl (by simp) (by simp) ?c1 ?c2 ?c3 ?_)
  case c1 => rw [hz2]; omega
  case c2 => unfold maxLen; omega
  case c3 => exact HB2.out.size
  intro w3 hown0 hg1
  have hb3 : Below w2.heap.size w2 w3 := (Below.refl _ w2).grown hg1 (Nat.le_refl _) (by intro k hk; cases hk)
  have hown : ownsU w3 w.heap.size w2.heap.size K 37 (ordI n c (numF n c) 0) := by
    refine ownsU_congr (f := fun _ => 0) ?_ fun t _ => rfl
    unfold ownsU
    rw [← rowU_made]
    simpa using hown0
  have HO := Lib.hid hown
  have HB3 := Lib.hid hb3
  clear hown hown0 hg1 hb3
  have HNU := Lib.hid (fun j (hj : j < n) => num_lt64 HP.out hj)
  have HOU := Lib.hid (fun k y => ordI_u (n := n) (c := c) (num := numF n c) HNU.out k y)
  go_wp2_with fail
  go_loopw [24] (fun vi wr => ∃ i : Nat, i ≤ n ∧ vi = .int .i64 i ∧ ownsU wr w.heap.size w2.heap.size K 37 (ordI n c (numF n c) i) ∧ Below w2.heap.size w2 wr) (fun vi _ => n - (intOf vi).toNat)
  case atStart => exact ⟨0, Nat.zero_le _, rfl, HO.out, HB3.out⟩
  case round =>
    obtain ⟨i, hi1, rfl, ho, hb⟩ := hrel
    have HO4 := Lib.hid ho
    have HB4 := Lib.hid hb
    have HB5 := Lib.hid (HB2.out.trans (hb.mono HB2.out.size))
    clear ho hb
    by_cases hlt : i < n
    · rcases HC2.out.keep HB4.out with h0 | ⟨bb, off, rfl, hbz, hc⟩
      · omega
      have hci := (hc i hlt).1
      have hcu := (hc i hlt).2
      clear hc
      have HST := Lib.hid (show ordI n c (numF n c) (i + 1) = rowO (numF n c) (numF n c i) (ordI n c (numF n c) i) (mem (c i) 64) by
        rw [mem_all (HP.out.lt i hlt) hn]; rfl)
      have HRU := Lib.hid (fun (l : List Nat) (hl : ∀ j, j ∈ l → j ∈ mem (c i) 64) y => rowO_u (num := numF n c) (x := numF n c i) (l := l) (fun j hj => HNU.out j (by have := mem_mem.1 (hl j hj); exact bit_lt (HP.out.lt i hlt) this.2)) (HOU.out i) y)
      go_wp2_with fail
      refine (members_own (c i) _ hcu).mono ?_
      rintro e w4 ⟨r4, c4, rfl, hR, hB, hfr⟩
      have HFR := Lib.hid hfr
      clear hfr
      have HML := Lib.hid hR
      have HO5 : Hid (ownsU w4 w.heap.size w2.heap.size K 37 (ordI n c (numF n c) i)) := Lib.hid (ownsRow_keep HO4.out hB)
      have HB6 := Lib.hid (HB4.out.trans (hB.mono HB4.out.size))
      clear hR hB
      have HMB := Lib.hid (show ∀ q (hq : q < (mem (c i) 64).length), (mem (c i) 64)[q] < n from fun q hq => by
        have := mem_mem.1 (List.getElem_mem hq)
        exact bit_lt (HP.out.lt i hlt) this.2)
      have hml := mem_len (c i) 64
      generalize mem (c i) 64 = l at *
      obtain ⟨F, hF⟩ : ∃ F, F = ordI n c (numF n c) i := ⟨_, rfl⟩
      rw [← hF] at HO5 HST HRU
      clear hF
      obtain ⟨x, hx⟩ : ∃ x, x = numF n c i := ⟨_, rfl⟩
      have HX := Lib.hid hx
      have hxK : x < K := by rw [hx]; exact HNK.out i hlt
      rw [← hx] at HST HRU
      clear hx
      have HNE := Lib.hid (show ∀ z, r4 = some z → z.block ≠ w2.heap.size from fun z hz => by
        have h1 := HFR.out z hz
        have h2 := cell_lt (s := none) (ownsU_cell HO4.out hxK)
        omega)
      go_wp2_with fail
      obtain ⟨wo, rfl⟩ : ∃ wo : World, wo = wr := ⟨_, rfl⟩
      go_loopw [33] (fun vq wr => ∃ q : Nat, q ≤ l.length ∧ vq = .int .i64 q ∧ ownsU wr w.heap.size w2.heap.size K 37 (rowO (numF n c) x F (l.take q)) ∧ Below w2.heap.size w2 wr ∧ RowL wr r4 l) (fun vq _ => l.length - (intOf vq).toNat)
      case atStart => exact ⟨0, Nat.zero_le _, rfl, HO5.out, HB6.out, HML.out⟩
      case round =>
        obtain ⟨q, hq1, rfl, ho, hb, hrl⟩ := hrel
        have HO6 := Lib.hid ho
        have HB7 := Lib.hid hb
        have HRL := Lib.hid hrl
        clear ho hb hrl
        by_cases hltq : q < l.length
        · obtain ⟨b4, o4, rfl, hcq⟩ := HRL.out.at hltq
          obtain ⟨b2, o2, rfl, hbz2, hnum⟩ := (HL.out.keep HB7.out).num hlt
          have hjn := HMB.out q hltq
          have HTK := Lib.hid (take_snocL hltq)
          generalize l[q] = j at *
          have hni := hnum i hlt
          have hnj := hnum j hjn
          rw [← HX.out] at hni
          have hj64 := HNU.out j hjn
          clear hnum
          have hco := ownsU_cell HO6.out hxK
          have hfo := ownsU_free HO6.out x
          have hou := HRU.out (l.take q) (fun j hj => List.mem_of_mem_take hj) x
          obtain ⟨y, hy⟩ : ∃ y, y = rowO (numF n c) x F (l.take q) x := ⟨_, rfl⟩
          rw [← hy] at hco hou
          obtain ⟨m, hm⟩ : ∃ m, m = numF n c j := ⟨_, rfl⟩
          rw [← hm] at hnj hj64
          obtain ⟨p, hp⟩ : ∃ p, p = 2 ^ m := ⟨_, rfl⟩
          have hpu : p < 18446744073709551616 := by rw [hp]; exact pow_lt64 hj64
          have hw := shl_u (j := m) hj64
          rw [← hp] at hw
          obtain ⟨z, hz⟩ : ∃ z, z = y ||| p := ⟨_, rfl⟩
          have hS : bits .or .u64 (y : Int) (p : Int) = (z : Int) := by rw [hz]; exact u_or hou hpu
          have HZ := Lib.hid (show ∀ t, (if t = x then z else rowO (numF n c) x F (l.take q) t) = rowO (numF n c) x F (l.take (q + 1)) t from fun t => by
            rw [HTK.out, rowO_snoc, stepO]
            by_cases e : t = x
            · subst e; rw [if_pos rfl, if_pos rfl, hz, hy, hp, hm]
            · rw [if_neg e, if_neg e])
          clear hy hm hp hz hpu hou
          have hx0 : (0 : Int) ≤ (x : Int) := by omega
          have hxk : (x : Int) < (K : Int) := by omega
          have hm0 : (0 : Int) ≤ (m : Int) := by omega
          have hm64 : (m : Int) ≤ 64 := by omega
          have hi0 : (0 : Int) ≤ (i : Int) := by omega
          have hin : (i : Int) < (n : Int) := by omega
          have hj0 : (0 : Int) ≤ (j : Int) := by omega
          have hjn2 : (j : Int) < (n : Int) := by omega
          go_wp2_with fail
          go_region
          all_goals
            go_wp2_with fail
            exact ⟨⟨q + 1, by omega, by go_num, ownsU_congr (ownsU_set (ownsU_drew HO6.out) x z) (fun t _ => HZ.out t), HB7.out.drew.setCell (Nat.le_refl _) _, (HRL.out.keep (Below.refl _ _).drew).setCell _ _ HNE.out⟩, by simp [intOf]; omega⟩
        · have HE := Lib.hid (show l.take q = l from List.take_of_length_le (by omega))
          go_wp2_with fail
          exact ⟨⟨i + 1, by omega, by go_num, by rw [HST.out, ← HE.out]; exact HO6.out, HB7.out⟩, by simp [intOf]; omega⟩
    · obtain rfl : n = i := by omega
      go_wp2_with fail
      go_ret
      exact ⟨_, _, rfl, Row.owned HO4.out (fun y _ => HOU.out n y), HB5.out⟩
set_option maxHeartbeats 400000 in
theorem order_no (a : Option Addr) (n c : Nat) (f : Nat → Nat) (w : World) (hr : Row w a n f) (hv : valB n f = false) (q : Nat → Nat) :
    Calls Tryd.prog 7 #[.slice a n c] w (Gives w 0 q) := by
  have HA := Lib.hid hr
  have HV := Lib.hid hv
  clear hr hv
  go_enter Tryd.func7, Tryd.ntmps7
  go_wp2_with fail
  refine (valid_any _ _ _ _ _ HA.out).mono ?_
  rintro e w' ⟨rfl, rfl⟩
  rw [HV.out]
  go_wp2_with fail
  go_ret
  exact Gives.nil
end Go.Proofs.YtbmbgdfnhbkelaaDoor
