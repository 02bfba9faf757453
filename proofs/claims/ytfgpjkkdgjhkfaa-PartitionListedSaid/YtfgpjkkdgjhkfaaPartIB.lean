/- Contracts: extendAll, All. -/
import Derived.Test.YtfgpjkkdgjhkfaaPartIA
namespace Go.Proofs.Ytfgpjkkdgjhkfaa
open Go Go.RowKit Go.Maps
set_option linter.unusedVariables false


def preL (LL : List (List Nat)) (i : Nat) : List (List Nat) := (LL.take i).flatMap extL
def extT (l : List Nat) (j : Nat) : List (List Nat) := (List.range j).map fun c => l ++ [c]
theorem extT_full (l : List Nat) : extT l (cntL l + 1) = extL l := rfl
theorem extT_succ (l : List Nat) (j : Nat) : extT l (j + 1) = extT l j ++ [l ++ [j]] := by simp [extT, List.range_succ]
theorem extT_len (l : List Nat) (j : Nat) : (extT l j).length = j := by simp [extT]
theorem preL_succ {LL : List (List Nat)} {i : Nat} {l : List Nat} (h : LL[i]? = some l) : preL LL (i + 1) = preL LL i ++ extL l := by
  unfold preL; rw [List.take_add_one, h]; simp [List.flatMap_append]
theorem preL_all (LL : List (List Nat)) : preL LL LL.length = LL.flatMap extL := by unfold preL; rw [List.take_length]
theorem preL_len {LL : List (List Nat)} {i : Nat} {l : List Nat} (h : LL[i]? = some l) : (preL LL i).length + (cntL l + 1) ≤ (LL.flatMap extL).length := by
  have h1 : LL = LL.take (i + 1) ++ LL.drop (i + 1) := (List.take_append_drop _ _).symm
  have h2 : (LL.flatMap extL).length = (preL LL (i + 1)).length + ((LL.drop (i + 1)).flatMap extL).length := by
    unfold preL
    rw [← List.length_append, ← List.flatMap_append, ← h1]
  rw [h2, preL_succ h, List.length_append, ← extT_full, extT_len]
  omega
theorem getN_b {n : Nat} {l : List Nat} (h : Good n l) (hn : n ≤ 4096) {i : Nat} (hi : i < l.length) : B64 (getN l i) := by
  have h1 := good_le h (List.getElem_mem hi)
  rw [getN_at (List.getElem?_eq_getElem hi)]
  unfold B64; omega
theorem own_shapeN {w : World} {base n : Nat} {e : TypeId} {v : Value} {xs : List Value} (h : w.ownsRow base e 1 v n xs) : ∃ a c N, N = n ∧ v = .slice a N c := by
  obtain ⟨a, c, e⟩ := own_shape h
  exact ⟨a, c, n, rfl, e⟩
set_option maxRecDepth 100000 in
set_option maxHeartbeats 1000000 in
theorem extendAll_ok (a : Option Addr) (c n : Nat) (LL : List (List Nat)) (w : World) (hr : RowsS w a LL.length (atL LL)) (hg : ∀ l ∈ LL, Good n l) (hn : n ≤ 7) (hT : (LL.flatMap extL).length ≤ 100000) (hLL : LL.length ≤ 100000) :
    Calls Try.prog 50 #[.slice a LL.length c] w (GivesS w (LL.flatMap extL)) := by
  have H1 := Lib.hid hr
  have HGD := Lib.hid hg
  have HPL := Lib.hid (fun i l (h : LL[i]? = some l) => preL_len h)
  obtain ⟨T, hTe⟩ : ∃ T, T = (LL.flatMap extL).length := ⟨_, rfl⟩
  rw [← hTe] at hT HPL
  clear hr hg hTe
  obtain ⟨m, hm⟩ : ∃ m, m = LL.length := ⟨_, rfl⟩
  have HM := Lib.hid hm
  rw [← hm] at H1 hLL ⊢
  clear hm
  obtain ⟨i0, hi, hz0, hz1, hz2⟩ := info_parts infoR
  go_enter Try.func50, Try.ntmps50
  go_wp2_with fail
  go_loopw [3, 8] (fun v vi wr => ∃ i : Nat, i ≤ m ∧ vi = .int .i64 i ∧ OwnLL wr w.heap.size v (preL LL i) ∧ Below w.heap.size w wr) (fun _ vi _ => m - (intOf vi).toNat)
  case atStart => exact ⟨0, Nat.zero_le _, rfl, OwnLL.nil _ _, Below.refl _ _⟩
  case round =>
    obtain ⟨i, hi1, rfl, ho, hb⟩ := hrel
    have HO2 := Lib.hid ho
    have HB2 := Lib.hid hb
    clear ho hb
    by_cases him : i < m
    · obtain ⟨l, hl⟩ : ∃ l, LL[i]? = some l := ⟨_, List.getElem?_eq_getElem (by rw [← HM.out]; exact him)⟩
      have HL := Lib.hid hl
      have HGL := Lib.hid (HGD.out l (List.mem_of_getElem? hl))
      have hll : l.length = n := HGL.out.1
      have hpl := HPL.out i l hl
      have hcl := cntL_le l
      have HCV := Lib.hid (show cntV l.length (getN l) = cntL l by rw [cntV_yes (by rw [hll]; exact good_val HGL.out (by omega))]; rfl)
      have HPS := Lib.hid (preL_succ hl)
      rcases H1.out with h0 | ⟨b, off, rfl, hbz, hc⟩
      · omega
      obtain ⟨p, pc, hcell, hrow⟩ := hc i him
      rw [atL_get hl] at hcell hrow
      have HROW := Lib.hid hrow
      clear hc hrow hl
      obtain ⟨q, hq⟩ : ∃ q, q = l.length := ⟨_, rfl⟩
      have HCT := Lib.hid (fun W (h : RowI W (some p) l.length (getN l)) => countP_any (some p) l.length pc (getN l) W h (by unfold maxLen; omega))
      have HEX := Lib.hid (fun W k (h : RowI W (some p) l.length (getN l)) (hk : k ≤ 9223372036854775807) => extend_ok (some p) pc k l W h (by omega) hk)
      rw [HCV.out] at HCT
      obtain ⟨K, hK⟩ : ∃ K, K = cntL l := ⟨_, rfl⟩
      have HK := Lib.hid (show K + 1 = cntL l + 1 by rw [hK])
      rw [← hq] at hcell HCT HEX HROW hcl
      rw [← hK] at HCT hpl hcl
      have HQ := Lib.hid hq
      have hqn : q ≤ n := by rw [hq, hll]; exact Nat.le_refl _
      have HCELL := Lib.hid hcell
      have hcell1 := (HB2.out.cell (p := ⟨b, off + i, none⟩) hbz).trans hcell
      clear hq hll hK hcell
      go_wp2_with fail
      refine (HCT.out _ (HROW.out.keep HB2.out)).mono ?_
      rintro e w' ⟨rfl, rfl⟩
      go_wp2_with fail
      go_loopw [3, 17] (fun v vj wq => ∃ j : Nat, j ≤ K + 1 ∧ vj = .int .i64 j ∧ OwnLL wq w.heap.size v (preL LL i ++ extT l j) ∧ Below w.heap.size w wq) (fun _ vj _ => K + 1 - (intOf vj).toNat)
      case atStart => exact ⟨0, Nat.zero_le _, rfl, by have := HO2.out; simpa [extT] using this, HB2.out⟩
      case round =>
        obtain ⟨j, hj, rfl, ho, hb⟩ := hrel
        obtain ⟨va, vc, N, hN, rfl⟩ := own_shapeN ho.choose_spec.1
        have HO3 := Lib.hid ho
        have HB3 := Lib.hid hb
        clear ho hb
        by_cases hjk : j < K + 1
        · have hcell2 := (HB3.out.cell (p := ⟨b, off + i, none⟩) hbz).trans HCELL.out
          have hNT : N + 1 ≤ T := by rw [hN, List.length_append, extT_len]; omega
          have HET := Lib.hid (extT_succ l j)
          go_wp2_with fail
          refine (HEX.out _ j (HROW.out.keep HB3.out) (by omega)).mono ?_
          rintro e w5 ⟨g, rfl, hgl, hown, hB⟩
          obtain ⟨xs, hox, hx⟩ := HO3.out.keep hB
          have hvl := fun g' (e : (Value.slice va N vc).ownBlock = some g') => (World.ownsRow.lt (HO3.out.choose_spec.1) g' e).2
          have hlen : (l ++ [j]).length = q + 1 := by rw [List.length_append, ← HQ.out]; rfl
          have hgood := good_ext HGL.out (show j ≤ cntL l by have := HK.out; omega)
          have hrow5 : RowI w5 (some ⟨g, 0, none⟩) (l ++ [j]).length (getN (l ++ [j])) := by
            rw [hlen]; exact RowI.owned hown fun x hx => getN_b hgood (by omega) (by rw [hlen]; exact hx)
          have HR5 := Lib.hid hrow5
          have HOFF := Lib.hid (show ∀ g', (Value.slice va N vc).ownBlock = some g' → RowN w5 g' (some ⟨g, 0, none⟩) (l ++ [j]).length (getN (l ++ [j])) from fun g' e => ⟨hrow5, fun p hp => by cases hp; exact .inr (by have := hvl g' e; show g ≠ g'; omega)⟩)
          have HOX := Lib.hid hox
          have HX := Lib.hid hx
          have HB5 := Lib.hid (HB3.out.trans (hB.mono HB3.out.size))
          have HLEN := Lib.hid hlen
          have HNE := Lib.hid hN
          rw [← hN] at HOX
          clear hox hx hvl hlen hgood hrow5 hown hB hN
          go_wp2_with (at_builtin; refine wpList_append_own_at _ rfl _ _ 28 rfl w.heap.size 22 i0 (.slice none 0 0) 1 24 Try.underlying28 hi hz0 hz1 hz2 rfl (by decide) _ N xs rfl (HOX.out.alloc _) ⟨_, 0, none⟩ 1 1 [.slice (some ⟨g, 0, none⟩) (q + 1) (q + 1)] rfl rfl (cell_one_new _ _ _) ?c4 ?c5 ?c6 ?c7 ?_)
          case c4 => simp [Value.oneCell']
          case c5 => unfold maxLen; omega
          case c6 => omega
          case c7 => have := HB5.out.size; simp; omega
          intro v' w6 h6 hg6 _ hat
          have HO6 := Lib.hid (OwnLL.push (l := l ++ [j]) (by rw [← HNE.out]; exact HOX.out) HX.out (by rw [← HNE.out, HLEN.out]; exact h6) hg6 (by simpa using hat) HR5.out HOFF.out)
          have HB6 := Lib.hid ((HB5.out.alloc HB5.out.size (.cells #[.slice (some ⟨g, 0, none⟩) (q + 1) (q + 1)] 22)).grown hg6 (by have := HB5.out.size; simp; omega) (fun k hk => (HOX.out.lt k hk).1))
          clear h6 hg6 hat
          go_wp2_with fail
          exact ⟨⟨j + 1, by omega, by go_num, by rw [HET.out, ← List.append_assoc]; exact HO6.out, HB6.out⟩, by simp [intOf]; omega⟩
        · obtain rfl : j = K + 1 := by omega
          go_wp2_with fail
          exact ⟨⟨i + 1, by omega, by go_num, by rw [HPS.out, ← extT_full, ← HK.out]; exact HO3.out, HB3.out⟩, by simp [intOf]; omega⟩
    · obtain rfl : m = i := by omega
      obtain ⟨ra, rc, hv, hrw⟩ := HO2.out.rows
      rw [HM.out, preL_all] at hv hrw
      have HR := Lib.hid hrw
      subst hv
      clear hrw
      go_wp2_with fail
      go_ret
      exact ⟨_, _, rfl, HR.out, HB2.out⟩
end Go.Proofs.Ytfgpjkkdgjhkfaa
