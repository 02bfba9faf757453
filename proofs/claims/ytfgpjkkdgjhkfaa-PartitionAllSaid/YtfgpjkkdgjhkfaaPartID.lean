/- Contract: the reference's All. -/
import Derived.Test.YtfgpjkkdgjhkfaaPartIC
import Derived.Test.YtfgpjkkdgjhkfaaPartFD
namespace Go.Proofs.Ytfgpjkkdgjhkfaa
open Go Go.RowKit Go.Maps
set_option linter.unusedVariables false


theorem rowF_getN (l : List Nat) : rowF l.length (getN l) = rowL l := by
  apply List.ext_getElem?
  intro j
  by_cases hj : j < l.length
  · rw [rowF_get hj, rowL_get (List.getElem?_eq_getElem hj), getN_at (List.getElem?_eq_getElem hj)]
  · rw [List.getElem?_eq_none (by rw [rowF_length]; omega), List.getElem?_eq_none (by simp [rowL]; omega)]
theorem own_pos {w : World} {base n : Nat} {e : TypeId} {v : Value} {xs : List Value} (h : w.ownsRow base e 1 v (n + 1) xs) : ∃ (p : Addr) (c : Nat), v = .slice (some p) (n + 1) c := by
  rcases h.2 with ⟨_, h0⟩ | ⟨g, cap, cur, rfl, _⟩
  · omega
  · exact ⟨_, _, rfl⟩
set_option maxRecDepth 100000 in
set_option maxHeartbeats 2000000 in
theorem allR_ok (n : Nat) (w : World) (hn : n ≤ 7) : Calls Try.prog 41 #[.int .i64 n] w (GivesS w (allN n)) := by
  have HR := Lib.hid (rows_one w)
  have HB := Lib.hid (((Below.refl w.heap.size w).alloc (Nat.le_refl _) (.cells #[] 3)).alloc (by simp) (.cells #[.slice (some ⟨w.heap.size, 0, none⟩) 0 0] 22))
  obtain ⟨i0, hi, hz0, hz1, hz2⟩ := info_parts infoR
  obtain ⟨j0, hji, hj0, hj1, hj2⟩ := info_parts infoI
  go_enter Try.func41, Try.ntmps41
  go_wp2_with fail
  go_loopw [3, 4] (fun v vi wr => ∃ (i m : Nat) (a : Option Addr) (c : Nat), i ≤ n ∧ vi = .int .i64 i ∧ m = (allN i).length ∧ v = .slice a m c ∧ RowsS wr a m (atL (allN i)) ∧ Below w.heap.size w wr) (fun _ vi _ => n - (intOf vi).toNat)
  case atStart => exact ⟨0, 1, some ⟨w.heap.size + 1, 0, none⟩, 1, Nat.zero_le _, rfl, rfl, rfl, by have := HR.out; simpa using this, HB.out⟩
  case round =>
    rename World => wA
    obtain ⟨i, m, a, c, hi1, rfl, hm, rfl, hr, hb⟩ := hrel
    have HR2 := Lib.hid hr
    have HB2 := Lib.hid hb
    have hm5 := allN_le (i := i) (by omega)
    by_cases hlt : i < n
    · obtain ⟨LL, hLL⟩ : ∃ LL, LL = allN i := ⟨_, rfl⟩
      have HGD := Lib.hid (fun l (h : l ∈ LL) => (allN_good (n := i) (by rw [← hLL]; exact h) : Good i l))
      have HPL := Lib.hid (fun k l (h : LL[k]? = some l) => preL_len h)
      have hT : (LL.flatMap extL).length ≤ 5040 := by have := allN_le (i := i + 1) (by omega); rw [allN, ← hLL] at this; exact this
      have HFIN := Lib.hid (show LL.flatMap extL = allN (i + 1) by rw [hLL]; rfl)
      obtain ⟨T, hTe⟩ : ∃ T, T = (LL.flatMap extL).length := ⟨_, rfl⟩
      rw [← hTe] at hT HPL
      rw [← hLL] at hm hm5 HR2
      have HM := Lib.hid hm
      rw [← hm] at hm5
      clear hr hb hm hTe hLL
      go_wp2_with fail
      go_loopw [5, 18] (fun v vk wq => ∃ k : Nat, k ≤ m ∧ vk = .int .i64 k ∧ OwnLL wq wA.heap.size v (preL LL k) ∧ Below wA.heap.size wA wq) (fun _ vk _ => m - (intOf vk).toNat)
      case atStart => exact ⟨0, Nat.zero_le _, rfl, OwnLL.nil _ _, Below.refl _ _⟩
      case round =>
        rename World => wB
        obtain ⟨k, hk1, rfl, ho, hb⟩ := hrel
        have HO3 := Lib.hid ho
        have HB3 := Lib.hid hb
        clear ho hb
        by_cases hkm : k < m
        · obtain ⟨l, hl⟩ : ∃ l, LL[k]? = some l := ⟨_, List.getElem?_eq_getElem (by rw [← HM.out]; exact hkm)⟩
          have HGL := Lib.hid (HGD.out l (List.mem_of_getElem? hl))
          have hll : l.length = i := HGL.out.1
          have hpl := HPL.out k l hl
          have hcl := cntL_le l
          have HPS := Lib.hid (preL_succ hl)
          rcases HR2.out with h0 | ⟨b, off, rfl, hbz, hc⟩
          · omega
          obtain ⟨p, pc, hcell, hrow⟩ := hc k hkm
          rw [atL_get hl] at hcell hrow
          have HROW := Lib.hid hrow
          clear hc hrow hl
          obtain ⟨q, hq⟩ : ∃ q, q = l.length := ⟨_, rfl⟩
          have HCT := Lib.hid (fun W (h : RowI W (some p) l.length (getN l)) => countR_ok (some p) l.length pc (getN l) W h (by rw [hll]; exact good_val HGL.out (by omega)))
          obtain ⟨K, hK⟩ : ∃ K, K = cntL l := ⟨_, rfl⟩
          have HK := Lib.hid (show K + 1 = cntL l + 1 by rw [hK])
          rw [show cls (getN l) l.length = cntL l from rfl] at HCT
          rw [← hq] at hcell HCT HROW hcl
          rw [← hK] at HCT hpl hcl
          have HQ := Lib.hid hq
          have hqn : q ≤ i := by rw [hq, hll]; exact Nat.le_refl _
          have HCELL := Lib.hid hcell
          have hcell1 := (HB3.out.cell (p := ⟨b, off + k, none⟩) hbz).trans hcell
          clear hq hll hK hcell
          go_wp2_with fail
          go_loopw [5, 8] (fun v vj wx => ∃ j : Nat, j ≤ K + 1 ∧ vj = .int .i64 j ∧ OwnLL wx wA.heap.size v (preL LL k ++ extT l j) ∧ Below wA.heap.size wA wx) (fun _ vj _ => K + 1 - (intOf vj).toNat)
          case atStart => exact ⟨0, Nat.zero_le _, rfl, by have := HO3.out; simpa [extT] using this, HB3.out⟩
          case round =>
            rename World => wC
            obtain ⟨j, hj, rfl, ho, hb⟩ := hrel
            obtain ⟨va, vc, N, hN, rfl⟩ := own_shapeN ho.choose_spec.1
            have HO4 := Lib.hid ho
            have HB4 := Lib.hid hb
            clear ho hb
            by_cases hjk : j < K + 1
            · have HRX := Lib.hid (HROW.out.keep HB4.out)
              have hNT : N + 1 ≤ T := by rw [hN, List.length_append, extT_len]; omega
              have HET := Lib.hid (extT_succ l j)
              have HNE := Lib.hid hN
              have HN := Lib.hid (show ∀ t u, (rowF q (getN l))[t]? = some u → (wC.alloc (.cells #[] 3)).cell? (p.add t) = some u by
                intro t u hu
                have ht : t < q := by
                  apply Nat.lt_of_not_le
                  intro hle
                  rw [List.getElem?_eq_none (by rw [rowF_length]; omega)] at hu
                  cases hu
                rw [rowF_get ht] at hu
                rcases HRX.out with h0 | ⟨b2, off2, he, hl2, hc2⟩
                · omega
                · obtain rfl : p = ⟨b2, off2, none⟩ := Option.some.inj he
                  have h2 : (⟨b2, off2, none⟩ : Addr).add t = ⟨b2, off2 + t, none⟩ := by unfold Addr.add; split <;> simp_all
                  rw [h2, Below.cell (B := wC.heap.size) ((Below.refl _ wC).alloc (Nat.le_refl _) _) hl2, (hc2 t ht).1, hu])
              clear hN
              go_wp2_with fail
              refine (HCT.out _ HRX.out).mono ?_
              rintro e w' ⟨rfl, rfl⟩
              go_wp2_with (at_builtin; refine wpList_append_own _ rfl _ _ 22 rfl wC.heap.size 3 j0 (.int .i64 0) 1 8 Try.underlying22 hji hj0 hj1 hj2 rfl (by decide) _ 0 _ rfl (lit_empty _ (getN l)) p q pc (rowF q (getN l)) rfl ?c1 HN.out ?c2 ?c3 ?c4 ?c5 ?_)
              case c1 => rw [rowF_length]; omega
              case c2 => intro u hu; simp only [rowF, List.mem_map] at hu; obtain ⟨t, _, rfl⟩ := hu; rfl
              case c3 => unfold maxLen; omega
              case c4 => omega
              case c5 => simp
              intro v1 w3 h3 hg3 _
              have hb3 : Below wC.heap.size wC w3 := ((Below.refl _ wC).alloc (Nat.le_refl _) (.cells #[] 3)).grown hg3 (by simp) (fun x hx => by cases hx; exact Nat.le_refl _)
              have H3 := Lib.hid (show w3.ownsRow wC.heap.size 3 1 v1 q (rowL l) by
                have h3' := h3
                rw [show rowF 0 (getN l) = [] from rfl, List.nil_append, HQ.out, rowF_getN, ← HQ.out] at h3'
                exact h3')
              have HB31 := Lib.hid hb3
              clear h3 hg3 hb3
              go_wp2_with (at_builtin; refine wpList_append_own _ rfl _ _ 22 rfl wC.heap.size 3 j0 (.int .i64 0) 1 8 Try.underlying22 hji hj0 hj1 hj2 rfl (by decide) _ q (rowL l) rfl (H3.out.alloc _) ⟨_, 0, none⟩ 1 1 [.int .i64 (j : Int)] rfl rfl (cell_one_new _ _ _) ?d2 ?d3 ?d4 ?d5 ?_)
              case d2 => simp [Value.oneCell']
              case d3 => unfold maxLen; omega
              case d4 => omega
              case d5 => have := HB31.out.size; simp; omega
              intro v2 w5 h5 hg5 _
              have hb5 : Below wC.heap.size wC w5 := (HB31.out.alloc HB31.out.size (.cells #[.int .i64 (j : Int)] 3)).grown hg5 (by have := HB31.out.size; simp; omega) (fun x hx => (H3.out.lt x hx).1)
              obtain ⟨p2, pc2, rfl⟩ := own_pos h5
              have h5' : OwnL w5 wC.heap.size (.slice (some p2) (q + 1) pc2) (l ++ [j]) := own_snoc rfl (by rw [← HQ.out]; exact h5)
              have hlen : (l ++ [j]).length = q + 1 := by rw [List.length_append, ← HQ.out]; rfl
              have hgood := good_ext HGL.out (show j ≤ cntL l by have := HK.out; omega)
              obtain ⟨ar, cr, he, hrow5, hpb⟩ := h5'.row (fun x hx => by have := good_le hgood hx; omega)
              rw [hlen] at he
              injection he with e1 e2 e3
              subst e1
              have hpb2 := hpb p2 rfl
              have HR5 := Lib.hid hrow5
              obtain ⟨xs, hox, hx⟩ := HO4.out.keep hb5
              have hvl := fun g' (e : (Value.slice va N vc).ownBlock = some g') => (World.ownsRow.lt (HO4.out.choose_spec.1) g' e).2
              have HOFF := Lib.hid (show ∀ g', (Value.slice va N vc).ownBlock = some g' → RowN w5 g' (some p2) (l ++ [j]).length (getN (l ++ [j])) from fun g' e => ⟨hrow5, fun p hp => by cases hp; exact .inr (by have := hvl g' e; omega)⟩)
              have HOX := Lib.hid hox
              have HX := Lib.hid hx
              have HB5 := Lib.hid (HB4.out.trans (hb5.mono HB4.out.size))
              have HLEN := Lib.hid hlen
              rw [← HNE.out] at HOX
              clear hox hx hvl hlen hgood hrow5 hpb hpb2 h5 h5' hg5 hb5 e2 e3
              go_wp2_with (at_builtin; refine wpList_append_own_at _ rfl _ _ 28 rfl wA.heap.size 22 i0 (.slice none 0 0) 1 24 Try.underlying28 hi hz0 hz1 hz2 rfl (by decide) _ N xs rfl (HOX.out.alloc _) ⟨_, 0, none⟩ 1 1 [.slice (some p2) (q + 1) pc2] rfl rfl (cell_one_new _ _ _) ?f2 ?f3 ?f4 ?f5 ?_)
              case f2 => simp [Value.oneCell']
              case f3 => unfold maxLen; omega
              case f4 => omega
              case f5 => have := HB5.out.size; simp; omega
              intro v' w6 h6 hg6 _ hat
              have HO6 := Lib.hid (OwnLL.push (l := l ++ [j]) (by rw [← HNE.out]; exact HOX.out) HX.out (by rw [← HNE.out, HLEN.out]; exact h6) hg6 (by simpa using hat) HR5.out HOFF.out)
              have HB6 := Lib.hid ((HB5.out.alloc HB5.out.size (.cells #[.slice (some p2) (q + 1) pc2] 22)).grown hg6 (by have := HB5.out.size; simp; omega) (fun k hk => (HOX.out.lt k hk).1))
              clear h6 hg6 hat
              go_wp2_with fail
              exact ⟨⟨j + 1, by omega, by go_num, by rw [HET.out, ← List.append_assoc]; exact HO6.out, HB6.out⟩, by simp [intOf]; omega⟩
            · obtain rfl : j = K + 1 := by omega
              have HRX := Lib.hid (HROW.out.keep HB4.out)
              clear hN
              go_wp2_with fail
              refine (HCT.out _ HRX.out).mono ?_
              rintro e w' ⟨rfl, rfl⟩
              go_wp2_with fail
              exact ⟨⟨k + 1, by omega, by go_num, by rw [HPS.out, ← extT_full, ← HK.out]; exact HO4.out, HB4.out⟩, by simp [intOf]; omega⟩
        · obtain rfl : m = k := by omega
          obtain ⟨ra, rc, hv, hrw⟩ := HO3.out.rows
          rw [HM.out, preL_all, HFIN.out] at hv hrw
          have HR := Lib.hid hrw
          have HB4 := Lib.hid (HB2.out.trans (HB3.out.mono HB2.out.size))
          obtain ⟨M2, hM2⟩ : ∃ M2, M2 = (allN (i + 1)).length := ⟨_, rfl⟩
          rw [← hM2] at hv HR
          have HM2 := Lib.hid hM2
          subst hv
          clear hrw hM2
          go_wp2_with fail
          exact ⟨⟨i + 1, M2, ra, rc, by omega, by go_num, HM2.out, rfl, HR.out, HB4.out⟩, by simp [intOf]; omega⟩
    · obtain rfl : n = i := by omega
      have HM := Lib.hid hm
      clear hr hb hm
      go_wp2_with fail
      go_ret
      exact ⟨a, c, by rw [← HM.out]; rfl, by rw [← HM.out]; exact HR2.out, HB2.out⟩
end Go.Proofs.Ytfgpjkkdgjhkfaa
