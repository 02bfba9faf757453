/- Rows of rows of sets; contract: table. -/
import Derived.Test.YtdoifdpmgmlpdaaNfaF
import Derived.Test.YtdoifdpmgmlpdaaRelI
import Derived.RegionTactic
namespace Go.Proofs.Ytdoifdpmgmlpdaa
open Go Go.RowKit
open Go.Proofs.Ytdoifdpmgmlpdaa.rel (Row ownsU ownsU_cell ownsU_free ownsU_congr ownsU_drew rowU rowU_made upF upF_at upF_zero upF_all ownsU_up u_and and_u)
set_option linter.unusedVariables false
theorem infoRow : (Try.prog.info? 58).map (fun i => (i.zero, i.size, i.bytes)) = some (some (.slice none 0 0), 1, 24) := by kernel_rfl
/-- at a lie m rows of L sets each -/
def TabM (w : World) (a : Option Addr) (m L : Nat) (G : Nat → Nat → Nat) : Prop :=
  ∃ b off, a = some ⟨b, off, none⟩ ∧ b < w.heap.size ∧ ∀ i, i < m → ∃ r c, w.cell? ⟨b, off + i, none⟩ = some (.slice r L c) ∧ Row w r L (G i)
theorem TabM.keep {w w' : World} {a : Option Addr} {m L : Nat} {G : Nat → Nat → Nat} (h : TabM w a m L G) (hb : Below w.heap.size w w') : TabM w' a m L G := by
  obtain ⟨b, off, rfl, hl, hc⟩ := h
  refine ⟨b, off, rfl, Nat.lt_of_lt_of_le hl hb.size, fun i hi => ?_⟩
  obtain ⟨r, c, h1, h2⟩ := hc i hi
  exact ⟨r, c, by rw [hb.cell (p := ⟨b, off + i, none⟩) hl]; exact h1, h2.keep hb⟩
theorem ownsRow_low {w w' : World} {B B' g size n cap m : Nat} {e : TypeId} {xs : List Value} (h : w.ownsRow B e size (.slice (some ⟨g, 0, none⟩) m cap) n xs) (hb : Below B' w w') (hg : g < B') : w'.ownsRow B e size (.slice (some ⟨g, 0, none⟩) m cap) n xs := by
  obtain ⟨h1, h2⟩ := h
  refine ⟨h1, ?_⟩
  rcases h2 with h2 | ⟨g', cap', cur, hv, hg', hh, r⟩
  · exact .inl h2
  · have e : g = g' := by injection hv with e1; injection e1 with e2; injection e2
    subst e
    exact .inr ⟨g, cap', cur, hv, hg', by rw [hb.block g hg]; exact hh, r⟩
theorem PosW.low {w w' : World} {B B' bp gN cN gF cF : Nat} {s : PS} (h : PosW w B bp gN cN gF cF s) (hb : Below B' w w') (h1 : bp < B') (h2 : gN < B') (h3 : gF < B') : PosW w' B bp gN cN gF cF s :=
  ⟨by rw [hb.cell (p := ⟨bp, 0, none⟩) h1]; exact h.cn, by rw [hb.cell (p := ⟨bp, 1, none⟩) h1]; exact h.cf, ownsRow_low h.rn hb h2, ownsRow_low h.rf hb h3, by rw [hb.frozen (p := ⟨bp, 1, none⟩) h1]; exact h.fz, ⟨h.bl.1, Nat.lt_of_lt_of_le h.bl.2 hb.size⟩, h.n1, h.n2, h.n3⟩
theorem Row.low {w w' : World} {B' b n : Nat} {f : Nat → Nat} (h : Row w (some ⟨b, 0, none⟩) n f) (hb : Below B' w w') (hB : b < B') : Row w' (some ⟨b, 0, none⟩) n f := by
  rcases h with h | ⟨b2, off, e, hl, hc⟩
  · exact .inl h
  · injection e with e
    injection e with e1 e2
    subst e1; subst e2
    exact .inr ⟨b, 0, rfl, Nat.lt_of_lt_of_le hl hb.size, fun i hi => ⟨by rw [hb.cell (p := ⟨b, 0 + i, none⟩) hB]; exact (hc i hi).1, (hc i hi).2⟩⟩
theorem Row.set {w : World} {b n : Nat} {f : Nat → Nat} (h : Row w (some ⟨b, 0, none⟩) n f) (p : Addr) (v : Value) (hne : b ≠ p.block) : Row (w.setCell p v) (some ⟨b, 0, none⟩) n f := by
  rcases h with h | ⟨b2, off, e, hl, hc⟩
  · exact .inl h
  · injection e with e
    injection e with e1 e2
    subst e1; subst e2
    exact .inr ⟨b, 0, rfl, by simpa [World.setCell] using hl, fun i hi => ⟨by rw [World.cell?_of_block (w := w) (a := ⟨b, 0 + i, none⟩) (Below.heap_setCell w p v b hne)]; exact (hc i hi).1, (hc i hi).2⟩⟩
/-- the outer row: the first k rows are there -/
def outV (m k L : Nat) (R : Nat → Nat) : List Value := (List.range m).map fun c => if c < k then Value.slice (some ⟨R c, 0, none⟩) L L else .slice none 0 0
theorem outV_made (m L : Nat) (R : Nat → Nat) : (madeCells #[Value.slice none 0 0] m).toList = outV m 0 L R := by
  rw [toList_madeCells_one]
  apply List.ext_getElem?
  intro j
  by_cases hj : j < m <;> simp [outV, hj]
theorem outV_set {m k L : Nat} {R : Nat → Nat} {r : Nat} : (outV m k L R).set k (.slice (some ⟨r, 0, none⟩) L L) = outV m (k + 1) L (fun c => if c = k then r else R c) := by
  apply List.ext_getElem?
  intro j
  rw [List.getElem?_set]
  by_cases hj : j < m
  · by_cases e : k = j
    · subst e; simp [outV, hj]
    · simp only [outV, e, if_false, List.getElem?_map, List.getElem?_range hj, Option.map_some, Option.some.injEq, Ne.symm e]
      by_cases h : j < k
      · rw [if_pos h, if_pos (by omega)]
      · rw [if_neg h, if_neg (by omega)]
  · simp [outV, hj]; intro e; omega
theorem outV_get {m k L : Nat} {R : Nat → Nat} {j : Nat} (hj : j < k) (hm : k ≤ m) : (outV m k L R)[j]? = some (Value.slice (some ⟨R j, 0, none⟩) L L) := by
  have : j < m := by omega
  simp [outV, this, hj]
set_option maxRecDepth 100000 in
set_option maxHeartbeats 8000000 in
/-- table -/
theorem table_any (B bp gN cN gF cF : Nat) (s : PS) (w : World) (hpw : PosW w B bp gN cN gF cF s) (hok : OkS s) (h64 : s.F.length ≤ 64) (h6 : s.N.length ≤ 6) (h1 : 1 ≤ s.N.length) :
    Calls Try.prog 56 #[.pointer (some ⟨bp, 0, none⟩)] w fun e w' => ∃ g, e = .returned (.slice (some ⟨g, 0, none⟩) s.F.length s.F.length) ∧ TabM w' (some ⟨g, 0, none⟩) s.F.length s.N.length (tabG s) ∧ Below w.heap.size w w' := by
  obtain ⟨i0, hi, hz0, hz1, hz2⟩ := info_parts infoRow
  obtain ⟨j0, hji, hj0, hj1, hj2⟩ := info_parts infoU
  have HP := Lib.hid hpw
  have HQ := Lib.hid (show bp < w.heap.size ∧ gN < w.heap.size ∧ gF < w.heap.size from ⟨hpw.bl.2, hpw.gNlt.2, hpw.gFlt.2⟩)
  have hcn := hpw.cn
  have hcf := hpw.cf
  have HU := Lib.hid (show ∀ i, s.F.getD i 0 < 18446744073709551616 ∧ s.N.getD i 0 < 18446744073709551616 from fun i => ⟨Nat.lt_of_lt_of_le (getD_lt' hok.2) (Nat.le_trans (pow_le h64) (by decide)), Nat.lt_of_lt_of_le (getD_lt' hok.1) (Nat.le_trans (pow_le h64) (by decide))⟩)
  obtain ⟨m, hm⟩ : ∃ m, m = s.F.length := ⟨_, rfl⟩
  obtain ⟨L, hL⟩ : ∃ L, L = s.N.length := ⟨_, rfl⟩
  have HM := Lib.hid hm
  have HL := Lib.hid hL
  rw [← hm] at hcf h64 ⊢
  rw [← hL] at hcn h6 h1 ⊢
  clear hpw hok hm hL
  go_enter Try.func56, Try.ntmps56
  go_wp2_with (refine wpList_make_full _ rfl _ _ 77 rfl w.heap.size 58 i0 (.slice none 0 0) 1 Try.underlying77 hi hz0 hz1 .i64 .i64 _ _ m rfl rfl (by simp) (by simp) ?c1 ?c2 ?c3 ?_)
  case c1 => rw [hz2]; omega
  case c2 => unfold maxLen; omega
  case c3 => exact Nat.le_refl _
  intro w1 hown0 hg1
  rw [outV_made m L (fun _ => 0)] at hown0
  have HO := Lib.hid hown0
  have HB := Lib.hid (show Below w.heap.size w w1 from (Below.refl _ w).grown hg1 (Nat.le_refl _) (by intro k hk; cases hk))
  clear hown0 hg1 hcn hcf
  go_wp2_with fail
  go_loopw [15] (fun vi wr => ∃ (k : Nat) (R : Nat → Nat), k ≤ m ∧ vi = .int .i64 k ∧ wr.ownsRow w.heap.size 58 1 (.slice (some ⟨w.heap.size, 0, none⟩) m m) m (outV m k L R) ∧ (∀ c, c < k → w.heap.size < R c ∧ R c < wr.heap.size ∧ Row wr (some ⟨R c, 0, none⟩) L (tabG s c)) ∧ Below w.heap.size w wr) (fun vi _ => m - (intOf vi).toNat)
  case atStart => exact ⟨0, _, Nat.zero_le _, rfl, HO.out, fun c hc => by omega, HB.out⟩
  case round =>
    rename World => wA
    obtain ⟨k, R, hk, rfl, ho, hrows, hb⟩ := hrel
    have HOA := Lib.hid ho
    have HRW := Lib.hid hrows
    have HBA := Lib.hid hb
    by_cases hlt : k < m
    · have hbs := hb.size
      have HPA := Lib.hid (HP.out.below hb)
      have hcn := HPA.out.cn
      rw [← HL.out] at hcn
      have hk0 : (0 : Int) ≤ (k : Int) := by omega
      have hkm : (k : Int) < (m : Int) := by omega
      have hwk : IntKind.i64.wrap (k : Int) = (k : Int) := IntWalk.i64_in _ (by omega)
      clear ho hrows hb
      go_wp2_with (refine wpList_make_full _ rfl _ _ 58 rfl w.heap.size 22 j0 (.int .u64 0) 1 Try.underlying58 hji hj0 hj1 .i64 .i64 _ _ L rfl rfl (by simp) (by simp) ?c4 ?c5 ?c6 ?_)
      case c4 => rw [hj2]; omega
      case c5 => unfold maxLen; omega
      case c6 => exact hbs
      intro w2 hown2 hg2
      have hgw : Below wA.heap.size wA w2 := (Below.refl _ wA).grown hg2 (Nat.le_refl _) (by intro j hj; cases hj)
      have HO2 := Lib.hid (World.ownsRow.kept HOA.out hg2 (.inr (by simp [Value.ownBlock])))
      have hcell := World.ownsRow.cellAt HO2.out k (by omega)
      have hfz := World.ownsRow.frozenAt HO2.out k
      rw [show (outV m k L R)[k]? = some (Value.slice none 0 0) from by simp [outV, hlt]] at hcell
      have ho3 := (World.ownsRow.stored HO2.out k (.slice (some ⟨wA.heap.size, 0, none⟩) L L)).1
      rw [outV_set] at ho3
      have HO3 := Lib.hid ho3
      have HB3 := Lib.hid ((HBA.out.trans (hgw.mono hbs)).setCell (p := ⟨w.heap.size, k, none⟩) (Nat.le_refl _) (.slice (some ⟨wA.heap.size, 0, none⟩) L L))
      have hu3 : ownsU (w2.setCell ⟨w.heap.size, k, none⟩ (.slice (some ⟨wA.heap.size, 0, none⟩) L L)) w.heap.size wA.heap.size L 22 (upF 0 (tabG s k)) := by
        refine ownsU_congr (f := fun _ => 0) ?_ fun t _ => (upF_zero _ _).symm
        unfold ownsU
        rw [← rowU_made]
        refine World.ownsRow.kept (by simpa using hown2) (grown_cell w2 ⟨w.heap.size, k, none⟩ _) (.inr (fun e => ?_))
        have h5 := HO.out.lt w.heap.size rfl
        simp [Value.ownBlock] at e
        have h6 := HB.out.size
        have h7 := (World.ownsRow.lt HOA.out w.heap.size rfl).2
        omega
      have HU3 := Lib.hid hu3
      have HWS := Lib.hid (show w.heap.size < wA.heap.size from (World.ownsRow.lt HOA.out w.heap.size rfl).2)
      have HR3 := Lib.hid (show ∀ c, c < k → w.heap.size < R c ∧ R c < wA.heap.size ∧ Row (w2.setCell ⟨w.heap.size, k, none⟩ (.slice (some ⟨wA.heap.size, 0, none⟩) L L)) (some ⟨R c, 0, none⟩) L (tabG s c) from fun c hc => by
        obtain ⟨r1, r2, r3⟩ := HRW.out c hc
        exact ⟨r1, r2, Row.set (r3.keep hgw) _ _ (by dsimp only; omega)⟩)
      have hcn3 := (HP.out.below HB3.out).cn
      rw [← HL.out] at hcn3
      clear hown2 hg2 hgw ho3 hu3 hcn
      go_wp2_with fail
      generalize w2.setCell ⟨w.heap.size, k, none⟩ (.slice (some ⟨wA.heap.size, 0, none⟩) L L) = w3 at *
      clear hcell hfz hcn3
      go_loopw [32] (fun vj wr => ∃ j : Nat, j ≤ L ∧ vj = .int .i64 j ∧ ownsU wr w.heap.size wA.heap.size L 22 (upF j (tabG s k)) ∧ Below wA.heap.size w3 wr ∧ Below w.heap.size w wr) (fun vj _ => L - (intOf vj).toNat)
      case atStart => exact ⟨0, Nat.zero_le _, rfl, HU3.out, Below.refl _ _, HB3.out⟩
      case round =>
        rename World => wC
        obtain ⟨j, hj, rfl, hu, hb3, hb⟩ := hrel
        have HUC := Lib.hid hu
        have HB3C := Lib.hid hb3
        have HBC := Lib.hid hb
        by_cases hjl : j < L
        · have HPC := Lib.hid (HP.out.below hb)
          have hcf := HPC.out.cf
          rw [← HM.out] at hcf
          have hnj := HPC.out.cellN (j := j) (by rw [← HL.out]; exact hjl)
          have hfk := HPC.out.cellF (j := k) (by rw [← HM.out]; exact hlt)
          have htk : wC.cell? ⟨w.heap.size, k, none⟩ = some (.slice (some ⟨wA.heap.size, 0, none⟩) L L) := by
            rw [hb3.cell (p := ⟨w.heap.size, k, none⟩) HWS.out, World.ownsRow.cellAt HO3.out k (by omega), outV_get (by omega) (by omega), if_pos rfl]
          have hcj := ownsU_cell hu hjl
          have hfj := ownsU_free hu j
          rw [upF_at] at hcj
          have hua := u_and (HU.out k).1 (HU.out j).2
          have hG := Lib.hid (show s.F.getD k 0 &&& s.N.getD j 0 = tabG s k j from rfl)
          obtain ⟨x, hx⟩ : ∃ x, x = s.F.getD k 0 := ⟨_, rfl⟩
          obtain ⟨y, hy⟩ : ∃ y, y = s.N.getD j 0 := ⟨_, rfl⟩
          rw [← hx] at hfk hua hG
          rw [← hy] at hnj hua hG
          obtain ⟨z, hz⟩ : ∃ z, z = x &&& y := ⟨_, rfl⟩
          rw [← hz] at hua hG
          have hj0 : (0 : Int) ≤ (j : Int) := by omega
          have hjn : (j : Int) < (L : Int) := by omega
          have hwj : IntKind.i64.wrap (j : Int) = (j : Int) := IntWalk.i64_in _ (by omega)
          clear hu hb3 hb hx hy hz
          go_wp2_with fail
          go_region
          all_goals
            go_wp2_with fail
            exact ⟨⟨j + 1, by omega, by go_num, ownsU_up (ownsU_drew HUC.out) hG.out, HB3C.out.drew.setCell (Nat.le_refl _) _, HBC.out.drew.setCell (Nat.le_of_lt HWS.out) _⟩, by simp [intOf]; omega⟩
        · obtain rfl : j = L := by omega
          clear hu hb3 hb
          go_wp2_with fail
          refine ⟨⟨k + 1, fun c => if c = k then wA.heap.size else R c, by omega, by go_num, ownsRow_low HO3.out HB3C.out HWS.out, fun c hc => ?_, HBC.out⟩, by simp [intOf]; omega⟩
          have hlt2 : wA.heap.size < wC.heap.size := (World.ownsRow.lt HUC.out wA.heap.size rfl).2
          dsimp only
          by_cases e : c = k
          · subst e
            rw [if_pos rfl]
            have hf : ∀ i, i < j → tabG s c i < 18446744073709551616 := fun i _ => Nat.lt_of_le_of_lt Nat.and_le_left (HU.out c).1
            exact ⟨HWS.out, hlt2, Row.owned (ownsU_congr HUC.out fun t ht => upF_all ht) hf⟩
          · rw [if_neg e]
            obtain ⟨r1, r2, r3⟩ := HR3.out c (by omega)
            exact ⟨r1, by omega, Row.low r3 HB3C.out r2⟩
    · obtain rfl : k = m := by omega
      have HT := Lib.hid (show TabM wA (some ⟨w.heap.size, 0, none⟩) k L (tabG s) from ⟨w.heap.size, 0, rfl, (World.ownsRow.lt ho w.heap.size rfl).2, fun i hi => ⟨some ⟨R i, 0, none⟩, L, by rw [Nat.zero_add, World.ownsRow.cellAt ho i (by omega), outV_get hi (Nat.le_refl _)], (hrows i hi).2.2⟩⟩)
      clear ho hrows hb
      go_wp2_with fail
      go_ret
      exact ⟨_, rfl, HT.out, HBA.out⟩
end Go.Proofs.Ytdoifdpmgmlpdaa
