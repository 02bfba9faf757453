/- Contract: Classes. -/
import Derived.Test.YtfgpjkkdgjhkfaaPartHA
namespace Go.Proofs.Ytfgpjkkdgjhkfaa
open Go Go.RowKit Go.Maps
set_option linter.unusedVariables false


/-- append of one new element at a step of a region that draws its order -/
theorem step_push {P : Program} {ops : Array Oper} {o : Oper} {a : Act} {w1 w : World} {K : Act → World → Prop} {Q : Exit → Act → World → Prop} {E : Prop} (hgd : o.guard = none) (s x : Operand) (t : TypeId)
    (ho : o.op = .call { callee := .builtin .append, args := #[s, x], argTypes := #[t, t] })
    (base : Nat) (e : TypeId) (i : TypeInfo) (z : Value) (bytes : Nat) (ht : P.underlying t = some (.slice e)) (hi : P.info? e = some i) (hz : i.zero = some z)
    (hsize : i.size = 1) (hby : i.bytes = bytes) (hzs : z.cells.size = 1)
    (v : Value) (n : Nat) (xs : List Value) (hs : a.eval s = v) (u : Value) (hw1 : w = (w1.alloc (.cells #[u] e)).drew) (hown : w1.ownsRow base e 1 v n xs)
    (hx : a.eval x = .slice (some ⟨w1.heap.size, 0, none⟩) 1 1) (h1 : u.oneCell' = true)
    (h63 : n + 1 ≤ maxLen) (hbytes : (n + 1) * bytes ≤ 140737488355328) (hb : base ≤ w1.heap.size)
    (h : ∀ v' w', w'.ownsRow base e 1 v' (n + 1) (xs ++ [u]) → (w1.alloc (.cells #[u] e)).grownBy w' v.ownBlock → (v'.ownBlock = v.ownBlock ∨ v'.ownBlock = some (w1.heap.size + 1)) → K (a.put o.dst v') w') :
    if Region.wanted o (yielded ops a.tmps) = true then Oper.wp P o a w K Q else E := by
  have hw : Region.wanted o (yielded ops a.tmps) = true := by simp [Region.wanted, hgd]
  rw [if_pos hw]
  subst hw1
  obtain ⟨v', w', hr, h2, h3, _, h5⟩ := run_append_own_at (P := P) (w1.alloc (.cells #[u] e)).drew base t o.type e i z 1 bytes ht hi hz hsize hby hzs (by decide) v n xs (show World.ownsRow (World.drew _) _ _ _ _ _ _ from hown.alloc _) ⟨w1.heap.size, 0, none⟩ 1 1 [u] rfl (cell_one_new w1 u e) (by intro y hy; rw [List.mem_singleton] at hy; subst hy; exact h1) h63 hbytes (by show base ≤ (w1.alloc (.cells #[u] e)).heap.size; simp; omega)
  unfold Oper.wp execOp
  simp only [ho, resolve, invoke, builtin, Sem.run_bind, Sem.run_pure, Result.andThen_ok, List.map_toArray, List.map_cons, List.map_nil, hs, hx, hr]
  exact h v' w' h2 ⟨h3.os, h3.tape, h3.output, h3.size, h3.block⟩ (by
    rcases h5 with e5 | e5
    · exact .inl e5
    · exact .inr (by rw [e5]; show some (w1.alloc (.cells #[u] e)).heap.size = _; simp))

set_option maxRecDepth 100000 in
set_option maxHeartbeats 4000000 in
theorem classes_ok (a : Option Addr) (n c : Nat) (f : Nat → Int) (w : World) (hr : RowI w a n f) (hv : valP n f = true) :
    Calls Try.prog 22 #[.slice a n c] w (GivesR w (cls f n) (clL f n)) := by
  have H1 := Lib.hid hr
  have hn := (valP_iff.1 hv).1
  have HVV := Lib.hid hv
  have HV := Lib.hid (valP_iff.1 hv).2
  obtain ⟨j0, hji, hj0, hj1, hj2⟩ := info_parts infoI
  obtain ⟨i0, hi, hz0, hz1, hz2⟩ := info_parts infoR
  have hcn := cls_le f n
  obtain ⟨M, hM⟩ : ∃ M, M = cls f n := ⟨_, rfl⟩
  have HM := Lib.hid hM
  have HCT := Lib.hid (count_any a n c f w hr (by unfold maxLen; omega))
  rw [cntV_yes hv, hv, ← hM] at HCT
  rw [← hM] at hcn ⊢
  clear hM hr hv
  go_enter Try.func22, Try.ntmps22
  go_wp2_with fail
  refine HCT.out.mono ?_
  rintro e w' ⟨rfl, rfl⟩
  go_wp2_with (refine wpList_make_full _ rfl _ _ 28 rfl w.heap.size 22 i0 (.slice none 0 0) 1 Try.underlying28 hi hz0 hz1 .i64 .i64 _ _ M rfl rfl (by simp) (by simp) ?c1 ?c2 ?c3 ?_)
  try (case c1 => first | (rw [hz2]; omega) | omega)
  try (case c2 => unfold maxLen; omega)
  try (case c3 => exact Nat.le_refl _)
  intro w1 hown0 hg1
  have HO := Lib.hid (OwnRR.start hown0)
  have HB := Lib.hid (show Below w.heap.size w w1 from (Below.refl _ w).grown hg1 (Nat.le_refl _) (by intro k hk; cases hk))
  clear hown0 hg1
  go_wp2_with fail
  go_loopw [18] (fun vi wr => ∃ (k : Nat) (V : Nat → Value), k ≤ n ∧ vi = .int .i64 k ∧ OwnRR wr w.heap.size w.heap.size M V (clL f k) ∧ Below w.heap.size w wr) (fun vi _ => n - (intOf vi).toNat)
  case atStart => exact ⟨0, _, Nat.zero_le _, rfl, HO.out, HB.out⟩
  case round =>
    obtain ⟨k, V, hk, rfl, ho, hb⟩ := hrel
    have HO2 := Lib.hid ho
    have HB2 := Lib.hid hb
    clear ho hb
    by_cases hlt : k < n
    · rcases H1.out with h0 | ⟨b, off, rfl, hbz, hc⟩
      · omega
      have hcf0 := (hc k hlt).1
      rw [HV.out k hlt, can] at hcf0
      have hmM := canN_lt (f := f) hlt
      rw [← HM.out] at hmM
      have HX := Lib.hid (clL_succ f k)
      have hll := clL_len f k (canN f k)
      obtain ⟨m, hm⟩ : ∃ m, m = canN f k := ⟨_, rfl⟩
      rw [← hm] at hcf0 hmM hll HX
      have hcf := (HB2.out.cell (p := ⟨b, off + k, none⟩) hbz).trans hcf0
      have HBZ := Lib.hid hbz
      have HCF0 := Lib.hid hcf0
      clear hcf0
      have hcell := HO2.out.cell hmM
      have hfree := HO2.out.free m
      have HIN := Lib.hid (HO2.out.inner m hmM)
      have HGL := Lib.hid HO2.out.lt
      clear hc hm
      obtain ⟨ra, rc, hvm⟩ := own_shape HIN.out
      have HVM := Lib.hid hvm
      rw [hvm] at hcell
      have HIN2 := Lib.hid (show OwnL _ _ (.slice ra (clL f k m).length rc) _ from by have := HIN.out; rw [HVM.out] at this; exact this)
      clear hvm
      have hk0 : (0 : Int) ≤ (k : Int) := by omega
      have hkn : (k : Int) < (n : Int) := by omega
      have hm0 : (0 : Int) ≤ (m : Int) := by omega
      have hmn : (m : Int) < (M : Int) := by omega
      have hwm : IntKind.i64.wrap (m : Int) = (m : Int) := IntWalk.i64_in _ (by omega)
      have hwk : IntKind.i64.wrap (k : Int) = (k : Int) := IntWalk.i64_in _ (by omega)
      have M1 := Lib.hid (show (clL f k m).length + 1 ≤ maxLen by unfold maxLen; omega)
      have M2 := Lib.hid (show ((clL f k m).length + 1) * 8 ≤ 140737488355328 by omega)
      have HSZ := Lib.hid HB2.out.size
      have hcellA : (wr.alloc (.cells #[.int .i64 (k : Int)] 3)).cell? ⟨w.heap.size, m, none⟩ = some (.slice ra (clL f k m).length rc) := (Below.cell (B := wr.heap.size) ((Below.refl _ _).alloc (Nat.le_refl _) _) HGL.out.2).trans hcell
      have hcfA : (wr.alloc (.cells #[.int .i64 (k : Int)] 3)).cell? ⟨b, off + k, none⟩ = some (.int .i64 (m : Int)) := (Below.cell (B := wr.heap.size) ((Below.refl _ _).alloc (Nat.le_refl _) _) (Nat.lt_of_lt_of_le hbz HB2.out.size)).trans hcf
      clear hbz
      go_wp2_with fail
      go_region_law (
        refine step_push (w1 := wr) rfl (.tmp 32) (.tmp 34) 22 rfl w.heap.size 3 j0 (.int .i64 0) 8 Try.underlying22 hji hj0 hj1 hj2 rfl (.slice ra (clL f k m).length rc) (clL f k m).length (rowL (clL f k m)) rfl (.int .i64 (k : Int)) rfl HIN2.out rfl rfl M1.out M2.out HSZ.out ?_
        intro v' w3 h3 hg3 hat
        obtain ⟨ra', rc', rfl⟩ := own_shape h3
        have h4 : OwnL w3 w.heap.size _ (clL f k m ++ [k]) := own_snoc rfl h3
        have HP := Lib.hid (OwnRR.push (w := wr) (k := k) HO2.out hmM h4 (by rw [HVM.out]; exact hg3) (by rw [HVM.out]; exact hat))
        have HB3 := Lib.hid ((HB2.out.alloc HB2.out.size (.cells #[.int .i64 (k : Int)] 3)).grown hg3 (by have := HSZ.out; simp; omega) (fun j hj => (HIN2.out.lt j hj).1))
        have hcell3 : w3.cell? ⟨w.heap.size, m, none⟩ = some (.slice ra (clL f k m).length rc) := by
          refine hg3.cell (Below.cell (B := wr.heap.size) ((Below.refl _ _).alloc (Nat.le_refl _) _) HGL.out.2 |>.trans hcell) ?_
          rcases HO2.out.off m hmM with e | e
          · rw [HVM.out] at e; rw [e]; simp
          · rw [HVM.out] at e; exact fun e2 => e e2.symm
        have hcf3 : w3.cell? ⟨b, off + k, none⟩ = some (.int .i64 (m : Int)) := (HB3.out.cell (p := ⟨b, off + k, none⟩) HBZ.out).trans HCF0.out
        have hfree3 : w3.frozen? ⟨w.heap.size, m, none⟩ = false := by
          have h5 := World.ownsRow.kept (World.ownsRow.alloc HO2.out.outer _) hg3 (by
            rcases HO2.out.off m hmM with e | e
            · rw [HVM.out] at e; rw [e]; exact .inr (by simp [Value.ownBlock])
            · rw [HVM.out] at e; exact .inr (fun e2 => e (by rw [← e2]; rfl)))
          exact World.ownsRow.frozenAt h5 m
        clear h3 hg3 hat h4)
      all_goals
        go_wp2_with fail
        exact ⟨⟨k + 1, _, by omega, by go_num, HP.out.congr (fun d _ => (HX.out d).symm), HB3.out.setCell (Nat.le_refl _) _⟩, by simp [intOf]; omega⟩
    · obtain rfl : n = k := by omega
      have HR := Lib.hid (HO2.out.rows fun c _ x hx => by have := clL_lt hx; omega)
      go_wp2_with fail
      go_ret
      exact ⟨_, _, rfl, HR.out, HB2.out⟩
set_option maxHeartbeats 400000 in
theorem classes_no (a : Option Addr) (n c : Nat) (f : Nat → Int) (w : World) (hr : RowI w a n f) (hn : n ≤ maxLen) (hv : valP n f = false) :
    Calls Try.prog 22 #[.slice a n c] w fun e w' => e = .returned (.slice none 0 0) ∧ w = w' := by
  have HCT := Lib.hid (count_any a n c f w hr hn)
  rw [cntV_no hv, hv] at HCT
  clear hr hv
  go_enter Try.func22, Try.ntmps22
  go_wp2_with fail
  refine HCT.out.mono ?_
  rintro e w' ⟨rfl, rfl⟩
  go_wp2_with fail
  go_ret
  exact ⟨rfl, rfl⟩
end Go.Proofs.Ytfgpjkkdgjhkfaa
