/- Contract: (*search).extend. -/
import Derived.Test.YtohoiebofkmjeacDfaS
import Derived.Test.YtohoiebofkmjeacDfaB
import Derived.RegionTactic
import Derived.BigRegion
import Derived.Deep.RegionWith
namespace Go.Proofs.Ytohoiebofkmjeac
open Go Go.RowKit
set_option linter.unusedVariables false
/-- what extend leaves: the word as it was, the list fs' -/
def ExtE (w : World) (B bp : Nat) (c0 c1 c2 c3 c4 : Value) (most : Nat) (vw vf : Value) (pre : List Int) (fs' : List ByteArray) (e : Ending) (w' : World) : Prop :=
  e = .returned (.tuple #[]) ∧ ∃ vw' vf', SrW w' B bp c0 c1 c2 c3 c4 most vw' vf' pre fs' ∧ SKeep w w' bp vw vf ∧ NewB w vw vw' ∧ NewB w vf vf'
theorem below_drewN' (w : World) (n : Nat) : Below w.heap.size w (w.drewN n) := ⟨rfl, rfl, rfl, Nat.le_refl _, fun _ _ => rfl⟩
theorem grown_alloc {w w' : World} {o : Obj} {row : Option Nat} (h : (w.alloc o).grownBy w' row) : w.grownBy w' row :=
  ⟨h.os, h.tape, h.output, Nat.le_trans (by simp) h.size, fun k hk hne => (h.block k (by simp; omega) hne).trans (Below.heap_alloc w o k hk)⟩
theorem newB_at {w : World} {v v' : Value} {g : Nat} (h : v'.ownBlock = v.ownBlock ∨ v'.ownBlock = some g) (hg : w.heap.size ≤ g) : NewB w v v' := fun k hk => by
  rcases h with e | e
  · exact .inl (by rw [← e]; exact hk)
  · rw [e] at hk; injection hk with hk; exact .inr (by omega)
set_option maxRecDepth 100000 in
set_option maxHeartbeats 4000000 in
theorem extend_stop (d : DF) (B bp : Nat) (c0 c1 c2 : Value) (an : Option Addr) (cn : Nat) (al : Option Addr) (K cl most : Nat) (q k : Nat) (vw vf : Value) (pre : List Int) (fs : List ByteArray) (w : World)
    (hs : SrW w B bp c0 c1 c2 (.slice an d.n cn) (.slice al K cl) most vw vf pre fs) (hlv : RowsX (OX bp vw vf) w al K (fun _ => d.n) (fun k => boolsV (d.lv k)))
    (hq : q < d.n) (hk : k < K) (hlen : fs.length ≤ most) (hst : most ≤ fs.length ∨ d.lv k q = false) (hn : d.n ≤ 512) (hK : K ≤ 2049) :
    Calls Try.prog 24 #[.pointer (some ⟨bp, 0, none⟩), .int .i64 q, .int .i64 k] w (ExtE w B bp c0 c1 c2 (.slice an d.n cn) (.slice al K cl) most vw vf pre fs) := by
  obtain ⟨z3, z4, z5, z6, z7⟩ := hs.cells
  obtain ⟨fa, fc, hvf⟩ := ownsRow_shape hs.rf
  have HS := Lib.hid hs
  rw [hvf] at z6
  have HVF := Lib.hid hvf
  clear hvf hs
  obtain ⟨F, hF⟩ : ∃ F, F = fs.length := ⟨_, rfl⟩
  rw [← hF] at z6 hlen hst
  have hend : ∀ n, ExtE w B bp c0 c1 c2 (.slice an d.n cn) (.slice al K cl) most vw vf pre fs (.returned (.tuple #[])) (w.drewN n) := fun n => ⟨rfl, vw, vf, HS.out.below (below_drewN' w n), SKeep.of_below (below_drewN' w n), NewB.refl _ _, NewB.refl _ _⟩
  have HEND := Lib.hid hend
  clear hend hF
  by_cases hfull : F = most
  · have t0 : ((F : Int) == (most : Int)) = true := by rw [hfull]; simp
    clear hst hfull hlv
    go_enter Try.func24, Try.ntmps24
    go_wp2_with fail
    go_quiet (fail)
    go_wp2_with fail
    go_end0
    exact HEND.out _
  · have hdead : d.lv k q = false := by
      rcases hst with h | h
      · omega
      · exact h
    have t0 : ((F : Int) == (most : Int)) = false := by simp; omega
    obtain ⟨b, off, r, c, rfl, hc1, hrow⟩ := hlv.at hk
    obtain ⟨b2, off2, rfl, hc2⟩ := hrow.at hq
    rw [show boolsV (d.lv k) q = .bool (d.lv k q) from rfl, hdead] at hc2
    have hk0 : (0 : Int) ≤ (k : Int) := by omega
    have hkK : (k : Int) < (K : Int) := by omega
    have hq0 : (0 : Int) ≤ (q : Int) := by omega
    have hqn : (q : Int) < (d.n : Int) := by omega
    have hwk : IntKind.i64.wrap (k : Int) = (k : Int) := IntWalk.i64_in _ (by omega)
    have hwq : IntKind.i64.wrap (q : Int) = (q : Int) := IntWalk.i64_in _ (by omega)
    clear hst hfull hlv hdead hrow
    go_enter Try.func24, Try.ntmps24
    go_wp2_with fail
    go_quiet (fail)
    go_wp2_with fail
    go_end0
    exact HEND.out _
set_option maxRecDepth 100000 in
set_option maxHeartbeats 4000000 in
theorem extend_zero (d : DF) (B bp : Nat) (c0 c1 c2 : Value) (an : Option Addr) (cn : Nat) (al : Option Addr) (K cl most : Nat) (q : Nat) (vw vf : Value) (pre : List Int) (fs : List ByteArray) (w : World)
    (hs : SrW w B bp c0 c1 c2 (.slice an d.n cn) (.slice al K cl) most vw vf pre fs) (hlv : RowsX (OX bp vw vf) w al K (fun _ => d.n) (fun k => boolsV (d.lv k)))
    (hq : q < d.n) (hk : 0 < K) (hlen : fs.length < most) (hm : most ≤ 200) (hst : d.lv 0 q = true) (hn : d.n ≤ 512) (hK : K ≤ 2049) (hpre : pre.length ≤ 2048) :
    Calls Try.prog 24 #[.pointer (some ⟨bp, 0, none⟩), .int .i64 q, .int .i64 0] w (ExtE w B bp c0 c1 c2 (.slice an d.n cn) (.slice al K cl) most vw vf pre (fs ++ [strOfNums pre])) := by
  obtain ⟨z3, z4, z5, z6, z7⟩ := hs.cells
  obtain ⟨fa, fc, hvf⟩ := ownsRow_shape hs.rf
  obtain ⟨wa, wc, hvw⟩ := ownsRow_shape hs.rw
  subst hvf hvw
  have HS := Lib.hid hs
  clear hs
  obtain ⟨j0, hji, hj0, hj1, hj2⟩ := info_parts infoS
  obtain ⟨F, hF⟩ : ∃ F, F = fs.length := ⟨_, rfl⟩
  obtain ⟨P, hP⟩ : ∃ P, P = pre.length := ⟨_, rfl⟩
  rw [← hF] at z6 hlen HS
  rw [← hP] at z5 HS hpre
  rw [← hF, ← hP]
  have t0 : ((F : Int) == (most : Int)) = false := by simp; omega
  obtain ⟨b, off, r, c, rfl, hc1, hrow⟩ := hlv.at hk
  obtain ⟨b2, off2, rfl, hc2⟩ := hrow.at hq
  rw [show boolsV (d.lv 0) q = .bool (d.lv 0 q) from rfl, hst] at hc2
  simp only [Nat.add_zero] at hc1
  have hkK : (0 : Int) < (K : Int) := by omega
  have hq0 : (0 : Int) ≤ (q : Int) := by omega
  have hqn : (q : Int) < (d.n : Int) := by omega
  have hwq : IntKind.i64.wrap (q : Int) = (q : Int) := IntWalk.i64_in _ (by omega)
  have HFL := Lib.hid hF
  have HPL := Lib.hid hP
  clear hlv hst hrow hF hP
  go_enter Try.func24, Try.ntmps24
  go_wp2_with fail
  go_quiet (fail)
  obtain ⟨wr, hwr⟩ : ∃ wr, wr = w.drewN nq := ⟨_, rfl⟩
  have HB1 := Lib.hid (show Below w.heap.size w wr by rw [hwr]; exact below_drewN' w nq)
  rw [← hwr]
  have HS1 := Lib.hid (HS.out.below HB1.out)
  clear hwr z3 z4 z5 z6 z7 hc1 hc2
  obtain ⟨z3, z4, z5, z6, z7⟩ := HS1.out.cells
  obtain ⟨y3, y4, y5, y6, y7⟩ := (HS1.out.below ((Below.refl _ _).alloc (Nat.le_refl _) (.cells #[.string (strOfNums pre)] 9))).cells
  have hcv := run_convert_own (w := wr.drew) (by have := HS1.out.rw; rw [← HPL.out] at this; exact this) 52 9 Try.underlying52 Try.underlying5 Try.underlying9
  have M1 := Lib.hid (show F + 1 ≤ maxLen by unfold maxLen; omega)
  have M2 := Lib.hid (show (F + 1) * 16 ≤ 140737488355328 by omega)
  have HRF := Lib.hid (show wr.ownsRow B 9 1 (.slice fa F fc) F (rowS fs) by have := HS1.out.rf; rw [← HFL.out] at this; exact this)
  have HBW := Lib.hid (Nat.le_trans HS1.out.bl (Nat.le_of_lt HS1.out.lt))
  clear hlen hm hpre
  go_wp2_with fail
  go_region_law (
    refine step_push (w1 := wr) rfl (.tmp 37) (.tmp 43) 28 rfl B 9 j0 (.string ⟨#[]⟩) 16 Try.underlying28 hji hj0 hj1 hj2 rfl (.slice fa F fc) F (rowS fs) rfl (.string (strOfNums pre)) rfl HRF.out rfl rfl M1.out M2.out HBW.out ?_
    intro v' w3 h3 hg3 hat
    obtain ⟨ra', rc', rfl⟩ := ownsRow_shape h3
    have hgx := grown_alloc hg3
    have hnb := newB_at hat (Nat.le_succ wr.heap.size)
    have HP := Lib.hid (HS1.out.putF (fs' := fs ++ [strOfNums pre]) hgx (by rw [List.length_append, List.length_singleton, ← HFL.out, rowS_append]; exact h3) hnb)
    have HNB := Lib.hid hnb
    have x6 : w3.cell? ⟨bp, 6, none⟩ = some (.slice fa F fc) := hgx.cell z6 (fun e => HS1.out.n2 e.symm)
    have xf : w3.frozen? ⟨bp, 6, none⟩ = false := (World.frozen?_of_block (w := wr) (hgx.block bp HS1.out.lt (fun e => HS1.out.n2 e.symm))).trans (HS1.out.free 6)
    clear h3 hg3 hat hgx hnb)
  all_goals
    go_wp2_with fail
    go_end0
    exact ⟨rfl, _, _, HP.out.1, SKeep.trans (SKeep.of_below HB1.out) (NewB.refl _ _) (NewB.refl _ _) HP.out.2, NewB.refl _ _, (NewB.refl w (Value.slice fa F fc)).trans HB1.out.size HNB.out⟩
end Go.Proofs.Ytohoiebofkmjeac
