/- Contract: the reference's emit. -/
import Derived.Test.YtohoiebofkmjeabDfaX
import Derived.Deep.RegionWith
namespace Go.Proofs.Ytohoiebofkmjeab
open Go Go.RowKit
set_option linter.unusedVariables false
theorem cell_al {w : World} {ob : Obj} {b o : Nat} {v : Value} (h : w.cell? ⟨b, o, none⟩ = some v) : (w.alloc ob).cell? ⟨b, o, none⟩ = some v :=
  (Below.cell (B := w.heap.size) ((Below.refl _ w).alloc (Nat.le_refl _) ob) (cell_lt (s := none) h)).trans h
/-- blocks that are not v's -/
def XV (v : Value) (k : Nat) : Prop := v.ownBlock ≠ some k
theorem step_grown {w w' : World} {v v' : Value} (hg : w.grownBy w' v.ownBlock) (hn : NewB w v v') : StepX (XV v) w (XV v') w' :=
  ⟨hg.size, fun k hk hx => ⟨fun e => by
    rcases hn k e with e1 | e1
    · exact hx e1
    · omega, hg.block k hk (fun e => hx e.symm)⟩⟩
theorem grown_trans {w w' w'' : World} {v v' : Value} (hg : w.grownBy w' v.ownBlock) (hn : NewB w v v') (hg' : w'.grownBy w'' v'.ownBlock) : w.grownBy w'' v.ownBlock :=
  ⟨hg'.os.trans hg.os, hg'.tape.trans hg.tape, hg'.output.trans hg.output, Nat.le_trans hg.size hg'.size, fun k hk hne => (hg'.block k (Nat.lt_of_lt_of_le hk hg.size) (fun e => by
    rcases hn k e.symm with e1 | e1
    · exact hne e1.symm
    · omega)).trans (hg.block k hk hne)⟩
theorem newB_alloc {w : World} {ob : Obj} {v v' : Value} (h : NewB (w.alloc ob) v v') : NewB w v v' := fun k hk => by
  rcases h k hk with e | e
  · exact .inl e
  · exact .inr (by simp at e; omega)
/-- what emit leaves: a list of the call's own that holds fs' -/
def EmitE (w : World) (B : Nat) (v : Value) (fs' : List ByteArray) (e : Ending) (w' : World) : Prop :=
  ∃ v', e = .returned v' ∧ w'.ownsRow B 9 1 v' fs'.length (rowS fs') ∧ w.grownBy w' v.ownBlock ∧ NewB w v v'
theorem strs_snoc (pre : List Int) (c : Int) : strOfNums pre ++ strOfNums [c] = strOfNums (pre ++ [c]) := by
  apply ByteArray.ext
  rw [ByteArray.data_append]
  simp [strOfNums]
set_option maxRecDepth 100000 in
set_option maxHeartbeats 4000000 in
theorem emit_stop (d : DF) (af : Option Addr) (cf : Nat) (an : Option Addr) (cn B : Nat) (al : Option Addr) (K cl most : Nat) (q k : Nat) (v : Value) (s : ByteArray) (fs : List ByteArray) (w : World)
    (ho : w.ownsRow B 9 1 v fs.length (rowS fs)) (hlv : RowsX (XV v) w al K (fun _ => d.n) (fun k => boolsV (d.lv k)))
    (hq : q < d.n) (hk : k < K) (hst : most ≤ fs.length ∨ d.lv k q = false) (hn : d.n ≤ 512) (hK : K ≤ 2049) (hm : most ≤ 200) :
    Calls Try.prog 46 #[dV d af cf an cn, .slice al K cl, .int .i64 q, .int .i64 k, .string s, .int .i64 most, v] w (EmitE w B v fs) := by
  obtain ⟨fa, fc, rfl⟩ := ownsRow_shape ho
  have HEND := Lib.hid (show EmitE w B (.slice fa fs.length fc) fs (.returned (.slice fa fs.length fc)) (w.alloc (dO d af cf an cn)) from ⟨_, rfl, ho.alloc _, World.grownBy_alloc _ _ _, NewB.refl _ _⟩)
  have hlv1 := hlv.step (X' := XV (.slice fa fs.length fc)) (w' := w.alloc (dO d af cf an cn)) ⟨by simp, fun j hj hx => ⟨hx, Below.heap_alloc _ _ _ hj⟩⟩
  obtain ⟨F, hF⟩ : ∃ F, F = fs.length := ⟨_, rfl⟩
  rw [← hF] at hst HEND
  rw [← hF]
  clear hlv
  by_cases hfull : most ≤ F
  · have t0 : (most : Int) ≤ (F : Int) := by omega
    clear hst hfull hlv1 ho hF
    go_enter Try.func46, Try.ntmps46
    go_wp2_with fail
    go_ret
    exact HEND.out
  · have hdead : d.lv k q = false := by
      rcases hst with h | h
      · omega
      · exact h
    have t0 : ¬ (most : Int) ≤ (F : Int) := by omega
    obtain ⟨b, off, r, c, rfl, hc1, hrow⟩ := hlv1.at hk
    obtain ⟨b2, off2, rfl, hc2⟩ := hrow.at hq
    rw [show boolsV (d.lv k) q = .bool (d.lv k q) from rfl, hdead] at hc2
    have hk0 : (0 : Int) ≤ (k : Int) := by omega
    have hkK : (k : Int) < (K : Int) := by omega
    have hq0 : (0 : Int) ≤ (q : Int) := by omega
    have hqn : (q : Int) < (d.n : Int) := by omega
    have hwk : IntKind.i64.wrap (k : Int) = (k : Int) := IntWalk.i64_in _ (by omega)
    have hwq : IntKind.i64.wrap (q : Int) = (q : Int) := IntWalk.i64_in _ (by omega)
    clear hst hfull hlv1 hdead hrow ho hF
    go_enter Try.func46, Try.ntmps46
    go_wp2_with fail
    go_ret
    exact HEND.out
set_option maxRecDepth 100000 in
set_option maxHeartbeats 4000000 in
theorem emit_zero (d : DF) (af : Option Addr) (cf : Nat) (an : Option Addr) (cn B : Nat) (al : Option Addr) (K cl most : Nat) (q : Nat) (v : Value) (s : ByteArray) (fs : List ByteArray) (w : World)
    (ho : w.ownsRow B 9 1 v fs.length (rowS fs)) (hB : B ≤ w.heap.size) (hlv : RowsX (XV v) w al K (fun _ => d.n) (fun k => boolsV (d.lv k)))
    (hq : q < d.n) (hk : 0 < K) (hlen : fs.length < most) (hst : d.lv 0 q = true) (hn : d.n ≤ 512) (hK : K ≤ 2049) (hm : most ≤ 200) :
    Calls Try.prog 46 #[dV d af cf an cn, .slice al K cl, .int .i64 q, .int .i64 0, .string s, .int .i64 most, v] w (EmitE w B v (fs ++ [s])) := by
  obtain ⟨fa, fc, rfl⟩ := ownsRow_shape ho
  obtain ⟨j0, hji, hj0, hj1, hj2⟩ := info_parts infoS
  have hlv1 := hlv.step (X' := XV (.slice fa fs.length fc)) (w' := w.alloc (dO d af cf an cn)) ⟨by simp, fun j hj hx => ⟨hx, Below.heap_alloc _ _ _ hj⟩⟩
  obtain ⟨F, hF⟩ : ∃ F, F = fs.length := ⟨_, rfl⟩
  have HFL := Lib.hid hF
  have HO := Lib.hid (show ((w.alloc (dO d af cf an cn)).alloc (.cells #[.string s] 9)).ownsRow B 9 1 (.slice fa F fc) F (rowS fs) by rw [hF]; exact (ho.alloc _).alloc _)
  rw [← hF] at hlen
  rw [← hF]
  have t0 : ¬ (most : Int) ≤ (F : Int) := by omega
  obtain ⟨b, off, r, c, rfl, hc1, hrow⟩ := hlv1.at hk
  obtain ⟨b2, off2, rfl, hc2⟩ := hrow.at hq
  rw [show boolsV (d.lv 0) q = .bool (d.lv 0 q) from rfl, hst] at hc2
  simp only [Nat.add_zero] at hc1
  have hkK : (0 : Int) < (K : Int) := by omega
  have hq0 : (0 : Int) ≤ (q : Int) := by omega
  have hqn : (q : Int) < (d.n : Int) := by omega
  have hwq : IntKind.i64.wrap (q : Int) = (q : Int) := IntWalk.i64_in _ (by omega)
  have HBB := Lib.hid hB
  have HN1 := Lib.hid (show ∀ j u, [Value.string s][j]? = some u → ((w.alloc (dO d af cf an cn)).alloc (.cells #[.string s] 9)).cell? ((⟨w.heap.size + 1, 0, none⟩ : Addr).add j) = some u by
    have := cell_one_new (w.alloc (dO d af cf an cn)) (.string s) 9
    rw [show (w.alloc (dO d af cf an cn)).heap.size = w.heap.size + 1 by simp] at this
    exact this)
  clear hst hlv hlv1 hrow ho hF hB
  go_enter Try.func46, Try.ntmps46
  go_wp2_with (at_builtin; refine wpList_append_own_at _ rfl _ _ 44 rfl B 9 j0 (.string ⟨#[]⟩) 1 16 Try.underlying44 hji hj0 hj1 hj2 rfl (by decide) _ F (rowS fs) rfl HO.out ⟨_, 0, none⟩ 1 1 [.string s] rfl rfl HN1.out ?f2 ?f3 ?f4 ?f5 ?_)
  case f2 => simp [Value.oneCell']
  case f3 => unfold maxLen; omega
  case f4 => omega
  case f5 => have := HBB.out; simp; omega
  intro v' w3 h3 hg3 _ hat
  have HEND := Lib.hid (show EmitE w B (.slice fa F fc) (fs ++ [s]) (.returned v') w3 from ⟨_, rfl, by rw [List.length_append, List.length_singleton, ← HFL.out, rowS_append]; exact h3, grown_alloc (grown_alloc hg3), newB_at (w := w) (g := w.heap.size + 1 + 1) (by
    rcases hat with e | e
    · exact .inl e
    · exact .inr (by rw [e])) (by omega)⟩)
  clear h3 hg3 hat
  go_wp2_with fail
  go_ret
  exact HEND.out
end Go.Proofs.Ytohoiebofkmjeab
