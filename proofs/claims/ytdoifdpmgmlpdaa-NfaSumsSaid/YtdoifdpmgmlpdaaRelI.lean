/- Contracts: Identity, the reference's Identity. -/
import Derived.Test.YtdoifdpmgmlpdaaRelA
namespace Go.Proofs.Ytdoifdpmgmlpdaa.rel
open Go Go.RowKit
set_option maxRecDepth 100000
set_option linter.unusedVariables false

theorem infoU : (Try.prog.info? 22).map (fun i => (i.zero, i.size, i.bytes)) = some (some (.int .u64 0), 1, 8) := by kernel_rfl
/-- the first j rows are f's, the others 0 -/
def upF (j : Nat) (f : Nat → Nat) (t : Nat) : Nat := if t < j then f t else 0
theorem upF_at (j : Nat) (f : Nat → Nat) : upF j f j = 0 := by simp [upF]
theorem upF_zero (f : Nat → Nat) (t : Nat) : upF 0 f t = 0 := by simp [upF]
theorem upF_all {n : Nat} {f : Nat → Nat} {t : Nat} (h : t < n) : upF n f t = f t := by simp [upF, h]
theorem ownsU_up {w : World} {base g n : Nat} {e : TypeId} {f : Nat → Nat} {j x : Nat} (h : ownsU w base g n e (upF j f)) (hx : x = f j) : ownsU (w.setCell ⟨g, j, none⟩ (.int .u64 (x : Int))) base g n e (upF (j + 1) f) := by
  refine ownsU_congr (ownsU_set h j x) fun t ht => ?_
  unfold upF
  by_cases et : t = j
  · subst et; rw [if_pos rfl, if_pos (by omega), hx]
  · rw [if_neg et]
    by_cases h2 : t < j
    · rw [if_pos h2, if_pos (by omega)]
    · rw [if_neg h2, if_neg (by omega)]
theorem Gives.own {w w' : World} {base n : Nat} {e : TypeId} {f : Nat → Nat} {g : Nat} (h : ownsU w' base g n e (upF n f)) (hf : ∀ i, i < n → f i < 18446744073709551616) (hb : Below w.heap.size w w') : Gives w n f (.returned (.slice (some ⟨g, 0, none⟩) n n)) w' :=
  ⟨_, _, rfl, Row.owned (ownsU_congr h fun t ht => upF_all ht) hf, hb⟩
/-- the call returns a new slice of its own with the n numbers f -/
def Fresh (w : World) (n : Nat) (f : Nat → Nat) (e : Ending) (w' : World) : Prop :=
  ∃ g, e = .returned (.slice (some ⟨g, 0, none⟩) n n) ∧ w.heap.size ≤ g ∧ ownsU w' w.heap.size g n 22 f ∧ Below w.heap.size w w'
theorem Fresh.gives {w w' : World} {n : Nat} {f : Nat → Nat} {e : Ending} (h : Fresh w n f e w') (hf : ∀ i, i < n → f i < 18446744073709551616) : Gives w n f e w' := by
  obtain ⟨g, rfl, hg, ho, hb⟩ := h
  exact ⟨_, _, rfl, Row.owned ho hf, hb⟩
theorem Fresh.own {w w' : World} {n : Nat} {f : Nat → Nat} (h : ownsU w' w.heap.size w.heap.size n 22 (upF n f)) (hb : Below w.heap.size w w') : Fresh w n f (.returned (.slice (some ⟨w.heap.size, 0, none⟩) n n)) w' :=
  ⟨_, rfl, Nat.le_refl _, ownsU_congr h fun t ht => upF_all ht, hb⟩

set_option maxHeartbeats 400000 in
theorem ident_ok (n : Nat) (w : World) (hn : n ≤ 64) :
    Calls Try.prog 64 #[.int .i64 n] w (Gives w n idF) := by
  obtain ⟨i0, hi, hz0, hz1, hz2⟩ := info_parts infoU
  go_enter Try.func64, Try.ntmps64
  go_wp2_with (refine wpList_make_full _ rfl _ _ 58 rfl w.heap.size 22 i0 (.int .u64 0) 1 Try.underlying58 hi hz0 hz1 .i64 .i64 _ _ n rfl rfl (by simp) (by simp) ?c1 ?c2 ?c3 ?_)
  case c1 => rw [hz2]; omega
  case c2 => unfold maxLen; omega
  case c3 => exact Nat.le_refl _
  intro w1 hown0 hg1
  have hown : ownsU w1 w.heap.size w.heap.size n 22 (upF 0 idF) := by
    refine ownsU_congr (f := fun _ => 0) ?_ fun t _ => (upF_zero _ _).symm
    unfold ownsU
    rw [← rowU_made]
    simpa using hown0
  have hb : Below w.heap.size w w1 := (Below.refl _ w).grown hg1 (Nat.le_refl _) (by intro k hk; cases hk)
  clear hown0 hg1
  have HO := Lib.hid hown
  have HB := Lib.hid hb
  clear hown hb
  go_wp2_with fail
  go_loopw [14] (fun i wr => ∃ j : Nat, j ≤ n ∧ i = .int .i64 j ∧ ownsU wr w.heap.size w.heap.size n 22 (upF j idF) ∧ Below w.heap.size w wr) (fun i _ => n - (intOf i).toNat)
  case atStart => exact ⟨0, Nat.zero_le _, rfl, HO.out, HB.out⟩
  case round =>
    obtain ⟨j, hj, rfl, ho, hb⟩ := hrel
    by_cases hlt : j < n
    · have hcj := ownsU_cell ho hlt
      have hfj := ownsU_free ho j
      rw [upF_at] at hcj
      obtain ⟨p, hp⟩ : ∃ p, p = 2 ^ j := ⟨_, rfl⟩
      have hw := shl_u (j := j) (by omega)
      rw [← hp] at hw
      have HP := Lib.hid (show p = idF j from hp)
      have HO2 := Lib.hid ho
      have HB2 := Lib.hid hb
      clear ho hb hp
      go_wp2_with fail
      exact ⟨⟨j + 1, by omega, by go_num, ownsU_up HO2.out HP.out, HB2.out.setCell (Nat.le_refl _) _⟩, by simp [intOf]; omega⟩
    · obtain rfl : n = j := by omega
      have HO2 := Lib.hid ho
      have HB2 := Lib.hid hb
      clear ho hb
      go_wp2_with fail
      go_ret
      exact Gives.own HO2.out (fun i hi => pow_lt64 (by omega)) HB2.out

set_option maxHeartbeats 400000 in
theorem ident_bad (n : Int) (w : World) (hn : n < 0 ∨ 64 < n) (f : Nat → Nat) :
    Calls Try.prog 64 #[.int .i64 n] w (Gives w 0 f) := by
  by_cases h : n < 0
  · clear hn
    go_enter Try.func64, Try.ntmps64
    go_wp2_with fail
    go_ret
    exact Gives.nil
  · have h2 : 64 < n := by omega
    clear hn
    go_enter Try.func64, Try.ntmps64
    go_wp2_with fail
    go_ret
    exact Gives.nil
end Go.Proofs.Ytdoifdpmgmlpdaa.rel
