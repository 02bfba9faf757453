/- Contracts: the forest's find, union, partition. -/
import Derived.Test.YtfgpjkkdgjhkfaaPartD
import Derived.Test.YtfgpjkkdgjhkfaaPartFM
import Derived.Lib.MinMax
namespace Go.Proofs.Ytfgpjkkdgjhkfaa
open Go Go.RowKit Go.Maps
set_option linter.unusedVariables false


def cF (G : Nat → Nat) (t : Nat) : Int := (G t : Int)
theorem grown_of_below {w w' : World} {row : Option Nat} (h : Below w.heap.size w w') : w.grownBy w' row := ⟨h.os, h.tape, h.output, h.size, fun k hk _ => h.block k hk⟩
theorem grown_set {a w : World} {g : Nat} (h : a.grownBy w (some g)) (j : Nat) (v : Value) : a.grownBy (w.setCell ⟨g, j, none⟩ v) (some g) :=
  ⟨h.os, h.tape, h.output, by simpa [World.setCell] using h.size, fun k hk hne => by rw [Below.heap_setCell w ⟨g, j, none⟩ v k (fun e => hne (by rw [e]))]; exact h.block k hk hne⟩
theorem ownsF_setc {w : World} {base g n : Nat} {G : Nat → Nat} (h : ownsF w base g n (cF G)) (j x : Nat) : ownsF (w.setCell ⟨g, j, none⟩ (.int .i64 (x : Int))) base g n (cF fun t => if t = j then x else G t) :=
  ownsF_congr (ownsF_set h j x) fun t ht => by
    show (if t = j then (x : Int) else cF G t) = cF (fun t => if t = j then x else G t) t
    unfold cF
    by_cases e : t = j <;> simp [e]
set_option maxRecDepth 100000 in
set_option maxHeartbeats 1000000 in
theorem find_ok (base g n x : Nat) (G r : Nat → Nat) (w : World) (ho : ownsF w base g n (cF G)) (hF : FI n G r) (hx : x < n) (hn : n ≤ 4096) :
    Calls Try.prog 51 #[.slice (some ⟨g, 0, none⟩) n n, .int .i64 x] w fun e w' => e = .returned (.int .i64 (r x : Int)) ∧ ∃ G', FI n G' r ∧ ownsF w' base g n (cF G') ∧ w.grownBy w' (some g) := by
  have HO := Lib.hid ho
  have HF := Lib.hid hF
  clear ho hF
  obtain ⟨rx, hrx⟩ : ∃ rx, rx = r x := ⟨_, rfl⟩
  rw [← hrx]
  have HRX := Lib.hid hrx
  clear hrx
  go_enter Try.func51, Try.ntmps51
  go_wp2_with fail
  go_loopw [1] (fun vp wr => ∃ (y : Nat) (G' : Nat → Nat), vp = .int .i64 y ∧ y < n ∧ rx = r y ∧ FI n G' r ∧ ownsF wr base g n (cF G') ∧ w.grownBy wr (some g)) (fun vp _ => (intOf vp).toNat)
  case atStart => exact ⟨x, G, rfl, hx, HRX.out, HF.out, HO.out, grown_refl _ _⟩
  case round =>
    obtain ⟨y, G', rfl, hy, hr, hf, ho, hg⟩ := hrel
    have hcy := ownsF_cell ho hy
    have hfy := ownsF_free ho y
    obtain ⟨h1, h2, h3⟩ := hf y hy
    obtain ⟨z, hz⟩ : ∃ z, z = G' y := ⟨_, rfl⟩
    rw [cF, ← hz] at hcy
    rw [← hz] at h1 h2 h3
    have HF2 := Lib.hid hf
    have HO2 := Lib.hid ho
    have HG2 := Lib.hid hg
    clear hf hg
    by_cases hzy : z = y
    · have ht : ((z : Int) != (y : Int)) = false := by rw [hzy]; simp
      have HE := Lib.hid (show (y : Int) = (rx : Int) by rw [hr, h3.1 hzy])
      clear h2 h3 hzy hr ho
      go_wp2_with fail
      go_ret
      exact ⟨by rw [← HE.out]; rfl, _, HF2.out, HO2.out, HG2.out⟩
    · have ht : ((z : Int) != (y : Int)) = true := by rw [bne_iff_ne]; omega
      have hcz := ownsF_cell ho (show z < n by omega)
      obtain ⟨u, hu⟩ : ∃ u, u = G' z := ⟨_, rfl⟩
      rw [cF, ← hu] at hcz
      have HF3 := Lib.hid (HF2.out.halve hy (by rw [← hz]; exact hzy))
      have hu2 := (HF2.out z (by omega)).1
      rw [← hu] at hu2
      have HU := Lib.hid (show u = G' (G' y) by rw [← hz]; exact hu)
      have HO3 := Lib.hid (ownsF_setc ho y u)
      have HR3 := Lib.hid (show rx = r u by rw [hu, (HF2.out z (by omega)).2.1, h2, hr])
      have hcu := ownsF_cell HO3.out hy
      have e1 : cF (fun t => if t = y then u else G' t) y = (u : Int) := by simp [cF]
      rw [e1] at hcu
      have hun : u < n := by omega
      have huy : u < y := by omega
      clear h2 h3 hz hu hr ho e1 hu2
      go_wp2_with fail
      exact ⟨⟨u, _, rfl, hun, HR3.out, by have := HF3.out; rw [← HU.out] at this; exact this, HO3.out, grown_set HG2.out _ _⟩, by simp [intOf]; omega⟩
set_option maxRecDepth 100000 in
set_option maxHeartbeats 1000000 in
theorem union_ok (base g n i j : Nat) (G r : Nat → Nat) (w : World) (ho : ownsF w base g n (cF G)) (hF : FI n G r) (hi : i < n) (hj : j < n) (hn : n ≤ 4096) :
    Calls Try.prog 47 #[.slice (some ⟨g, 0, none⟩) n n, .int .i64 i, .int .i64 j] w fun e w' => e = .returned (.tuple #[]) ∧ ∃ G', FI n G' (mrg r i j) ∧ ownsF w' base g n (cF G') ∧ w.grownBy w' (some g) := by
  have HO := Lib.hid ho
  have HF := Lib.hid hF
  have hri := hF.le i hi
  have hrj := hF.le j hj
  clear ho hF
  go_enter Try.func47, Try.ntmps47
  go_wp2_with fail
  refine (find_ok base _ _ _ _ _ _ HO.out HF.out hi hn).mono ?_
  rintro e w1 ⟨rfl, G1, hf, ho, hg⟩
  have HF1 := Lib.hid hf
  have HO1 := Lib.hid ho
  have HG1 := Lib.hid hg
  clear hf ho hg
  go_wp2_with fail
  refine (find_ok base _ _ _ _ _ _ HO1.out HF1.out hj hn).mono ?_
  rintro e w2 ⟨rfl, G2, hf, ho, hg⟩
  have HU := Lib.hid (hf.union hi hj)
  obtain ⟨M, hM⟩ : ∃ M, M = max (r i) (r j) := ⟨_, rfl⟩
  obtain ⟨m, hm⟩ : ∃ m, m = min (r i) (r j) := ⟨_, rfl⟩
  have hMn : M < n := by omega
  have hcM := ownsF_cell ho hMn
  have hfM := ownsF_free ho M
  have HS := Lib.hid (ownsF_setc ho M m)
  have HG2 := Lib.hid (HG1.out.trans hg)
  have hmax : max (r i : Int) (r j : Int) = (M : Int) := by omega
  have hmin : min (r i : Int) (r j : Int) = (m : Int) := by omega
  have HMm := Lib.hid (show M = max (r i) (r j) ∧ m = min (r i) (r j) from ⟨hM, hm⟩)
  clear hf ho hg hM hm hri hrj
  go_wp2_with fail
  go_end0
  exact ⟨rfl, _, by have := HU.out; rw [← HMm.out.1, ← HMm.out.2] at this; exact this, HS.out, grown_set HG2.out _ _⟩
set_option maxRecDepth 100000 in
set_option maxHeartbeats 2000000 in
theorem part_ok (base g n : Nat) (G r : Nat → Nat) (w : World) (ho : ownsF w base g n (cF G)) (hF : FI n G r) (hn : n ≤ 4096) :
    Calls Try.prog 48 #[.slice (some ⟨g, 0, none⟩) n n] w fun e w' => (∃ (r' : Option Addr) (c : Nat), e = .returned (.slice r' n c) ∧ RowI w' r' n (can (cF r))) ∧ w.grownBy w' (some g) := by
  have HO := Lib.hid ho
  have HF := Lib.hid hF
  have HLT := Lib.hid (ownsF_lt ho).2
  clear ho hF
  obtain ⟨i0, hi, hz0, hz1, hz2⟩ := info_parts infoI
  go_enter Try.func48, Try.ntmps48
  go_wp2_with (refine wpList_make_full _ rfl _ _ 22 rfl w.heap.size 3 i0 (.int .i64 0) 1 Try.underlying22 hi hz0 hz1 .i64 .i64 _ _ n rfl rfl (by simp) (by simp) ?c1 ?c2 ?c3 ?_)
  case c1 => rw [hz2]; omega
  case c2 => unfold maxLen; omega
  case c3 => exact Nat.le_refl _
  intro w1 hown0 hg1
  have HR := Lib.hid (fresh_own (f := cF r) hown0)
  have HO1 := Lib.hid (ownsF_kept HO.out hg1 (by simp))
  have HG := Lib.hid (show w.grownBy w1 (some g) from ⟨hg1.os, hg1.tape, hg1.output, hg1.size, fun k hk _ => hg1.block k hk (by simp)⟩)
  clear hown0 hg1
  go_wp2_with fail
  go_loopw [10] (fun vi wr => ∃ (k : Nat) (G' : Nat → Nat), k ≤ n ∧ vi = .int .i64 k ∧ FI n G' r ∧ ownsF wr base g n (cF G') ∧ ownsF wr w.heap.size w.heap.size n (upG k 0 (cF r)) ∧ w.grownBy wr (some g)) (fun vi _ => n - (intOf vi).toNat)
  case atStart => exact ⟨0, G, Nat.zero_le _, rfl, HF.out, HO1.out, HR.out, HG.out⟩
  case round =>
    obtain ⟨k, G', hk, rfl, hf, ho, hr, hg⟩ := hrel
    have HF2 := Lib.hid hf
    have HO2 := Lib.hid ho
    have HR2 := Lib.hid hr
    have HG2 := Lib.hid hg
    clear hf ho hr hg
    have hne : w.heap.size ≠ g := by have : g < w.heap.size := HLT.out; omega
    by_cases hlt : k < n
    · go_wp2_with fail
      refine (find_ok base _ _ _ _ _ _ HO2.out HF2.out hlt hn).mono ?_
      rintro e w2 ⟨rfl, G3, hf, ho, hg⟩
      have HR3 := Lib.hid (ownsF_kept HR2.out hg (fun e => hne (Option.some.inj e)))
      have HO3 := Lib.hid ho
      have HF3 := Lib.hid hf
      have HG3 := Lib.hid (HG2.out.trans hg)
      clear hf ho hg
      have hck := ownsF_cell HR3.out hlt
      have hfk := ownsF_free HR3.out k
      go_wp2_with fail
      exact ⟨⟨k + 1, G3, by omega, by go_num, HF3.out, ownsF_kept HO3.out (grown_set (grown_refl _ _) _ _) (fun e => hne (Option.some.inj e).symm), ownsF_up HR3.out rfl,
        ⟨HG3.out.os, HG3.out.tape, HG3.out.output, by simpa [World.setCell] using HG3.out.size, fun j hj hjn => by rw [Below.heap_setCell w2 ⟨w.heap.size, k, none⟩ _ j (by show j ≠ w.heap.size; omega)]; exact HG3.out.block j hj hjn⟩⟩, by simp [intOf]; omega⟩
    · obtain rfl : n = k := by omega
      have HRR := Lib.hid (RowI.owned (ownsF_congr HR2.out fun t ht => upG_all ht) fun i hi => by have := HF2.out.le i hi; unfold B64 cF; omega)
      go_wp2_with fail
      refine (canonical_any _ _ _ _ _ HRR.out (by unfold maxLen; omega)).mono ?_
      rintro e w3 ⟨r3, c3, rfl, hR, hB⟩
      rw [canLen_yes hn] at hR ⊢
      have HC := Lib.hid hR
      have HG3 := Lib.hid (HG2.out.trans (grown_of_below hB))
      clear hR hB
      go_wp2_with fail
      go_ret
      exact ⟨⟨_, _, rfl, HC.out⟩, HG3.out⟩
end Go.Proofs.Ytfgpjkkdgjhkfaa
