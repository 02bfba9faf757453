/- Contracts: unary, atom. -/
import Derived.Test.YthmdndondlffeaaExprPG
namespace Go.Proofs.Ythmdndondlffeaa
open Go Go.RowKit Go.Lib
set_option linter.unusedVariables false
/-- a node over one tree, laid into a block of its own -/
theorem over_one {w : World} {q : Nat → Prop} {op l op' : Int} {ks : List T} {a : Option Addr} {c : Nat} (hY : InY w q op l ks a) (hq : q w.heap.size) (ho : B64 op') :
    InY (w.alloc (.cells #[.int .i64 op, .int .i64 l, .slice a ks.length c] 24)) q op' 0 [.node op l ks] (some ⟨w.heap.size, 0, none⟩) := by
  refine ⟨?_, ho, by unfold B64; omega, by simp⟩
  have h1 := hY.keep (w' := w.alloc (.cells #[.int .i64 op, .int .i64 l, .slice a ks.length c] 24)) (q' := q) (by simp) fun b hb hq => ⟨Below.heap_alloc w _ b hb, hq⟩
  have one : ∀ (i : Nat) (k : T), [T.node op l ks][i]? = some k → i = 0 ∧ T.node op l ks = k := by
    intro i k hk
    cases i with
    | zero => exact ⟨rfl, by simpa using hk⟩
    | succ j => simp at hk
  refine .row w.heap.size 0 _ (fun _ => a) (fun _ => c) (by simp) hq (fun i k hk => ?_) (fun i k hk => ?_) (fun i k hk => ?_)
  · obtain ⟨rfl, rfl⟩ := one i k hk
    simp [go_sem, T.op, T.lt, T.ks]
  · obtain ⟨rfl, rfl⟩ := one i k hk
    exact hY.2
  · obtain ⟨rfl, rfl⟩ := one i k hk
    exact h1.1
set_option maxRecDepth 100000 in
set_option maxHeartbeats 1000000 in
theorem unary_not (p : Nat) (s : ByteArray) (L : Int) (i j : Nat) (r : List Int) (op l : Int) (ks : List T) (w : World) (hp : PSt w p s L i) (hd : (bytesI s).drop i = 33 :: r) (hbl : noBl r)
    (hu : ∀ W, PSt W p s L (i + 1) → Calls Try.prog 78 #[.pointer (some ⟨p, 0, none⟩)] W (PTree p s L W op l ks j)) :
    Calls Try.prog 78 #[.pointer (some ⟨p, 0, none⟩)] w (PTree p s L w 8 0 [.node op l ks] j) := by
  have HA := Lib.hid (accept_yes p s L i 33 r _ (hp.alloc (.cells #[.int .i64 0, .int .i64 0, .slice none 0 0] 24)) hd hbl)
  have HU := Lib.hid hu
  have hplt := hp.lt
  clear hp hu hd hbl
  go_enter Try.func78, Try.ntmps78
  go_wp2_with fail
  refine HA.out.mono ?_
  rintro e w1 ⟨rfl, hg1, hP1⟩
  have HG1 := Lib.hid hg1
  have HUU := Lib.hid (HU.out _ hP1)
  clear hg1 hP1
  go_wp2_with fail
  refine HUU.out.mono ?_
  rintro e w2 ⟨a, c, rfl, hY, hg, hP⟩
  have HG2 := Lib.hid (World.grownBy.trans HG1.out hg)
  have HB2 := Lib.hid (show w.heap.size + 1 ≤ w2.heap.size by have := HG2.out.size; simp at this; omega)
  have HY := Lib.hid (over_one (op' := 8) (c := c) (q := fun b => w.heap.size + 1 ≤ b) (hY.keep (Nat.le_refl _) fun b _ hq => ⟨rfl, by have := HG1.out.size; simp at this; omega⟩) HB2.out (by unfold B64; omega))
  have HG3 := Lib.hid (grown_alloc HG2.out (.cells #[.int .i64 op, .int .i64 l, .slice a ks.length c] 24))
  have HP3 := Lib.hid (hP.alloc (.cells #[.int .i64 op, .int .i64 l, .slice a ks.length c] 24))
  obtain ⟨⟨r0, r1, r2⟩, f0, f1, f2⟩ := res_cells HG3.out hplt
  clear hg hP hY
  go_wp2_with fail
  have hst := stored3 HG3.out HP3.out HY.out hplt (.int .i64 8) (.int .i64 0) (.slice (some ⟨w2.heap.size, 0, none⟩) 1 1)
  exact bodyPost_ret (v := .agg #[.int .i64 8, .int .i64 0, .slice (some ⟨w2.heap.size, 0, none⟩) 1 1]) (by simp [results, Try.results78, go_sem, r0, r1, r2]) rfl ⟨_, 1, rfl, hst.1, hst.2.1, hst.2.2⟩
set_option maxRecDepth 100000 in
set_option maxHeartbeats 1000000 in
theorem unary_of (p : Nat) (s : ByteArray) (L : Int) (i j : Nat) (op l : Int) (ks : List T) (w : World) (hp : PSt w p s L i) (hd : ∀ r, (bytesI s).drop i ≠ 33 :: r)
    (hu : ∀ W, PSt W p s L i → Calls Try.prog 86 #[.pointer (some ⟨p, 0, none⟩)] W (PTree p s L W op l ks j)) :
    Calls Try.prog 78 #[.pointer (some ⟨p, 0, none⟩)] w (PTree p s L w op l ks j) := by
  have HA := Lib.hid (accept_no p s L i 33 _ (hp.alloc (.cells #[.int .i64 0, .int .i64 0, .slice none 0 0] 24)) hd)
  have HU := Lib.hid hu
  have hplt := hp.lt
  clear hp hu hd
  go_enter Try.func78, Try.ntmps78
  go_wp2_with fail
  refine HA.out.mono ?_
  rintro e w1 ⟨rfl, hg1, hP1⟩
  have HG1 := Lib.hid hg1
  have HUU := Lib.hid (HU.out _ hP1)
  clear hg1 hP1
  go_wp2_with fail
  refine HUU.out.mono ?_
  rintro e w2 ⟨a, c, rfl, hY, hg, hP⟩
  have HG2 := Lib.hid (World.grownBy.trans HG1.out hg)
  have HY := Lib.hid (show InY w2 (fun b => w.heap.size + 1 ≤ b) op l ks a from hY.keep (Nat.le_refl _) fun b _ hq => ⟨rfl, by have := HG1.out.size; simp at this; omega⟩)
  have HP2 := Lib.hid hP
  obtain ⟨⟨r0, r1, r2⟩, f0, f1, f2⟩ := res_cells HG2.out hplt
  clear hg hP hY
  go_wp2_with fail
  have hst := stored3 HG2.out HP2.out HY.out hplt (.int .i64 op) (.int .i64 l) (.slice a ks.length c)
  exact bodyPost_ret (v := .agg #[.int .i64 op, .int .i64 l, .slice a ks.length c]) (by simp [results, Try.results78, go_sem, r0, r1, r2]) rfl ⟨a, c, rfl, hst.1, hst.2.1, hst.2.2⟩
/-! ### atom -/
set_option maxRecDepth 100000 in
set_option maxHeartbeats 1000000 in
theorem atom_empty (p : Nat) (s : ByteArray) (L : Int) (i : Nat) (r : List Int) (w : World) (hp : PSt w p s L i) (hd : (bytesI s).drop i = 48 :: r) (hbl : noBl r) :
    Calls Try.prog 90 #[.pointer (some ⟨p, 0, none⟩)] w (PTree p s L w 1 0 [] (i + 1)) := by
  have HA := Lib.hid (accept_yes p s L i 48 r _ (hp.alloc (.cells #[.int .i64 0, .int .i64 0, .slice none 0 0] 24)) hd hbl)
  have hplt := hp.lt
  clear hp hd hbl
  go_enter Try.func90, Try.ntmps90
  go_wp2_with fail
  refine HA.out.mono ?_
  rintro e w1 ⟨rfl, hg1, hP1⟩
  have HG2 := Lib.hid hg1
  have HP2 := Lib.hid hP1
  have HY := Lib.hid (show InY w1 (fun b => w.heap.size + 1 ≤ b) 1 0 [] none from ⟨.zero _, by unfold B64; omega, by unfold B64; omega, by simp⟩)
  obtain ⟨⟨r0, r1, r2⟩, f0, f1, f2⟩ := res_cells HG2.out hplt
  clear hg1 hP1
  go_wp2_with fail
  have hst := stored3 HG2.out HP2.out HY.out hplt (.int .i64 1) (.int .i64 0) (.slice none 0 0)
  exact bodyPost_ret (v := .agg #[.int .i64 1, .int .i64 0, .slice none 0 0]) (by simp [results, Try.results90, go_sem, r0, r1, r2]) rfl ⟨none, 0, rfl, hst.1, hst.2.1, hst.2.2⟩
set_option maxRecDepth 100000 in
set_option maxHeartbeats 1000000 in
theorem atom_unit (p : Nat) (s : ByteArray) (L : Int) (i : Nat) (r : List Int) (w : World) (hp : PSt w p s L i) (hd : (bytesI s).drop i = 49 :: r) (hbl : noBl r) :
    Calls Try.prog 90 #[.pointer (some ⟨p, 0, none⟩)] w (PTree p s L w 2 0 [] (i + 1)) := by
  have HA := Lib.hid (accept_no p s L i 48 _ (hp.alloc (.cells #[.int .i64 0, .int .i64 0, .slice none 0 0] 24)) (by rw [hd]; intro r' e; injection e with e1 e2; omega))
  have HA2 := Lib.hid (fun W (h : PSt W p s L i) => accept_yes p s L i 49 r W h hd hbl)
  have hplt := hp.lt
  clear hp hd hbl
  go_enter Try.func90, Try.ntmps90
  go_wp2_with fail
  refine HA.out.mono ?_
  rintro e w1 ⟨rfl, hg1, hP1⟩
  have HG1 := Lib.hid hg1
  have HAA := Lib.hid (HA2.out _ hP1)
  clear hg1 hP1
  go_wp2_with fail
  refine HAA.out.mono ?_
  rintro e w2 ⟨rfl, hg2, hP2⟩
  have HG2 := Lib.hid (World.grownBy.trans HG1.out hg2)
  have HP2 := Lib.hid hP2
  have HY := Lib.hid (show InY w2 (fun b => w.heap.size + 1 ≤ b) 2 0 [] none from ⟨.zero _, by unfold B64; omega, by unfold B64; omega, by simp⟩)
  obtain ⟨⟨r0, r1, r2⟩, f0, f1, f2⟩ := res_cells HG2.out hplt
  clear hg2 hP2
  go_wp2_with fail
  have hst := stored3 HG2.out HP2.out HY.out hplt (.int .i64 2) (.int .i64 0) (.slice none 0 0)
  exact bodyPost_ret (v := .agg #[.int .i64 2, .int .i64 0, .slice none 0 0]) (by simp [results, Try.results90, go_sem, r0, r1, r2]) rfl ⟨none, 0, rfl, hst.1, hst.2.1, hst.2.2⟩
set_option maxRecDepth 100000 in
set_option maxHeartbeats 1000000 in
theorem atom_letter (p : Nat) (s : ByteArray) (L : Int) (i : Nat) (l : Int) (r : List Int) (w : World) (hp : PSt w p s L i) (hd : (bytesI s).drop i = (97 + l) :: r) (hbl : noBl ((bytesI s).drop (i + 1))) (hl : 0 ≤ l ∧ l < L) :
    Calls Try.prog 90 #[.pointer (some ⟨p, 0, none⟩)] w (PTree p s L w 3 l [] (i + 1)) := by
  have hlt := (byte_at hd).1
  have hbb := byte_lt (byte_at hd).2.1
  have HA1 := Lib.hid (accept_no p s L i 48 _ (hp.alloc (.cells #[.int .i64 0, .int .i64 0, .slice none 0 0] 24)) (by rw [hd]; intro r' e; injection e with e1 e2; omega))
  have HA2 := Lib.hid (fun W (h : PSt W p s L i) => accept_no p s L i 49 W h (by rw [hd]; intro r' e; injection e with e1 e2; omega))
  have HA3 := Lib.hid (fun W (h : PSt W p s L i) => accept_no p s L i 40 W h (by rw [hd]; intro r' e; injection e with e1 e2; omega))
  have HL := Lib.hid (fun W (h : PSt W p s L i) => show Calls Try.prog 87 #[.pointer (some ⟨p, 0, none⟩)] W fun e w' => e = .returned (.tuple #[.int .i64 l, .bool true]) ∧ ∃ n, w' = W.drewN n by
    have := letter_some p s L i (97 + l) r W h hd
    rw [show 97 + l - 97 = l by omega, show ltrB L (97 + l) = true by unfold ltrB; simp; omega] at this
    exact this)
  have HV := Lib.hid (fun W (h : PSt W p s L i) => advance_any p s L i W h hlt hbl)
  have HB := Lib.hid (show B64 l by unfold B64; omega)
  have hplt := hp.lt
  clear hp hd hbl hl hbb hlt
  go_enter Try.func90, Try.ntmps90
  go_wp2_with fail
  refine HA1.out.mono ?_
  rintro e w1 ⟨rfl, hg1, hP1⟩
  have HG1 := Lib.hid hg1
  have HAA := Lib.hid (HA2.out _ hP1)
  clear hg1 hP1
  go_wp2_with fail
  refine HAA.out.mono ?_
  rintro e w2 ⟨rfl, hg2, hP2⟩
  have HG2 := Lib.hid (World.grownBy.trans HG1.out hg2)
  have HAB := Lib.hid (HA3.out _ hP2)
  clear hg2 hP2
  go_wp2_with fail
  refine HAB.out.mono ?_
  rintro e w3 ⟨rfl, hg3, hP3⟩
  have HG3 := Lib.hid (World.grownBy.trans HG2.out hg3)
  have HP3 := Lib.hid hP3
  have HLL := Lib.hid (HL.out _ hP3)
  clear hg3 hP3
  go_wp2_with fail
  refine HLL.out.mono ?_
  rintro e w4 ⟨rfl, n4, rfl⟩
  have HVV := Lib.hid (HV.out _ (HP3.out.drewN n4))
  go_wp2_with fail
  refine HVV.out.mono ?_
  rintro e w5 ⟨rfl, hg5, hP5⟩
  have HG5 := Lib.hid (World.grownBy.trans (World.grownBy.trans HG3.out (grown_drewN w3 _ n4)) hg5)
  have HP5 := Lib.hid hP5
  have HY := Lib.hid (show InY w5 (fun b => w.heap.size + 1 ≤ b) 3 l [] none from ⟨.zero _, by unfold B64; omega, HB.out, by simp⟩)
  obtain ⟨⟨r0, r1, r2⟩, f0, f1, f2⟩ := res_cells HG5.out hplt
  clear hg5 hP5
  go_wp2_with fail
  have hst := stored3 HG5.out HP5.out HY.out hplt (.int .i64 3) (.int .i64 l) (.slice none 0 0)
  exact bodyPost_ret (v := .agg #[.int .i64 3, .int .i64 l, .slice none 0 0]) (by simp [results, Try.results90, go_sem, r0, r1, r2]) rfl ⟨none, 0, rfl, hst.1, hst.2.1, hst.2.2⟩
end Go.Proofs.Ythmdndondlffeaa
