/- Contract: the reference's Sum, the automaton. -/
import Derived.Test.YtdoifdpmgmlpdaaNfaSQ
import Derived.Test.YtdoifdpmgmlpdaaNfaSN
import Derived.Test.YtdoifdpmgmlpdaaNfaOK
import Derived.Maps.AppendAt
import Derived.OwnWalk
namespace Go.Proofs.Ytdoifdpmgmlpdaa
open Go Go.RowKit
open Go.Proofs.Ytdoifdpmgmlpdaa.rel (u_or or_u)
set_option linter.unusedVariables false
/-- append of a slice of edges, nil or not -/
theorem wpList_append_E {ops : Array Oper} {rest : List Oper} {o : Oper} {a : Act} {w : World} {Q : Exit → Act → World → Prop} (hgd : o.guard = none) (s x : Operand)
    (ho : o.op = .call { callee := .builtin .append, args := #[s, x], argTypes := #[23, 23] })
    (base : Nat) (v : Value) (n : Nat) (xs : List Value) (hs : a.eval s = v) (hown : w.ownsRow base 44 3 v n xs) (ad : Option Addr) (m c : Nat) (es : List Ed) (hm : m = es.length) (hx : a.eval x = .slice ad m c) (hin : InE w ad es)
    (h63 : n + m ≤ 49152) (hbase : base ≤ w.heap.size)
    (h : ∀ v' w', w'.ownsRow base 44 3 v' (n + m) (xs ++ flatE es) → w.grownBy w' v.ownBlock → wpList Try.prog ops Q rest (a.put o.dst v') w') :
    wpList Try.prog ops Q (o :: rest) a w := by
  obtain ⟨i0, hi0, hz0, hz1, hz2⟩ := info_parts infoEd
  cases ad with
  | none =>
    have h0 : es = [] := by
      rcases hin with h | ⟨b, off, e, _⟩
      · exact h
      · cases e
    subst h0
    subst hm
    refine wpList_plain hgd fun K hK => ?_
    have hr : (Builtin.append_ #[23, 23] o.type #[v, .slice none 0 c]).run Try.prog w = .ok v w := by
      rcases hown.2 with ⟨rfl, rfl⟩ | ⟨g, cap, cur, rfl, _, _, hnc, _⟩
      · simp [Builtin.append_, run_underlying Try.underlying23, sizeOf, typeInfo, hi0, Builtin.lenOf, Builtin.firstCells]
      · simp [Builtin.append_, run_underlying Try.underlying23, sizeOf, typeInfo, hi0, Builtin.lenOf, Builtin.firstCells, hnc, storeCells]
    unfold Oper.wp execOp
    simp only [List.length_nil] at hx
    simp only [ho, resolve, invoke, builtin, Sem.run_bind, Sem.run_pure, Result.andThen_ok, List.map_toArray, List.map_cons, List.map_nil, hs, hx, hr]
    exact hK _ _ (h v w (by simpa [flatE] using hown) (World.grownBy.refl _ _))
  | some ad =>
    subst hm
    exact wpList_append_own_at _ hgd s x 23 ho base 44 i0 _ 3 24 Try.underlying23 hi0 hz0 hz1 hz2 rfl (by decide) v n xs hs hown ad es.length c (flatE es) hx (flatE_length es) (newsE hin) (flatE_one es) (by unfold maxLen; omega) (by omega) hbase (fun v' w' h2 h3 _ _ => h v' w' h2 h3)
/-- the box of the automaton in the making, its edges so far -/
structure SumI (w wr : World) (c0 c1 c2 c3 v : Value) (es : List Ed) : Prop where
  own : OwnEd wr (w.heap.size + 1) v es
  box : wr.heap[w.heap.size]? = some (.cells #[c0, c1, c2, c3, v] 25)
  bel : Below w.heap.size w wr
theorem SumI.size {w wr : World} {c0 c1 c2 c3 v : Value} {es : List Ed} (h : SumI w wr c0 c1 c2 c3 v es) : w.heap.size + 1 ≤ wr.heap.size := by
  apply Nat.lt_of_not_le; intro hle
  have h2 := h.box
  rw [Array.getElem?_eq_none hle] at h2; cases h2
theorem SumI.keep {w wr wr' : World} {c0 c1 c2 c3 v : Value} {es : List Ed} (h : SumI w wr c0 c1 c2 c3 v es) (hb : Below wr.heap.size wr wr') : SumI w wr' c0 c1 c2 c3 v es := by
  have hs := h.size
  exact ⟨rel.ownsRow_keep h.own hb, by rw [hb.block _ (by omega)]; exact h.box, h.bel.trans (hb.mono (by omega))⟩
theorem SumI.push {w wr w2 : World} {c0 c1 c2 c3 v v' : Value} {es es' : List Ed} (h : SumI w wr c0 c1 c2 c3 v es) (h4 : OwnEd w2 (w.heap.size + 1) v' es') (hg : wr.grownBy w2 v.ownBlock) :
    SumI w (w2.setCell ⟨w.heap.size, 4, none⟩ v') c0 c1 c2 c3 v' es' ∧ w2.cell? ⟨w.heap.size, 4, none⟩ = some v ∧ w2.frozen? ⟨w.heap.size, 4, none⟩ = false := by
  have hs := h.size
  have hv : ∀ k, v.ownBlock = some k → w.heap.size + 1 ≤ k := fun k hk => (World.ownsRow.lt h.own k hk).1
  have hv' : ∀ k, v'.ownBlock = some k → w.heap.size + 1 ≤ k := fun k hk => (World.ownsRow.lt h4 k hk).1
  have b1 : w2.heap[w.heap.size]? = some (.cells #[c0, c1, c2, c3, v] 25) := by
    rw [hg.block _ (by omega) (fun e => by have := hv _ e.symm; omega)]; exact h.box
  refine ⟨⟨World.ownsRow.kept h4 (grown_cell w2 _ _) ?_, set4_heap b1, ?_⟩, (cells5_of b1).1.2.2.2.2, (cells5_of b1).2.2.2.2.2⟩
  · cases hvb : v'.ownBlock with
    | none => exact .inl rfl
    | some g => exact .inr (fun e => by injection e with e; have := hv' g hvb; dsimp only at e; omega)
  · exact (h.bel.grown hg (by omega) (fun k hk => by have := hv k hk; omega)).setCell (Nat.le_refl _) _
set_option maxRecDepth 100000 in
set_option maxHeartbeats 8000000 in
theorem rsum_ok (La : Int) (na sa fa : Nat) (ea : List Ed) (a : Option Addr) (c : Nat) (nb sb fb : Nat) (eb : List Ed) (b : Option Addr) (d : Nat) (w : World) (hin : InN w La (na : Int) sa fa a ea) (hin2 : InN w La (nb : Int) sb fb b eb) (hva : valN La (na : Int) sa fa ea = true) (hvb : valN La (nb : Int) sb fb eb = true) (h64 : na + nb ≤ 64) :
    Calls Try.prog 29 #[.agg #[.int .i64 La, .int .i64 (na : Int), .int .u64 sa, .int .u64 fa, .slice a ea.length c], .agg #[.int .i64 La, .int .i64 (nb : Int), .int .u64 sb, .int .u64 fb, .slice b eb.length d]] w fun e w' => ∃ a' c', e = .returned (.tuple #[.agg #[.int .i64 La, .int .i64 (na + nb : Nat), .int .u64 (sa ||| sb * 2 ^ na : Nat), .int .u64 (fa ||| fb * 2 ^ na : Nat), .slice a' (sumE na ea eb).length c'], .int .i64 0]) ∧ InE w' a' (sumE na ea eb) ∧ Below w.heap.size w w' := by
  obtain ⟨i0, hi0, hz0, hz1, hz2⟩ := info_parts infoEd
  have HI := Lib.hid hin
  have HI2 := Lib.hid hin2
  have D1 := Lib.hid (fun W (h : InN W La (na : Int) sa fa a ea) => rvalidate_any La na sa fa ea a c W h)
  have D2 := Lib.hid (fun W (h : InN W La (nb : Int) sb fb b eb) => rvalidate_any La nb sb fb eb b d W h)
  rw [errN_ok.2 hva] at D1
  rw [errN_ok.2 hvb] at D2
  have hla := valN_len hva
  have hlb := valN_len hvb
  have HVA := Lib.hid (valN_b64 hva)
  have hta := (valN_iff.1 hva).2.1
  have htb := (valN_iff.1 hvb).2.1
  rw [Int.toNat_natCast] at hta htb
  have hub1 := shl_sum (n := na) htb.1 h64
  have hub2 := shl_sum (n := na) htb.2 h64
  have hw1 := shl_wrap hub1
  have hw2 := shl_wrap hub2
  have ho1 := u_or hin.2.2.2.1 hub1
  have ho2 := u_or hin.2.2.2.2.1 hub2
  have HTB := Lib.hid (valN_to hvb)
  rw [Int.toNat_natCast] at HTB
  have HB6 := Lib.hid (sumE_b64 (n := na) (by omega) (valN_b64 hva) (fun e he => by
    have h1 := inE_iff.1 (valN_in hvb he)
    unfold B64; have := (valN_iff.1 hvb).1; omega))
  obtain ⟨y1, hy1⟩ : ∃ y, y = sb * 2 ^ na := ⟨_, rfl⟩
  obtain ⟨y2, hy2⟩ : ∃ y, y = fb * 2 ^ na := ⟨_, rfl⟩
  rw [← hy1] at hub1 hw1 ho1 ⊢
  rw [← hy2] at hub2 hw2 ho2 ⊢
  obtain ⟨o1, e1⟩ : ∃ y, y = sa ||| y1 := ⟨_, rfl⟩
  obtain ⟨o2, e2⟩ : ∃ y, y = fa ||| y2 := ⟨_, rfl⟩
  rw [← e1] at ho1 ⊢
  rw [← e2] at ho2 ⊢
  obtain ⟨K, hK⟩ : ∃ K, K = sumE na ea eb := ⟨_, rfl⟩
  have HKK := Lib.hid hK
  rw [← hK] at HB6 ⊢
  obtain ⟨q, hq⟩ : ∃ q, q = K.length := ⟨_, rfl⟩
  have HQK := Lib.hid hq
  rw [← hq]
  obtain ⟨n, hn⟩ : ∃ n, n = ea.length := ⟨_, rfl⟩
  obtain ⟨k, hk⟩ : ∃ n, n = eb.length := ⟨_, rfl⟩
  have HN := Lib.hid hn
  have HKN := Lib.hid hk
  rw [← hn] at D1 hla ⊢
  rw [← hk] at D2 hlb ⊢
  obtain ⟨W0, hW0⟩ : ∃ W0, W0 = ((w.alloc (.cells #[.int .i64 La, .int .i64 (na : Int), .int .u64 sa, .int .u64 fa, .slice a n c] 25)).alloc (.cells #[.int .i64 La, .int .i64 (nb : Int), .int .u64 sb, .int .u64 fb, .slice b k d] 25)).alloc (.cells #[.int .i64 0, .int .i64 0, .int .u64 0, .int .u64 0, .slice none 0 0] 25) := ⟨_, rfl⟩
  have hBW : Below w.heap.size w W0 := by rw [hW0]; exact (((Below.refl _ w).alloc (Nat.le_refl _) _).alloc (by simp) _).alloc (by simp; omega) _
  have hs0 : W0.heap.size = w.heap.size + 3 := by rw [hW0]; simp
  have ha0 : W0.heap[w.heap.size]? = some (.cells #[.int .i64 La, .int .i64 (na : Int), .int .u64 sa, .int .u64 fa, .slice a n c] 25) := by rw [hW0]; exact heap_old (heap_old (heap_new _ _))
  have hb0 : W0.heap[w.heap.size + 1]? = some (.cells #[.int .i64 La, .int .i64 (nb : Int), .int .u64 sb, .int .u64 fb, .slice b k d] 25) := by
    rw [hW0]; exact heap_old (heap_new' (by simp))
  have hr0 : W0.heap[w.heap.size + 2]? = some (.cells #[.int .i64 0, .int .i64 0, .int .u64 0, .int .u64 0, .slice none 0 0] 25) := by
    rw [hW0]; exact heap_new' (by simp)
  have HBW := Lib.hid hBW
  have HS0 := Lib.hid hs0
  have HA0 := Lib.hid ha0
  have HB0 := Lib.hid hb0
  have HR0 := Lib.hid hr0
  have HIA := Lib.hid (HI.out.keep hBW)
  have HIB := Lib.hid (HI2.out.keep hBW)
  obtain ⟨u0, u1, u2, u3, u4⟩ := (cells5_of ha0).1
  obtain ⟨v0, v1, v2, v3, v4⟩ := (cells5_of hb0).1
  clear hin hin2 hn hk hBW hs0 ha0 hb0 hr0 hva hvb hta htb hK hq e1 e2 hy1 hy2 hub1 hub2
  rw [hW0] at u0 u1 u2 u3 u4 v0 v1 v2 v3 v4
  have hcv : ∀ m : Nat, m ≤ 64 → IntKind.u64.wrap (m : Int) = (m : Int) := fun m h => by simp [IntKind.wrap, IntKind.bits, IntKind.signed]; omega
  have hcn := hcv na (by omega)
  clear hcv
  go_enter Try.func29, Try.ntmps29
  go_wp2_with fail
  rw [← hW0] at *
  clear hW0
  refine (D1.out _ (HIA.out)).mono ?_
  rintro e w2 ⟨rfl, hB⟩
  have HB := Lib.hid (hB.mono (show w.heap.size + 3 ≤ W0.heap.size by rw [HS0.out]; exact Nat.le_refl _))
  have HSA := Lib.hid (show w.heap.size + 3 ≤ w2.heap.size by have := hB.size; rw [HS0.out] at this; exact this)
  have HIA2 := Lib.hid (HIA.out.keep hB)
  have HIB2 := Lib.hid (HIB.out.keep hB)
  have ha := (HB.out.block w.heap.size (by omega)).trans HA0.out
  have hbb := (HB.out.block (w.heap.size + 1) (by omega)).trans HB0.out
  have hr2 := (HB.out.block (w.heap.size + 2) (by omega)).trans HR0.out
  have HA1 := Lib.hid ha
  have HB1 := Lib.hid hbb
  have HR1 := Lib.hid hr2
  obtain ⟨⟨q0, q1, q2, q3, q4⟩, _⟩ := cells5_of hbb
  clear hB ha hbb hr2
  go_wp2_with fail
  refine (D2.out _ (HIB2.out)).mono ?_
  rintro e w3 ⟨rfl, hB⟩
  have HEA := Lib.hid (HIA2.out.keep hB).1
  have HEB := Lib.hid (HIB2.out.keep hB).1
  have HBC := Lib.hid (hB.mono HSA.out)
  have HS3 := Lib.hid (show w.heap.size + 3 ≤ w3.heap.size by have := hB.size; have := HSA.out; omega)
  have ha := (HBC.out.block w.heap.size (by omega)).trans HA1.out
  have hbb := (HBC.out.block (w.heap.size + 1) (by omega)).trans HB1.out
  have hr2 := (HBC.out.block (w.heap.size + 2) (by omega)).trans HR1.out
  have HA3 := Lib.hid ha
  have HB3 := Lib.hid hbb
  have HR3 := Lib.hid hr2
  clear q0 q1 q2 q3 q4
  obtain ⟨⟨p0, p1, p2, p3, p4⟩, _⟩ := cells5_of ha
  obtain ⟨⟨q0, q1, q2, q3, q4⟩, _⟩ := cells5_of hbb
  have HBX := Lib.hid ((HBW.out.trans (HB.out.mono (by omega))).trans (HBC.out.mono (by omega)))
  have tL : (La != La) = false := by simp
  have hws : IntKind.i64.wrap ((na : Int) + (nb : Int)) = (na : Int) + (nb : Int) := IntWalk.i64_in _ (by omega)
  have t6 : decide (64 < (na : Int) + (nb : Int)) = false := by simp; omega
  have A4 : ∀ o, (w3.alloc o).cell? ⟨w.heap.size, 4, none⟩ = some (.slice a n c) := fun o => (cells5_of (heap_old ha)).1.2.2.2.2
  clear hB ha hbb hr2
  go_wp2_with (at_builtin; refine wpList_append_E rfl _ _ rfl (w3.heap.size + 1) _ 0 [] rfl (OwnEd.nil _ _) a n c ea HN.out rfl (HEA.out.keep ((Below.refl _ _).alloc (Nat.le_refl _) _)) (by omega) (by simp) ?_)
  intro v' w4 h4 hg4
  have HSI := Lib.hid (SumI.push (es := []) (es' := sumE na ea []) (w := w3) (wr := w3.alloc (.cells #[.int .i64 La, .int .i64 ((na : Int) + (nb : Int)), .int .u64 o1, .int .u64 o2, .slice none 0 0] 25)) ⟨OwnEd.nil _ _, heap_new' rfl, (Below.refl _ _).alloc (Nat.le_refl _) _⟩ (by
    unfold OwnEd
    have := HN.out
    simpa [sumE, ← HN.out] using h4) hg4)
  obtain ⟨_, s4, f4⟩ := HSI.out
  have ha := (HSI.out.1.bel.block w.heap.size (by have := HS3.out; omega)).trans HA3.out
  have hbb := (HSI.out.1.bel.block (w.heap.size + 1) (by have := HS3.out; omega)).trans HB3.out
  clear h4 hg4 p0 p1 p2 p3 p4 q0 q1 q2 q3 q4
  obtain ⟨⟨q0, q1, q2, q3, q4⟩, _⟩ := cells5_of hbb
  obtain ⟨va0, vc0, hv0⟩ := HSI.out.1.own.form
  subst hv0
  clear ha hbb
  go_wp2_with fail
  go_loopw [71] (fun vi wr => ∃ (i : Nat) (v : Value), i ≤ k ∧ vi = .int .i64 i ∧ SumI w3 wr (.int .i64 La) (.int .i64 ((na : Int) + (nb : Int))) (.int .u64 o1) (.int .u64 o2) v (sumE na ea (eb.take i))) (fun vi _ => k - (intOf vi).toNat)
  case atStart => exact ⟨0, _, Nat.zero_le _, rfl, by rw [List.take_zero]; exact HSI.out.1⟩
  case round =>
    rename World => wC
    obtain ⟨i, v5, hi, rfl, hS⟩ := hrel
    have HSX := Lib.hid hS
    have ha := (hS.bel.block w.heap.size (by have := HS3.out; omega)).trans HA3.out
    have hbb := (hS.bel.block (w.heap.size + 1) (by have := HS3.out; omega)).trans HB3.out
    have hr2 := (hS.bel.block (w.heap.size + 2) (by have := HS3.out; omega)).trans HR3.out
    obtain ⟨⟨b0, b1, b2, b3, b4⟩, _⟩ := cells5_of hS.box
    by_cases hlt : i < k
    · have hle : i < eb.length := by rw [← HKN.out]; exact hlt
      obtain ⟨b5, off, rfl, hbz, c1, c2, c3, g1, g2, g3⟩ := (HEB.out.keep hS.bel).at hle
      obtain ⟨k1, k2, k3, k4⟩ := HTB.out.at hle
      have hsl : (sumE na ea (eb.take i)).length = n + i := by rw [sumE_len, List.length_take, ← HN.out]; omega
      have HSN := Lib.hid (show sumE na ea (eb.take (i + 1)) = sumE na ea (eb.take i) ++ [shE na (eb.getD i noE)] by rw [takeE_snoc hle, sumE_snoc])
      obtain ⟨va, vc, hv5⟩ := hS.own.form
      subst hv5
      rw [hsl] at hS HSX b4
      have HOW := Lib.hid hS.own
      unfold OwnEd at HOW
      rw [hsl] at HOW
      obtain ⟨e, he⟩ : ∃ e, e = eb.getD i noE := ⟨_, rfl⟩
      rw [← he] at c1 c2 c3 g1 g2 g3 k1 k2 k3 k4 HSN
      obtain ⟨ef, el, et⟩ := e
      dsimp only at c1 c2 c3 g1 g2 g3 k1 k2 k3 k4
      have hwf : IntKind.i64.wrap ((na : Int) + ef) = (na : Int) + ef := IntWalk.i64_in _ (by omega)
      have hwt : IntKind.i64.wrap ((na : Int) + et) = (na : Int) + et := IntWalk.i64_in _ (by omega)
      have A1 : ∀ o, (wC.alloc o).cell? ⟨w.heap.size, 1, none⟩ = some (.int .i64 (na : Int)) := fun o => (cells5_of (heap_old ha)).1.2.1
      have B4 : ∀ o, (wC.alloc o).cell? ⟨w3.heap.size, 4, none⟩ = some (.slice va (n + i) vc) := fun o => (cells5_of (heap_old hS.box)).1.2.2.2.2
      have hi0' : (0 : Int) ≤ (i : Int) := by omega
      have hin2 : (i : Int) < (k : Int) := by omega
      have hwi : IntKind.i64.wrap (i : Int) = (i : Int) := IntWalk.i64_in _ (by omega)
      have HSL := Lib.hid hsl
      have hbs : w3.heap.size + 1 ≤ wC.heap.size := hS.size
      clear he hle hS ha hbb hr2 k1 k2 k3 k4 hsl
      go_wp2_with (at_builtin; refine wpList_append_own_at _ rfl _ _ 23 rfl (w3.heap.size + 1) 44 i0 _ 3 24 Try.underlying23 hi0 hz0 hz1 hz2 rfl (by decide) _ _ _ rfl ((HOW.out.alloc _).alloc _) ⟨_, 0, none⟩ 1 1 [.int .i64 ((na : Int) + ef), .int .i64 el, .int .i64 ((na : Int) + et)] rfl rfl ?c1 ?c2 ?c3 ?c4 ?c5 ?_)
      case c1 => exact World.news_of_block (cs := #[.int .i64 ((na : Int) + ef), .int .i64 el, .int .i64 ((na : Int) + et)]) (t := 44) (fr := (0, 0)) (heap_new' (by simp))
      case c2 => simp [Value.oneCell']
      case c3 => unfold maxLen; omega
      case c4 => omega
      case c5 => simp; omega
      intro v' w6 h6 hg6 _ hat
      have HPU := Lib.hid (SumI.push (es' := sumE na ea (eb.take (i + 1))) (HSX.out.keep (((Below.refl _ wC).alloc (Nat.le_refl _) (.cells #[.int .i64 ef, .int .i64 el, .int .i64 et] 44)).alloc (by simp) (.cells #[.int .i64 ((na : Int) + ef), .int .i64 el, .int .i64 ((na : Int) + et)] 44))) (show OwnEd w6 (w3.heap.size + 1) v' (sumE na ea (eb.take (i + 1))) by
        rw [HSN.out]
        refine OwnEd.snoc ?_
        rw [HSL.out]
        exact h6) hg6)
      obtain ⟨_, s4, f4⟩ := HPU.out
      obtain ⟨va', vc', hv'⟩ := HPU.out.1.own.form
      subst hv'
      clear h6 hg6 hat
      go_wp2_with fail
      exact ⟨⟨i + 1, _, by omega, by go_num, HPU.out.1⟩, by simp [intOf]; omega⟩
    · obtain rfl : i = k := by omega
      have hE : eb.take i = eb := by rw [HKN.out, List.take_length]
      rw [hE, ← HKK.out] at HSX
      obtain ⟨va, vc, hv5⟩ := HSX.out.own.form
      rw [← HQK.out] at hv5
      subst hv5
      obtain ⟨⟨r0, r1, r2, r3, r4⟩, z0, z1, z2, z3, z4⟩ := cells5_of hr2
      clear hS ha hbb hr2 hE
      go_wp2_with fail
      refine bodyPost_ret (v := .tuple #[.agg #[.int .i64 La, .int .i64 (na + nb : Nat), .int .u64 o1, .int .u64 o2, .slice va q vc], .int .i64 0]) (by simp [results, Try.results29, go_sem, r0, r1, r2, r3, r4]) rfl ⟨va, vc, rfl, ?_, ?_⟩
      · have hw : ∀ k, (Value.slice va q vc).ownBlock = some k → w.heap.size + 3 ≤ k := fun k hk => Nat.le_trans HS3.out (by have := (World.ownsRow.lt HSX.out.own k hk).1; omega)
        have hne : (Value.slice va q vc).ownBlock = none ∨ (Value.slice va q vc).ownBlock ≠ some (w.heap.size + 2) := by
          cases hb : (Value.slice va q vc).ownBlock with
          | none => exact .inl rfl
          | some g => exact .inr (fun e => by injection e with e; have := hw g hb; omega)
        have own5 : ∀ y0 y1 y2 y3 y4 : Value, OwnEd (((((wC.setCell ⟨w.heap.size + 2, 0, none⟩ y0).setCell ⟨w.heap.size + 2, 1, none⟩ y1).setCell ⟨w.heap.size + 2, 2, none⟩ y2).setCell ⟨w.heap.size + 2, 3, none⟩ y3).setCell ⟨w.heap.size + 2, 4, none⟩ y4) (w3.heap.size + 1) (.slice va q vc) K := fun y0 y1 y2 y3 y4 =>
          World.ownsRow.kept (World.ownsRow.kept (World.ownsRow.kept (World.ownsRow.kept (World.ownsRow.kept HSX.out.own (grown_cell _ ⟨w.heap.size + 2, 0, none⟩ y0) hne) (grown_cell _ ⟨w.heap.size + 2, 1, none⟩ y1) hne) (grown_cell _ ⟨w.heap.size + 2, 2, none⟩ y2) hne) (grown_cell _ ⟨w.heap.size + 2, 3, none⟩ y3) hne) (grown_cell _ ⟨w.heap.size + 2, 4, none⟩ y4) hne
        rw [HQK.out] at own5
        rw [HQK.out]
        exact (own5 _ _ _ _ _).inE HB6.out
      · exact (((((HBX.out.trans (HSX.out.bel.mono (by have := HS3.out; omega))).setCell (by simp; omega) _).setCell (by simp; omega) _).setCell (by simp; omega) _).setCell (by simp; omega) _).setCell (by simp; omega) _
end Go.Proofs.Ytdoifdpmgmlpdaa
