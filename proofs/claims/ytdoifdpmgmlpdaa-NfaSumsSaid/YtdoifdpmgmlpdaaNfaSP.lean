/- Contract: Sum, the automaton. -/
import Derived.Test.YtdoifdpmgmlpdaaNfaSO
import Derived.Test.YtdoifdpmgmlpdaaNfaOK
import Derived.Maps.AppendAt
import Derived.StillTailTactics
namespace Go.Proofs.Ytdoifdpmgmlpdaa
open Go Go.RowKit
open Go.Proofs.Ytdoifdpmgmlpdaa.rel (u_or or_u)
set_option linter.unusedVariables false
set_option maxRecDepth 100000 in
set_option maxHeartbeats 8000000 in
theorem sum_ok (La : Int) (na sa fa : Nat) (ea : List Ed) (a : Option Addr) (c : Nat) (nb sb fb : Nat) (eb : List Ed) (b : Option Addr) (d : Nat) (w : World) (hin : InN w La (na : Int) sa fa a ea) (hin2 : InN w La (nb : Int) sb fb b eb) (hva : valN La (na : Int) sa fa ea = true) (hvb : valN La (nb : Int) sb fb eb = true) (h64 : na + nb ≤ 64) :
    Calls Try.prog 28 #[.agg #[.int .i64 La, .int .i64 (na : Int), .int .u64 sa, .int .u64 fa, .slice a ea.length c], .agg #[.int .i64 La, .int .i64 (nb : Int), .int .u64 sb, .int .u64 fb, .slice b eb.length d]] w fun e w' => ∃ a' c', e = .returned (.tuple #[.agg #[.int .i64 La, .int .i64 (na + nb : Nat), .int .u64 (sa ||| sb * 2 ^ na : Nat), .int .u64 (fa ||| fb * 2 ^ na : Nat), .slice a' (sumE na ea eb).length c'], .int .i64 0]) ∧ InE w' a' (sumE na ea eb) ∧ Below w.heap.size w w' := by
  obtain ⟨i0, hi0, hz0, hz1, hz2⟩ := info_parts infoEd
  have HI := Lib.hid hin
  have HI2 := Lib.hid hin2
  have D1 := Lib.hid (fun W (h : InN W La (na : Int) sa fa a ea) => nvalidate_any La na sa fa ea a c W h)
  have D2 := Lib.hid (fun W (h : InN W La (nb : Int) sb fb b eb) => nvalidate_any La nb sb fb eb b d W h)
  rw [errN_ok.2 hva] at D1
  rw [errN_ok.2 hvb] at D2
  have hla := valN_len hva
  have hlb := valN_len hvb
  have DC := Lib.hid (fun W (h : InE W a ea) => clone_any ea a c W h hla)
  have hta := (valN_iff.1 hva).2.1
  have htb := (valN_iff.1 hvb).2.1
  rw [Int.toNat_natCast] at hta htb
  have hub1 := shl_sum (n := na) htb.1 h64
  have hub2 := shl_sum (n := na) htb.2 h64
  have hw1 := shl_wrap hub1
  have hw2 := shl_wrap hub2
  have ho1 := u_or hin.2.2.2.1 hub1
  have ho2 := u_or hin.2.2.2.2.1 hub2
  have HTB := Lib.hid (valN_to hvb)
  rw [Int.toNat_natCast] at HTB
  have HB6 := Lib.hid (sumE_b64 (n := na) (by omega) (valN_b64 hva) (fun e he => by
    have h1 := inE_iff.1 (valN_in hvb he)
    unfold B64; have := (valN_iff.1 hvb).1; omega))
  obtain ⟨y1, hy1⟩ : ∃ y, y = sb * 2 ^ na := ⟨_, rfl⟩
  obtain ⟨y2, hy2⟩ : ∃ y, y = fb * 2 ^ na := ⟨_, rfl⟩
  rw [← hy1] at hub1 hw1 ho1 ⊢
  rw [← hy2] at hub2 hw2 ho2 ⊢
  obtain ⟨o1, e1⟩ : ∃ y, y = sa ||| y1 := ⟨_, rfl⟩
  obtain ⟨o2, e2⟩ : ∃ y, y = fa ||| y2 := ⟨_, rfl⟩
  rw [← e1] at ho1 ⊢
  rw [← e2] at ho2 ⊢
  obtain ⟨K, hK⟩ : ∃ K, K = sumE na ea eb := ⟨_, rfl⟩
  have HKK := Lib.hid hK
  rw [← hK] at HB6 ⊢
  obtain ⟨q, hq⟩ : ∃ q, q = K.length := ⟨_, rfl⟩
  have HQK := Lib.hid hq
  rw [← hq]
  obtain ⟨n, hn⟩ : ∃ n, n = ea.length := ⟨_, rfl⟩
  obtain ⟨k, hk⟩ : ∃ n, n = eb.length := ⟨_, rfl⟩
  have HN := Lib.hid hn
  have HKN := Lib.hid hk
  rw [← hn] at D1 DC hla ⊢
  rw [← hk] at D2 hlb ⊢
  obtain ⟨W0, hW0⟩ : ∃ W0, W0 = ((w.alloc (.cells #[.int .i64 La, .int .i64 (na : Int), .int .u64 sa, .int .u64 fa, .slice a n c] 25)).alloc (.cells #[.int .i64 La, .int .i64 (nb : Int), .int .u64 sb, .int .u64 fb, .slice b k d] 25)).alloc (.cells #[.int .i64 0, .int .i64 0, .int .u64 0, .int .u64 0, .slice none 0 0] 25) := ⟨_, rfl⟩
  have hBW : Below w.heap.size w W0 := by rw [hW0]; exact (((Below.refl _ w).alloc (Nat.le_refl _) _).alloc (by simp) _).alloc (by simp; omega) _
  have hs0 : W0.heap.size = w.heap.size + 3 := by rw [hW0]; simp
  have ha0 : W0.heap[w.heap.size]? = some (.cells #[.int .i64 La, .int .i64 (na : Int), .int .u64 sa, .int .u64 fa, .slice a n c] 25) := by rw [hW0]; exact heap_old (heap_old (heap_new _ _))
  have hb0 : W0.heap[w.heap.size + 1]? = some (.cells #[.int .i64 La, .int .i64 (nb : Int), .int .u64 sb, .int .u64 fb, .slice b k d] 25) := by
    rw [hW0]; exact heap_old (heap_new' (by simp))
  have hr0 : W0.heap[w.heap.size + 2]? = some (.cells #[.int .i64 0, .int .i64 0, .int .u64 0, .int .u64 0, .slice none 0 0] 25) := by
    rw [hW0]; exact heap_new' (by simp)
  have HBW := Lib.hid hBW
  have HS0 := Lib.hid hs0
  have HA0 := Lib.hid ha0
  have HB0 := Lib.hid hb0
  have HR0 := Lib.hid hr0
  have HIA := Lib.hid (HI.out.keep hBW)
  have HIB := Lib.hid (HI2.out.keep hBW)
  obtain ⟨u0, u1, u2, u3, u4⟩ := (cells5_of ha0).1
  obtain ⟨v0, v1, v2, v3, v4⟩ := (cells5_of hb0).1
  clear hin hin2 hn hk hBW hs0 ha0 hb0 hr0 hva hvb hta htb hK hq e1 e2 hy1 hy2 hub1 hub2
  rw [hW0] at u0 u1 u2 u3 u4 v0 v1 v2 v3 v4
  have j0 : ∀ W, (Instr.index 65 (.agg #[.int .i64 La, .int .i64 (na : Int), .int .u64 sa, .int .u64 fa, .slice a n c, .int .i64 La, .int .i64 (nb : Int), .int .u64 sb, .int .u64 fb, .slice b k d]) (.int .i64 0)).run Try.prog W = .ok (.agg #[.int .i64 La, .int .i64 (na : Int), .int .u64 sa, .int .u64 fa, .slice a n c]) W := fun _ => by kernel_rfl
  have j1 : ∀ W, (Instr.index 65 (.agg #[.int .i64 La, .int .i64 (na : Int), .int .u64 sa, .int .u64 fa, .slice a n c, .int .i64 La, .int .i64 (nb : Int), .int .u64 sb, .int .u64 fb, .slice b k d]) (.int .i64 1)).run Try.prog W = .ok (.agg #[.int .i64 La, .int .i64 (nb : Int), .int .u64 sb, .int .u64 fb, .slice b k d]) W := fun _ => by kernel_rfl
  go_enter Try.func28, Try.ntmps28
  go_wp2_with fail
  rw [← hW0] at *
  clear hW0
  go_loopw [15] (fun vi wr => ∃ i : Nat, i ≤ 2 ∧ vi = .int .i64 i ∧ Below (w.heap.size + 3) W0 wr) (fun vi _ => 2 - (intOf vi).toNat)
  case atStart => exact ⟨0, Nat.zero_le _, rfl, Below.refl _ _⟩
  case round =>
    rename World => wA
    obtain ⟨i, hi, hvi, hb⟩ := hrel
    have HB := Lib.hid hb
    have HSA := Lib.hid (show w.heap.size + 3 ≤ wA.heap.size by have := hb.size; rw [HS0.out] at this; exact this)
    have h3 : i = 0 ∨ i = 1 ∨ i = 2 := by omega
    rcases h3 with rfl | rfl | rfl
    · replace hvi : _ = Value.int .i64 0 := hvi
      subst hvi
      have HIQ := Lib.hid ((HIA.out.keep (hb.mono (by rw [HS0.out]; exact Nat.le_refl _))))
      clear hb
      go_wp2_with fail
      refine (D1.out _ (HIQ.out.box _)).mono ?_
      rintro e w2 ⟨rfl, hB⟩
      have HB2 := Lib.hid ((HB.out.alloc HSA.out _).trans (hB.mono (by have := HSA.out; simp; omega)))
      clear hB
      go_wp2_with fail
      exact ⟨⟨1, by omega, rfl, HB2.out⟩, by simp [intOf]⟩
    · replace hvi : _ = Value.int .i64 1 := hvi
      subst hvi
      have HIQ := Lib.hid ((HIB.out.keep (hb.mono (by rw [HS0.out]; exact Nat.le_refl _))))
      clear hb
      go_wp2_with fail
      refine (D2.out _ (HIQ.out.box _)).mono ?_
      rintro e w2 ⟨rfl, hB⟩
      have HB2 := Lib.hid ((HB.out.alloc HSA.out _).trans (hB.mono (by have := HSA.out; simp; omega)))
      clear hB
      go_wp2_with fail
      exact ⟨⟨2, by omega, rfl, HB2.out⟩, by simp [intOf]⟩
    · replace hvi : _ = Value.int .i64 2 := hvi
      subst hvi
      have ha := (HB.out.block w.heap.size (by omega)).trans HA0.out
      have hbb := (HB.out.block (w.heap.size + 1) (by omega)).trans HB0.out
      have hr2 := (HB.out.block (w.heap.size + 2) (by omega)).trans HR0.out
      have HA1 := Lib.hid ha
      have HB1 := Lib.hid hbb
      have HR1 := Lib.hid hr2
      obtain ⟨⟨p0, p1, p2, p3, p4⟩, _⟩ := cells5_of ha
      obtain ⟨⟨q0, q1, q2, q3, q4⟩, _⟩ := cells5_of hbb
      have HEA := Lib.hid ((HIA.out.keep (hb.mono (by rw [HS0.out]; exact Nat.le_refl _))).1)
      have HEB := Lib.hid ((HIB.out.keep (hb.mono (by rw [HS0.out]; exact Nat.le_refl _))).1)
      have tL : (La != La) = false := by simp
      have hws : IntKind.i64.wrap ((na : Int) + (nb : Int)) = (na : Int) + (nb : Int) := IntWalk.i64_in _ (by omega)
      have t6 : decide (64 < (na : Int) + (nb : Int)) = false := by simp; omega
      clear ha hbb hr2 hb
      go_wp2_with fail
      refine (DC.out _ HEA.out).mono ?_
      rintro e w4 ⟨v, rfl, ho, hB⟩
      have HO4 := Lib.hid (show OwnEd w4 wA.heap.size v (sumE na ea (eb.take 0)) by simpa [sumE] using ho)
      have HB4 := Lib.hid hB
      have hbb4 := (hB.block (w.heap.size + 1) (by have := HSA.out; omega)).trans HB1.out
      clear p0 p1 p2 p3 p4 q0 q1 q2 q3 q4
      obtain ⟨⟨q0, q1, q2, q3, q4⟩, _⟩ := cells5_of hbb4
      clear ho hB hbb4
      go_wp2_with fail
      go_loopw [9, 46] (fun v9 vi wr => ∃ (i : Nat) (v : Value), i ≤ k ∧ vi = .int .i64 i ∧ v9 = v ∧ OwnEd wr wA.heap.size v (sumE na ea (eb.take i)) ∧ Below wA.heap.size wA wr) (fun _ vi _ => k - (intOf vi).toNat)
      case atStart => exact ⟨0, v, Nat.zero_le _, rfl, rfl, HO4.out, HB4.out⟩
      case round =>
        rename World => wC
        obtain ⟨i, v5, hi, rfl, rfl, ho, hb⟩ := hrel
        have HOC := Lib.hid ho
        have HBC := Lib.hid hb
        have ha := (hb.block w.heap.size (by have := HSA.out; omega)).trans HA1.out
        have hbb := (hb.block (w.heap.size + 1) (by have := HSA.out; omega)).trans HB1.out
        have hr2 := (hb.block (w.heap.size + 2) (by have := HSA.out; omega)).trans HR1.out
        by_cases hlt : i < k
        · have hle : i < eb.length := by rw [← HKN.out]; exact hlt
          obtain ⟨b5, off, rfl, hbz, c1, c2, c3, g1, g2, g3⟩ := (HEB.out.keep hb).at hle
          obtain ⟨k1, k2, k3, k4⟩ := HTB.out.at hle
          have hsl : (sumE na ea (eb.take i)).length = n + i := by rw [sumE_len, List.length_take, ← HN.out]; omega
          have HSN := Lib.hid (show sumE na ea (eb.take (i + 1)) = sumE na ea (eb.take i) ++ [shE na (eb.getD i noE)] by rw [takeE_snoc hle, sumE_snoc])
          obtain ⟨va, vc, hv5⟩ := ho.form
          subst hv5
          rw [hsl]
          have HOW := Lib.hid ho
          unfold OwnEd at HOW
          rw [hsl] at HOW
          obtain ⟨e, he⟩ : ∃ e, e = eb.getD i noE := ⟨_, rfl⟩
          rw [← he] at c1 c2 c3 g1 g2 g3 k1 k2 k3 k4 HSN
          obtain ⟨ef, el, et⟩ := e
          dsimp only at c1 c2 c3 g1 g2 g3 k1 k2 k3 k4
          have hwf : IntKind.i64.wrap ((na : Int) + ef) = (na : Int) + ef := IntWalk.i64_in _ (by omega)
          have hwt : IntKind.i64.wrap ((na : Int) + et) = (na : Int) + et := IntWalk.i64_in _ (by omega)
          have A1 : ∀ o, (wC.alloc o).cell? ⟨w.heap.size, 1, none⟩ = some (.int .i64 (na : Int)) := fun o => (cells5_of (heap_old ha)).1.2.1
          have hi0' : (0 : Int) ≤ (i : Int) := by omega
          have hin2 : (i : Int) < (k : Int) := by omega
          have hwi : IntKind.i64.wrap (i : Int) = (i : Int) := IntWalk.i64_in _ (by omega)
          have HSL := Lib.hid hsl
          have hbs : wA.heap.size ≤ wC.heap.size := hb.size
          clear he hle ho hb ha hbb hr2 k1 k2 k3 k4 hsl
          go_wp2_with (at_builtin; refine wpList_append_own_at _ rfl _ _ 23 rfl wA.heap.size 44 i0 _ 3 24 Try.underlying23 hi0 hz0 hz1 hz2 rfl (by decide) _ _ _ rfl ((HOW.out.alloc _).alloc _) ⟨_, 0, none⟩ 1 1 [.int .i64 ((na : Int) + ef), .int .i64 el, .int .i64 ((na : Int) + et)] rfl rfl ?c1 ?c2 ?c3 ?c4 ?c5 ?_)
          case c1 => exact World.news_of_block (cs := #[.int .i64 ((na : Int) + ef), .int .i64 el, .int .i64 ((na : Int) + et)]) (t := 44) (fr := (0, 0)) (heap_new' (by simp))
          case c2 => simp [Value.oneCell']
          case c3 => unfold maxLen; omega
          case c4 => omega
          case c5 => simp; omega
          intro v' w6 h6 hg6 _ hat
          have HO6 := Lib.hid (show OwnEd w6 wA.heap.size v' (sumE na ea (eb.take (i + 1))) by
            rw [HSN.out]
            refine OwnEd.snoc ?_
            rw [HSL.out]
            exact h6)
          have HB6' := Lib.hid (((HBC.out.alloc hbs (.cells #[.int .i64 ef, .int .i64 el, .int .i64 et] 44)).alloc (by simp; omega) (.cells #[.int .i64 ((na : Int) + ef), .int .i64 el, .int .i64 ((na : Int) + et)] 44)).grown hg6 (by simp; omega) (fun j hj => (World.ownsRow.lt HOW.out j hj).1))
          clear h6 hg6 hat
          go_wp2_with fail
          exact ⟨⟨i + 1, v', by omega, by go_num, rfl, HO6.out, HB6'.out⟩, by simp [intOf]; omega⟩
        · obtain rfl : i = k := by omega
          have hE : eb.take i = eb := by rw [HKN.out, List.take_length]
          rw [hE, ← HKK.out] at HOC
          obtain ⟨va, vc, hv5⟩ := HOC.out.form
          rw [← HQK.out] at hv5
          subst hv5
          obtain ⟨⟨p0, p1, p2, p3, p4⟩, _⟩ := cells5_of ha
          obtain ⟨⟨s0, s1, s2, s3, s4⟩, _⟩ := cells5_of hbb
          obtain ⟨⟨r0, r1, r2, r3, r4⟩, z0, z1, z2, z3, z4⟩ := cells5_of hr2
          clear ho hb ha hbb hr2 hE
          have HOD := Lib.hid (show OwnEd (World.drew wC) wA.heap.size (.slice va q vc) K from HOC.out)
          have HBD := Lib.hid (show Below w.heap.size w (World.drew wC) from ((HBW.out.trans (HB.out.mono (by omega))).trans (HBC.out.mono (by have := HSA.out; omega))).drew)
          have e0 : (World.drew wC).cell? ⟨w.heap.size + 1 + 1, 0, none⟩ = _ := r0
          have f0 : (World.drew wC).frozen? ⟨w.heap.size + 1 + 1, 0, none⟩ = false := z0
          have e1 : (World.drew wC).cell? ⟨w.heap.size + 1 + 1, 1, none⟩ = _ := r1
          have f1 : (World.drew wC).frozen? ⟨w.heap.size + 1 + 1, 1, none⟩ = false := z1
          have e2 : (World.drew wC).cell? ⟨w.heap.size + 1 + 1, 2, none⟩ = _ := r2
          have f2 : (World.drew wC).frozen? ⟨w.heap.size + 1 + 1, 2, none⟩ = false := z2
          have e3 : (World.drew wC).cell? ⟨w.heap.size + 1 + 1, 3, none⟩ = _ := r3
          have f3 : (World.drew wC).frozen? ⟨w.heap.size + 1 + 1, 3, none⟩ = false := z3
          have e4 : (World.drew wC).cell? ⟨w.heap.size + 1 + 1, 4, none⟩ = _ := r4
          have f4 : (World.drew wC).frozen? ⟨w.heap.size + 1 + 1, 4, none⟩ = false := z4
          go_wp2_with fail
          go_still_tail 25, (by kernel_rfl)
          change wpList _ _ _ _ _ (World.drew wC)
          clear r0 r1 r2 r3 r4 z0 z1 z2 z3 z4
          generalize World.drew wC = wD at *
          go_wp2_with fail
          refine bodyPost_ret (v := .tuple #[.agg #[.int .i64 La, .int .i64 (na + nb : Nat), .int .u64 o1, .int .u64 o2, .slice va q vc], .int .i64 0]) (by simp [results, Try.results28, go_sem, e0, e1, e2, e3, e4]) rfl ⟨va, vc, rfl, ?_, ?_⟩
          · have hw : ∀ k, (Value.slice va q vc).ownBlock = some k → w.heap.size + 3 ≤ k := fun k hk => Nat.le_trans HSA.out (World.ownsRow.lt HOD.out k hk).1
            have hne : (Value.slice va q vc).ownBlock = none ∨ (Value.slice va q vc).ownBlock ≠ some (w.heap.size + 2) := by
              cases hb : (Value.slice va q vc).ownBlock with
              | none => exact .inl rfl
              | some g => exact .inr (fun e => by injection e with e; have := hw g hb; omega)
            have own5 : ∀ y0 y1 y2 y3 y4 : Value, OwnEd (((((wD.setCell ⟨w.heap.size + 2, 0, none⟩ y0).setCell ⟨w.heap.size + 2, 1, none⟩ y1).setCell ⟨w.heap.size + 2, 2, none⟩ y2).setCell ⟨w.heap.size + 2, 3, none⟩ y3).setCell ⟨w.heap.size + 2, 4, none⟩ y4) wA.heap.size (.slice va q vc) K := fun y0 y1 y2 y3 y4 =>
              World.ownsRow.kept (World.ownsRow.kept (World.ownsRow.kept (World.ownsRow.kept (World.ownsRow.kept HOD.out (grown_cell _ ⟨w.heap.size + 2, 0, none⟩ y0) hne) (grown_cell _ ⟨w.heap.size + 2, 1, none⟩ y1) hne) (grown_cell _ ⟨w.heap.size + 2, 2, none⟩ y2) hne) (grown_cell _ ⟨w.heap.size + 2, 3, none⟩ y3) hne) (grown_cell _ ⟨w.heap.size + 2, 4, none⟩ y4) hne
            rw [HQK.out] at own5
            rw [HQK.out]
            exact (own5 _ _ _ _ _).inE HB6.out
          · exact ((((HBD.out.setCell (by simp; omega) _).setCell (by simp; omega) _).setCell (by simp; omega) _).setCell (by simp; omega) _).setCell (by simp; omega) _
end Go.Proofs.Ytdoifdpmgmlpdaa
