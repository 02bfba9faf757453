/- Contract: build. -/
import Derived.Test.YtdoifdpmgmlpdaaNfaNM
import Derived.Maps.AppendAt
namespace Go.Proofs.Ytdoifdpmgmlpdaa
open Go Go.RowKit
open Go.Proofs.Ytdoifdpmgmlpdaa.rel (mem mem_len RowL GivesM members_own Row)
set_option linter.unusedVariables false
/-- the two boxes, the edges so far -/
structure BldS (w wr : World) (L m fi : Nat) (v : Value) (es : List Ed) : Prop where
  own : OwnEd wr (w.heap.size + 2) v es
  res : wr.heap[w.heap.size]? = some (.cells #[.int .i64 0, .int .i64 0, .int .u64 0, .int .u64 0, .slice none 0 0] 25)
  box : wr.heap[w.heap.size + 1]? = some (.cells #[.int .i64 (L : Nat), .int .i64 (m : Nat), .int .u64 1, .int .u64 (fi : Nat), v] 25)
  bel : Below w.heap.size w wr
theorem BldS.size {w wr : World} {L m fi : Nat} {v : Value} {es : List Ed} (h : BldS w wr L m fi v es) : w.heap.size + 2 ≤ wr.heap.size := by
  have : w.heap.size + 1 < wr.heap.size := by
    apply Nat.lt_of_not_le; intro hle
    have h2 := h.box
    rw [Array.getElem?_eq_none hle] at h2; cases h2
  omega
theorem BldS.keep {w wr wr' : World} {L m fi : Nat} {v : Value} {es : List Ed} (h : BldS w wr L m fi v es) (hb : Below wr.heap.size wr wr') : BldS w wr' L m fi v es := by
  have hs := h.size
  exact ⟨rel.ownsRow_keep h.own hb, by rw [hb.block _ (by omega)]; exact h.res, by rw [hb.block _ (by omega)]; exact h.box, h.bel.trans (hb.mono (by omega))⟩
theorem BldS.push {w wr w2 : World} {L m fi : Nat} {v v' : Value} {es : List Ed} {e : Ed} {o : Obj} (h : BldS w wr L m fi v es)
    (h4 : w2.ownsRow (w.heap.size + 2) 44 3 v' (es.length + 1) (flatE es ++ [.int .i64 e.f, .int .i64 e.l, .int .i64 e.t])) (hg : (wr.alloc o).grownBy w2 v.ownBlock) :
    BldS w (w2.setCell ⟨w.heap.size + 1, 4, none⟩ v') L m fi v' (es ++ [e]) ∧ w2.cell? ⟨w.heap.size + 1, 4, none⟩ = some v ∧ w2.frozen? ⟨w.heap.size + 1, 4, none⟩ = false := by
  have hs := h.size
  have hv : ∀ k, v.ownBlock = some k → w.heap.size + 2 ≤ k := fun k hk => (World.ownsRow.lt h.own k hk).1
  have hv' : ∀ k, v'.ownBlock = some k → w.heap.size + 2 ≤ k := fun k hk => (World.ownsRow.lt h4 k hk).1
  have b0 : w2.heap[w.heap.size]? = some (.cells #[.int .i64 0, .int .i64 0, .int .u64 0, .int .u64 0, .slice none 0 0] 25) := by
    rw [hg.block _ (by simp; omega) (fun e => by have := hv _ e.symm; omega), Below.heap_alloc _ _ _ (by omega)]; exact h.res
  have b1 : w2.heap[w.heap.size + 1]? = some (.cells #[.int .i64 (L : Nat), .int .i64 (m : Nat), .int .u64 1, .int .u64 (fi : Nat), v] 25) := by
    rw [hg.block _ (by simp; omega) (fun e => by have := hv _ e.symm; omega), Below.heap_alloc _ _ _ (by omega)]; exact h.box
  refine ⟨⟨OwnEd.snoc (World.ownsRow.kept h4 (grown_cell w2 _ _) ?_), ?_, set4_heap b1, ?_⟩, (cells5_of b1).1.2.2.2.2, (cells5_of b1).2.2.2.2.2⟩
  · cases hvb : v'.ownBlock with
    | none => exact .inl rfl
    | some g => exact .inr (fun e => by injection e with e; have := hv' g hvb; dsimp only at e; omega)
  · rw [Below.heap_setCell _ _ _ _ (show w.heap.size ≠ w.heap.size + 1 by omega)]; exact b0
  · exact ((h.bel.alloc (by omega) o).grown hg (by simp; omega) (fun k hk => by have := hv k hk; omega)).setCell (show w.heap.size ≤ w.heap.size + 1 by omega) _
theorem RowL.grown {w w' : World} {a : Option Addr} {l : List Nat} (h : RowL w a l) {row : Option Nat} (hg : w.grownBy w' row) (hne : ∀ p, a = some p → some p.block ≠ row) : RowL w' a l := by
  rcases h with h | ⟨b, off, rfl, hl, hc⟩
  · exact .inl h
  · exact .inr ⟨b, off, rfl, Nat.lt_of_lt_of_le hl hg.size, fun i x hi => hg.cell (hc i x hi) (hne ⟨b, off, none⟩ rfl)⟩
def mkE (i j x : Nat) : Ed := ⟨(i : Int), (j : Int), (x : Int)⟩
/-- the edges in the middle of it all -/
def midE (L : Nat) (G : Nat → Nat → Nat) (i j k : Nat) : List Ed := tabE L G i ++ lettersE i (G i) j ++ ((mem (G i j) 64).take k).map (mkE i j)
theorem midE_zero (L : Nat) (G : Nat → Nat → Nat) (i j : Nat) : midE L G i j 0 = tabE L G i ++ lettersE i (G i) j := by simp [midE]
theorem midE_succ {L : Nat} {G : Nat → Nat → Nat} {i j k x : Nat} (h : (mem (G i j) 64)[k]? = some x) : midE L G i j (k + 1) = midE L G i j k ++ [mkE i j x] := by
  have hk : k < (mem (G i j) 64).length := by
    apply Nat.lt_of_not_le; intro hle; rw [List.getElem?_eq_none hle] at h; cases h
  have e : (mem (G i j) 64)[k] = x := by rw [List.getElem?_eq_getElem hk] at h; injection h
  unfold midE
  rw [List.take_succ_eq_append_getElem hk, List.map_append, e, ← List.append_assoc]
  rfl
theorem midE_end (L : Nat) (G : Nat → Nat → Nat) (i j : Nat) : midE L G i j (mem (G i j) 64).length = tabE L G i ++ lettersE i (G i) (j + 1) := by
  unfold midE
  rw [List.take_length, List.append_assoc]
  rfl
theorem midE_len {L : Nat} {G : Nat → Nat → Nat} {i j k : Nat} (hi : i ≤ 64) (hL : L ≤ 6) (hj : j ≤ 6) : (midE L G i j k).length ≤ 30000 := by
  have h1 := tabE_len L G i
  have h2 := lettersE_len i (G i) j
  have h3 := mem_len (G i j) 64
  have h4 : i * (L * 64) ≤ 64 * (6 * 64) := Nat.mul_le_mul hi (Nat.mul_le_mul_right _ hL)
  unfold midE
  simp only [List.length_append, List.length_map, List.length_take]
  omega
set_option maxRecDepth 100000 in
set_option maxHeartbeats 8000000 in
/-- build -/
theorem build_any (b off c0 m L fi : Nat) (G : Nat → Nat → Nat) (w : World) (ht : TabM w (some ⟨b, off, none⟩) m L G) (hm1 : 1 ≤ m) (hm : m ≤ 64) (hL : L ≤ 6) (hG : ∀ i j, G i j < 18446744073709551616) :
    Calls Try.prog 55 #[.slice (some ⟨b, off, none⟩) m c0, .int .u64 fi] w fun e w' => ∃ a c, e = .returned (.agg #[.int .i64 L, .int .i64 m, .int .u64 1, .int .u64 fi, .slice a (tabE L G m).length c]) ∧ InE w' a (tabE L G m) ∧ Below w.heap.size w w' ∧ ∀ p, a = some p → w.heap.size ≤ p.block := by
  obtain ⟨i0, hi, hz0, hz1, hz2⟩ := info_parts infoEd
  have HT := Lib.hid ht
  have HG := Lib.hid hG
  obtain ⟨b', off', e1, hbz, hc⟩ := ht
  injection e1 with e1; injection e1 with e1 e1'
  subst e1 e1'
  obtain ⟨r0, k0, hc0, hr0⟩ := hc 0 (by omega)
  clear hr0
  simp only [Nat.add_zero] at hc0
  have hm0 : (0 : Int) < (m : Int) := by omega
  have hb0 : Below w.heap.size w (w.alloc (.cells #[.int .i64 0, .int .i64 0, .int .u64 0, .int .u64 0, .slice none 0 0] 25)) := (Below.refl _ w).alloc (Nat.le_refl _) _
  have hc1 : (w.alloc (.cells #[.int .i64 0, .int .i64 0, .int .u64 0, .int .u64 0, .slice none 0 0] 25)).cell? ⟨b, off, none⟩ = some (.slice r0 L k0) := by rw [hb0.cell (p := ⟨b, off, none⟩) hbz]; exact hc0
  obtain ⟨K, hK⟩ : ∃ K, K = tabE L G m := ⟨_, rfl⟩
  have HKK := Lib.hid hK
  obtain ⟨q, hq⟩ : ∃ q, q = K.length := ⟨_, rfl⟩
  have HQK := Lib.hid hq
  rw [← hK, ← hq]
  clear hc hc0 hG hb0 hK hq
  go_enter Try.func55, Try.ntmps55
  go_wp2_with fail
  go_loopw [22] (fun vi wr => ∃ (i : Nat) (v : Value), i ≤ m ∧ vi = .int .i64 i ∧ BldS w wr L m fi v (tabE L G i)) (fun vi _ => m - (intOf vi).toNat)
  case atStart =>
    refine ⟨0, .slice none 0 0, Nat.zero_le _, rfl, OwnEd.nil _ _, heap_old (heap_new _ _), ?_, ((Below.refl _ w).alloc (Nat.le_refl _) _).alloc (by simp) _⟩
    have := heap_new (w.alloc (.cells #[.int .i64 0, .int .i64 0, .int .u64 0, .int .u64 0, .slice none 0 0] 25)) (.cells #[.int .i64 (L : Nat), .int .i64 (m : Nat), .int .u64 1, .int .u64 (fi : Nat), .slice none 0 0] 25)
    simpa using this
  case round =>
    rename World => wA
    obtain ⟨i, v, hi', rfl, hS⟩ := hrel
    have HSA := Lib.hid hS
    by_cases hlt : i < m
    · obtain ⟨b2, off2, e2, _, hc⟩ := HT.out
      injection e2 with e2; injection e2 with e2 e2'
      subst e2 e2'
      obtain ⟨r, c, hci, hrow⟩ := hc i hlt
      have HR := Lib.hid hrow
      have hci2 : wA.cell? ⟨b, off + i, none⟩ = some (.slice r L c) := by rw [hS.bel.cell (p := ⟨b, off + i, none⟩) hbz]; exact hci
      have hi0 : (0 : Int) ≤ (i : Int) := by omega
      have him : (i : Int) < (m : Int) := by omega
      have hwi : IntKind.i64.wrap (i : Int) = (i : Int) := IntWalk.i64_in _ (by omega)
      clear hc hci hrow hS hc1
      go_wp2_with fail
      go_loopw [29] (fun vj wr => ∃ (j : Nat) (v : Value), j ≤ L ∧ vj = .int .i64 j ∧ BldS w wr L m fi v (tabE L G i ++ lettersE i (G i) j)) (fun vj _ => L - (intOf vj).toNat)
      case atStart => exact ⟨0, v, Nat.zero_le _, rfl, by simp only [lettersE, List.append_nil]; exact HSA.out⟩
      case round =>
        rename World => wB
        obtain ⟨j, v2, hj', rfl, hS⟩ := hrel
        have HSB := Lib.hid hS
        by_cases hjl : j < L
        · rcases HR.out.keep hS.bel with h0 | ⟨b3, off3, rfl, hb3, hc3⟩
          · omega
          have hcj := (hc3 j hjl).1
          have HM := Lib.hid (fun W => members_own (G i j) W (HG.out i j))
          have HMS := Lib.hid (fun k x h => @midE_succ L G i j k x h)
          have HME := Lib.hid (midE_end L G i j)
          have HML := Lib.hid (fun k => @midE_len L G i j k (by omega) hL (by omega))
          have HMX := Lib.hid (show ∀ (k x : Nat), (mem (G i j) 64)[k]? = some x → x < 64 from fun k x h => (mem_testBit.1 (List.mem_of_getElem? h)).1)
          rw [← midE_zero] at HSB
          have hml : (mem (G i j) 64).length ≤ 64 := mem_len (G i j) 64
          obtain ⟨M, hM⟩ : ∃ M, M = mem (G i j) 64 := ⟨_, rfl⟩
          obtain ⟨g, hg⟩ : ∃ g, g = G i j := ⟨_, rfl⟩
          rw [← hg] at hcj
          rw [← hM] at HM HMS HME hml HMX
          rw [← hg] at HM
          obtain ⟨n, hn⟩ : ∃ n, n = M.length := ⟨_, rfl⟩
          have HN := Lib.hid hn
          unfold GivesM at HM
          rw [← hn] at HM HME hml
          have hj0 : (0 : Int) ≤ (j : Int) := by omega
          have hjn : (j : Int) < (L : Int) := by omega
          have hwj : IntKind.i64.wrap (j : Int) = (j : Int) := IntWalk.i64_in _ (by omega)
          clear hS hc3 hM hg hn hci2
          go_wp2_with fail
          refine (HM.out _).mono ?_
          rintro e wC ⟨r3, c3, rfl, hr3, hB, hnew⟩
          have HSC := Lib.hid (HSB.out.keep hB)
          have HR3 := Lib.hid hr3
          have HNW := Lib.hid (show ∀ p, r3 = some p → w.heap.size + 2 ≤ p.block ∧ some p.block ≠ v2.ownBlock from fun p hp => ⟨by have := hnew p hp; have := HSB.out.size; omega, fun e => by
            have h1 := (World.ownsRow.lt HSB.out.own p.block e.symm).2
            have h2 := hnew p hp
            omega⟩)
          clear hr3 hB hnew hcj
          go_wp2_with fail
          go_loopw [37] (fun vk wr => ∃ (k : Nat) (v : Value), k ≤ n ∧ vk = .int .i64 k ∧ BldS w wr L m fi v (midE L G i j k) ∧ RowL wr r3 M ∧ ∀ p, r3 = some p → w.heap.size + 2 ≤ p.block ∧ some p.block ≠ v.ownBlock) (fun vk _ => n - (intOf vk).toNat)
          case atStart => exact ⟨0, v2, Nat.zero_le _, rfl, HSC.out, HR3.out, HNW.out⟩
          case round =>
            rename World => wD
            obtain ⟨k, v3, hk', rfl, hS, hrl, hne⟩ := hrel
            have HSD := Lib.hid hS
            have HRL := Lib.hid hrl
            have HNE := Lib.hid hne
            by_cases hkn : k < n
            · have hkM : k < M.length := by rw [← HN.out]; exact hkn
              rcases hrl with h0 | ⟨b4, off4, rfl, hb4, hc4⟩
              · rw [h0] at hkM; simp at hkM
              obtain ⟨x, hx⟩ : ∃ x, x = M[k] := ⟨_, rfl⟩
              have hxx : M[k]? = some x := by rw [hx, List.getElem?_eq_getElem hkM]
              have hck := hc4 k x hxx
              have HX := Lib.hid (HMS.out k x hxx)
              have hlen := HML.out k
              obtain ⟨es, hes⟩ : ∃ es, es = midE L G i j k := ⟨_, rfl⟩
              rw [← hes] at HX hlen HSD
              obtain ⟨va, vc, hv3⟩ := HSD.out.own.form
              subst hv3
              have hb4c := (cells5_of HSD.out.box).1.2.2.2.2
              obtain ⟨q, hq⟩ : ∃ q, q = es.length := ⟨_, rfl⟩
              have HOW := Lib.hid HSD.out.own
              unfold OwnEd at HOW
              rw [← hq] at hlen hb4c HOW
              have HQ := Lib.hid hq
              have hsz := HSD.out.size
              have hk0 : (0 : Int) ≤ (k : Int) := by omega
              have hkn2 : (k : Int) < (n : Int) := by omega
              have hwk : IntKind.i64.wrap (k : Int) = (k : Int) := IntWalk.i64_in _ (by omega)
              clear hS hne hc4 hx hxx hes hq hkM
              go_wp2_with (at_builtin; refine wpList_append_own_at _ rfl _ _ 23 rfl (w.heap.size + 2) 44 i0 _ 3 24 Try.underlying23 hi hz0 hz1 hz2 rfl (by decide) _ _ _ rfl (HOW.out.alloc _) ⟨_, 0, none⟩ 1 1 [.int .i64 i, .int .i64 j, .int .i64 x] rfl rfl ?c1 ?c2 ?c3 ?c4 ?c5 ?_)
              case c1 => exact World.news_of_block (cs := #[.int .i64 i, .int .i64 j, .int .i64 x]) (t := 44) (fr := (0, 0)) (heap_alloc_new _ _)
              case c2 => simp [Value.oneCell']
              case c3 => unfold maxLen; omega
              case c4 => omega
              case c5 => simp; omega
              intro v' w4 h4 hg4 _ hat
              rw [HQ.out] at h4
              have hg5 := hg4
              rw [HQ.out] at hg5
              obtain ⟨hpush, hcell, hfz⟩ := HSD.out.push (e := mkE i j x) h4 hg5
              rw [← HX.out] at hpush
              obtain ⟨va', vc', hv'⟩ := hpush.own.form
              have HPU := Lib.hid hpush
              rw [← HQ.out] at HNE
              have HNE2 := Lib.hid (show ∀ p, some (⟨b4, off4, none⟩ : Addr) = some p → w.heap.size + 2 ≤ p.block ∧ some p.block ≠ v'.ownBlock from fun p hp => ⟨(HNE.out p hp).1, by
                rcases hat with e | e
                · rw [e]; exact (HNE.out p hp).2
                · rw [e]
                  injection hp with hp
                  subst hp
                  intro e2; injection e2 with e2; simp at e2; omega⟩)
              have HRL2 := Lib.hid ((RowL.grown (HRL.out.keep ((Below.refl _ wD).alloc (Nat.le_refl _) _)) hg4 (fun p hp => (HNE.out p hp).2)).setCell ⟨w.heap.size + 1, 4, none⟩ v' (fun p hp => by have := (HNE.out p hp).1; dsimp only; omega))
              clear h4 hg4 hg5 hat hpush hb4c hck
              subst hv'
              go_wp2_with fail
              exact ⟨⟨k + 1, _, by omega, by go_num, HPU.out, HRL2.out, HNE2.out⟩, by simp [intOf]; omega⟩
            · obtain rfl : k = n := by omega
              clear hS hrl hne
              go_wp2_with fail
              exact ⟨⟨j + 1, v3, by omega, by go_num, by rw [← HME.out]; exact HSD.out⟩, by simp [intOf]; omega⟩
        · obtain rfl : j = L := by omega
          clear hS
          go_wp2_with fail
          exact ⟨⟨i + 1, v2, by omega, by go_num, HSB.out⟩, by simp [intOf]; omega⟩
    · obtain rfl : i = m := by omega
      have HB6 := Lib.hid (show ∀ e, e ∈ tabE L G i → B64 e.f ∧ B64 e.l ∧ B64 e.t from fun e he => by
        obtain ⟨q, x, t, rfl, h1, h2, h3, _⟩ := tabE_mem.1 he
        unfold B64; dsimp only; omega)
      rw [← HKK.out] at HSA HB6
      obtain ⟨va, vc, hv⟩ := HSA.out.own.form
      rw [← HQK.out] at hv
      subst hv
      obtain ⟨⟨x0, x1, x2, x3, x4⟩, _⟩ := cells5_of HSA.out.box
      obtain ⟨⟨r0', r1, r2, r3, r4⟩, z0, z1, z2, z3, z4⟩ := cells5_of HSA.out.res
      clear hS hc1
      go_wp2_with fail
      refine bodyPost_ret (v := .agg #[.int .i64 L, .int .i64 i, .int .u64 1, .int .u64 fi, .slice va q vc]) (by simp [results, Try.results55, go_sem, r0', r1, r2, r3, r4]) rfl ⟨va, vc, rfl, ?_, ?_, ?_⟩
      · have hw : ∀ k, (Value.slice va q vc).ownBlock = some k → w.heap.size + 2 ≤ k := fun k hk => (World.ownsRow.lt HSA.out.own k hk).1
        have hne : (Value.slice va q vc).ownBlock = none ∨ (Value.slice va q vc).ownBlock ≠ some w.heap.size := by
          cases hb : (Value.slice va q vc).ownBlock with
          | none => exact .inl rfl
          | some g => exact .inr (fun e => by injection e with e; have := hw g hb; omega)
        have own5 : ∀ y0 y1 y2 y3 y4 : Value, OwnEd (((((wA.setCell ⟨w.heap.size, 0, none⟩ y0).setCell ⟨w.heap.size, 1, none⟩ y1).setCell ⟨w.heap.size, 2, none⟩ y2).setCell ⟨w.heap.size, 3, none⟩ y3).setCell ⟨w.heap.size, 4, none⟩ y4) (w.heap.size + 2) (.slice va q vc) K := fun y0 y1 y2 y3 y4 =>
          World.ownsRow.kept (World.ownsRow.kept (World.ownsRow.kept (World.ownsRow.kept (World.ownsRow.kept HSA.out.own (grown_cell _ ⟨w.heap.size, 0, none⟩ y0) hne) (grown_cell _ ⟨w.heap.size, 1, none⟩ y1) hne) (grown_cell _ ⟨w.heap.size, 2, none⟩ y2) hne) (grown_cell _ ⟨w.heap.size, 3, none⟩ y3) hne) (grown_cell _ ⟨w.heap.size, 4, none⟩ y4) hne
        rw [HQK.out] at own5
        rw [HQK.out]
        exact (own5 _ _ _ _ _).inE HB6.out
      · exact ((((HSA.out.bel.setCell (Nat.le_refl _) _).setCell (Nat.le_refl _) _).setCell (Nat.le_refl _) _).setCell (Nat.le_refl _) _).setCell (Nat.le_refl _) _
      · intro p hp
        have := (World.ownsRow.lt HSA.out.own p.block (by rw [hp]; rfl)).1
        omega
end Go.Proofs.Ytdoifdpmgmlpdaa
