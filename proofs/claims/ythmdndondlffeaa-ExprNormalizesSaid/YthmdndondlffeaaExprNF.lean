/- Contract: flat. -/
import Derived.Test.YthmdndondlffeaaExprNE
import Derived.Test.YthmdndondlffeaaExprPE
namespace Go.Proofs.Ythmdndondlffeaa
open Go Go.RowKit Go.Sort
set_option linter.unusedVariables false
/-- a row of the call's own that holds expressions of W0 -/
structure OwnX (W0 w : World) (v : Value) (ts : List T) : Prop where
  own : ∃ es : List (ExIn W0), es.map (·.1.t) = ts ∧ w.ownsRow W0.heap.size 24 3 v es.length (cellsE es)
  bel : Below W0.heap.size W0 w
theorem OwnX.nil {W0 w : World} (h : Below W0.heap.size W0 w) : OwnX W0 w (.slice none 0 0) [] := ⟨⟨[], rfl, World.ownsRow_nil _ _ _ _⟩, h⟩
theorem flatT_take {op : Int} {ks : List T} {i : Nat} (h : i < ks.length) : flatT op (ks.take (i + 1)) = flatT op (ks.take i) ++ (if ks[i].op = op then ks[i].ks else [ks[i]]) := by
  rw [take_snoc h]; simp only [flatT, List.flatMap_append, List.flatMap_cons, List.flatMap_nil, List.append_nil]
theorem cellsE_append {W0 : World} (a b : List (ExIn W0)) : cellsE (a ++ b) = cellsE a ++ cellsE b := by simp [cellsE]
theorem cellsE_one' {W0 : World} (es : List (ExIn W0)) : ∀ u ∈ cellsE es, u.oneCell' = true := by
  intro u hu
  simp only [cellsE, List.mem_flatMap] at hu
  obtain ⟨x, _, hx⟩ := hu
  simp [encX, Ex.enc] at hx
  rcases hx with rfl | rfl | rfl <;> rfl
theorem flat_len {op : Int} {ks : List T} (h : sizeL ks ≤ 1000000000) (i : Nat) : (flatT op (ks.take i)).length ≤ 1000000000 := by
  have h1 := sizeL_len (flatT op (ks.take i))
  have h2 := sizeL_flatT op (ks.take i)
  have h3 := sizeL_take_le ks i
  omega
set_option maxRecDepth 100000 in
set_option maxHeartbeats 2000000 in
theorem flat_any (op : Int) (hop : op = 4 ∨ op = 5 ∨ op = 6) (ks : List T) (hg : ∀ k, k ∈ ks → GoodT k) (hs : sizeL ks ≤ 1000000000) (a : Option Addr) (c : Nat) (W0 : World) (hin : InX W0 0 0 ks a) :
    Calls Try.prog 51 #[.int .i64 op, .slice a ks.length c] W0 fun e w' => ∃ v, e = .returned v ∧ v ≠ .slice none 0 0 ∧ OwnX W0 w' v (flatT op ks) := by
  have hlen := hin.2.2.2
  have HI := Lib.hid hin
  have HG := Lib.hid hg
  have HS := Lib.hid hs
  have HO := Lib.hid hop
  clear hin hg hs hop
  go_enter Try.func51, Try.ntmps51
  have hll : ks.length ≤ 1000000000 := by have h1 := sizeL_len ks; have h2 := HS.out; omega
  obtain ⟨j0, jinf, jz0, jz1, jz2⟩ := info_parts infoE
  go_wp2_with (at_make; refine wpList_make_own _ rfl _ _ 22 rfl W0.heap.size 24 j0 _ 3 Try.underlying22 jinf jz0 jz1 _ _ _ ks.length rfl rfl rfl (by rw [jz2]; omega) (by unfold maxLen; omega) (Nat.le_refl _) ?_)
  intro w1 hown1 hgrow1
  have HO1 := Lib.hid (show OwnX W0 w1 _ [] from ⟨⟨[], rfl, hown1⟩, (Below.refl _ _).grown hgrow1 (Nat.le_refl _) fun k e => by cases e⟩)
  clear hown1 hgrow1
  go_wp2_with fail
  go_loopw [5, 13] (fun vp vi wr => ∃ (i : Nat), i ≤ ks.length ∧ vi = .int .i64 i ∧ vp ≠ .slice none 0 0 ∧ OwnX W0 wr vp (flatT op (ks.take i))) (fun _ vi _ => ks.length - (intOf vi).toNat)
  case atStart => exact ⟨0, Nat.zero_le _, rfl, by simp, HO1.out⟩
  case round =>
    rename World => wA
    obtain ⟨i, hi, rfl, hnn, hown⟩ := hrel
    have HNN := Lib.hid hnn
    clear hnn
    by_cases hlt : i < ks.length
    · obtain ⟨ko, kl, kk, hk, hk2⟩ := kid_some hlt
      obtain ⟨b, off, a', c', rfl, hbz, e1, e2, e3, hx⟩ := HI.out.kid hk
      have HB := Lib.hid hown.bel
      have key : ∀ o, wA.cell? ⟨b, o, none⟩ = W0.cell? ⟨b, o, none⟩ := fun o => HB.out.cell (p := ⟨b, o, none⟩) hbz
      have c1 := (key _).trans e1
      have c2 := (key _).trans e2
      have c3 := (key _).trans e3
      have hi0 : (0 : Int) ≤ (i : Int) := by omega
      have hin2 : (i : Int) < (ks.length : Int) := by omega
      have hwi : IntKind.i64.wrap (i : Int) = (i : Int) := IntWalk.i64_in _ (by omega)
      obtain ⟨es, hes, ho⟩ := hown.own
      have hel : es.length ≤ 1000000000 := by
        have h1 := flat_len (op := op) HS.out i
        rw [← hes, List.length_map] at h1; exact h1
      have HOW := Lib.hid ho
      have HES := Lib.hid hes
      have HX := Lib.hid hx
      have HK2 := Lib.hid hk2
      have HK := Lib.hid hk
      obtain ⟨i0, hinf, hz0, hz1, hz2⟩ := info_parts infoE
      clear hown ho hes hx hk2 hk key e1 e2 e3
      have hso := HB.out.size
      by_cases heq : ko = op
      · subst heq
        have hgk := HG.out _ (List.mem_of_getElem? HK.out)
        have hkl : 2 ≤ kk.length := by
          rcases kind_of hgk.1 with ⟨h, _⟩ | ⟨h, _⟩ | ⟨_, _, h⟩
          · have := HO.out; omega
          · have := HO.out; omega
          · exact h
        have hkl2 : kk.length ≤ 1000000000 := by
          have h1 := sizeL_mem (List.mem_of_getElem? HK.out)
          have h2 := sizeL_len kk
          have h3 := HS.out
          simp only [sizeT] at h1
          omega
        obtain ⟨xo, xl, xk, hxk, _⟩ := kid_some (show 0 < kk.length by omega)
        obtain ⟨b2, off2, a2, d2, rfl, hb2, _⟩ := HX.out.kid hxk
        obtain ⟨es2, m1, m2, m3⟩ := kids_ex HX.out rfl
        have HM1 := Lib.hid m1
        have HM3 := Lib.hid m3
        have t : (ko == ko) = true := by simp
        obtain ⟨n2, hn2⟩ : ∃ n2, n2 = kk.length := ⟨_, rfl⟩
        rw [← hn2] at c3
        have HN2 := Lib.hid hn2
        clear hgk hxk m1 m3 hn2
        go_wp2_with (at_builtin; refine wpList_append_own_at _ rfl _ _ 22 rfl W0.heap.size 24 i0 _ 3 40 Try.underlying22 hinf hz0 hz1 hz2 rfl (by decide) _ _ _ rfl (HOW.out.alloc _) ⟨b2, off2, none⟩ n2 c' (cellsE es2) rfl ?c0 ?c1 ?c2 ?c3 ?c4 ?c5 ?_)
        case c0 => rw [cellsE_len, m2, ← HN2.out]
        case c1 =>
          intro j u hj
          rw [(HB.out.alloc hso _).cell (p := ⟨b2, off2 + j, none⟩) hb2]
          exact HM3.out j u hj
        case c2 => exact cellsE_one' es2
        case c3 => have := HN2.out; unfold maxLen; omega
        case c4 => have := HN2.out; omega
        case c5 => first | omega | (simp; omega)
        intro v' w4 h4 hg4 hnil hat
        have HN4 := Lib.hid (show v' ≠ .slice none 0 0 by first | exact fun h => HNN.out (hnil.1 h).1 | exact fun h => hnil h)
        have HF := Lib.hid (show OwnX W0 w4 v' (flatT ko (ks.take (i + 1))) from ⟨⟨es ++ es2, by rw [List.map_append, HES.out, HM1.out, flatT_take hlt, HK2.out]; exact congrArg _ (if_pos rfl).symm, by rw [cellsE_append, List.length_append, m2, ← HN2.out]; exact h4⟩, (HB.out.alloc hso _).grown hg4 (by simp; omega) fun k e => (HOW.out.lt k e).1⟩)
        clear h4 hg4 hat hnil
        go_wp2_with fail
        exact ⟨⟨i + 1, by omega, by go_num, HN4.out, HF.out⟩, by simp [intOf]; omega⟩
      · have t : (ko == op) = false := ne_beq heq
        have HNE := Lib.hid heq
        obtain ⟨n2, hn2⟩ : ∃ n2, n2 = kk.length := ⟨_, rfl⟩
        rw [← hn2] at c3
        have HN2 := Lib.hid hn2
        clear heq hn2
        go_wp2_with (at_builtin; refine wpList_append_own_at _ rfl _ _ 22 rfl W0.heap.size 24 i0 _ 3 40 Try.underlying22 hinf hz0 hz1 hz2 rfl (by decide) _ _ _ rfl ((HOW.out.alloc _).alloc _) ⟨_, 0, none⟩ 1 1 [.int .i64 ko, .int .i64 kl, .slice a' n2 c'] rfl rfl ?c1 ?c2 ?c3 ?c4 ?c5 ?_)
        case c1 => exact World.news_of_block (cs := #[.int .i64 ko, .int .i64 kl, .slice a' n2 c']) (t := 24) (fr := (0, 0)) (by have h := heap_alloc_new (wA.alloc (.cells #[.int .i64 ko, .int .i64 kl, .slice a' n2 c'] 24)) (.cells #[.int .i64 ko, .int .i64 kl, .slice a' n2 c'] 24); simpa using h)
        case c2 => simp [Value.oneCell']
        case c3 => unfold maxLen; omega
        case c4 => omega
        case c5 => simp; omega
        intro v' w4 h4 hg4 hnil hat
        have HN4 := Lib.hid (show v' ≠ .slice none 0 0 by first | exact fun h => HNN.out (hnil.1 h).1 | exact fun h => hnil h)
        have HF := Lib.hid (show OwnX W0 w4 v' (flatT op (ks.take (i + 1))) from ⟨⟨es ++ [⟨⟨ko, kl, kk, a', c'⟩, HX.out⟩], by rw [List.map_append, HES.out, flatT_take hlt, HK2.out]; exact congrArg _ (if_neg HNE.out).symm, by rw [cellsE_append, List.length_append]; rw [HN2.out] at h4; exact h4⟩, ((HB.out.alloc hso _).alloc (by simp; omega) _).grown hg4 (by simp; omega) fun k e => (HOW.out.lt k e).1⟩)
        clear h4 hg4 hat hnil
        go_wp2_with fail
        exact ⟨⟨i + 1, by omega, by go_num, HN4.out, HF.out⟩, by simp [intOf]; omega⟩
    · obtain rfl : i = ks.length := by omega
      rw [List.take_length] at hown
      have HF := Lib.hid hown
      clear hown
      go_wp2_with fail
      go_ret
      exact ⟨_, rfl, HNN.out, HF.out⟩
set_option maxRecDepth 100000 in
set_option maxHeartbeats 2000000 in
theorem flatR_any (op : Int) (hop : op = 4 ∨ op = 5 ∨ op = 6) (ks : List T) (hg : ∀ k, k ∈ ks → GoodT k) (hs : sizeL ks ≤ 1000000000) (a : Option Addr) (c : Nat) (W0 : World) (hin : InX W0 0 0 ks a) :
    Calls Try.prog 22 #[.int .i64 op, .slice a ks.length c] W0 fun e w' => ∃ v, e = .returned v ∧ OwnX W0 w' v (flatT op ks) := by
  have hlen := hin.2.2.2
  have HI := Lib.hid hin
  have HG := Lib.hid hg
  have HS := Lib.hid hs
  have HO := Lib.hid hop
  clear hin hg hs hop
  go_enter Try.func22, Try.ntmps22
  go_wp2_with fail
  go_loopw [5, 10] (fun vp vi wr => ∃ (i : Nat), i ≤ ks.length ∧ vi = .int .i64 i ∧ OwnX W0 wr vp (flatT op (ks.take i))) (fun _ vi _ => ks.length - (intOf vi).toNat)
  case atStart => exact ⟨0, Nat.zero_le _, rfl, OwnX.nil (Below.refl _ _)⟩
  case round =>
    rename World => wA
    obtain ⟨i, hi, rfl, hown⟩ := hrel
    by_cases hlt : i < ks.length
    · obtain ⟨ko, kl, kk, hk, hk2⟩ := kid_some hlt
      obtain ⟨b, off, a', c', rfl, hbz, e1, e2, e3, hx⟩ := HI.out.kid hk
      have HB := Lib.hid hown.bel
      have key : ∀ o, wA.cell? ⟨b, o, none⟩ = W0.cell? ⟨b, o, none⟩ := fun o => HB.out.cell (p := ⟨b, o, none⟩) hbz
      have c1 := (key _).trans e1
      have c2 := (key _).trans e2
      have c3 := (key _).trans e3
      have hi0 : (0 : Int) ≤ (i : Int) := by omega
      have hin2 : (i : Int) < (ks.length : Int) := by omega
      have hwi : IntKind.i64.wrap (i : Int) = (i : Int) := IntWalk.i64_in _ (by omega)
      obtain ⟨es, hes, ho⟩ := hown.own
      have hel : es.length ≤ 1000000000 := by
        have h1 := flat_len (op := op) HS.out i
        rw [← hes, List.length_map] at h1; exact h1
      have HOW := Lib.hid ho
      have HES := Lib.hid hes
      have HX := Lib.hid hx
      have HK2 := Lib.hid hk2
      have HK := Lib.hid hk
      obtain ⟨i0, hinf, hz0, hz1, hz2⟩ := info_parts infoE
      clear hown ho hes hx hk2 hk key e1 e2 e3
      have hso := HB.out.size
      by_cases heq : ko = op
      · subst heq
        have hgk := HG.out _ (List.mem_of_getElem? HK.out)
        have hkl : 2 ≤ kk.length := by
          rcases kind_of hgk.1 with ⟨h, _⟩ | ⟨h, _⟩ | ⟨_, _, h⟩
          · have := HO.out; omega
          · have := HO.out; omega
          · exact h
        have hkl2 : kk.length ≤ 1000000000 := by
          have h1 := sizeL_mem (List.mem_of_getElem? HK.out)
          have h2 := sizeL_len kk
          have h3 := HS.out
          simp only [sizeT] at h1
          omega
        obtain ⟨xo, xl, xk, hxk, _⟩ := kid_some (show 0 < kk.length by omega)
        obtain ⟨b2, off2, a2, d2, rfl, hb2, _⟩ := HX.out.kid hxk
        obtain ⟨es2, m1, m2, m3⟩ := kids_ex HX.out rfl
        have HM1 := Lib.hid m1
        have HM3 := Lib.hid m3
        have t : (ko == ko) = true := by simp
        obtain ⟨n2, hn2⟩ : ∃ n2, n2 = kk.length := ⟨_, rfl⟩
        rw [← hn2] at c3
        have HN2 := Lib.hid hn2
        clear hgk hxk m1 m3 hn2
        go_wp2_with (at_builtin; refine wpList_append_own_at _ rfl _ _ 22 rfl W0.heap.size 24 i0 _ 3 40 Try.underlying22 hinf hz0 hz1 hz2 rfl (by decide) _ _ _ rfl (HOW.out.alloc _) ⟨b2, off2, none⟩ n2 c' (cellsE es2) rfl ?c0 ?c1 ?c2 ?c3 ?c4 ?c5 ?_)
        case c0 => rw [cellsE_len, m2, ← HN2.out]
        case c1 =>
          intro j u hj
          rw [(HB.out.alloc hso _).cell (p := ⟨b2, off2 + j, none⟩) hb2]
          exact HM3.out j u hj
        case c2 => exact cellsE_one' es2
        case c3 => have := HN2.out; unfold maxLen; omega
        case c4 => have := HN2.out; omega
        case c5 => first | omega | (simp; omega)
        intro v' w4 h4 hg4 _ hat
        have HF := Lib.hid (show OwnX W0 w4 v' (flatT ko (ks.take (i + 1))) from ⟨⟨es ++ es2, by rw [List.map_append, HES.out, HM1.out, flatT_take hlt, HK2.out]; exact congrArg _ (if_pos rfl).symm, by rw [cellsE_append, List.length_append, m2, ← HN2.out]; exact h4⟩, (HB.out.alloc hso _).grown hg4 (by simp; omega) fun k e => (HOW.out.lt k e).1⟩)
        clear h4 hg4 hat
        go_wp2_with fail
        exact ⟨⟨i + 1, by omega, by go_num, HF.out⟩, by simp [intOf]; omega⟩
      · have t : (ko == op) = false := ne_beq heq
        have HNE := Lib.hid heq
        obtain ⟨n2, hn2⟩ : ∃ n2, n2 = kk.length := ⟨_, rfl⟩
        rw [← hn2] at c3
        have HN2 := Lib.hid hn2
        clear heq hn2
        go_wp2_with (at_builtin; refine wpList_append_own_at _ rfl _ _ 22 rfl W0.heap.size 24 i0 _ 3 40 Try.underlying22 hinf hz0 hz1 hz2 rfl (by decide) _ _ _ rfl ((HOW.out.alloc _).alloc _) ⟨_, 0, none⟩ 1 1 [.int .i64 ko, .int .i64 kl, .slice a' n2 c'] rfl rfl ?c1 ?c2 ?c3 ?c4 ?c5 ?_)
        case c1 => exact World.news_of_block (cs := #[.int .i64 ko, .int .i64 kl, .slice a' n2 c']) (t := 24) (fr := (0, 0)) (by have h := heap_alloc_new (wA.alloc (.cells #[.int .i64 ko, .int .i64 kl, .slice a' n2 c'] 24)) (.cells #[.int .i64 ko, .int .i64 kl, .slice a' n2 c'] 24); simpa using h)
        case c2 => simp [Value.oneCell']
        case c3 => unfold maxLen; omega
        case c4 => omega
        case c5 => simp; omega
        intro v' w4 h4 hg4 _ hat
        have HF := Lib.hid (show OwnX W0 w4 v' (flatT op (ks.take (i + 1))) from ⟨⟨es ++ [⟨⟨ko, kl, kk, a', c'⟩, HX.out⟩], by rw [List.map_append, HES.out, flatT_take hlt, HK2.out]; exact congrArg _ (if_neg HNE.out).symm, by rw [cellsE_append, List.length_append]; rw [HN2.out] at h4; exact h4⟩, ((HB.out.alloc hso _).alloc (by simp; omega) _).grown hg4 (by simp; omega) fun k e => (HOW.out.lt k e).1⟩)
        clear h4 hg4 hat
        go_wp2_with fail
        exact ⟨⟨i + 1, by omega, by go_num, HF.out⟩, by simp [intOf]; omega⟩
    · obtain rfl : i = ks.length := by omega
      rw [List.take_length] at hown
      have HF := Lib.hid hown
      clear hown
      go_wp2_with fail
      go_ret
      exact ⟨_, rfl, HF.out⟩
end Go.Proofs.Ythmdndondlffeaa
