/- Contract: the reference's Normal. -/
import Derived.Test.YthmdndondlffeaaExprOG
namespace Go.Proofs.Ythmdndondlffeaa
open Go Go.RowKit Go.Sort
set_option linter.unusedVariables false
theorem list_no {W0 : World} {op : Int} {ab ne : T} {ks : List T} {es : List (ExIn W0)} (he : es.map (·.1.t) = flatT op ks) (h : ∀ q (h : q < es.length), isT es[q].1.t ab = false) : listT op ab ne ks = outT op ne (qsT op ne ks) := by
  have : ((flatT op ks).any fun k => isT k ab) = false := by
    rw [← he, List.any_eq_false]
    intro x hx
    obtain ⟨y, hy, rfl⟩ := List.mem_map.1 hx
    obtain ⟨q, hq, rfl⟩ := List.mem_iff_getElem.1 hy
    rw [h q hq]; decide
  unfold listT qsT
  rw [if_neg (by rw [this]; decide)]
def accT (op : Int) (l : List T) : List T := if op = 5 then l else setT l
theorem acc_skip {op : Int} {ne : T} {l : List T} {i : Nat} (h : i < l.length) (hn : isT l[i] ne = true) : accT op ((l.take (i + 1)).filter fun k => !isT k ne) = accT op ((l.take i).filter fun k => !isT k ne) := by
  rw [take_snoc h, List.filter_append]; simp [hn]
theorem acc_five {ne : T} {l : List T} {i : Nat} (h : i < l.length) (hn : isT l[i] ne = false) : accT 5 ((l.take (i + 1)).filter fun k => !isT k ne) = accT 5 ((l.take i).filter fun k => !isT k ne) ++ [l[i]] := by
  rw [take_snoc h, List.filter_append]; simp [hn, accT]
theorem acc_ins {op : Int} (ho : op ≠ 5) {ne : T} {l : List T} {i : Nat} (h : i < l.length) (hn : isT l[i] ne = false) : accT op ((l.take (i + 1)).filter fun k => !isT k ne) = insT (accT op ((l.take i).filter fun k => !isT k ne)) l[i] := by
  rw [take_snoc h, List.filter_append]; simp [hn, accT, ho, setT_snoc]
theorem acc_done {op : Int} {ne : T} {ks : List T} : accT op ((flatT op ks).filter fun k => !isT k ne) = qsT op ne ks := rfl
theorem acc_strict {op : Int} (ho : op ≠ 5) (l : List T) : StrictT (accT op l) := by unfold accT; rw [if_neg ho]; exact strict_setT l
/-- an own box that is written -/
def OutB (w : World) (b : Nat) (x y z : Value) : Prop := Box w b x y z ∧ w.frozen? ⟨b, 2, none⟩ = false
theorem OutB.keep {W W' : World} {b : Nat} {x y z : Value} (h : OutB W b x y z) (hb : Below W.heap.size W W') : OutB W' b x y z := by
  have hlt : b < W.heap.size := cell_lt (s := none) h.1.1
  exact ⟨h.1.keep hb, by rw [hb.frozen (p := ⟨b, 2, none⟩) hlt]; exact h.2⟩
theorem OutB.set {W : World} {b : Nat} {x y z : Value} (h : OutB W b x y z) (u : Value) : OutB (W.setCell ⟨b, 2, none⟩ u) b x y u :=
  ⟨⟨(World.cell?_setCell_other _ _ _ _ (by simp)).trans h.1.1, (World.cell?_setCell_other _ _ _ _ (by simp)).trans h.1.2.1, World.cell?_setCell_same _ _ _ h.1.2.2⟩, by simpa using h.2⟩
theorem below_alc {a w : World} {B : Nat} (h : Below B a w) (hB : B ≤ a.heap.size) (o : Obj) : Below B a (w.alloc o) := h.alloc (Nat.le_trans hB h.size) o
theorem flatT_pos {op : Int} {ks : List T} (h : 1 ≤ ks.length) (ho : op = 4 ∨ op = 5 ∨ op = 6) (hg : ∀ k, k ∈ ks → GoodT k) : 1 ≤ (flatT op ks).length := by
  match ks, h with
  | k :: l, _ =>
    have hk := hg k (by simp)
    simp only [flatT, List.flatMap_cons, List.length_append]
    split
    · rename_i e
      obtain ⟨o, x, xs⟩ := k
      rcases kind_of hk.1 with ⟨h, _⟩ | ⟨h, _⟩ | ⟨_, _, h⟩
      · have : o = op := e; omega
      · have : o = op := e; omega
      · show 1 ≤ xs.length + _; omega
    · simp
theorem inX_all2 {w : World} {g : Nat} (h : Box w g (.int .i64 1) (.int .i64 0) (.slice none 0 0)) : InX w 8 0 [emptyT] (some ⟨g, 0, none⟩) :=
  ⟨inK_one (op := 1) (l := 0) (ks := []) (a := none) (c := 0) (cell_lt (s := none) h.1) h.1 h.2.1 h.2.2 (inX_empty w), by unfold B64; omega, by unfold B64; omega, by simp⟩
theorem box_ret {w : World} {g b0 : Nat} {x y z : Value} (h : Box w g x y z) (hne : g ≠ b0) (u v t : Value) : Box (((w.setCell ⟨b0, 0, none⟩ u).setCell ⟨b0, 1, none⟩ v).setCell ⟨b0, 2, none⟩ t) g x y z := by
  have key : ∀ o, (((w.setCell ⟨b0, 0, none⟩ u).setCell ⟨b0, 1, none⟩ v).setCell ⟨b0, 2, none⟩ t).cell? ⟨g, o, none⟩ = w.cell? ⟨g, o, none⟩ := fun o => by
    rw [World.cell?_setCell_other _ _ _ _ (fun e => hne (congrArg Addr.block e).symm), World.cell?_setCell_other _ _ _ _ (fun e => hne (congrArg Addr.block e).symm), World.cell?_setCell_other _ _ _ _ (fun e => hne (congrArg Addr.block e).symm)]
  exact ⟨(key 0).trans h.1, (key 1).trans h.2.1, (key 2).trans h.2.2⟩
theorem own_form {w : World} {B : Nat} {e : TypeId} {size n : Nat} {v : Value} {xs : List Value} (h : w.ownsRow B e size v n xs) : ∃ a m c, v = .slice a m c := by
  rcases h.2 with ⟨h, _⟩ | ⟨g, cap, cur, h, _⟩
  · exact ⟨_, _, _, h⟩
  · exact ⟨_, _, _, h⟩
theorem own_keep {w w' : World} {B : Nat} {e : TypeId} {size n : Nat} {v : Value} {xs : List Value} (h : w.ownsRow B e size v n xs) (hb : Below w.heap.size w w') : w'.ownsRow B e size v n xs := by
  refine ⟨h.1, ?_⟩
  rcases h.2 with h | ⟨g, cap, cur, h1, h2, h3, h4⟩
  · exact .inl h
  · exact .inr ⟨g, cap, cur, h1, h2, (hb.block g (Array.getElem?_eq_some_iff.1 h3).1).trans h3, h4⟩
set_option maxRecDepth 100000 in
set_option maxHeartbeats 16000000 in
theorem refN_5 (ks : List T) (hw : wfT 6 (.node 5 0 ks) = true) (hs : sizeT (.node 5 0 ks) ≤ 1000000000) (ih : ∀ (i : Nat) (o l : Int) (ls : List T), ks[i]? = some (.node o l ls) → ∀ (a : Option Addr) (c : Nat) (w : World), InX w o l ls a → Calls Try.prog 10 #[.agg #[.int .i64 o, .int .i64 l, .slice a ls.length c]] w (GiveT w (nrmT (.node o l ls)))) (a : Option Addr) (c : Nat) (w : World) (hin : InX w 5 0 ks a) :
    Calls Try.prog 10 #[.agg #[.int .i64 5, .int .i64 0, .slice a ks.length c]] w (GiveT w (nrmT (.node 5 0 ks))) := by
  have HI := Lib.hid hin
  have hsk : sizeL ks < 1000000000 := by simp only [sizeT] at hs; omega
  have hlk : ks.length ≤ 1000000000 := by have := sizeL_len ks; omega
  have HWF := Lib.hid hw
  have HW := Lib.hid (wfT_node.1 hw).2.2
  have IH := Lib.hid ih
  have hgood : ∀ k, k ∈ ks.map nrmT → GoodT k := fun k hk => by
    obtain ⟨x, hx, rfl⟩ := List.mem_map.1 hk
    exact (nrm_all x ((wfT_node.1 hw).2.2 x hx)).1
  have hsm : sizeL (ks.map nrmT) ≤ 1000000000 := by
    have := sizeL_map fun k hk => (nrm_all k ((wfT_node.1 hw).2.2 k hk)).2.1
    omega
  have HGO := Lib.hid hgood
  have HSM := Lib.hid hsm
  have hgd := (nrm_all _ hw).1.1
  rw [nrmT_node] at hgd ⊢
  obtain ⟨R, hR⟩ : ∃ R, R = mkT 5 0 (ks.map nrmT) := ⟨_, rfl⟩
  rw [← hR] at hgd ⊢
  have HR := Lib.hid hR
  have HGD := Lib.hid hgd
  obtain ⟨n, hn⟩ : ∃ n, n = ks.length := ⟨_, rfl⟩
  rw [← hn] at hlk ⊢
  have HN := Lib.hid hn
  obtain ⟨W2, hW2⟩ : ∃ W, W = (w.alloc (.cells #[.int .i64 5, .int .i64 0, .slice a n c] 24)).alloc (.cells #[.int .i64 0, .int .i64 0, .slice none 0 0] 24) := ⟨_, rfl⟩
  have HW2 := Lib.hid hW2
  have HB2 := Lib.hid (show Below w.heap.size w W2 by rw [hW2]; exact ((Below.refl w.heap.size w).alloc (Nat.le_refl _) _).alloc (by simp) _)
  have HBX2 := Lib.hid (show Box W2 w.heap.size (.int .i64 5) (.int .i64 0) (.slice a n c) by rw [hW2]; exact (Box.new w _ _ _).alloc _)
  have HZ2 := Lib.hid (show Zero3 W2 (w.heap.size + 1) by
    rw [hW2]; have := Zero3.new (w.alloc (.cells #[.int .i64 5, .int .i64 0, .slice a n c] 24)); simpa using this)
  have hsz2 : W2.heap.size = w.heap.size + 2 := by rw [hW2]; simp
  clear hin hw hs ih hgood hsm hgd hR hn hW2 hsk
  obtain ⟨i0, hinf, hz0, hz1, hz2⟩ := info_parts infoE
  go_enter Try.func10, Try.ntmps10
  go_wp2_with fail
  rw [← HW2.out]
  go_loopw [3, 21] (fun vp vi wr => ∃ (i : Nat) (es : List Ex), i ≤ n ∧ vi = .int .i64 i ∧ es.length = i ∧ es.map Ex.t = (ks.take i).map nrmT ∧ FillV W2 wr vp es) (fun _ vi _ => n - (intOf vi).toNat)
  case atStart => exact ⟨0, [], Nat.zero_le _, rfl, rfl, by simp, .inl ⟨rfl, rfl, Below.refl _ _⟩⟩
  case round =>
    rename World => wA
    obtain ⟨i, es, hi, rfl, hel, hmp, hF⟩ := hrel
    have HF := Lib.hid hF
    have HMP := Lib.hid hmp
    by_cases hlt : i < n
    · have hlt' : i < ks.length := by rw [← HN.out]; exact hlt
      obtain ⟨ko, kl, kk, hk, hk2⟩ := kid_some hlt'
      obtain ⟨b, off, a', c', rfl, hbz, d0, d1, d2, hx⟩ := (HI.out.keep (HB2.out.trans (hF.bel.mono HB2.out.size))).kid hk
      have hi0 : (0 : Int) ≤ (i : Int) := by omega
      have hin2 : (i : Int) < (n : Int) := by omega
      have hwi : IntKind.i64.wrap (i : Int) = (i : Int) := IntWalk.i64_in _ (by omega)
      obtain ⟨ro', rl', rk', hr'⟩ : ∃ o l k, nrmT (.node ko kl kk) = .node o l k := by
        cases h : nrmT (.node ko kl kk) with
        | node o l k => exact ⟨o, l, k, rfl⟩
      obtain ⟨kn, hkn⟩ : ∃ n, n = kk.length := ⟨_, rfl⟩
      rw [← hkn] at d2
      have HC := Lib.hid (IH.out i ko kl kk hk a' c' _ (hx.box (.cells #[.int .i64 ko, .int .i64 kl, .slice a' kn c'] 24)))
      rw [hr', ← hkn] at HC
      have HG' := Lib.hid (show wfT 6 (.node ro' rl' rk') = true by rw [← hr']; exact (nrm_all _ (HW.out _ (List.mem_of_getElem? hk))).1.1)
      have HM' := Lib.hid (show es.map Ex.t ++ [.node ro' rl' rk'] = (ks.take (i + 1)).map nrmT by rw [take_map_snoc hlt', HMP.out, hk2, hr'])
      clear hk hk2 hx hr' hkn hF hmp
      go_wp2_with fail
      refine HC.out.mono ?_
      rintro e w5 hgv
      obtain ⟨a5, c5, rfl, hx5, hb5⟩ := give_node.1 hgv
      have HF5 := Lib.hid ((HF.out.alloc (.cells #[.int .i64 ko, .int .i64 kl, .slice a' kn c'] 24)).keep hb5 (Nat.le_refl _))
      have HX5 := Lib.hid hx5
      clear hgv hx5 hb5
      go_wp2_with (at_builtin; refine wpList_append_fill rfl _ _ 22 rfl i0 Try.underlying22 hinf hz0 hz1 hz2 W2 _ es rfl (HF5.out.alloc _) ⟨_, 0, none⟩ 1 ⟨ro', rl', rk', a5, c5⟩ rfl ?c1 ?c2 HG'.out ?c3 ?_)
      case c1 => exact World.news_of_block (cs := #[.int .i64 ro', .int .i64 rl', .slice a5 rk'.length c5]) (t := 24) (fr := (0, 0)) (by have h := heap_alloc_new w5 (.cells #[.int .i64 ro', .int .i64 rl', .slice a5 rk'.length c5] 24); simpa using h)
      case c2 => exact HX5.out.box _
      case c3 => omega
      intro v' w6 hf6
      have HF6 := Lib.hid hf6
      clear hf6
      go_wp2_with fail
      exact ⟨⟨i + 1, es ++ [(⟨ro', rl', rk', a5, c5⟩ : Ex)], by omega, by go_num, by simp [hel], by rw [List.map_append]; exact HM'.out, by exact HF6.out⟩, by simp [intOf]; omega⟩
    · obtain rfl : i = n := by omega
      obtain ⟨a0, c0, rfl, hK⟩ := hF.kids (op := 0) (l := 0) (by unfold B64; omega) (by unfold B64; omega)
      rw [hmp, HN.out, List.take_length] at hK
      have HK := Lib.hid hK
      have HBA := Lib.hid (HB2.out.trans (hF.bel.mono HB2.out.size))
      have HZA := Lib.hid (HZ2.out.keep hF.bel)
      have HXA := Lib.hid (HBX2.out.keep hF.bel)
      have hszA : w.heap.size + 2 ≤ wA.heap.size := by have := hF.bel.size; omega
      have hkl : (ks.map nrmT).length = i := by rw [List.length_map, ← HN.out]
      rw [hel] at *
      clear hF hmp hK HF HMP
      obtain ⟨x0, x1, x2⟩ := HXA.out.keep (show Below wA.heap.size wA ((((wA.alloc (.cells #[.int .i64 1, .int .i64 0, .slice none 0 0] 24)).alloc (.cells #[.int .i64 2, .int .i64 0, .slice none 0 0] 24)).alloc (.cells #[.int .i64 1, .int .i64 0, .slice none 0 0] 24)).alloc (.cells #[.int .i64 8, .int .i64 0, .slice (some ⟨wA.heap.size + 2, 0, none⟩) 1 1] 24)) from below_al (below_al (below_al (below_al (Below.refl _ _)))))
      obtain ⟨y0, y1, y2⟩ := HXA.out.keep (show Below wA.heap.size wA ((((((wA.alloc (.cells #[.int .i64 1, .int .i64 0, .slice none 0 0] 24)).alloc (.cells #[.int .i64 2, .int .i64 0, .slice none 0 0] 24)).alloc (.cells #[.int .i64 1, .int .i64 0, .slice none 0 0] 24)).alloc (.cells #[.int .i64 8, .int .i64 0, .slice (some ⟨wA.heap.size + 2, 0, none⟩) 1 1] 24)).alloc (.cells #[.int .i64 5, .int .i64 0, .slice none 0 0] 24)).alloc (.cells #[.int .i64 1, .int .i64 0, .slice none 0 0] 24)) from below_al (below_al (below_al (below_al (below_al (below_al (Below.refl _ _)))))))
      obtain ⟨W6, hW6⟩ : ∃ W, W = ((((((wA.alloc (.cells #[.int .i64 1, .int .i64 0, .slice none 0 0] 24)).alloc (.cells #[.int .i64 2, .int .i64 0, .slice none 0 0] 24)).alloc (.cells #[.int .i64 1, .int .i64 0, .slice none 0 0] 24)).alloc (.cells #[.int .i64 8, .int .i64 0, .slice (some ⟨wA.heap.size + 2, 0, none⟩) 1 1] 24)).alloc (.cells #[.int .i64 5, .int .i64 0, .slice none 0 0] 24)).alloc (.cells #[.int .i64 2, .int .i64 0, .slice none 0 0] 24)) := ⟨_, rfl⟩
      have hB6 : Below wA.heap.size wA W6 := by rw [hW6]; exact below_al (below_al (below_al (below_al (below_al (below_al (Below.refl _ _))))))
      have hsz6 : W6.heap.size = wA.heap.size + 6 := by rw [hW6]; simp
      obtain ⟨u0, u1, u2⟩ := HXA.out.keep hB6
      rw [hW6] at u0 u1 u2
      have hq6 : Box W6 wA.heap.size (.int .i64 1) (.int .i64 0) (.slice none 0 0) := by
        rw [hW6]; have := ((((((Box.new wA (.int .i64 1) (.int .i64 0) (.slice none 0 0)).alloc (.cells #[.int .i64 2, .int .i64 0, .slice none 0 0] 24)).alloc (.cells #[.int .i64 1, .int .i64 0, .slice none 0 0] 24)).alloc (.cells #[.int .i64 8, .int .i64 0, .slice (some ⟨wA.heap.size + 2, 0, none⟩) 1 1] 24)).alloc (.cells #[.int .i64 5, .int .i64 0, .slice none 0 0] 24)).alloc (.cells #[.int .i64 2, .int .i64 0, .slice none 0 0] 24)); simpa using this
      have hq7 : Box W6 (wA.heap.size + 1) (.int .i64 2) (.int .i64 0) (.slice none 0 0) := by
        rw [hW6]; have := (((((Box.new (wA.alloc (.cells #[.int .i64 1, .int .i64 0, .slice none 0 0] 24)) (.int .i64 2) (.int .i64 0) (.slice none 0 0)).alloc (.cells #[.int .i64 1, .int .i64 0, .slice none 0 0] 24)).alloc (.cells #[.int .i64 8, .int .i64 0, .slice (some ⟨wA.heap.size + 2, 0, none⟩) 1 1] 24)).alloc (.cells #[.int .i64 5, .int .i64 0, .slice none 0 0] 24)).alloc (.cells #[.int .i64 2, .int .i64 0, .slice none 0 0] 24)); simpa using this
      have hq2 : Box W6 (wA.heap.size + 2) (.int .i64 1) (.int .i64 0) (.slice none 0 0) := by
        rw [hW6]; have := ((((Box.new ((wA.alloc (.cells #[.int .i64 1, .int .i64 0, .slice none 0 0] 24)).alloc (.cells #[.int .i64 2, .int .i64 0, .slice none 0 0] 24)) (.int .i64 1) (.int .i64 0) (.slice none 0 0)).alloc (.cells #[.int .i64 8, .int .i64 0, .slice (some ⟨wA.heap.size + 2, 0, none⟩) 1 1] 24)).alloc (.cells #[.int .i64 5, .int .i64 0, .slice none 0 0] 24)).alloc (.cells #[.int .i64 2, .int .i64 0, .slice none 0 0] 24)); simpa using this
      have hq8 : Box W6 (wA.heap.size + 3) (.int .i64 8) (.int .i64 0) (.slice (some ⟨wA.heap.size + 2, 0, none⟩) 1 1) := by
        rw [hW6]; have := (((Box.new (((wA.alloc (.cells #[.int .i64 1, .int .i64 0, .slice none 0 0] 24)).alloc (.cells #[.int .i64 2, .int .i64 0, .slice none 0 0] 24)).alloc (.cells #[.int .i64 1, .int .i64 0, .slice none 0 0] 24)) (.int .i64 8) (.int .i64 0) (.slice (some ⟨wA.heap.size + 2, 0, none⟩) 1 1)).alloc (.cells #[.int .i64 5, .int .i64 0, .slice none 0 0] 24)).alloc (.cells #[.int .i64 2, .int .i64 0, .slice none 0 0] 24)); simpa using this
      have hq9 : Box W6 (wA.heap.size + 4) (.int .i64 5) (.int .i64 0) (.slice none 0 0) := by
        rw [hW6]; have := ((Box.new ((((wA.alloc (.cells #[.int .i64 1, .int .i64 0, .slice none 0 0] 24)).alloc (.cells #[.int .i64 2, .int .i64 0, .slice none 0 0] 24)).alloc (.cells #[.int .i64 1, .int .i64 0, .slice none 0 0] 24)).alloc (.cells #[.int .i64 8, .int .i64 0, .slice (some ⟨wA.heap.size + 2, 0, none⟩) 1 1] 24)) (.int .i64 5) (.int .i64 0) (.slice none 0 0)).alloc (.cells #[.int .i64 2, .int .i64 0, .slice none 0 0] 24)); simpa using this
      have hq10 : Box W6 (wA.heap.size + 5) (.int .i64 2) (.int .i64 0) (.slice none 0 0) := by
        rw [hW6]; have := (Box.new (((((wA.alloc (.cells #[.int .i64 1, .int .i64 0, .slice none 0 0] 24)).alloc (.cells #[.int .i64 2, .int .i64 0, .slice none 0 0] 24)).alloc (.cells #[.int .i64 1, .int .i64 0, .slice none 0 0] 24)).alloc (.cells #[.int .i64 8, .int .i64 0, .slice (some ⟨wA.heap.size + 2, 0, none⟩) 1 1] 24)).alloc (.cells #[.int .i64 5, .int .i64 0, .slice none 0 0] 24)) (.int .i64 2) (.int .i64 0) (.slice none 0 0)); simpa using this
      have hf9 : W6.frozen? ⟨wA.heap.size + 4, 2, none⟩ = false := by rw [hW6]; simp [go_sem]
      have HX6 := Lib.hid (HXA.out.keep hB6)
      have HZ6 := Lib.hid (HZA.out.keep hB6)
      have hfl : Calls Try.prog 22 #[.int .i64 5, .slice a0 i c0] ((((((wA.alloc (.cells #[.int .i64 1, .int .i64 0, .slice none 0 0] 24)).alloc (.cells #[.int .i64 2, .int .i64 0, .slice none 0 0] 24)).alloc (.cells #[.int .i64 1, .int .i64 0, .slice none 0 0] 24)).alloc (.cells #[.int .i64 8, .int .i64 0, .slice (some ⟨wA.heap.size + 2, 0, none⟩) 1 1] 24)).alloc (.cells #[.int .i64 5, .int .i64 0, .slice none 0 0] 24)).alloc (.cells #[.int .i64 2, .int .i64 0, .slice none 0 0] 24)) fun e w' => ∃ v, e = .returned v ∧ OwnY wA W6 w' v (flatT 5 (ks.map nrmT)) := by
        rw [← hW6, ← hkl]
        exact flatY_any 5 (.inr (.inl rfl)) (ks.map nrmT) HGO.out HSM.out a0 c0 wA W6 hB6 HK.out
      have HFL := Lib.hid hfl
      have HB6 := Lib.hid hB6
      have HBX := Lib.hid (And.intro hq6 (And.intro hq2 (And.intro hq8 (And.intro hq10 (show OutB W6 (wA.heap.size + 4) (.int .i64 5) (.int .i64 0) (.slice none 0 0) from ⟨hq9, hf9⟩)))))
      have HSZ6 := Lib.hid hsz6
      have hpos : 1 ≤ (flatT 5 (ks.map nrmT)).length := by
        have h2 : 2 ≤ ks.length := by
          rcases kind_of HWF.out with ⟨h, _⟩ | ⟨h, _⟩ | ⟨_, _, h⟩
          · omega
          · omega
          · exact h
        exact flatT_pos (by rw [List.length_map]; omega) (by omega) HGO.out
      have HPOS := Lib.hid hpos
      have HMK := Lib.hid (show R = listT 5 emptyT unitT (ks.map nrmT) from HR.out.trans (mkT_list (show Trip 5 emptyT unitT from .inl ⟨rfl, rfl, rfl⟩) 0 _))
      clear hq6 hq2 hq7 hq8 hq9 hq10 hf9 hfl hB6 hW6 hpos
      go_wp2_with fail
      refine HFL.out.mono ?_
      rintro e w7 ⟨v7, rfl, hown⟩
      obtain ⟨⟨es, hes, ho⟩, hbel⟩ := hown
      have hel7 : es.length = (flatT 5 (ks.map nrmT)).length := by rw [← hes, List.length_map]
      have hll : es.length ≤ 1000000000 := by
        have h1 := sizeL_len (flatT 5 (ks.map nrmT))
        have h2 := sizeL_flatT 5 (ks.map nrmT)
        have h3 := HSM.out
        omega
      have HES := Lib.hid hes
      have HB7 := Lib.hid hbel
      have HA7 := Lib.hid (HB6.out.trans (hbel.mono HB6.out.size))
      have HSZ7 := Lib.hid hbel.size
      have HX7 := Lib.hid (HX6.out.keep hbel)
      have HZ7 := Lib.hid (HZ6.out.keep hbel)
      have HQ6 := Lib.hid (HBX.out.1.keep hbel)
      have HQ2 := Lib.hid (HBX.out.2.1.keep hbel)
      have HQ8 := Lib.hid (HBX.out.2.2.1.keep hbel)
      have HQ10 := Lib.hid (HBX.out.2.2.2.1.keep hbel)
      have HO7 := Lib.hid (HBX.out.2.2.2.2.keep hbel)
      rcases ho.2 with ⟨_, h0⟩ | ⟨g, cap, cur, hv, hg, _⟩
      · exact absurd h0 (by have := HPOS.out; omega)
      subst hv
      obtain ⟨_, hL⟩ := BlkX.of_own HA7.out (ownsRow_base ho HB6.out.size)
      have HL := Lib.hid hL
      have hcap := hL.le
      have HGE := Lib.hid (show W6.heap.size ≤ g ∧ g < w7.heap.size from ⟨hg, hL.lt⟩)
      clear hes hbel ho hg hL x0 x1 x2 y0 y1 y2 hel7
      go_wp2_with fail
      go_loopw [96] (fun vi wr => ∃ (j : Nat) (v9 : Value) (L : List (ExIn wA)), j ≤ es.length ∧ vi = .int .i64 j ∧ ButX w7.heap.size (wA.heap.size + 4) w7 wr ∧ OutB wr (wA.heap.size + 4) (.int .i64 5) (.int .i64 0) v9 ∧ wr.ownsRow w7.heap.size 24 3 v9 L.length (cellsE L) ∧ L.map (·.1.t) = accT 5 (((es.map (·.1.t)).take j).filter fun k => !isT k unitT) ∧ L.length ≤ j ∧ ∀ q (h : q < es.length), q < j → isT es[q].1.t emptyT = false) (fun vi _ => es.length - (intOf vi).toNat)
      case atStart => exact ⟨0, .slice none 0 0, [], Nat.zero_le _, rfl, ButX.refl _ _ _, HO7.out, World.ownsRow_nil _ _ _ _, by simp [accT], Nat.le_refl _, fun q _ h => by omega⟩
      case round =>
        rename World => wB
        obtain ⟨j, v9, L, hj, rfl, hbut, hout, hrow, hacc, hLj, hno⟩ := hrel
        have hneg : g ≠ wA.heap.size + 4 := by have := HGE.out.1; have := HSZ6.out; omega
        have hAB : Below wA.heap.size wA wB := HA7.out.trans (hbut.below (by have := HA7.out.size; omega) (by omega))
        have HAB := Lib.hid hAB
        have HBUT := Lib.hid hbut
        have HOUT := Lib.hid hout
        have HROW := Lib.hid hrow
        have HACC := Lib.hid hacc
        have HNO := Lib.hid hno
        by_cases hlt : j < es.length
        · obtain ⟨c0', c1', c2'⟩ := HL.out.get hlt
          have d0 := (hbut.cell (o := j * 3) HGE.out.2 hneg).trans c0'
          have d1 := (hbut.cell (o := j * 3 + 1) HGE.out.2 hneg).trans c1'
          have d2 := (hbut.cell (o := j * 3 + 2) HGE.out.2 hneg).trans c2'
          have hj0 : (0 : Int) ≤ (j : Int) := by omega
          have hjn : (j : Int) < (es.length : Int) := by omega
          have hwj : IntKind.i64.wrap (j : Int) = (j : Int) := IntWalk.i64_in _ (by omega)
          obtain ⟨x, hx⟩ : ∃ x, x = es[j] := ⟨_, rfl⟩
          rw [← hx] at d0 d1 d2
          have HX := Lib.hid hx
          have hxw : wfT 6 (.node x.1.op x.1.l x.1.ks) = true := by
            have hm : x.1.t ∈ flatT 5 (ks.map nrmT) := by rw [← HES.out, hx]; exact List.mem_map.2 ⟨es[j], List.getElem_mem hlt, rfl⟩
            exact (flatT_good (.inr (.inl rfl)) HGO.out _ hm).1.1
          have HXW := Lib.hid hxw
          obtain ⟨xn, hxn⟩ : ∃ n, n = x.1.ks.length := ⟨_, rfl⟩
          rw [← hxn] at d2
          have HXN := Lib.hid hxn
          clear hbut hout hrow hacc hno hx hxw hxn c0' c1' c2' hAB
          have HBC := Lib.hid (show Below wB.heap.size wB (wB.alloc (.cells #[.int .i64 x.1.op, .int .i64 x.1.l, .slice x.1.a xn x.1.c] 24)) from below_al (Below.refl _ _))
          have HBUC := Lib.hid (HBUT.out.on HBC.out (Nat.le_refl _))
          have HXB := Lib.hid (Box.new wB (.int .i64 x.1.op) (.int .i64 x.1.l) (.slice x.1.a xn x.1.c))
          have HEP := Lib.hid (is_empty HXW.out)
          have HUN := Lib.hid (is_unit HXW.out)
          have HOUTW := Lib.hid (HOUT.out.keep HBC.out)
          have HROWW := Lib.hid (HROW.out.alloc (.cells #[.int .i64 x.1.op, .int .i64 x.1.l, .slice x.1.a xn x.1.c] 24))
          by_cases h1 : x.1.op = 1
          · have t1 : (x.1.op == 1) = true := by rw [h1]; rfl
            have HISA := Lib.hid (show isT es[j].1.t emptyT = true by rw [← HX.out]; exact HEP.out.trans (by simp [h1]))
            clear h1
            obtain ⟨q0, q1, q2⟩ := HBUC.out.box (by omega) HQ6.out
            obtain ⟨⟨z0, z1, z2⟩, f0, f1, f2⟩ := HBUC.out.zero (by omega) HZ7.out
            have HRF := Lib.hid (HMK.out.trans (list_ab (ne := unitT) hlt HES.out HISA.out))
            have HBF := Lib.hid (below_ret (HBA.out.trans ((HA7.out.trans (HBUC.out.below (by have := HA7.out.size; omega) (by omega))).mono HBA.out.size)) (b0 := w.heap.size + 1) (by omega) (.int .i64 1) (.int .i64 0) (.slice none 0 0))
            go_wp2_with fail
            refine bodyPost_ret (v := .agg #[.int .i64 1, .int .i64 0, .slice none 0 0]) (by simp [results, Try.results10, go_sem, z0, z1, z2]) rfl ?_
            rw [HRF.out]
            exact ⟨_, _, rfl, inX_empty _, HBF.out⟩
          · have t1 : (x.1.op == 1) = false := ne_beq h1
            have HISA := Lib.hid (show isT x.1.t emptyT = false from HEP.out.trans (by simp [h1]))
            by_cases h2 : x.1.op = 2
            · have t2 : (x.1.op != 2) = false := by simp [h2]
              have HISN := Lib.hid (show isT x.1.t unitT = true from HUN.out.trans (by simp [h2]))
              clear h1 h2
              have HACC2 := Lib.hid (HACC.out.trans (acc_skip (op := 5) (ne := unitT) (l := es.map (·.1.t)) (i := j) (by simpa using hlt) (by rw [List.getElem_map, ← HX.out]; exact HISN.out)).symm)
              have HNO2 := Lib.hid (show ∀ q (h : q < es.length), q < j + 1 → isT es[q].1.t emptyT = false from fun q h hq => by
                by_cases e : q = j
                · subst e; rw [← HX.out]; exact HISA.out
                · exact HNO.out q h (by omega))
              go_wp2_with fail
              exact ⟨⟨j + 1, v9, L, by omega, by go_num, HBUC.out, HOUTW.out, HROWW.out, HACC2.out, by omega, HNO2.out⟩, by simp [intOf]; omega⟩
            · have t2 : (x.1.op != 2) = true := by simp [h2]
              have HISN := Lib.hid (show isT x.1.t unitT = false from HUN.out.trans (by simp [h2]))
              clear h1 h2
              have HACC2 := Lib.hid (show (L ++ [x]).map (·.1.t) = accT 5 (((es.map (·.1.t)).take (j + 1)).filter fun k => !isT k unitT) by
                rw [acc_five (l := es.map (·.1.t)) (i := j) (by simpa using hlt) (by rw [List.getElem_map, ← HX.out]; exact HISN.out), List.map_append, HACC.out, List.getElem_map, ← HX.out]; rfl)
              have HNO2 := Lib.hid (show ∀ q (h : q < es.length), q < j + 1 → isT es[q].1.t emptyT = false from fun q h hq => by
                by_cases e : q = j
                · subst e; rw [← HX.out]; exact HISA.out
                · exact HNO.out q h (by omega))
              obtain ⟨o0, o1, o2⟩ := HOUTW.out.1
              have hs7 := HBUC.out.size
              go_wp2_with (at_builtin; refine wpList_append_own_at _ rfl _ _ 22 rfl w7.heap.size 24 i0 _ 3 40 Try.underlying22 hinf hz0 hz1 hz2 rfl (by decide) _ _ _ rfl (HROWW.out.alloc _) ⟨_, 0, none⟩ 1 1 [.int .i64 x.1.op, .int .i64 x.1.l, .slice x.1.a xn x.1.c] rfl rfl ?e1 ?e2 ?e3 ?e4 ?e5 ?_)
              try case e1 => exact World.news_of_block (cs := #[.int .i64 x.1.op, .int .i64 x.1.l, .slice x.1.a xn x.1.c]) (t := 24) (fr := (0, 0)) (by have h := heap_alloc_new (wB.alloc (.cells #[.int .i64 x.1.op, .int .i64 x.1.l, .slice x.1.a xn x.1.c] 24)) (.cells #[.int .i64 x.1.op, .int .i64 x.1.l, .slice x.1.a xn x.1.c] 24); simpa using h)
              case e2 => simp [Value.oneCell']
              case e3 => unfold maxLen; omega
              case e4 => omega
              case e5 => first | omega | (simp at hs7 ⊢; omega)
              intro v' w8 h8 hg8 _ _
              obtain ⟨vo, vn, vc, rfl⟩ := own_form h8
              have HB8 := Lib.hid (show Below w7.heap.size (wB.alloc (.cells #[.int .i64 x.1.op, .int .i64 x.1.l, .slice x.1.a xn x.1.c] 24)) w8 from ((Below.refl w7.heap.size (wB.alloc (.cells #[.int .i64 x.1.op, .int .i64 x.1.l, .slice x.1.a xn x.1.c] 24))).alloc hs7 (.cells #[.int .i64 x.1.op, .int .i64 x.1.l, .slice x.1.a xn x.1.c] 24)).grown hg8 (by simp at hs7 ⊢; omega) fun k e => (HROW.out.lt k e).1)
              have HBU8 := Lib.hid (HBUC.out.trans (ButX.of HB8.out))
              have HO8 := Lib.hid (show OutB w8 (wA.heap.size + 4) (.int .i64 5) (.int .i64 0) v9 from ⟨⟨(HB8.out.cell (p := ⟨_, 0, none⟩) (by have := HSZ6.out; have := HSZ7.out; simp; omega)).trans HOUTW.out.1.1, (HB8.out.cell (p := ⟨_, 1, none⟩) (by have := HSZ6.out; have := HSZ7.out; simp; omega)).trans HOUTW.out.1.2.1, (HB8.out.cell (p := ⟨_, 2, none⟩) (by have := HSZ6.out; have := HSZ7.out; simp; omega)).trans HOUTW.out.1.2.2⟩, (HB8.out.frozen (p := ⟨_, 2, none⟩) (by have := HSZ6.out; have := HSZ7.out; simp; omega)).trans HOUTW.out.2⟩)
              have HR8 := Lib.hid (show w8.ownsRow w7.heap.size 24 3 (.slice vo vn vc) (L ++ [x]).length (cellsE (L ++ [x])) by
                rw [cellsE_append, List.length_append]; rw [HXN.out] at h8; exact h8)
              clear h8 hg8 o0 o1 o2
              obtain ⟨o0, o1, o2⟩ := HO8.out.1
              have of2 := HO8.out.2
              have HFIN := Lib.hid (show ButX w7.heap.size (wA.heap.size + 4) w7 (w8.setCell ⟨wA.heap.size + 4, 2, none⟩ (.slice vo vn vc)) ∧ OutB (w8.setCell ⟨wA.heap.size + 4, 2, none⟩ (.slice vo vn vc)) (wA.heap.size + 4) (.int .i64 5) (.int .i64 0) (.slice vo vn vc) ∧ (w8.setCell ⟨wA.heap.size + 4, 2, none⟩ (.slice vo vn vc)).ownsRow w7.heap.size 24 3 (.slice vo vn vc) (L ++ [x]).length (cellsE (L ++ [x])) from ⟨HBU8.out.setCell 2 (.slice vo vn vc), HO8.out.set (.slice vo vn vc), ownsRow_setCell_below HR8.out (a := ⟨wA.heap.size + 4, 2, none⟩) (by have := HSZ6.out; have := HSZ7.out; simp; omega) (.slice vo vn vc)⟩)
              go_wp2_with fail
              exact ⟨⟨j + 1, (.slice vo vn vc), L ++ [x], by omega, by go_num, HFIN.out.1, HFIN.out.2.1, HFIN.out.2.2, HACC2.out, by simp; omega, HNO2.out⟩, by simp [intOf]; omega⟩
        · obtain rfl : j = es.length := by omega
          have HLN := Lib.hid (list_no (ne := unitT) HES.out (fun q h => HNO.out q h h))
          have hqs : L.map (·.1.t) = qsT 5 unitT (ks.map nrmT) := by rw [HACC.out, List.take_of_length_le (by simp), HES.out]; rfl
          obtain ⟨⟨z0, z1, z2⟩, f0, f1, f2⟩ := HBUT.out.zero (by omega) HZ7.out
          clear hbut hout hacc hno hAB
          rcases hrow.2 with ⟨rfl, h0⟩ | ⟨g9, cap9, cur9, rfl, _⟩
          · have HQS := Lib.hid (show qsT 5 unitT (ks.map nrmT) = [] by rw [← hqs, List.eq_nil_of_length_eq_zero h0]; rfl)
            clear hqs hrow
            have HRF := Lib.hid (show R = unitT by rw [HMK.out, HLN.out, HQS.out]; rfl)
            have HBF := Lib.hid (below_ret (HBA.out.trans (HAB.out.mono HBA.out.size)) (b0 := w.heap.size + 1) (by omega) (.int .i64 2) (.int .i64 0) (.slice none 0 0))
            obtain ⟨q0, q1, q2⟩ := HBUT.out.box (by omega) HQ10.out
            obtain ⟨o0, o1, o2⟩ := HOUT.out.1
            go_wp2_with fail
            refine bodyPost_ret (v := .agg #[.int .i64 2, .int .i64 0, .slice none 0 0]) (by simp [results, Try.results10, go_sem, z0, z1, z2]) rfl ?_
            rw [HRF.out]
            exact ⟨_, _, rfl, inX_unit _, HBF.out⟩
          · obtain ⟨_, hL9⟩ := BlkX.of_own HAB.out (ownsRow_base hrow HA7.out.size)
            have HL9 := Lib.hid hL9
            have hle9 := hL9.le
            have HQQ := Lib.hid hqs
            clear hqs hrow hL9
            by_cases e0 : L.length = 0
            · have t0 : ((L.length : Int) == 0) = true := by rw [e0]; rfl
              have HQS := Lib.hid (show qsT 5 unitT (ks.map nrmT) = [] by rw [← HQQ.out, List.eq_nil_of_length_eq_zero e0]; rfl)
              have HRF := Lib.hid (show R = unitT by rw [HMK.out, HLN.out, HQS.out]; rfl)
              have HBF := Lib.hid (below_ret (HBA.out.trans (HAB.out.mono HBA.out.size)) (b0 := w.heap.size + 1) (by omega) (.int .i64 2) (.int .i64 0) (.slice none 0 0))
              obtain ⟨q0, q1, q2⟩ := HBUT.out.box (by omega) HQ10.out
              obtain ⟨o0, o1, o2⟩ := HOUT.out.1
              go_wp2_with fail
              refine bodyPost_ret (v := .agg #[.int .i64 2, .int .i64 0, .slice none 0 0]) (by simp [results, Try.results10, go_sem, z0, z1, z2]) rfl ?_
              rw [HRF.out]
              exact ⟨_, _, rfl, inX_unit _, HBF.out⟩
            · have t0 : ((L.length : Int) == 0) = false := ne_beq (by omega)
              obtain ⟨o0, o1, o2⟩ := HOUT.out.1
              by_cases e1 : L.length = 1
              · have t1 : ((L.length : Int) == 1) = true := by rw [e1]; rfl
                have hp0 : (0 : Int) < (L.length : Int) := by omega
                obtain ⟨c0', c1', c2'⟩ := HL9.out.get (i := 0) (by omega)
                simp only [Nat.zero_mul, Nat.zero_add] at c0' c1' c2'
                obtain ⟨x, hx⟩ : ∃ x, x = L[0] := ⟨_, rfl⟩
                rw [← hx] at c0' c1' c2'
                have HF := Lib.hid (show R = x.1.t by
                  have h1 := HQQ.out
                  obtain ⟨b, hb⟩ := List.length_eq_one_iff.1 e1
                  rw [HMK.out, HLN.out, ← h1, hx]
                  simp [hb, outT])
                clear hx
                have HBF := Lib.hid (below_ret (HBA.out.trans (HAB.out.mono HBA.out.size)) (b0 := w.heap.size + 1) (by omega) (.int .i64 x.1.op) (.int .i64 x.1.l) (.slice x.1.a x.1.ks.length x.1.c))
                have HXF := Lib.hid (inX_ret (x := x.1) z0 z1 z2 (x.2.keep HAB.out) (by rw [← HF.out]; exact HGD.out) (.int .i64 x.1.op) (.int .i64 x.1.l) (.slice x.1.a x.1.ks.length x.1.c))
                go_wp2_with fail
                refine bodyPost_ret (v := .agg #[.int .i64 x.1.op, .int .i64 x.1.l, .slice x.1.a x.1.ks.length x.1.c]) (by simp [results, Try.results10, go_sem, z0, z1, z2]) rfl ⟨x.1.a, x.1.c, by rw [HF.out]; rfl, by rw [HF.out]; exact HXF.out, HBF.out⟩
              · have t1 : ((L.length : Int) == 1) = false := ne_beq (by omega)
                have HF := Lib.hid (show R = .node 5 0 (L.map (·.1.t)) by
                  rw [HMK.out, HLN.out, ← HQQ.out]
                  exact outT_two 5 unitT (by simp; omega))
                have hxi := HL9.out.inx (op := 5) (l := 0) (by unfold B64; omega) (by unfold B64; omega)
                have HXF := Lib.hid (inX_ret (x := ⟨5, 0, L.map (fun y => y.1.t), some ⟨g9, 0, none⟩, cap9⟩) z0 z1 z2 hxi (by rw [HF.out] at HGD; exact HGD.out) (.int .i64 5) (.int .i64 0) (.slice (some ⟨g9, 0, none⟩) L.length cap9))
                have HBF := Lib.hid (below_ret (HBA.out.trans (HAB.out.mono HBA.out.size)) (b0 := w.heap.size + 1) (by omega) (.int .i64 5) (.int .i64 0) (.slice (some ⟨g9, 0, none⟩) L.length cap9))
                clear hxi
                go_wp2_with fail
                refine bodyPost_ret (v := .agg #[.int .i64 5, .int .i64 0, .slice (some ⟨g9, 0, none⟩) L.length cap9]) (by simp [results, Try.results10, go_sem, z0, z1, z2]) rfl ⟨some ⟨g9, 0, none⟩, cap9, by rw [HF.out]; simp [T.op, T.lt, T.ks], by rw [HF.out]; exact HXF.out, HBF.out⟩
set_option maxRecDepth 100000 in
set_option maxHeartbeats 16000000 in
theorem refN_4 (ks : List T) (hw : wfT 6 (.node 4 0 ks) = true) (hs : sizeT (.node 4 0 ks) ≤ 1000000000) (ih : ∀ (i : Nat) (o l : Int) (ls : List T), ks[i]? = some (.node o l ls) → ∀ (a : Option Addr) (c : Nat) (w : World), InX w o l ls a → Calls Try.prog 10 #[.agg #[.int .i64 o, .int .i64 l, .slice a ls.length c]] w (GiveT w (nrmT (.node o l ls)))) (a : Option Addr) (c : Nat) (w : World) (hin : InX w 4 0 ks a) :
    Calls Try.prog 10 #[.agg #[.int .i64 4, .int .i64 0, .slice a ks.length c]] w (GiveT w (nrmT (.node 4 0 ks))) := by
  have HI := Lib.hid hin
  have hsk : sizeL ks < 1000000000 := by simp only [sizeT] at hs; omega
  have hlk : ks.length ≤ 1000000000 := by have := sizeL_len ks; omega
  have HWF := Lib.hid hw
  have HW := Lib.hid (wfT_node.1 hw).2.2
  have IH := Lib.hid ih
  have hgood : ∀ k, k ∈ ks.map nrmT → GoodT k := fun k hk => by
    obtain ⟨x, hx, rfl⟩ := List.mem_map.1 hk
    exact (nrm_all x ((wfT_node.1 hw).2.2 x hx)).1
  have hsm : sizeL (ks.map nrmT) ≤ 1000000000 := by
    have := sizeL_map fun k hk => (nrm_all k ((wfT_node.1 hw).2.2 k hk)).2.1
    omega
  have HGO := Lib.hid hgood
  have HSM := Lib.hid hsm
  have hgd := (nrm_all _ hw).1.1
  rw [nrmT_node] at hgd ⊢
  obtain ⟨R, hR⟩ : ∃ R, R = mkT 4 0 (ks.map nrmT) := ⟨_, rfl⟩
  rw [← hR] at hgd ⊢
  have HR := Lib.hid hR
  have HGD := Lib.hid hgd
  obtain ⟨n, hn⟩ : ∃ n, n = ks.length := ⟨_, rfl⟩
  rw [← hn] at hlk ⊢
  have HN := Lib.hid hn
  obtain ⟨W2, hW2⟩ : ∃ W, W = (w.alloc (.cells #[.int .i64 4, .int .i64 0, .slice a n c] 24)).alloc (.cells #[.int .i64 0, .int .i64 0, .slice none 0 0] 24) := ⟨_, rfl⟩
  have HW2 := Lib.hid hW2
  have HB2 := Lib.hid (show Below w.heap.size w W2 by rw [hW2]; exact ((Below.refl w.heap.size w).alloc (Nat.le_refl _) _).alloc (by simp) _)
  have HBX2 := Lib.hid (show Box W2 w.heap.size (.int .i64 4) (.int .i64 0) (.slice a n c) by rw [hW2]; exact (Box.new w _ _ _).alloc _)
  have HZ2 := Lib.hid (show Zero3 W2 (w.heap.size + 1) by
    rw [hW2]; have := Zero3.new (w.alloc (.cells #[.int .i64 4, .int .i64 0, .slice a n c] 24)); simpa using this)
  have hsz2 : W2.heap.size = w.heap.size + 2 := by rw [hW2]; simp
  clear hin hw hs ih hgood hsm hgd hR hn hW2 hsk
  obtain ⟨i0, hinf, hz0, hz1, hz2⟩ := info_parts infoE
  go_enter Try.func10, Try.ntmps10
  go_wp2_with fail
  rw [← HW2.out]
  go_loopw [3, 21] (fun vp vi wr => ∃ (i : Nat) (es : List Ex), i ≤ n ∧ vi = .int .i64 i ∧ es.length = i ∧ es.map Ex.t = (ks.take i).map nrmT ∧ FillV W2 wr vp es) (fun _ vi _ => n - (intOf vi).toNat)
  case atStart => exact ⟨0, [], Nat.zero_le _, rfl, rfl, by simp, .inl ⟨rfl, rfl, Below.refl _ _⟩⟩
  case round =>
    rename World => wA
    obtain ⟨i, es, hi, rfl, hel, hmp, hF⟩ := hrel
    have HF := Lib.hid hF
    have HMP := Lib.hid hmp
    by_cases hlt : i < n
    · have hlt' : i < ks.length := by rw [← HN.out]; exact hlt
      obtain ⟨ko, kl, kk, hk, hk2⟩ := kid_some hlt'
      obtain ⟨b, off, a', c', rfl, hbz, d0, d1, d2, hx⟩ := (HI.out.keep (HB2.out.trans (hF.bel.mono HB2.out.size))).kid hk
      have hi0 : (0 : Int) ≤ (i : Int) := by omega
      have hin2 : (i : Int) < (n : Int) := by omega
      have hwi : IntKind.i64.wrap (i : Int) = (i : Int) := IntWalk.i64_in _ (by omega)
      obtain ⟨ro', rl', rk', hr'⟩ : ∃ o l k, nrmT (.node ko kl kk) = .node o l k := by
        cases h : nrmT (.node ko kl kk) with
        | node o l k => exact ⟨o, l, k, rfl⟩
      obtain ⟨kn, hkn⟩ : ∃ n, n = kk.length := ⟨_, rfl⟩
      rw [← hkn] at d2
      have HC := Lib.hid (IH.out i ko kl kk hk a' c' _ (hx.box (.cells #[.int .i64 ko, .int .i64 kl, .slice a' kn c'] 24)))
      rw [hr', ← hkn] at HC
      have HG' := Lib.hid (show wfT 6 (.node ro' rl' rk') = true by rw [← hr']; exact (nrm_all _ (HW.out _ (List.mem_of_getElem? hk))).1.1)
      have HM' := Lib.hid (show es.map Ex.t ++ [.node ro' rl' rk'] = (ks.take (i + 1)).map nrmT by rw [take_map_snoc hlt', HMP.out, hk2, hr'])
      clear hk hk2 hx hr' hkn hF hmp
      go_wp2_with fail
      refine HC.out.mono ?_
      rintro e w5 hgv
      obtain ⟨a5, c5, rfl, hx5, hb5⟩ := give_node.1 hgv
      have HF5 := Lib.hid ((HF.out.alloc (.cells #[.int .i64 ko, .int .i64 kl, .slice a' kn c'] 24)).keep hb5 (Nat.le_refl _))
      have HX5 := Lib.hid hx5
      clear hgv hx5 hb5
      go_wp2_with (at_builtin; refine wpList_append_fill rfl _ _ 22 rfl i0 Try.underlying22 hinf hz0 hz1 hz2 W2 _ es rfl (HF5.out.alloc _) ⟨_, 0, none⟩ 1 ⟨ro', rl', rk', a5, c5⟩ rfl ?c1 ?c2 HG'.out ?c3 ?_)
      case c1 => exact World.news_of_block (cs := #[.int .i64 ro', .int .i64 rl', .slice a5 rk'.length c5]) (t := 24) (fr := (0, 0)) (by have h := heap_alloc_new w5 (.cells #[.int .i64 ro', .int .i64 rl', .slice a5 rk'.length c5] 24); simpa using h)
      case c2 => exact HX5.out.box _
      case c3 => omega
      intro v' w6 hf6
      have HF6 := Lib.hid hf6
      clear hf6
      go_wp2_with fail
      exact ⟨⟨i + 1, es ++ [(⟨ro', rl', rk', a5, c5⟩ : Ex)], by omega, by go_num, by simp [hel], by rw [List.map_append]; exact HM'.out, by exact HF6.out⟩, by simp [intOf]; omega⟩
    · obtain rfl : i = n := by omega
      obtain ⟨a0, c0, rfl, hK⟩ := hF.kids (op := 0) (l := 0) (by unfold B64; omega) (by unfold B64; omega)
      rw [hmp, HN.out, List.take_length] at hK
      have HK := Lib.hid hK
      have HBA := Lib.hid (HB2.out.trans (hF.bel.mono HB2.out.size))
      have HZA := Lib.hid (HZ2.out.keep hF.bel)
      have HXA := Lib.hid (HBX2.out.keep hF.bel)
      have hszA : w.heap.size + 2 ≤ wA.heap.size := by have := hF.bel.size; omega
      have hkl : (ks.map nrmT).length = i := by rw [List.length_map, ← HN.out]
      rw [hel] at *
      clear hF hmp hK HF HMP
      obtain ⟨x0, x1, x2⟩ := HXA.out.keep (show Below wA.heap.size wA ((((wA.alloc (.cells #[.int .i64 1, .int .i64 0, .slice none 0 0] 24)).alloc (.cells #[.int .i64 2, .int .i64 0, .slice none 0 0] 24)).alloc (.cells #[.int .i64 1, .int .i64 0, .slice none 0 0] 24)).alloc (.cells #[.int .i64 8, .int .i64 0, .slice (some ⟨wA.heap.size + 2, 0, none⟩) 1 1] 24)) from below_al (below_al (below_al (below_al (Below.refl _ _)))))
      obtain ⟨y0, y1, y2⟩ := HXA.out.keep (show Below wA.heap.size wA ((((((wA.alloc (.cells #[.int .i64 1, .int .i64 0, .slice none 0 0] 24)).alloc (.cells #[.int .i64 2, .int .i64 0, .slice none 0 0] 24)).alloc (.cells #[.int .i64 1, .int .i64 0, .slice none 0 0] 24)).alloc (.cells #[.int .i64 8, .int .i64 0, .slice (some ⟨wA.heap.size + 2, 0, none⟩) 1 1] 24)).alloc (.cells #[.int .i64 4, .int .i64 0, .slice none 0 0] 24)).alloc (.cells #[.int .i64 1, .int .i64 0, .slice none 0 0] 24)) from below_al (below_al (below_al (below_al (below_al (below_al (Below.refl _ _)))))))
      obtain ⟨W6, hW6⟩ : ∃ W, W = ((((((wA.alloc (.cells #[.int .i64 1, .int .i64 0, .slice none 0 0] 24)).alloc (.cells #[.int .i64 2, .int .i64 0, .slice none 0 0] 24)).alloc (.cells #[.int .i64 1, .int .i64 0, .slice none 0 0] 24)).alloc (.cells #[.int .i64 8, .int .i64 0, .slice (some ⟨wA.heap.size + 2, 0, none⟩) 1 1] 24)).alloc (.cells #[.int .i64 4, .int .i64 0, .slice none 0 0] 24)).alloc (.cells #[.int .i64 1, .int .i64 0, .slice none 0 0] 24)) := ⟨_, rfl⟩
      have hB6 : Below wA.heap.size wA W6 := by rw [hW6]; exact below_al (below_al (below_al (below_al (below_al (below_al (Below.refl _ _))))))
      have hsz6 : W6.heap.size = wA.heap.size + 6 := by rw [hW6]; simp
      have hq6 : Box W6 wA.heap.size (.int .i64 1) (.int .i64 0) (.slice none 0 0) := by
        rw [hW6]; have := ((((((Box.new wA (.int .i64 1) (.int .i64 0) (.slice none 0 0)).alloc (.cells #[.int .i64 2, .int .i64 0, .slice none 0 0] 24)).alloc (.cells #[.int .i64 1, .int .i64 0, .slice none 0 0] 24)).alloc (.cells #[.int .i64 8, .int .i64 0, .slice (some ⟨wA.heap.size + 2, 0, none⟩) 1 1] 24)).alloc (.cells #[.int .i64 4, .int .i64 0, .slice none 0 0] 24)).alloc (.cells #[.int .i64 1, .int .i64 0, .slice none 0 0] 24)); simpa using this
      have hq7 : Box W6 (wA.heap.size + 1) (.int .i64 2) (.int .i64 0) (.slice none 0 0) := by
        rw [hW6]; have := (((((Box.new (wA.alloc (.cells #[.int .i64 1, .int .i64 0, .slice none 0 0] 24)) (.int .i64 2) (.int .i64 0) (.slice none 0 0)).alloc (.cells #[.int .i64 1, .int .i64 0, .slice none 0 0] 24)).alloc (.cells #[.int .i64 8, .int .i64 0, .slice (some ⟨wA.heap.size + 2, 0, none⟩) 1 1] 24)).alloc (.cells #[.int .i64 4, .int .i64 0, .slice none 0 0] 24)).alloc (.cells #[.int .i64 1, .int .i64 0, .slice none 0 0] 24)); simpa using this
      have hq2 : Box W6 (wA.heap.size + 2) (.int .i64 1) (.int .i64 0) (.slice none 0 0) := by
        rw [hW6]; have := ((((Box.new ((wA.alloc (.cells #[.int .i64 1, .int .i64 0, .slice none 0 0] 24)).alloc (.cells #[.int .i64 2, .int .i64 0, .slice none 0 0] 24)) (.int .i64 1) (.int .i64 0) (.slice none 0 0)).alloc (.cells #[.int .i64 8, .int .i64 0, .slice (some ⟨wA.heap.size + 2, 0, none⟩) 1 1] 24)).alloc (.cells #[.int .i64 4, .int .i64 0, .slice none 0 0] 24)).alloc (.cells #[.int .i64 1, .int .i64 0, .slice none 0 0] 24)); simpa using this
      have hq8 : Box W6 (wA.heap.size + 3) (.int .i64 8) (.int .i64 0) (.slice (some ⟨wA.heap.size + 2, 0, none⟩) 1 1) := by
        rw [hW6]; have := (((Box.new (((wA.alloc (.cells #[.int .i64 1, .int .i64 0, .slice none 0 0] 24)).alloc (.cells #[.int .i64 2, .int .i64 0, .slice none 0 0] 24)).alloc (.cells #[.int .i64 1, .int .i64 0, .slice none 0 0] 24)) (.int .i64 8) (.int .i64 0) (.slice (some ⟨wA.heap.size + 2, 0, none⟩) 1 1)).alloc (.cells #[.int .i64 4, .int .i64 0, .slice none 0 0] 24)).alloc (.cells #[.int .i64 1, .int .i64 0, .slice none 0 0] 24)); simpa using this
      have hq9 : Box W6 (wA.heap.size + 4) (.int .i64 4) (.int .i64 0) (.slice none 0 0) := by
        rw [hW6]; have := ((Box.new ((((wA.alloc (.cells #[.int .i64 1, .int .i64 0, .slice none 0 0] 24)).alloc (.cells #[.int .i64 2, .int .i64 0, .slice none 0 0] 24)).alloc (.cells #[.int .i64 1, .int .i64 0, .slice none 0 0] 24)).alloc (.cells #[.int .i64 8, .int .i64 0, .slice (some ⟨wA.heap.size + 2, 0, none⟩) 1 1] 24)) (.int .i64 4) (.int .i64 0) (.slice none 0 0)).alloc (.cells #[.int .i64 1, .int .i64 0, .slice none 0 0] 24)); simpa using this
      have hq10 : Box W6 (wA.heap.size + 5) (.int .i64 1) (.int .i64 0) (.slice none 0 0) := by
        rw [hW6]; have := (Box.new (((((wA.alloc (.cells #[.int .i64 1, .int .i64 0, .slice none 0 0] 24)).alloc (.cells #[.int .i64 2, .int .i64 0, .slice none 0 0] 24)).alloc (.cells #[.int .i64 1, .int .i64 0, .slice none 0 0] 24)).alloc (.cells #[.int .i64 8, .int .i64 0, .slice (some ⟨wA.heap.size + 2, 0, none⟩) 1 1] 24)).alloc (.cells #[.int .i64 4, .int .i64 0, .slice none 0 0] 24)) (.int .i64 1) (.int .i64 0) (.slice none 0 0)); simpa using this
      have hf9 : W6.frozen? ⟨wA.heap.size + 4, 2, none⟩ = false := by rw [hW6]; simp [go_sem]
      have HX6 := Lib.hid (HXA.out.keep hB6)
      have HZ6 := Lib.hid (HZA.out.keep hB6)
      have hfl : Calls Try.prog 22 #[.int .i64 4, .slice a0 i c0] ((((((wA.alloc (.cells #[.int .i64 1, .int .i64 0, .slice none 0 0] 24)).alloc (.cells #[.int .i64 2, .int .i64 0, .slice none 0 0] 24)).alloc (.cells #[.int .i64 1, .int .i64 0, .slice none 0 0] 24)).alloc (.cells #[.int .i64 8, .int .i64 0, .slice (some ⟨wA.heap.size + 2, 0, none⟩) 1 1] 24)).alloc (.cells #[.int .i64 4, .int .i64 0, .slice none 0 0] 24)).alloc (.cells #[.int .i64 1, .int .i64 0, .slice none 0 0] 24)) fun e w' => ∃ v, e = .returned v ∧ OwnY wA W6 w' v (flatT 4 (ks.map nrmT)) := by
        rw [← hW6, ← hkl]
        exact flatY_any 4 (.inl rfl) (ks.map nrmT) HGO.out HSM.out a0 c0 wA W6 hB6 HK.out
      have HFL := Lib.hid hfl
      have HB6 := Lib.hid hB6
      have HBX := Lib.hid (And.intro hq6 (And.intro hq2 (And.intro hq8 (And.intro hq10 (show OutB W6 (wA.heap.size + 4) (.int .i64 4) (.int .i64 0) (.slice none 0 0) from ⟨hq9, hf9⟩)))))
      have HSZ6 := Lib.hid hsz6
      have hpos : 1 ≤ (flatT 4 (ks.map nrmT)).length := by
        have h2 : 2 ≤ ks.length := by
          rcases kind_of HWF.out with ⟨h, _⟩ | ⟨h, _⟩ | ⟨_, _, h⟩
          · omega
          · omega
          · exact h
        exact flatT_pos (by rw [List.length_map]; omega) (by omega) HGO.out
      have HPOS := Lib.hid hpos
      have HMK := Lib.hid (show R = listT 4 allT emptyT (ks.map nrmT) from HR.out.trans (mkT_list (show Trip 4 allT emptyT from .inr (.inl ⟨rfl, rfl, rfl⟩)) 0 _))
      clear hq6 hq2 hq7 hq8 hq9 hq10 hf9 hfl hB6 hW6 hpos
      go_wp2_with fail
      refine HFL.out.mono ?_
      rintro e w7 ⟨v7, rfl, hown⟩
      obtain ⟨⟨es, hes, ho⟩, hbel⟩ := hown
      have hel7 : es.length = (flatT 4 (ks.map nrmT)).length := by rw [← hes, List.length_map]
      have hll : es.length ≤ 1000000000 := by
        have h1 := sizeL_len (flatT 4 (ks.map nrmT))
        have h2 := sizeL_flatT 4 (ks.map nrmT)
        have h3 := HSM.out
        omega
      have HES := Lib.hid hes
      have HB7 := Lib.hid hbel
      have HA7 := Lib.hid (HB6.out.trans (hbel.mono HB6.out.size))
      have HSZ7 := Lib.hid hbel.size
      have HX7 := Lib.hid (HX6.out.keep hbel)
      have HZ7 := Lib.hid (HZ6.out.keep hbel)
      have HQ6 := Lib.hid (HBX.out.1.keep hbel)
      have HQ2 := Lib.hid (HBX.out.2.1.keep hbel)
      have HQ8 := Lib.hid (HBX.out.2.2.1.keep hbel)
      have HQ10 := Lib.hid (HBX.out.2.2.2.1.keep hbel)
      have HO7 := Lib.hid (HBX.out.2.2.2.2.keep hbel)
      rcases ho.2 with ⟨_, h0⟩ | ⟨g, cap, cur, hv, hg, _⟩
      · exact absurd h0 (by have := HPOS.out; omega)
      subst hv
      obtain ⟨_, hL⟩ := BlkX.of_own HA7.out (ownsRow_base ho HB6.out.size)
      have HL := Lib.hid hL
      have hcap := hL.le
      have HGE := Lib.hid (show W6.heap.size ≤ g ∧ g < w7.heap.size from ⟨hg, hL.lt⟩)
      clear hes hbel ho hg hL x0 x1 x2 y0 y1 y2 hel7
      go_wp2_with fail
      go_loopw [121] (fun vi wr => ∃ (j : Nat) (v9 : Value) (L : List (ExIn wA)), j ≤ es.length ∧ vi = .int .i64 j ∧ ButX w7.heap.size (wA.heap.size + 4) w7 wr ∧ OutB wr (wA.heap.size + 4) (.int .i64 4) (.int .i64 0) v9 ∧ wr.ownsRow w7.heap.size 24 3 v9 L.length (cellsE L) ∧ L.map (·.1.t) = accT 4 (((es.map (·.1.t)).take j).filter fun k => !isT k emptyT) ∧ L.length ≤ j ∧ ∀ q (h : q < es.length), q < j → isT es[q].1.t allT = false) (fun vi _ => es.length - (intOf vi).toNat)
      case atStart => exact ⟨0, .slice none 0 0, [], Nat.zero_le _, rfl, ButX.refl _ _ _, HO7.out, World.ownsRow_nil _ _ _ _, by simp [accT, setT], Nat.le_refl _, fun q _ h => by omega⟩
      case round =>
        rename World => wB
        obtain ⟨j, v9, L, hj, rfl, hbut, hout, hrow, hacc, hLj, hno⟩ := hrel
        have hneg : g ≠ wA.heap.size + 4 := by have := HGE.out.1; have := HSZ6.out; omega
        have hAB : Below wA.heap.size wA wB := HA7.out.trans (hbut.below (by have := HA7.out.size; omega) (by omega))
        have HAB := Lib.hid hAB
        have HBUT := Lib.hid hbut
        have HOUT := Lib.hid hout
        have HROW := Lib.hid hrow
        have HACC := Lib.hid hacc
        have HNO := Lib.hid hno
        by_cases hlt : j < es.length
        · obtain ⟨c0', c1', c2'⟩ := HL.out.get hlt
          have d0 := (hbut.cell (o := j * 3) HGE.out.2 hneg).trans c0'
          have d1 := (hbut.cell (o := j * 3 + 1) HGE.out.2 hneg).trans c1'
          have d2 := (hbut.cell (o := j * 3 + 2) HGE.out.2 hneg).trans c2'
          have hj0 : (0 : Int) ≤ (j : Int) := by omega
          have hjn : (j : Int) < (es.length : Int) := by omega
          have hwj : IntKind.i64.wrap (j : Int) = (j : Int) := IntWalk.i64_in _ (by omega)
          obtain ⟨x, hx⟩ : ∃ x, x = es[j] := ⟨_, rfl⟩
          rw [← hx] at d0 d1 d2
          have HX := Lib.hid hx
          have hxw : wfT 6 (.node x.1.op x.1.l x.1.ks) = true := by
            have hm : x.1.t ∈ flatT 4 (ks.map nrmT) := by rw [← HES.out, hx]; exact List.mem_map.2 ⟨es[j], List.getElem_mem hlt, rfl⟩
            exact (flatT_good (.inl rfl) HGO.out _ hm).1.1
          have HXW := Lib.hid hxw
          obtain ⟨xn, hxn⟩ : ∃ n, n = x.1.ks.length := ⟨_, rfl⟩
          rw [← hxn] at d2
          have HXN := Lib.hid hxn
          clear hbut hout hrow hacc hno hx hxw hxn c0' c1' c2' hAB
          have HBC := Lib.hid (show Below wB.heap.size wB (wB.alloc (.cells #[.int .i64 x.1.op, .int .i64 x.1.l, .slice x.1.a xn x.1.c] 24)) from below_al (Below.refl _ _))
          have HBUC := Lib.hid (HBUT.out.on HBC.out (Nat.le_refl _))
          have HXB := Lib.hid (Box.new wB (.int .i64 x.1.op) (.int .i64 x.1.l) (.slice x.1.a xn x.1.c))
          have HEP := Lib.hid (is_empty HXW.out)
          have HUN := Lib.hid (is_unit HXW.out)
          have CU := Lib.hid (fun W (h : Below wA.heap.size wA W) => univ_any x.1.op x.1.l x.1.ks x.1.a x.1.c W (x.2.keep h) HXW.out)
          rw [← HXN.out] at CU
          obtain ⟨r, hr⟩ : ∃ r, r = isT (.node x.1.op x.1.l x.1.ks) allT := ⟨_, rfl⟩
          rw [← hr] at CU
          have HUR := Lib.hid (show isT x.1.t allT = r from hr.symm)
          clear hr
          have HABC := Lib.hid (HAB.out.trans (HBC.out.mono HAB.out.size))
          go_wp2_with fail
          refine (CU.out _ HABC.out).mono ?_
          rintro e w8 ⟨rfl, hB⟩
          have HBD := Lib.hid (HBC.out.trans (hB.mono HBC.out.size))
          have HBUD := Lib.hid (HBUT.out.on HBD.out (Nat.le_refl _))
          have HXBD := Lib.hid (HXB.out.keep hB)
          have HOUTW := Lib.hid (HOUT.out.keep HBD.out)
          have HROWW := Lib.hid (show w8.ownsRow w7.heap.size 24 3 v9 L.length (cellsE L) from own_keep HROW.out HBD.out)
          have HABD := Lib.hid (HAB.out.trans (HBD.out.mono HAB.out.size))
          clear hB
          obtain ⟨x0, x1, x2⟩ := HXBD.out
          cases r
          · have HISA := Lib.hid (show isT x.1.t allT = false from HUR.out)
            by_cases h1 : x.1.op = 1
            · have t1 : (x.1.op != 1) = false := by simp [h1]
              have HISN := Lib.hid (show isT x.1.t emptyT = true from HEP.out.trans (by simp [h1]))
              clear h1
              have HACC2 := Lib.hid (HACC.out.trans (acc_skip (op := 4) (ne := emptyT) (l := es.map (·.1.t)) (i := j) (by simpa using hlt) (by rw [List.getElem_map, ← HX.out]; exact HISN.out)).symm)
              have HNO2 := Lib.hid (show ∀ q (h : q < es.length), q < j + 1 → isT es[q].1.t allT = false from fun q h hq => by
                by_cases e : q = j
                · subst e; rw [← HX.out]; exact HISA.out
                · exact HNO.out q h (by omega))
              go_wp2_with fail
              exact ⟨⟨j + 1, v9, L, by omega, by go_num, HBUD.out, HOUTW.out, HROWW.out, HACC2.out, by omega, HNO2.out⟩, by simp [intOf]; omega⟩
            · have t1 : (x.1.op != 1) = true := by simp [h1]
              have HISN := Lib.hid (show isT x.1.t emptyT = false from HEP.out.trans (by simp [h1]))
              clear h1
              have HACC2 := Lib.hid (show ∀ es' : List (ExIn wA), es'.map (·.1.t) = insT (L.map (·.1.t)) x.1.t → es'.map (·.1.t) = accT 4 (((es.map (·.1.t)).take (j + 1)).filter fun k => !isT k emptyT) from fun es' h => by
                rw [acc_ins (op := 4) (by decide) (l := es.map (·.1.t)) (i := j) (by simpa using hlt) (by rw [List.getElem_map, ← HX.out]; exact HISN.out), h, HACC.out, List.getElem_map, ← HX.out])
              have HNO2 := Lib.hid (show ∀ q (h : q < es.length), q < j + 1 → isT es[q].1.t allT = false from fun q h hq => by
                by_cases e : q = j
                · subst e; rw [← HX.out]; exact HISA.out
                · exact HNO.out q h (by omega))
              obtain ⟨o0, o1, o2⟩ := HOUTW.out.1
              have HIN := Lib.hid (insert_any wA w8 HABD.out w7.heap.size HA7.out.size HBUD.out.size v9 L HROWW.out (by rw [HACC.out]; exact acc_strict (op := 4) (by decide) _) (by omega) x)
              rw [← HXN.out] at HIN
              go_wp2_with fail
              refine HIN.out.mono ?_
              rintro e w9 ⟨v', es', rfl, hrow', hmap', hlen', hB⟩
              obtain ⟨vo, vn, vc, rfl⟩ := own_form hrow'
              have HB9 := Lib.hid hB
              have HBU9 := Lib.hid (HBUD.out.on hB (Nat.le_refl _))
              have HO9 := Lib.hid (HOUTW.out.keep hB)
              have HACC3 := Lib.hid (HACC2.out es' hmap')
              have HR9 := Lib.hid hrow'
              clear hB hmap' hrow' o0 o1 o2
              obtain ⟨o0, o1, o2⟩ := HO9.out.1
              have of2 := HO9.out.2
              have HFIN := Lib.hid (show ButX w7.heap.size (wA.heap.size + 4) w7 (w9.setCell ⟨wA.heap.size + 4, 2, none⟩ (.slice vo vn vc)) ∧ OutB (w9.setCell ⟨wA.heap.size + 4, 2, none⟩ (.slice vo vn vc)) (wA.heap.size + 4) (.int .i64 4) (.int .i64 0) (.slice vo vn vc) ∧ (w9.setCell ⟨wA.heap.size + 4, 2, none⟩ (.slice vo vn vc)).ownsRow w7.heap.size 24 3 (.slice vo vn vc) es'.length (cellsE es') from ⟨HBU9.out.setCell 2 (.slice vo vn vc), HO9.out.set (.slice vo vn vc), ownsRow_setCell_below HR9.out (a := ⟨wA.heap.size + 4, 2, none⟩) (by have := HSZ6.out; have := HSZ7.out; simp; omega) (.slice vo vn vc)⟩)
              go_wp2_with fail
              exact ⟨⟨j + 1, (.slice vo vn vc), es', by omega, by go_num, HFIN.out.1, HFIN.out.2.1, HFIN.out.2.2, HACC3.out, by omega, HNO2.out⟩, by simp [intOf]; omega⟩
          · have HISA := Lib.hid (show isT es[j].1.t allT = true by rw [← HX.out]; exact HUR.out)
            obtain ⟨q0, q1, q2⟩ := HBUD.out.box (by omega) HQ8.out
            obtain ⟨⟨z0, z1, z2⟩, f0, f1, f2⟩ := HBUD.out.zero (by omega) HZ7.out
            have HRF := Lib.hid (HMK.out.trans (list_ab (ne := emptyT) hlt HES.out HISA.out))
            have HBF := Lib.hid (below_ret (HBA.out.trans ((HA7.out.trans (HBUD.out.below (by have := HA7.out.size; omega) (by omega))).mono HBA.out.size)) (b0 := w.heap.size + 1) (by omega) (.int .i64 8) (.int .i64 0) (.slice (some ⟨wA.heap.size + 2, 0, none⟩) 1 1))
            have HBK := Lib.hid (box_ret (g := wA.heap.size + 2) (HBUD.out.box (by omega) HQ2.out) (b0 := w.heap.size + 1) (by omega) (.int .i64 8) (.int .i64 0) (.slice (some ⟨wA.heap.size + 2, 0, none⟩) 1 1))
            go_wp2_with fail
            refine bodyPost_ret (v := .agg #[.int .i64 8, .int .i64 0, .slice (some ⟨wA.heap.size + 2, 0, none⟩) 1 1]) (by simp [results, Try.results10, go_sem, z0, z1, z2]) rfl ?_
            rw [HRF.out]
            exact ⟨_, _, rfl, inX_all2 (HBK.out), HBF.out⟩
        · obtain rfl : j = es.length := by omega
          have HLN := Lib.hid (list_no (ne := emptyT) HES.out (fun q h => HNO.out q h h))
          have hqs : L.map (·.1.t) = qsT 4 emptyT (ks.map nrmT) := by rw [HACC.out, List.take_of_length_le (by simp), HES.out]; rfl
          obtain ⟨⟨z0, z1, z2⟩, f0, f1, f2⟩ := HBUT.out.zero (by omega) HZ7.out
          clear hbut hout hacc hno hAB
          rcases hrow.2 with ⟨rfl, h0⟩ | ⟨g9, cap9, cur9, rfl, _⟩
          · have HQS := Lib.hid (show qsT 4 emptyT (ks.map nrmT) = [] by rw [← hqs, List.eq_nil_of_length_eq_zero h0]; rfl)
            clear hqs hrow
            have HRF := Lib.hid (show R = emptyT by rw [HMK.out, HLN.out, HQS.out]; rfl)
            have HBF := Lib.hid (below_ret (HBA.out.trans (HAB.out.mono HBA.out.size)) (b0 := w.heap.size + 1) (by omega) (.int .i64 1) (.int .i64 0) (.slice none 0 0))
            obtain ⟨q0, q1, q2⟩ := HBUT.out.box (by omega) HQ10.out
            obtain ⟨o0, o1, o2⟩ := HOUT.out.1
            go_wp2_with fail
            refine bodyPost_ret (v := .agg #[.int .i64 1, .int .i64 0, .slice none 0 0]) (by simp [results, Try.results10, go_sem, z0, z1, z2]) rfl ?_
            rw [HRF.out]
            exact ⟨_, _, rfl, inX_empty _, HBF.out⟩
          · obtain ⟨_, hL9⟩ := BlkX.of_own HAB.out (ownsRow_base hrow HA7.out.size)
            have HL9 := Lib.hid hL9
            have hle9 := hL9.le
            have HQQ := Lib.hid hqs
            clear hqs hrow hL9
            by_cases e0 : L.length = 0
            · have t0 : ((L.length : Int) == 0) = true := by rw [e0]; rfl
              have HQS := Lib.hid (show qsT 4 emptyT (ks.map nrmT) = [] by rw [← HQQ.out, List.eq_nil_of_length_eq_zero e0]; rfl)
              have HRF := Lib.hid (show R = emptyT by rw [HMK.out, HLN.out, HQS.out]; rfl)
              have HBF := Lib.hid (below_ret (HBA.out.trans (HAB.out.mono HBA.out.size)) (b0 := w.heap.size + 1) (by omega) (.int .i64 1) (.int .i64 0) (.slice none 0 0))
              obtain ⟨q0, q1, q2⟩ := HBUT.out.box (by omega) HQ10.out
              obtain ⟨o0, o1, o2⟩ := HOUT.out.1
              go_wp2_with fail
              refine bodyPost_ret (v := .agg #[.int .i64 1, .int .i64 0, .slice none 0 0]) (by simp [results, Try.results10, go_sem, z0, z1, z2]) rfl ?_
              rw [HRF.out]
              exact ⟨_, _, rfl, inX_empty _, HBF.out⟩
            · have t0 : ((L.length : Int) == 0) = false := ne_beq (by omega)
              obtain ⟨o0, o1, o2⟩ := HOUT.out.1
              by_cases e1 : L.length = 1
              · have t1 : ((L.length : Int) == 1) = true := by rw [e1]; rfl
                have hp0 : (0 : Int) < (L.length : Int) := by omega
                obtain ⟨c0', c1', c2'⟩ := HL9.out.get (i := 0) (by omega)
                simp only [Nat.zero_mul, Nat.zero_add] at c0' c1' c2'
                obtain ⟨x, hx⟩ : ∃ x, x = L[0] := ⟨_, rfl⟩
                rw [← hx] at c0' c1' c2'
                have HF := Lib.hid (show R = x.1.t by
                  have h1 := HQQ.out
                  obtain ⟨b, hb⟩ := List.length_eq_one_iff.1 e1
                  rw [HMK.out, HLN.out, ← h1, hx]
                  simp [hb, outT])
                clear hx
                have HBF := Lib.hid (below_ret (HBA.out.trans (HAB.out.mono HBA.out.size)) (b0 := w.heap.size + 1) (by omega) (.int .i64 x.1.op) (.int .i64 x.1.l) (.slice x.1.a x.1.ks.length x.1.c))
                have HXF := Lib.hid (inX_ret (x := x.1) z0 z1 z2 (x.2.keep HAB.out) (by rw [← HF.out]; exact HGD.out) (.int .i64 x.1.op) (.int .i64 x.1.l) (.slice x.1.a x.1.ks.length x.1.c))
                go_wp2_with fail
                refine bodyPost_ret (v := .agg #[.int .i64 x.1.op, .int .i64 x.1.l, .slice x.1.a x.1.ks.length x.1.c]) (by simp [results, Try.results10, go_sem, z0, z1, z2]) rfl ⟨x.1.a, x.1.c, by rw [HF.out]; rfl, by rw [HF.out]; exact HXF.out, HBF.out⟩
              · have t1 : ((L.length : Int) == 1) = false := ne_beq (by omega)
                have HF := Lib.hid (show R = .node 4 0 (L.map (·.1.t)) by
                  rw [HMK.out, HLN.out, ← HQQ.out]
                  exact outT_two 4 emptyT (by simp; omega))
                have hxi := HL9.out.inx (op := 4) (l := 0) (by unfold B64; omega) (by unfold B64; omega)
                have HXF := Lib.hid (inX_ret (x := ⟨4, 0, L.map (fun y => y.1.t), some ⟨g9, 0, none⟩, cap9⟩) z0 z1 z2 hxi (by rw [HF.out] at HGD; exact HGD.out) (.int .i64 4) (.int .i64 0) (.slice (some ⟨g9, 0, none⟩) L.length cap9))
                have HBF := Lib.hid (below_ret (HBA.out.trans (HAB.out.mono HBA.out.size)) (b0 := w.heap.size + 1) (by omega) (.int .i64 4) (.int .i64 0) (.slice (some ⟨g9, 0, none⟩) L.length cap9))
                clear hxi
                go_wp2_with fail
                refine bodyPost_ret (v := .agg #[.int .i64 4, .int .i64 0, .slice (some ⟨g9, 0, none⟩) L.length cap9]) (by simp [results, Try.results10, go_sem, z0, z1, z2]) rfl ⟨some ⟨g9, 0, none⟩, cap9, by rw [HF.out]; simp [T.op, T.lt, T.ks], by rw [HF.out]; exact HXF.out, HBF.out⟩
set_option maxRecDepth 100000 in
set_option maxHeartbeats 16000000 in
theorem refN_6 (ks : List T) (hw : wfT 6 (.node 6 0 ks) = true) (hs : sizeT (.node 6 0 ks) ≤ 1000000000) (ih : ∀ (i : Nat) (o l : Int) (ls : List T), ks[i]? = some (.node o l ls) → ∀ (a : Option Addr) (c : Nat) (w : World), InX w o l ls a → Calls Try.prog 10 #[.agg #[.int .i64 o, .int .i64 l, .slice a ls.length c]] w (GiveT w (nrmT (.node o l ls)))) (a : Option Addr) (c : Nat) (w : World) (hin : InX w 6 0 ks a) :
    Calls Try.prog 10 #[.agg #[.int .i64 6, .int .i64 0, .slice a ks.length c]] w (GiveT w (nrmT (.node 6 0 ks))) := by
  have HI := Lib.hid hin
  have hsk : sizeL ks < 1000000000 := by simp only [sizeT] at hs; omega
  have hlk : ks.length ≤ 1000000000 := by have := sizeL_len ks; omega
  have HWF := Lib.hid hw
  have HW := Lib.hid (wfT_node.1 hw).2.2
  have IH := Lib.hid ih
  have hgood : ∀ k, k ∈ ks.map nrmT → GoodT k := fun k hk => by
    obtain ⟨x, hx, rfl⟩ := List.mem_map.1 hk
    exact (nrm_all x ((wfT_node.1 hw).2.2 x hx)).1
  have hsm : sizeL (ks.map nrmT) ≤ 1000000000 := by
    have := sizeL_map fun k hk => (nrm_all k ((wfT_node.1 hw).2.2 k hk)).2.1
    omega
  have HGO := Lib.hid hgood
  have HSM := Lib.hid hsm
  have hgd := (nrm_all _ hw).1.1
  rw [nrmT_node] at hgd ⊢
  obtain ⟨R, hR⟩ : ∃ R, R = mkT 6 0 (ks.map nrmT) := ⟨_, rfl⟩
  rw [← hR] at hgd ⊢
  have HR := Lib.hid hR
  have HGD := Lib.hid hgd
  obtain ⟨n, hn⟩ : ∃ n, n = ks.length := ⟨_, rfl⟩
  rw [← hn] at hlk ⊢
  have HN := Lib.hid hn
  obtain ⟨W2, hW2⟩ : ∃ W, W = (w.alloc (.cells #[.int .i64 6, .int .i64 0, .slice a n c] 24)).alloc (.cells #[.int .i64 0, .int .i64 0, .slice none 0 0] 24) := ⟨_, rfl⟩
  have HW2 := Lib.hid hW2
  have HB2 := Lib.hid (show Below w.heap.size w W2 by rw [hW2]; exact ((Below.refl w.heap.size w).alloc (Nat.le_refl _) _).alloc (by simp) _)
  have HBX2 := Lib.hid (show Box W2 w.heap.size (.int .i64 6) (.int .i64 0) (.slice a n c) by rw [hW2]; exact (Box.new w _ _ _).alloc _)
  have HZ2 := Lib.hid (show Zero3 W2 (w.heap.size + 1) by
    rw [hW2]; have := Zero3.new (w.alloc (.cells #[.int .i64 6, .int .i64 0, .slice a n c] 24)); simpa using this)
  have hsz2 : W2.heap.size = w.heap.size + 2 := by rw [hW2]; simp
  clear hin hw hs ih hgood hsm hgd hR hn hW2 hsk
  obtain ⟨i0, hinf, hz0, hz1, hz2⟩ := info_parts infoE
  go_enter Try.func10, Try.ntmps10
  go_wp2_with fail
  rw [← HW2.out]
  go_loopw [3, 21] (fun vp vi wr => ∃ (i : Nat) (es : List Ex), i ≤ n ∧ vi = .int .i64 i ∧ es.length = i ∧ es.map Ex.t = (ks.take i).map nrmT ∧ FillV W2 wr vp es) (fun _ vi _ => n - (intOf vi).toNat)
  case atStart => exact ⟨0, [], Nat.zero_le _, rfl, rfl, by simp, .inl ⟨rfl, rfl, Below.refl _ _⟩⟩
  case round =>
    rename World => wA
    obtain ⟨i, es, hi, rfl, hel, hmp, hF⟩ := hrel
    have HF := Lib.hid hF
    have HMP := Lib.hid hmp
    by_cases hlt : i < n
    · have hlt' : i < ks.length := by rw [← HN.out]; exact hlt
      obtain ⟨ko, kl, kk, hk, hk2⟩ := kid_some hlt'
      obtain ⟨b, off, a', c', rfl, hbz, d0, d1, d2, hx⟩ := (HI.out.keep (HB2.out.trans (hF.bel.mono HB2.out.size))).kid hk
      have hi0 : (0 : Int) ≤ (i : Int) := by omega
      have hin2 : (i : Int) < (n : Int) := by omega
      have hwi : IntKind.i64.wrap (i : Int) = (i : Int) := IntWalk.i64_in _ (by omega)
      obtain ⟨ro', rl', rk', hr'⟩ : ∃ o l k, nrmT (.node ko kl kk) = .node o l k := by
        cases h : nrmT (.node ko kl kk) with
        | node o l k => exact ⟨o, l, k, rfl⟩
      obtain ⟨kn, hkn⟩ : ∃ n, n = kk.length := ⟨_, rfl⟩
      rw [← hkn] at d2
      have HC := Lib.hid (IH.out i ko kl kk hk a' c' _ (hx.box (.cells #[.int .i64 ko, .int .i64 kl, .slice a' kn c'] 24)))
      rw [hr', ← hkn] at HC
      have HG' := Lib.hid (show wfT 6 (.node ro' rl' rk') = true by rw [← hr']; exact (nrm_all _ (HW.out _ (List.mem_of_getElem? hk))).1.1)
      have HM' := Lib.hid (show es.map Ex.t ++ [.node ro' rl' rk'] = (ks.take (i + 1)).map nrmT by rw [take_map_snoc hlt', HMP.out, hk2, hr'])
      clear hk hk2 hx hr' hkn hF hmp
      go_wp2_with fail
      refine HC.out.mono ?_
      rintro e w5 hgv
      obtain ⟨a5, c5, rfl, hx5, hb5⟩ := give_node.1 hgv
      have HF5 := Lib.hid ((HF.out.alloc (.cells #[.int .i64 ko, .int .i64 kl, .slice a' kn c'] 24)).keep hb5 (Nat.le_refl _))
      have HX5 := Lib.hid hx5
      clear hgv hx5 hb5
      go_wp2_with (at_builtin; refine wpList_append_fill rfl _ _ 22 rfl i0 Try.underlying22 hinf hz0 hz1 hz2 W2 _ es rfl (HF5.out.alloc _) ⟨_, 0, none⟩ 1 ⟨ro', rl', rk', a5, c5⟩ rfl ?c1 ?c2 HG'.out ?c3 ?_)
      case c1 => exact World.news_of_block (cs := #[.int .i64 ro', .int .i64 rl', .slice a5 rk'.length c5]) (t := 24) (fr := (0, 0)) (by have h := heap_alloc_new w5 (.cells #[.int .i64 ro', .int .i64 rl', .slice a5 rk'.length c5] 24); simpa using h)
      case c2 => exact HX5.out.box _
      case c3 => omega
      intro v' w6 hf6
      have HF6 := Lib.hid hf6
      clear hf6
      go_wp2_with fail
      exact ⟨⟨i + 1, es ++ [(⟨ro', rl', rk', a5, c5⟩ : Ex)], by omega, by go_num, by simp [hel], by rw [List.map_append]; exact HM'.out, by exact HF6.out⟩, by simp [intOf]; omega⟩
    · obtain rfl : i = n := by omega
      obtain ⟨a0, c0, rfl, hK⟩ := hF.kids (op := 0) (l := 0) (by unfold B64; omega) (by unfold B64; omega)
      rw [hmp, HN.out, List.take_length] at hK
      have HK := Lib.hid hK
      have HBA := Lib.hid (HB2.out.trans (hF.bel.mono HB2.out.size))
      have HZA := Lib.hid (HZ2.out.keep hF.bel)
      have HXA := Lib.hid (HBX2.out.keep hF.bel)
      have hszA : w.heap.size + 2 ≤ wA.heap.size := by have := hF.bel.size; omega
      have hkl : (ks.map nrmT).length = i := by rw [List.length_map, ← HN.out]
      rw [hel] at *
      clear hF hmp hK HF HMP
      obtain ⟨x0, x1, x2⟩ := HXA.out.keep (show Below wA.heap.size wA ((((wA.alloc (.cells #[.int .i64 1, .int .i64 0, .slice none 0 0] 24)).alloc (.cells #[.int .i64 2, .int .i64 0, .slice none 0 0] 24)).alloc (.cells #[.int .i64 1, .int .i64 0, .slice none 0 0] 24)).alloc (.cells #[.int .i64 8, .int .i64 0, .slice (some ⟨wA.heap.size + 2, 0, none⟩) 1 1] 24)) from below_al (below_al (below_al (below_al (Below.refl _ _)))))
      obtain ⟨y0, y1, y2⟩ := HXA.out.keep (show Below wA.heap.size wA ((((((wA.alloc (.cells #[.int .i64 1, .int .i64 0, .slice none 0 0] 24)).alloc (.cells #[.int .i64 2, .int .i64 0, .slice none 0 0] 24)).alloc (.cells #[.int .i64 1, .int .i64 0, .slice none 0 0] 24)).alloc (.cells #[.int .i64 8, .int .i64 0, .slice (some ⟨wA.heap.size + 2, 0, none⟩) 1 1] 24)).alloc (.cells #[.int .i64 6, .int .i64 0, .slice none 0 0] 24)).alloc (.cells #[.int .i64 1, .int .i64 0, .slice none 0 0] 24)) from below_al (below_al (below_al (below_al (below_al (below_al (Below.refl _ _)))))))
      obtain ⟨W6, hW6⟩ : ∃ W, W = ((((((wA.alloc (.cells #[.int .i64 1, .int .i64 0, .slice none 0 0] 24)).alloc (.cells #[.int .i64 2, .int .i64 0, .slice none 0 0] 24)).alloc (.cells #[.int .i64 1, .int .i64 0, .slice none 0 0] 24)).alloc (.cells #[.int .i64 8, .int .i64 0, .slice (some ⟨wA.heap.size + 2, 0, none⟩) 1 1] 24)).alloc (.cells #[.int .i64 6, .int .i64 0, .slice none 0 0] 24)).alloc (.cells #[.int .i64 8, .int .i64 0, .slice (some ⟨wA.heap.size + 2, 0, none⟩) 1 1] 24)) := ⟨_, rfl⟩
      have hB6 : Below wA.heap.size wA W6 := by rw [hW6]; exact below_al (below_al (below_al (below_al (below_al (below_al (Below.refl _ _))))))
      have hsz6 : W6.heap.size = wA.heap.size + 6 := by rw [hW6]; simp
      obtain ⟨u0, u1, u2⟩ := HXA.out.keep hB6
      rw [hW6] at u0 u1 u2
      have hq6 : Box W6 wA.heap.size (.int .i64 1) (.int .i64 0) (.slice none 0 0) := by
        rw [hW6]; have := ((((((Box.new wA (.int .i64 1) (.int .i64 0) (.slice none 0 0)).alloc (.cells #[.int .i64 2, .int .i64 0, .slice none 0 0] 24)).alloc (.cells #[.int .i64 1, .int .i64 0, .slice none 0 0] 24)).alloc (.cells #[.int .i64 8, .int .i64 0, .slice (some ⟨wA.heap.size + 2, 0, none⟩) 1 1] 24)).alloc (.cells #[.int .i64 6, .int .i64 0, .slice none 0 0] 24)).alloc (.cells #[.int .i64 8, .int .i64 0, .slice (some ⟨wA.heap.size + 2, 0, none⟩) 1 1] 24)); simpa using this
      have hq7 : Box W6 (wA.heap.size + 1) (.int .i64 2) (.int .i64 0) (.slice none 0 0) := by
        rw [hW6]; have := (((((Box.new (wA.alloc (.cells #[.int .i64 1, .int .i64 0, .slice none 0 0] 24)) (.int .i64 2) (.int .i64 0) (.slice none 0 0)).alloc (.cells #[.int .i64 1, .int .i64 0, .slice none 0 0] 24)).alloc (.cells #[.int .i64 8, .int .i64 0, .slice (some ⟨wA.heap.size + 2, 0, none⟩) 1 1] 24)).alloc (.cells #[.int .i64 6, .int .i64 0, .slice none 0 0] 24)).alloc (.cells #[.int .i64 8, .int .i64 0, .slice (some ⟨wA.heap.size + 2, 0, none⟩) 1 1] 24)); simpa using this
      have hq2 : Box W6 (wA.heap.size + 2) (.int .i64 1) (.int .i64 0) (.slice none 0 0) := by
        rw [hW6]; have := ((((Box.new ((wA.alloc (.cells #[.int .i64 1, .int .i64 0, .slice none 0 0] 24)).alloc (.cells #[.int .i64 2, .int .i64 0, .slice none 0 0] 24)) (.int .i64 1) (.int .i64 0) (.slice none 0 0)).alloc (.cells #[.int .i64 8, .int .i64 0, .slice (some ⟨wA.heap.size + 2, 0, none⟩) 1 1] 24)).alloc (.cells #[.int .i64 6, .int .i64 0, .slice none 0 0] 24)).alloc (.cells #[.int .i64 8, .int .i64 0, .slice (some ⟨wA.heap.size + 2, 0, none⟩) 1 1] 24)); simpa using this
      have hq8 : Box W6 (wA.heap.size + 3) (.int .i64 8) (.int .i64 0) (.slice (some ⟨wA.heap.size + 2, 0, none⟩) 1 1) := by
        rw [hW6]; have := (((Box.new (((wA.alloc (.cells #[.int .i64 1, .int .i64 0, .slice none 0 0] 24)).alloc (.cells #[.int .i64 2, .int .i64 0, .slice none 0 0] 24)).alloc (.cells #[.int .i64 1, .int .i64 0, .slice none 0 0] 24)) (.int .i64 8) (.int .i64 0) (.slice (some ⟨wA.heap.size + 2, 0, none⟩) 1 1)).alloc (.cells #[.int .i64 6, .int .i64 0, .slice none 0 0] 24)).alloc (.cells #[.int .i64 8, .int .i64 0, .slice (some ⟨wA.heap.size + 2, 0, none⟩) 1 1] 24)); simpa using this
      have hq9 : Box W6 (wA.heap.size + 4) (.int .i64 6) (.int .i64 0) (.slice none 0 0) := by
        rw [hW6]; have := ((Box.new ((((wA.alloc (.cells #[.int .i64 1, .int .i64 0, .slice none 0 0] 24)).alloc (.cells #[.int .i64 2, .int .i64 0, .slice none 0 0] 24)).alloc (.cells #[.int .i64 1, .int .i64 0, .slice none 0 0] 24)).alloc (.cells #[.int .i64 8, .int .i64 0, .slice (some ⟨wA.heap.size + 2, 0, none⟩) 1 1] 24)) (.int .i64 6) (.int .i64 0) (.slice none 0 0)).alloc (.cells #[.int .i64 8, .int .i64 0, .slice (some ⟨wA.heap.size + 2, 0, none⟩) 1 1] 24)); simpa using this
      have hq10 : Box W6 (wA.heap.size + 5) (.int .i64 8) (.int .i64 0) (.slice (some ⟨wA.heap.size + 2, 0, none⟩) 1 1) := by
        rw [hW6]; have := (Box.new (((((wA.alloc (.cells #[.int .i64 1, .int .i64 0, .slice none 0 0] 24)).alloc (.cells #[.int .i64 2, .int .i64 0, .slice none 0 0] 24)).alloc (.cells #[.int .i64 1, .int .i64 0, .slice none 0 0] 24)).alloc (.cells #[.int .i64 8, .int .i64 0, .slice (some ⟨wA.heap.size + 2, 0, none⟩) 1 1] 24)).alloc (.cells #[.int .i64 6, .int .i64 0, .slice none 0 0] 24)) (.int .i64 8) (.int .i64 0) (.slice (some ⟨wA.heap.size + 2, 0, none⟩) 1 1)); simpa using this
      have hf9 : W6.frozen? ⟨wA.heap.size + 4, 2, none⟩ = false := by rw [hW6]; simp [go_sem]
      have HX6 := Lib.hid (HXA.out.keep hB6)
      have HZ6 := Lib.hid (HZA.out.keep hB6)
      have hfl : Calls Try.prog 22 #[.int .i64 6, .slice a0 i c0] ((((((wA.alloc (.cells #[.int .i64 1, .int .i64 0, .slice none 0 0] 24)).alloc (.cells #[.int .i64 2, .int .i64 0, .slice none 0 0] 24)).alloc (.cells #[.int .i64 1, .int .i64 0, .slice none 0 0] 24)).alloc (.cells #[.int .i64 8, .int .i64 0, .slice (some ⟨wA.heap.size + 2, 0, none⟩) 1 1] 24)).alloc (.cells #[.int .i64 6, .int .i64 0, .slice none 0 0] 24)).alloc (.cells #[.int .i64 8, .int .i64 0, .slice (some ⟨wA.heap.size + 2, 0, none⟩) 1 1] 24)) fun e w' => ∃ v, e = .returned v ∧ OwnY wA W6 w' v (flatT 6 (ks.map nrmT)) := by
        rw [← hW6, ← hkl]
        exact flatY_any 6 (.inr (.inr rfl)) (ks.map nrmT) HGO.out HSM.out a0 c0 wA W6 hB6 HK.out
      have HFL := Lib.hid hfl
      have HB6 := Lib.hid hB6
      have HBX := Lib.hid (And.intro hq6 (And.intro hq2 (And.intro hq8 (And.intro hq10 (show OutB W6 (wA.heap.size + 4) (.int .i64 6) (.int .i64 0) (.slice none 0 0) from ⟨hq9, hf9⟩)))))
      have HSZ6 := Lib.hid hsz6
      have hpos : 1 ≤ (flatT 6 (ks.map nrmT)).length := by
        have h2 : 2 ≤ ks.length := by
          rcases kind_of HWF.out with ⟨h, _⟩ | ⟨h, _⟩ | ⟨_, _, h⟩
          · omega
          · omega
          · exact h
        exact flatT_pos (by rw [List.length_map]; omega) (by omega) HGO.out
      have HPOS := Lib.hid hpos
      have HMK := Lib.hid (show R = listT 6 emptyT allT (ks.map nrmT) from HR.out.trans (mkT_list (show Trip 6 emptyT allT from .inr (.inr ⟨rfl, rfl, rfl⟩)) 0 _))
      clear hq6 hq2 hq7 hq8 hq9 hq10 hf9 hfl hB6 hW6 hpos
      go_wp2_with fail
      refine HFL.out.mono ?_
      rintro e w7 ⟨v7, rfl, hown⟩
      obtain ⟨⟨es, hes, ho⟩, hbel⟩ := hown
      have hel7 : es.length = (flatT 6 (ks.map nrmT)).length := by rw [← hes, List.length_map]
      have hll : es.length ≤ 1000000000 := by
        have h1 := sizeL_len (flatT 6 (ks.map nrmT))
        have h2 := sizeL_flatT 6 (ks.map nrmT)
        have h3 := HSM.out
        omega
      have HES := Lib.hid hes
      have HB7 := Lib.hid hbel
      have HA7 := Lib.hid (HB6.out.trans (hbel.mono HB6.out.size))
      have HSZ7 := Lib.hid hbel.size
      have HX7 := Lib.hid (HX6.out.keep hbel)
      have HZ7 := Lib.hid (HZ6.out.keep hbel)
      have HQ6 := Lib.hid (HBX.out.1.keep hbel)
      have HQ2 := Lib.hid (HBX.out.2.1.keep hbel)
      have HQ8 := Lib.hid (HBX.out.2.2.1.keep hbel)
      have HQ10 := Lib.hid (HBX.out.2.2.2.1.keep hbel)
      have HO7 := Lib.hid (HBX.out.2.2.2.2.keep hbel)
      rcases ho.2 with ⟨_, h0⟩ | ⟨g, cap, cur, hv, hg, _⟩
      · exact absurd h0 (by have := HPOS.out; omega)
      subst hv
      obtain ⟨_, hL⟩ := BlkX.of_own HA7.out (ownsRow_base ho HB6.out.size)
      have HL := Lib.hid hL
      have hcap := hL.le
      have HGE := Lib.hid (show W6.heap.size ≤ g ∧ g < w7.heap.size from ⟨hg, hL.lt⟩)
      clear hes hbel ho hg hL x0 x1 x2 y0 y1 y2 hel7
      go_wp2_with fail
      go_loopw [145] (fun vi wr => ∃ (j : Nat) (v9 : Value) (L : List (ExIn wA)), j ≤ es.length ∧ vi = .int .i64 j ∧ ButX w7.heap.size (wA.heap.size + 4) w7 wr ∧ OutB wr (wA.heap.size + 4) (.int .i64 6) (.int .i64 0) v9 ∧ wr.ownsRow w7.heap.size 24 3 v9 L.length (cellsE L) ∧ L.map (·.1.t) = accT 6 (((es.map (·.1.t)).take j).filter fun k => !isT k allT) ∧ L.length ≤ j ∧ ∀ q (h : q < es.length), q < j → isT es[q].1.t emptyT = false) (fun vi _ => es.length - (intOf vi).toNat)
      case atStart => exact ⟨0, .slice none 0 0, [], Nat.zero_le _, rfl, ButX.refl _ _ _, HO7.out, World.ownsRow_nil _ _ _ _, by simp [accT, setT], Nat.le_refl _, fun q _ h => by omega⟩
      case round =>
        rename World => wB
        obtain ⟨j, v9, L, hj, rfl, hbut, hout, hrow, hacc, hLj, hno⟩ := hrel
        have hneg : g ≠ wA.heap.size + 4 := by have := HGE.out.1; have := HSZ6.out; omega
        have hAB : Below wA.heap.size wA wB := HA7.out.trans (hbut.below (by have := HA7.out.size; omega) (by omega))
        have HAB := Lib.hid hAB
        have HBUT := Lib.hid hbut
        have HOUT := Lib.hid hout
        have HROW := Lib.hid hrow
        have HACC := Lib.hid hacc
        have HNO := Lib.hid hno
        by_cases hlt : j < es.length
        · obtain ⟨c0', c1', c2'⟩ := HL.out.get hlt
          have d0 := (hbut.cell (o := j * 3) HGE.out.2 hneg).trans c0'
          have d1 := (hbut.cell (o := j * 3 + 1) HGE.out.2 hneg).trans c1'
          have d2 := (hbut.cell (o := j * 3 + 2) HGE.out.2 hneg).trans c2'
          have hj0 : (0 : Int) ≤ (j : Int) := by omega
          have hjn : (j : Int) < (es.length : Int) := by omega
          have hwj : IntKind.i64.wrap (j : Int) = (j : Int) := IntWalk.i64_in _ (by omega)
          obtain ⟨x, hx⟩ : ∃ x, x = es[j] := ⟨_, rfl⟩
          rw [← hx] at d0 d1 d2
          have HX := Lib.hid hx
          have hxw : wfT 6 (.node x.1.op x.1.l x.1.ks) = true := by
            have hm : x.1.t ∈ flatT 6 (ks.map nrmT) := by rw [← HES.out, hx]; exact List.mem_map.2 ⟨es[j], List.getElem_mem hlt, rfl⟩
            exact (flatT_good (.inr (.inr rfl)) HGO.out _ hm).1.1
          have HXW := Lib.hid hxw
          obtain ⟨xn, hxn⟩ : ∃ n, n = x.1.ks.length := ⟨_, rfl⟩
          rw [← hxn] at d2
          have HXN := Lib.hid hxn
          clear hbut hout hrow hacc hno hx hxw hxn c0' c1' c2' hAB
          have HBC := Lib.hid (show Below wB.heap.size wB (wB.alloc (.cells #[.int .i64 x.1.op, .int .i64 x.1.l, .slice x.1.a xn x.1.c] 24)) from below_al (Below.refl _ _))
          have HBUC := Lib.hid (HBUT.out.on HBC.out (Nat.le_refl _))
          have HXB := Lib.hid (Box.new wB (.int .i64 x.1.op) (.int .i64 x.1.l) (.slice x.1.a xn x.1.c))
          have HEP := Lib.hid (is_empty HXW.out)
          have HUN := Lib.hid (is_unit HXW.out)
          by_cases h1 : x.1.op = 1
          · have t1 : (x.1.op == 1) = true := by rw [h1]; rfl
            have HISA := Lib.hid (show isT es[j].1.t emptyT = true by rw [← HX.out]; exact HEP.out.trans (by simp [h1]))
            clear h1
            obtain ⟨q0, q1, q2⟩ := HBUC.out.box (by omega) HQ6.out
            obtain ⟨⟨z0, z1, z2⟩, f0, f1, f2⟩ := HBUC.out.zero (by omega) HZ7.out
            have HRF := Lib.hid (HMK.out.trans (list_ab (ne := allT) hlt HES.out HISA.out))
            have HBF := Lib.hid (below_ret (HBA.out.trans ((HA7.out.trans (HBUC.out.below (by have := HA7.out.size; omega) (by omega))).mono HBA.out.size)) (b0 := w.heap.size + 1) (by omega) (.int .i64 1) (.int .i64 0) (.slice none 0 0))
            go_wp2_with fail
            refine bodyPost_ret (v := .agg #[.int .i64 1, .int .i64 0, .slice none 0 0]) (by simp [results, Try.results10, go_sem, z0, z1, z2]) rfl ?_
            rw [HRF.out]
            exact ⟨_, _, rfl, inX_empty _, HBF.out⟩
          · have t1 : (x.1.op == 1) = false := ne_beq h1
            have HISA := Lib.hid (show isT x.1.t emptyT = false from HEP.out.trans (by simp [h1]))
            clear h1
            have CU := Lib.hid (fun W (h : Below wA.heap.size wA W) => univ_any x.1.op x.1.l x.1.ks x.1.a x.1.c W (x.2.keep h) HXW.out)
            rw [← HXN.out] at CU
            obtain ⟨r, hr⟩ : ∃ r, r = isT (.node x.1.op x.1.l x.1.ks) allT := ⟨_, rfl⟩
            rw [← hr] at CU
            have HUR := Lib.hid (show isT x.1.t allT = r from hr.symm)
            clear hr
            have HABC := Lib.hid (HAB.out.trans (HBC.out.mono HAB.out.size))
            go_wp2_with fail
            refine (CU.out _ HABC.out).mono ?_
            rintro e w8 ⟨rfl, hB⟩
            have HBD := Lib.hid (HBC.out.trans (hB.mono HBC.out.size))
            have HBUD := Lib.hid (HBUT.out.on HBD.out (Nat.le_refl _))
            have HXBD := Lib.hid (HXB.out.keep hB)
            have HOUTW := Lib.hid (HOUT.out.keep HBD.out)
            have HROWW := Lib.hid (show w8.ownsRow w7.heap.size 24 3 v9 L.length (cellsE L) from own_keep HROW.out HBD.out)
            have HABD := Lib.hid (HAB.out.trans (HBD.out.mono HAB.out.size))
            clear hB
            obtain ⟨x0, x1, x2⟩ := HXBD.out
            cases r
            · have HISN := Lib.hid (show isT x.1.t allT = false from HUR.out)
              have HACC2 := Lib.hid (show ∀ es' : List (ExIn wA), es'.map (·.1.t) = insT (L.map (·.1.t)) x.1.t → es'.map (·.1.t) = accT 6 (((es.map (·.1.t)).take (j + 1)).filter fun k => !isT k allT) from fun es' h => by
                rw [acc_ins (op := 6) (by decide) (l := es.map (·.1.t)) (i := j) (by simpa using hlt) (by rw [List.getElem_map, ← HX.out]; exact HISN.out), h, HACC.out, List.getElem_map, ← HX.out])
              have HNO2 := Lib.hid (show ∀ q (h : q < es.length), q < j + 1 → isT es[q].1.t emptyT = false from fun q h hq => by
                by_cases e : q = j
                · subst e; rw [← HX.out]; exact HISA.out
                · exact HNO.out q h (by omega))
              obtain ⟨o0, o1, o2⟩ := HOUTW.out.1
              have HIN := Lib.hid (insert_any wA w8 HABD.out w7.heap.size HA7.out.size HBUD.out.size v9 L HROWW.out (by rw [HACC.out]; exact acc_strict (op := 6) (by decide) _) (by omega) x)
              rw [← HXN.out] at HIN
              go_wp2_with fail
              refine HIN.out.mono ?_
              rintro e w9 ⟨v', es', rfl, hrow', hmap', hlen', hB⟩
              obtain ⟨vo, vn, vc, rfl⟩ := own_form hrow'
              have HB9 := Lib.hid hB
              have HBU9 := Lib.hid (HBUD.out.on hB (Nat.le_refl _))
              have HO9 := Lib.hid (HOUTW.out.keep hB)
              have HACC3 := Lib.hid (HACC2.out es' hmap')
              have HR9 := Lib.hid hrow'
              clear hB hmap' hrow' o0 o1 o2
              obtain ⟨o0, o1, o2⟩ := HO9.out.1
              have of2 := HO9.out.2
              have HFIN := Lib.hid (show ButX w7.heap.size (wA.heap.size + 4) w7 (w9.setCell ⟨wA.heap.size + 4, 2, none⟩ (.slice vo vn vc)) ∧ OutB (w9.setCell ⟨wA.heap.size + 4, 2, none⟩ (.slice vo vn vc)) (wA.heap.size + 4) (.int .i64 6) (.int .i64 0) (.slice vo vn vc) ∧ (w9.setCell ⟨wA.heap.size + 4, 2, none⟩ (.slice vo vn vc)).ownsRow w7.heap.size 24 3 (.slice vo vn vc) es'.length (cellsE es') from ⟨HBU9.out.setCell 2 (.slice vo vn vc), HO9.out.set (.slice vo vn vc), ownsRow_setCell_below HR9.out (a := ⟨wA.heap.size + 4, 2, none⟩) (by have := HSZ6.out; have := HSZ7.out; simp; omega) (.slice vo vn vc)⟩)
              go_wp2_with fail
              exact ⟨⟨j + 1, (.slice vo vn vc), es', by omega, by go_num, HFIN.out.1, HFIN.out.2.1, HFIN.out.2.2, HACC3.out, by omega, HNO2.out⟩, by simp [intOf]; omega⟩
            · have HISN := Lib.hid (show isT x.1.t allT = true from HUR.out)
              have HACC2 := Lib.hid (HACC.out.trans (acc_skip (op := 6) (ne := allT) (l := es.map (·.1.t)) (i := j) (by simpa using hlt) (by rw [List.getElem_map, ← HX.out]; exact HISN.out)).symm)
              have HNO2 := Lib.hid (show ∀ q (h : q < es.length), q < j + 1 → isT es[q].1.t emptyT = false from fun q h hq => by
                by_cases e : q = j
                · subst e; rw [← HX.out]; exact HISA.out
                · exact HNO.out q h (by omega))
              go_wp2_with fail
              exact ⟨⟨j + 1, v9, L, by omega, by go_num, HBUD.out, HOUTW.out, HROWW.out, HACC2.out, by omega, HNO2.out⟩, by simp [intOf]; omega⟩
        · obtain rfl : j = es.length := by omega
          have HLN := Lib.hid (list_no (ne := allT) HES.out (fun q h => HNO.out q h h))
          have hqs : L.map (·.1.t) = qsT 6 allT (ks.map nrmT) := by rw [HACC.out, List.take_of_length_le (by simp), HES.out]; rfl
          obtain ⟨⟨z0, z1, z2⟩, f0, f1, f2⟩ := HBUT.out.zero (by omega) HZ7.out
          clear hbut hout hacc hno hAB
          rcases hrow.2 with ⟨rfl, h0⟩ | ⟨g9, cap9, cur9, rfl, _⟩
          · have HQS := Lib.hid (show qsT 6 allT (ks.map nrmT) = [] by rw [← hqs, List.eq_nil_of_length_eq_zero h0]; rfl)
            clear hqs hrow
            have HRF := Lib.hid (show R = allT by rw [HMK.out, HLN.out, HQS.out]; rfl)
            have HBF := Lib.hid (below_ret (HBA.out.trans (HAB.out.mono HBA.out.size)) (b0 := w.heap.size + 1) (by omega) (.int .i64 8) (.int .i64 0) (.slice (some ⟨wA.heap.size + 2, 0, none⟩) 1 1))
            have HBK := Lib.hid (box_ret (g := wA.heap.size + 2) (HBUT.out.box (by omega) HQ2.out) (b0 := w.heap.size + 1) (by omega) (.int .i64 8) (.int .i64 0) (.slice (some ⟨wA.heap.size + 2, 0, none⟩) 1 1))
            obtain ⟨q0, q1, q2⟩ := HBUT.out.box (by omega) HQ10.out
            obtain ⟨o0, o1, o2⟩ := HOUT.out.1
            go_wp2_with fail
            refine bodyPost_ret (v := .agg #[.int .i64 8, .int .i64 0, .slice (some ⟨wA.heap.size + 2, 0, none⟩) 1 1]) (by simp [results, Try.results10, go_sem, z0, z1, z2]) rfl ?_
            rw [HRF.out]
            exact ⟨_, _, rfl, inX_all2 HBK.out, HBF.out⟩
          · obtain ⟨_, hL9⟩ := BlkX.of_own HAB.out (ownsRow_base hrow HA7.out.size)
            have HL9 := Lib.hid hL9
            have hle9 := hL9.le
            have HQQ := Lib.hid hqs
            clear hqs hrow hL9
            by_cases e0 : L.length = 0
            · have t0 : ((L.length : Int) == 0) = true := by rw [e0]; rfl
              have HQS := Lib.hid (show qsT 6 allT (ks.map nrmT) = [] by rw [← HQQ.out, List.eq_nil_of_length_eq_zero e0]; rfl)
              have HRF := Lib.hid (show R = allT by rw [HMK.out, HLN.out, HQS.out]; rfl)
              have HBF := Lib.hid (below_ret (HBA.out.trans (HAB.out.mono HBA.out.size)) (b0 := w.heap.size + 1) (by omega) (.int .i64 8) (.int .i64 0) (.slice (some ⟨wA.heap.size + 2, 0, none⟩) 1 1))
              have HBK := Lib.hid (box_ret (g := wA.heap.size + 2) (HBUT.out.box (by omega) HQ2.out) (b0 := w.heap.size + 1) (by omega) (.int .i64 8) (.int .i64 0) (.slice (some ⟨wA.heap.size + 2, 0, none⟩) 1 1))
              obtain ⟨q0, q1, q2⟩ := HBUT.out.box (by omega) HQ10.out
              obtain ⟨o0, o1, o2⟩ := HOUT.out.1
              go_wp2_with fail
              refine bodyPost_ret (v := .agg #[.int .i64 8, .int .i64 0, .slice (some ⟨wA.heap.size + 2, 0, none⟩) 1 1]) (by simp [results, Try.results10, go_sem, z0, z1, z2]) rfl ?_
              rw [HRF.out]
              exact ⟨_, _, rfl, inX_all2 HBK.out, HBF.out⟩
            · have t0 : ((L.length : Int) == 0) = false := ne_beq (by omega)
              obtain ⟨o0, o1, o2⟩ := HOUT.out.1
              by_cases e1 : L.length = 1
              · have t1 : ((L.length : Int) == 1) = true := by rw [e1]; rfl
                have hp0 : (0 : Int) < (L.length : Int) := by omega
                obtain ⟨c0', c1', c2'⟩ := HL9.out.get (i := 0) (by omega)
                simp only [Nat.zero_mul, Nat.zero_add] at c0' c1' c2'
                obtain ⟨x, hx⟩ : ∃ x, x = L[0] := ⟨_, rfl⟩
                rw [← hx] at c0' c1' c2'
                have HF := Lib.hid (show R = x.1.t by
                  have h1 := HQQ.out
                  obtain ⟨b, hb⟩ := List.length_eq_one_iff.1 e1
                  rw [HMK.out, HLN.out, ← h1, hx]
                  simp [hb, outT])
                clear hx
                have HBF := Lib.hid (below_ret (HBA.out.trans (HAB.out.mono HBA.out.size)) (b0 := w.heap.size + 1) (by omega) (.int .i64 x.1.op) (.int .i64 x.1.l) (.slice x.1.a x.1.ks.length x.1.c))
                have HXF := Lib.hid (inX_ret (x := x.1) z0 z1 z2 (x.2.keep HAB.out) (by rw [← HF.out]; exact HGD.out) (.int .i64 x.1.op) (.int .i64 x.1.l) (.slice x.1.a x.1.ks.length x.1.c))
                go_wp2_with fail
                refine bodyPost_ret (v := .agg #[.int .i64 x.1.op, .int .i64 x.1.l, .slice x.1.a x.1.ks.length x.1.c]) (by simp [results, Try.results10, go_sem, z0, z1, z2]) rfl ⟨x.1.a, x.1.c, by rw [HF.out]; rfl, by rw [HF.out]; exact HXF.out, HBF.out⟩
              · have t1 : ((L.length : Int) == 1) = false := ne_beq (by omega)
                have HF := Lib.hid (show R = .node 6 0 (L.map (·.1.t)) by
                  rw [HMK.out, HLN.out, ← HQQ.out]
                  exact outT_two 6 allT (by simp; omega))
                have hxi := HL9.out.inx (op := 6) (l := 0) (by unfold B64; omega) (by unfold B64; omega)
                have HXF := Lib.hid (inX_ret (x := ⟨6, 0, L.map (fun y => y.1.t), some ⟨g9, 0, none⟩, cap9⟩) z0 z1 z2 hxi (by rw [HF.out] at HGD; exact HGD.out) (.int .i64 6) (.int .i64 0) (.slice (some ⟨g9, 0, none⟩) L.length cap9))
                have HBF := Lib.hid (below_ret (HBA.out.trans (HAB.out.mono HBA.out.size)) (b0 := w.heap.size + 1) (by omega) (.int .i64 6) (.int .i64 0) (.slice (some ⟨g9, 0, none⟩) L.length cap9))
                clear hxi
                go_wp2_with fail
                refine bodyPost_ret (v := .agg #[.int .i64 6, .int .i64 0, .slice (some ⟨g9, 0, none⟩) L.length cap9]) (by simp [results, Try.results10, go_sem, z0, z1, z2]) rfl ⟨some ⟨g9, 0, none⟩, cap9, by rw [HF.out]; simp [T.op, T.lt, T.ks], by rw [HF.out]; exact HXF.out, HBF.out⟩
set_option maxRecDepth 100000 in
set_option maxHeartbeats 16000000 in
theorem refN_1 (ks : List T) (hw : wfT 6 (.node 1 0 ks) = true) (hs : sizeT (.node 1 0 ks) ≤ 1000000000) (ih : ∀ (i : Nat) (o l : Int) (ls : List T), ks[i]? = some (.node o l ls) → ∀ (a : Option Addr) (c : Nat) (w : World), InX w o l ls a → Calls Try.prog 10 #[.agg #[.int .i64 o, .int .i64 l, .slice a ls.length c]] w (GiveT w (nrmT (.node o l ls)))) (a : Option Addr) (c : Nat) (w : World) (hin : InX w 1 0 ks a) :
    Calls Try.prog 10 #[.agg #[.int .i64 1, .int .i64 0, .slice a ks.length c]] w (GiveT w (nrmT (.node 1 0 ks))) := by
  have HI := Lib.hid hin
  have hsk : sizeL ks < 1000000000 := by simp only [sizeT] at hs; omega
  have hlk : ks.length ≤ 1000000000 := by have := sizeL_len ks; omega
  have HWF := Lib.hid hw
  have HW := Lib.hid (wfT_node.1 hw).2.2
  have IH := Lib.hid ih
  have hgood : ∀ k, k ∈ ks.map nrmT → GoodT k := fun k hk => by
    obtain ⟨x, hx, rfl⟩ := List.mem_map.1 hk
    exact (nrm_all x ((wfT_node.1 hw).2.2 x hx)).1
  have hsm : sizeL (ks.map nrmT) ≤ 1000000000 := by
    have := sizeL_map fun k hk => (nrm_all k ((wfT_node.1 hw).2.2 k hk)).2.1
    omega
  have HGO := Lib.hid hgood
  have HSM := Lib.hid hsm
  have hgd := (nrm_all _ hw).1.1
  rw [nrmT_node] at hgd ⊢
  obtain ⟨R, hR⟩ : ∃ R, R = mkT 1 0 (ks.map nrmT) := ⟨_, rfl⟩
  rw [← hR] at hgd ⊢
  have HR := Lib.hid hR
  have HGD := Lib.hid hgd
  obtain ⟨n, hn⟩ : ∃ n, n = ks.length := ⟨_, rfl⟩
  rw [← hn] at hlk ⊢
  have HN := Lib.hid hn
  obtain ⟨W2, hW2⟩ : ∃ W, W = (w.alloc (.cells #[.int .i64 1, .int .i64 0, .slice a n c] 24)).alloc (.cells #[.int .i64 0, .int .i64 0, .slice none 0 0] 24) := ⟨_, rfl⟩
  have HW2 := Lib.hid hW2
  have HB2 := Lib.hid (show Below w.heap.size w W2 by rw [hW2]; exact ((Below.refl w.heap.size w).alloc (Nat.le_refl _) _).alloc (by simp) _)
  have HBX2 := Lib.hid (show Box W2 w.heap.size (.int .i64 1) (.int .i64 0) (.slice a n c) by rw [hW2]; exact (Box.new w _ _ _).alloc _)
  have HZ2 := Lib.hid (show Zero3 W2 (w.heap.size + 1) by
    rw [hW2]; have := Zero3.new (w.alloc (.cells #[.int .i64 1, .int .i64 0, .slice a n c] 24)); simpa using this)
  have hsz2 : W2.heap.size = w.heap.size + 2 := by rw [hW2]; simp
  clear hin hw hs ih hgood hsm hgd hR hn hW2 hsk
  obtain ⟨i0, hinf, hz0, hz1, hz2⟩ := info_parts infoE
  go_enter Try.func10, Try.ntmps10
  go_wp2_with fail
  rw [← HW2.out]
  go_loopw [3, 21] (fun vp vi wr => ∃ (i : Nat) (es : List Ex), i ≤ n ∧ vi = .int .i64 i ∧ es.length = i ∧ es.map Ex.t = (ks.take i).map nrmT ∧ FillV W2 wr vp es) (fun _ vi _ => n - (intOf vi).toNat)
  case atStart => exact ⟨0, [], Nat.zero_le _, rfl, rfl, by simp, .inl ⟨rfl, rfl, Below.refl _ _⟩⟩
  case round =>
    rename World => wA
    obtain ⟨i, es, hi, rfl, hel, hmp, hF⟩ := hrel
    have HF := Lib.hid hF
    have HMP := Lib.hid hmp
    by_cases hlt : i < n
    · have hlt' : i < ks.length := by rw [← HN.out]; exact hlt
      obtain ⟨ko, kl, kk, hk, hk2⟩ := kid_some hlt'
      obtain ⟨b, off, a', c', rfl, hbz, d0, d1, d2, hx⟩ := (HI.out.keep (HB2.out.trans (hF.bel.mono HB2.out.size))).kid hk
      have hi0 : (0 : Int) ≤ (i : Int) := by omega
      have hin2 : (i : Int) < (n : Int) := by omega
      have hwi : IntKind.i64.wrap (i : Int) = (i : Int) := IntWalk.i64_in _ (by omega)
      obtain ⟨ro', rl', rk', hr'⟩ : ∃ o l k, nrmT (.node ko kl kk) = .node o l k := by
        cases h : nrmT (.node ko kl kk) with
        | node o l k => exact ⟨o, l, k, rfl⟩
      obtain ⟨kn, hkn⟩ : ∃ n, n = kk.length := ⟨_, rfl⟩
      rw [← hkn] at d2
      have HC := Lib.hid (IH.out i ko kl kk hk a' c' _ (hx.box (.cells #[.int .i64 ko, .int .i64 kl, .slice a' kn c'] 24)))
      rw [hr', ← hkn] at HC
      have HG' := Lib.hid (show wfT 6 (.node ro' rl' rk') = true by rw [← hr']; exact (nrm_all _ (HW.out _ (List.mem_of_getElem? hk))).1.1)
      have HM' := Lib.hid (show es.map Ex.t ++ [.node ro' rl' rk'] = (ks.take (i + 1)).map nrmT by rw [take_map_snoc hlt', HMP.out, hk2, hr'])
      clear hk hk2 hx hr' hkn hF hmp
      go_wp2_with fail
      refine HC.out.mono ?_
      rintro e w5 hgv
      obtain ⟨a5, c5, rfl, hx5, hb5⟩ := give_node.1 hgv
      have HF5 := Lib.hid ((HF.out.alloc (.cells #[.int .i64 ko, .int .i64 kl, .slice a' kn c'] 24)).keep hb5 (Nat.le_refl _))
      have HX5 := Lib.hid hx5
      clear hgv hx5 hb5
      go_wp2_with (at_builtin; refine wpList_append_fill rfl _ _ 22 rfl i0 Try.underlying22 hinf hz0 hz1 hz2 W2 _ es rfl (HF5.out.alloc _) ⟨_, 0, none⟩ 1 ⟨ro', rl', rk', a5, c5⟩ rfl ?c1 ?c2 HG'.out ?c3 ?_)
      case c1 => exact World.news_of_block (cs := #[.int .i64 ro', .int .i64 rl', .slice a5 rk'.length c5]) (t := 24) (fr := (0, 0)) (by have h := heap_alloc_new w5 (.cells #[.int .i64 ro', .int .i64 rl', .slice a5 rk'.length c5] 24); simpa using h)
      case c2 => exact HX5.out.box _
      case c3 => omega
      intro v' w6 hf6
      have HF6 := Lib.hid hf6
      clear hf6
      go_wp2_with fail
      exact ⟨⟨i + 1, es ++ [(⟨ro', rl', rk', a5, c5⟩ : Ex)], by omega, by go_num, by simp [hel], by rw [List.map_append]; exact HM'.out, by exact HF6.out⟩, by simp [intOf]; omega⟩
    · obtain rfl : i = n := by omega
      obtain ⟨a0, c0, rfl, hK⟩ := hF.kids (op := 0) (l := 0) (by unfold B64; omega) (by unfold B64; omega)
      rw [hmp, HN.out, List.take_length] at hK
      have HK := Lib.hid hK
      have HBA := Lib.hid (HB2.out.trans (hF.bel.mono HB2.out.size))
      have HZA := Lib.hid (HZ2.out.keep hF.bel)
      have HXA := Lib.hid (HBX2.out.keep hF.bel)
      have hszA : w.heap.size + 2 ≤ wA.heap.size := by have := hF.bel.size; omega
      have hkl : (ks.map nrmT).length = i := by rw [List.length_map, ← HN.out]
      rw [hel] at *
      clear hF hmp hK HF HMP
      obtain ⟨x0, x1, x2⟩ := HXA.out.keep (show Below wA.heap.size wA ((((wA.alloc (.cells #[.int .i64 1, .int .i64 0, .slice none 0 0] 24)).alloc (.cells #[.int .i64 2, .int .i64 0, .slice none 0 0] 24)).alloc (.cells #[.int .i64 1, .int .i64 0, .slice none 0 0] 24)).alloc (.cells #[.int .i64 8, .int .i64 0, .slice (some ⟨wA.heap.size + 2, 0, none⟩) 1 1] 24)) from below_al (below_al (below_al (below_al (Below.refl _ _)))))
      obtain ⟨y0, y1, y2⟩ := HXA.out.keep (show Below wA.heap.size wA ((((((wA.alloc (.cells #[.int .i64 1, .int .i64 0, .slice none 0 0] 24)).alloc (.cells #[.int .i64 2, .int .i64 0, .slice none 0 0] 24)).alloc (.cells #[.int .i64 1, .int .i64 0, .slice none 0 0] 24)).alloc (.cells #[.int .i64 8, .int .i64 0, .slice (some ⟨wA.heap.size + 2, 0, none⟩) 1 1] 24)).alloc (.cells #[.int .i64 1, .int .i64 0, .slice none 0 0] 24)).alloc (.cells #[.int .i64 1, .int .i64 0, .slice none 0 0] 24)) from below_al (below_al (below_al (below_al (below_al (below_al (Below.refl _ _)))))))
      obtain ⟨W6, hW6⟩ : ∃ W, W = ((((((wA.alloc (.cells #[.int .i64 1, .int .i64 0, .slice none 0 0] 24)).alloc (.cells #[.int .i64 2, .int .i64 0, .slice none 0 0] 24)).alloc (.cells #[.int .i64 1, .int .i64 0, .slice none 0 0] 24)).alloc (.cells #[.int .i64 8, .int .i64 0, .slice (some ⟨wA.heap.size + 2, 0, none⟩) 1 1] 24)).alloc (.cells #[.int .i64 1, .int .i64 0, .slice none 0 0] 24)).alloc (.cells #[.int .i64 1, .int .i64 0, .slice none 0 0] 24)) := ⟨_, rfl⟩
      have hB6 : Below wA.heap.size wA W6 := by rw [hW6]; exact below_al (below_al (below_al (below_al (below_al (below_al (Below.refl _ _))))))
      have hsz6 : W6.heap.size = wA.heap.size + 6 := by rw [hW6]; simp
      have hq6 : Box W6 wA.heap.size (.int .i64 1) (.int .i64 0) (.slice none 0 0) := by
        rw [hW6]; have := ((((((Box.new wA (.int .i64 1) (.int .i64 0) (.slice none 0 0)).alloc (.cells #[.int .i64 2, .int .i64 0, .slice none 0 0] 24)).alloc (.cells #[.int .i64 1, .int .i64 0, .slice none 0 0] 24)).alloc (.cells #[.int .i64 8, .int .i64 0, .slice (some ⟨wA.heap.size + 2, 0, none⟩) 1 1] 24)).alloc (.cells #[.int .i64 1, .int .i64 0, .slice none 0 0] 24)).alloc (.cells #[.int .i64 1, .int .i64 0, .slice none 0 0] 24)); simpa using this
      have hq7 : Box W6 (wA.heap.size + 1) (.int .i64 2) (.int .i64 0) (.slice none 0 0) := by
        rw [hW6]; have := (((((Box.new (wA.alloc (.cells #[.int .i64 1, .int .i64 0, .slice none 0 0] 24)) (.int .i64 2) (.int .i64 0) (.slice none 0 0)).alloc (.cells #[.int .i64 1, .int .i64 0, .slice none 0 0] 24)).alloc (.cells #[.int .i64 8, .int .i64 0, .slice (some ⟨wA.heap.size + 2, 0, none⟩) 1 1] 24)).alloc (.cells #[.int .i64 1, .int .i64 0, .slice none 0 0] 24)).alloc (.cells #[.int .i64 1, .int .i64 0, .slice none 0 0] 24)); simpa using this
      have hq2 : Box W6 (wA.heap.size + 2) (.int .i64 1) (.int .i64 0) (.slice none 0 0) := by
        rw [hW6]; have := ((((Box.new ((wA.alloc (.cells #[.int .i64 1, .int .i64 0, .slice none 0 0] 24)).alloc (.cells #[.int .i64 2, .int .i64 0, .slice none 0 0] 24)) (.int .i64 1) (.int .i64 0) (.slice none 0 0)).alloc (.cells #[.int .i64 8, .int .i64 0, .slice (some ⟨wA.heap.size + 2, 0, none⟩) 1 1] 24)).alloc (.cells #[.int .i64 1, .int .i64 0, .slice none 0 0] 24)).alloc (.cells #[.int .i64 1, .int .i64 0, .slice none 0 0] 24)); simpa using this
      have hq8 : Box W6 (wA.heap.size + 3) (.int .i64 8) (.int .i64 0) (.slice (some ⟨wA.heap.size + 2, 0, none⟩) 1 1) := by
        rw [hW6]; have := (((Box.new (((wA.alloc (.cells #[.int .i64 1, .int .i64 0, .slice none 0 0] 24)).alloc (.cells #[.int .i64 2, .int .i64 0, .slice none 0 0] 24)).alloc (.cells #[.int .i64 1, .int .i64 0, .slice none 0 0] 24)) (.int .i64 8) (.int .i64 0) (.slice (some ⟨wA.heap.size + 2, 0, none⟩) 1 1)).alloc (.cells #[.int .i64 1, .int .i64 0, .slice none 0 0] 24)).alloc (.cells #[.int .i64 1, .int .i64 0, .slice none 0 0] 24)); simpa using this
      have hq9 : Box W6 (wA.heap.size + 4) (.int .i64 1) (.int .i64 0) (.slice none 0 0) := by
        rw [hW6]; have := ((Box.new ((((wA.alloc (.cells #[.int .i64 1, .int .i64 0, .slice none 0 0] 24)).alloc (.cells #[.int .i64 2, .int .i64 0, .slice none 0 0] 24)).alloc (.cells #[.int .i64 1, .int .i64 0, .slice none 0 0] 24)).alloc (.cells #[.int .i64 8, .int .i64 0, .slice (some ⟨wA.heap.size + 2, 0, none⟩) 1 1] 24)) (.int .i64 1) (.int .i64 0) (.slice none 0 0)).alloc (.cells #[.int .i64 1, .int .i64 0, .slice none 0 0] 24)); simpa using this
      have hq10 : Box W6 (wA.heap.size + 5) (.int .i64 1) (.int .i64 0) (.slice none 0 0) := by
        rw [hW6]; have := (Box.new (((((wA.alloc (.cells #[.int .i64 1, .int .i64 0, .slice none 0 0] 24)).alloc (.cells #[.int .i64 2, .int .i64 0, .slice none 0 0] 24)).alloc (.cells #[.int .i64 1, .int .i64 0, .slice none 0 0] 24)).alloc (.cells #[.int .i64 8, .int .i64 0, .slice (some ⟨wA.heap.size + 2, 0, none⟩) 1 1] 24)).alloc (.cells #[.int .i64 1, .int .i64 0, .slice none 0 0] 24)) (.int .i64 1) (.int .i64 0) (.slice none 0 0)); simpa using this
      have hf9 : W6.frozen? ⟨wA.heap.size + 4, 2, none⟩ = false := by rw [hW6]; simp [go_sem]
      obtain ⟨⟨z0, z1, z2⟩, f0, f1, f2⟩ := HZA.out.keep (show Below wA.heap.size wA ((((((wA.alloc (.cells #[.int .i64 1, .int .i64 0, .slice none 0 0] 24)).alloc (.cells #[.int .i64 2, .int .i64 0, .slice none 0 0] 24)).alloc (.cells #[.int .i64 1, .int .i64 0, .slice none 0 0] 24)).alloc (.cells #[.int .i64 8, .int .i64 0, .slice (some ⟨wA.heap.size + 2, 0, none⟩) 1 1] 24)).alloc (.cells #[.int .i64 1, .int .i64 0, .slice none 0 0] 24)).alloc (.cells #[.int .i64 1, .int .i64 0, .slice none 0 0] 24)) from below_al (below_al (below_al (below_al (below_al (below_al (Below.refl _ _)))))))
      have hks : ks = [] := by
        rcases kind_of HWF.out with ⟨_, h⟩ | ⟨h, _⟩ | ⟨h, _⟩
        · exact h
        · omega
        · omega
      have HRF := Lib.hid (show R = .node 1 0 [] by rw [HR.out, hks]; exact mkT_leaf (by omega) 0 [])
      have HBF := Lib.hid (below_ret (HBA.out.trans ((show Below wA.heap.size wA ((((((wA.alloc (.cells #[.int .i64 1, .int .i64 0, .slice none 0 0] 24)).alloc (.cells #[.int .i64 2, .int .i64 0, .slice none 0 0] 24)).alloc (.cells #[.int .i64 1, .int .i64 0, .slice none 0 0] 24)).alloc (.cells #[.int .i64 8, .int .i64 0, .slice (some ⟨wA.heap.size + 2, 0, none⟩) 1 1] 24)).alloc (.cells #[.int .i64 1, .int .i64 0, .slice none 0 0] 24)).alloc (.cells #[.int .i64 1, .int .i64 0, .slice none 0 0] 24)) from hW6 ▸ hB6).mono HBA.out.size)) (b0 := w.heap.size + 1) (by omega) (.int .i64 1) (.int .i64 0) (.slice none 0 0))
      have HBL := Lib.hid (HI.out.2.2.1)
      clear hq6 hq7 hq2 hq8 hq9 hq10 hf9 hB6 hW6 hsz6 hks
      go_wp2_with fail
      refine bodyPost_ret (v := .agg #[.int .i64 1, .int .i64 0, .slice none 0 0]) (by simp [results, Try.results10, go_sem, z0, z1, z2]) rfl ?_
      rw [HRF.out]
      exact ⟨none, 0, rfl, ⟨.zero _, by unfold B64; simp [T.op], HBL.out, by simp [T.ks]⟩, HBF.out⟩
set_option maxRecDepth 100000 in
set_option maxHeartbeats 16000000 in
theorem refN_2 (ks : List T) (hw : wfT 6 (.node 2 0 ks) = true) (hs : sizeT (.node 2 0 ks) ≤ 1000000000) (ih : ∀ (i : Nat) (o l : Int) (ls : List T), ks[i]? = some (.node o l ls) → ∀ (a : Option Addr) (c : Nat) (w : World), InX w o l ls a → Calls Try.prog 10 #[.agg #[.int .i64 o, .int .i64 l, .slice a ls.length c]] w (GiveT w (nrmT (.node o l ls)))) (a : Option Addr) (c : Nat) (w : World) (hin : InX w 2 0 ks a) :
    Calls Try.prog 10 #[.agg #[.int .i64 2, .int .i64 0, .slice a ks.length c]] w (GiveT w (nrmT (.node 2 0 ks))) := by
  have HI := Lib.hid hin
  have hsk : sizeL ks < 1000000000 := by simp only [sizeT] at hs; omega
  have hlk : ks.length ≤ 1000000000 := by have := sizeL_len ks; omega
  have HWF := Lib.hid hw
  have HW := Lib.hid (wfT_node.1 hw).2.2
  have IH := Lib.hid ih
  have hgood : ∀ k, k ∈ ks.map nrmT → GoodT k := fun k hk => by
    obtain ⟨x, hx, rfl⟩ := List.mem_map.1 hk
    exact (nrm_all x ((wfT_node.1 hw).2.2 x hx)).1
  have hsm : sizeL (ks.map nrmT) ≤ 1000000000 := by
    have := sizeL_map fun k hk => (nrm_all k ((wfT_node.1 hw).2.2 k hk)).2.1
    omega
  have HGO := Lib.hid hgood
  have HSM := Lib.hid hsm
  have hgd := (nrm_all _ hw).1.1
  rw [nrmT_node] at hgd ⊢
  obtain ⟨R, hR⟩ : ∃ R, R = mkT 2 0 (ks.map nrmT) := ⟨_, rfl⟩
  rw [← hR] at hgd ⊢
  have HR := Lib.hid hR
  have HGD := Lib.hid hgd
  obtain ⟨n, hn⟩ : ∃ n, n = ks.length := ⟨_, rfl⟩
  rw [← hn] at hlk ⊢
  have HN := Lib.hid hn
  obtain ⟨W2, hW2⟩ : ∃ W, W = (w.alloc (.cells #[.int .i64 2, .int .i64 0, .slice a n c] 24)).alloc (.cells #[.int .i64 0, .int .i64 0, .slice none 0 0] 24) := ⟨_, rfl⟩
  have HW2 := Lib.hid hW2
  have HB2 := Lib.hid (show Below w.heap.size w W2 by rw [hW2]; exact ((Below.refl w.heap.size w).alloc (Nat.le_refl _) _).alloc (by simp) _)
  have HBX2 := Lib.hid (show Box W2 w.heap.size (.int .i64 2) (.int .i64 0) (.slice a n c) by rw [hW2]; exact (Box.new w _ _ _).alloc _)
  have HZ2 := Lib.hid (show Zero3 W2 (w.heap.size + 1) by
    rw [hW2]; have := Zero3.new (w.alloc (.cells #[.int .i64 2, .int .i64 0, .slice a n c] 24)); simpa using this)
  have hsz2 : W2.heap.size = w.heap.size + 2 := by rw [hW2]; simp
  clear hin hw hs ih hgood hsm hgd hR hn hW2 hsk
  obtain ⟨i0, hinf, hz0, hz1, hz2⟩ := info_parts infoE
  go_enter Try.func10, Try.ntmps10
  go_wp2_with fail
  rw [← HW2.out]
  go_loopw [3, 21] (fun vp vi wr => ∃ (i : Nat) (es : List Ex), i ≤ n ∧ vi = .int .i64 i ∧ es.length = i ∧ es.map Ex.t = (ks.take i).map nrmT ∧ FillV W2 wr vp es) (fun _ vi _ => n - (intOf vi).toNat)
  case atStart => exact ⟨0, [], Nat.zero_le _, rfl, rfl, by simp, .inl ⟨rfl, rfl, Below.refl _ _⟩⟩
  case round =>
    rename World => wA
    obtain ⟨i, es, hi, rfl, hel, hmp, hF⟩ := hrel
    have HF := Lib.hid hF
    have HMP := Lib.hid hmp
    by_cases hlt : i < n
    · have hlt' : i < ks.length := by rw [← HN.out]; exact hlt
      obtain ⟨ko, kl, kk, hk, hk2⟩ := kid_some hlt'
      obtain ⟨b, off, a', c', rfl, hbz, d0, d1, d2, hx⟩ := (HI.out.keep (HB2.out.trans (hF.bel.mono HB2.out.size))).kid hk
      have hi0 : (0 : Int) ≤ (i : Int) := by omega
      have hin2 : (i : Int) < (n : Int) := by omega
      have hwi : IntKind.i64.wrap (i : Int) = (i : Int) := IntWalk.i64_in _ (by omega)
      obtain ⟨ro', rl', rk', hr'⟩ : ∃ o l k, nrmT (.node ko kl kk) = .node o l k := by
        cases h : nrmT (.node ko kl kk) with
        | node o l k => exact ⟨o, l, k, rfl⟩
      obtain ⟨kn, hkn⟩ : ∃ n, n = kk.length := ⟨_, rfl⟩
      rw [← hkn] at d2
      have HC := Lib.hid (IH.out i ko kl kk hk a' c' _ (hx.box (.cells #[.int .i64 ko, .int .i64 kl, .slice a' kn c'] 24)))
      rw [hr', ← hkn] at HC
      have HG' := Lib.hid (show wfT 6 (.node ro' rl' rk') = true by rw [← hr']; exact (nrm_all _ (HW.out _ (List.mem_of_getElem? hk))).1.1)
      have HM' := Lib.hid (show es.map Ex.t ++ [.node ro' rl' rk'] = (ks.take (i + 1)).map nrmT by rw [take_map_snoc hlt', HMP.out, hk2, hr'])
      clear hk hk2 hx hr' hkn hF hmp
      go_wp2_with fail
      refine HC.out.mono ?_
      rintro e w5 hgv
      obtain ⟨a5, c5, rfl, hx5, hb5⟩ := give_node.1 hgv
      have HF5 := Lib.hid ((HF.out.alloc (.cells #[.int .i64 ko, .int .i64 kl, .slice a' kn c'] 24)).keep hb5 (Nat.le_refl _))
      have HX5 := Lib.hid hx5
      clear hgv hx5 hb5
      go_wp2_with (at_builtin; refine wpList_append_fill rfl _ _ 22 rfl i0 Try.underlying22 hinf hz0 hz1 hz2 W2 _ es rfl (HF5.out.alloc _) ⟨_, 0, none⟩ 1 ⟨ro', rl', rk', a5, c5⟩ rfl ?c1 ?c2 HG'.out ?c3 ?_)
      case c1 => exact World.news_of_block (cs := #[.int .i64 ro', .int .i64 rl', .slice a5 rk'.length c5]) (t := 24) (fr := (0, 0)) (by have h := heap_alloc_new w5 (.cells #[.int .i64 ro', .int .i64 rl', .slice a5 rk'.length c5] 24); simpa using h)
      case c2 => exact HX5.out.box _
      case c3 => omega
      intro v' w6 hf6
      have HF6 := Lib.hid hf6
      clear hf6
      go_wp2_with fail
      exact ⟨⟨i + 1, es ++ [(⟨ro', rl', rk', a5, c5⟩ : Ex)], by omega, by go_num, by simp [hel], by rw [List.map_append]; exact HM'.out, by exact HF6.out⟩, by simp [intOf]; omega⟩
    · obtain rfl : i = n := by omega
      obtain ⟨a0, c0, rfl, hK⟩ := hF.kids (op := 0) (l := 0) (by unfold B64; omega) (by unfold B64; omega)
      rw [hmp, HN.out, List.take_length] at hK
      have HK := Lib.hid hK
      have HBA := Lib.hid (HB2.out.trans (hF.bel.mono HB2.out.size))
      have HZA := Lib.hid (HZ2.out.keep hF.bel)
      have HXA := Lib.hid (HBX2.out.keep hF.bel)
      have hszA : w.heap.size + 2 ≤ wA.heap.size := by have := hF.bel.size; omega
      have hkl : (ks.map nrmT).length = i := by rw [List.length_map, ← HN.out]
      rw [hel] at *
      clear hF hmp hK HF HMP
      obtain ⟨x0, x1, x2⟩ := HXA.out.keep (show Below wA.heap.size wA ((((wA.alloc (.cells #[.int .i64 1, .int .i64 0, .slice none 0 0] 24)).alloc (.cells #[.int .i64 2, .int .i64 0, .slice none 0 0] 24)).alloc (.cells #[.int .i64 1, .int .i64 0, .slice none 0 0] 24)).alloc (.cells #[.int .i64 8, .int .i64 0, .slice (some ⟨wA.heap.size + 2, 0, none⟩) 1 1] 24)) from below_al (below_al (below_al (below_al (Below.refl _ _)))))
      obtain ⟨y0, y1, y2⟩ := HXA.out.keep (show Below wA.heap.size wA ((((((wA.alloc (.cells #[.int .i64 1, .int .i64 0, .slice none 0 0] 24)).alloc (.cells #[.int .i64 2, .int .i64 0, .slice none 0 0] 24)).alloc (.cells #[.int .i64 1, .int .i64 0, .slice none 0 0] 24)).alloc (.cells #[.int .i64 8, .int .i64 0, .slice (some ⟨wA.heap.size + 2, 0, none⟩) 1 1] 24)).alloc (.cells #[.int .i64 2, .int .i64 0, .slice none 0 0] 24)).alloc (.cells #[.int .i64 1, .int .i64 0, .slice none 0 0] 24)) from below_al (below_al (below_al (below_al (below_al (below_al (Below.refl _ _)))))))
      obtain ⟨W6, hW6⟩ : ∃ W, W = ((((((wA.alloc (.cells #[.int .i64 1, .int .i64 0, .slice none 0 0] 24)).alloc (.cells #[.int .i64 2, .int .i64 0, .slice none 0 0] 24)).alloc (.cells #[.int .i64 1, .int .i64 0, .slice none 0 0] 24)).alloc (.cells #[.int .i64 8, .int .i64 0, .slice (some ⟨wA.heap.size + 2, 0, none⟩) 1 1] 24)).alloc (.cells #[.int .i64 2, .int .i64 0, .slice none 0 0] 24)).alloc (.cells #[.int .i64 1, .int .i64 0, .slice none 0 0] 24)) := ⟨_, rfl⟩
      have hB6 : Below wA.heap.size wA W6 := by rw [hW6]; exact below_al (below_al (below_al (below_al (below_al (below_al (Below.refl _ _))))))
      have hsz6 : W6.heap.size = wA.heap.size + 6 := by rw [hW6]; simp
      have hq6 : Box W6 wA.heap.size (.int .i64 1) (.int .i64 0) (.slice none 0 0) := by
        rw [hW6]; have := ((((((Box.new wA (.int .i64 1) (.int .i64 0) (.slice none 0 0)).alloc (.cells #[.int .i64 2, .int .i64 0, .slice none 0 0] 24)).alloc (.cells #[.int .i64 1, .int .i64 0, .slice none 0 0] 24)).alloc (.cells #[.int .i64 8, .int .i64 0, .slice (some ⟨wA.heap.size + 2, 0, none⟩) 1 1] 24)).alloc (.cells #[.int .i64 2, .int .i64 0, .slice none 0 0] 24)).alloc (.cells #[.int .i64 1, .int .i64 0, .slice none 0 0] 24)); simpa using this
      have hq7 : Box W6 (wA.heap.size + 1) (.int .i64 2) (.int .i64 0) (.slice none 0 0) := by
        rw [hW6]; have := (((((Box.new (wA.alloc (.cells #[.int .i64 1, .int .i64 0, .slice none 0 0] 24)) (.int .i64 2) (.int .i64 0) (.slice none 0 0)).alloc (.cells #[.int .i64 1, .int .i64 0, .slice none 0 0] 24)).alloc (.cells #[.int .i64 8, .int .i64 0, .slice (some ⟨wA.heap.size + 2, 0, none⟩) 1 1] 24)).alloc (.cells #[.int .i64 2, .int .i64 0, .slice none 0 0] 24)).alloc (.cells #[.int .i64 1, .int .i64 0, .slice none 0 0] 24)); simpa using this
      have hq2 : Box W6 (wA.heap.size + 2) (.int .i64 1) (.int .i64 0) (.slice none 0 0) := by
        rw [hW6]; have := ((((Box.new ((wA.alloc (.cells #[.int .i64 1, .int .i64 0, .slice none 0 0] 24)).alloc (.cells #[.int .i64 2, .int .i64 0, .slice none 0 0] 24)) (.int .i64 1) (.int .i64 0) (.slice none 0 0)).alloc (.cells #[.int .i64 8, .int .i64 0, .slice (some ⟨wA.heap.size + 2, 0, none⟩) 1 1] 24)).alloc (.cells #[.int .i64 2, .int .i64 0, .slice none 0 0] 24)).alloc (.cells #[.int .i64 1, .int .i64 0, .slice none 0 0] 24)); simpa using this
      have hq8 : Box W6 (wA.heap.size + 3) (.int .i64 8) (.int .i64 0) (.slice (some ⟨wA.heap.size + 2, 0, none⟩) 1 1) := by
        rw [hW6]; have := (((Box.new (((wA.alloc (.cells #[.int .i64 1, .int .i64 0, .slice none 0 0] 24)).alloc (.cells #[.int .i64 2, .int .i64 0, .slice none 0 0] 24)).alloc (.cells #[.int .i64 1, .int .i64 0, .slice none 0 0] 24)) (.int .i64 8) (.int .i64 0) (.slice (some ⟨wA.heap.size + 2, 0, none⟩) 1 1)).alloc (.cells #[.int .i64 2, .int .i64 0, .slice none 0 0] 24)).alloc (.cells #[.int .i64 1, .int .i64 0, .slice none 0 0] 24)); simpa using this
      have hq9 : Box W6 (wA.heap.size + 4) (.int .i64 2) (.int .i64 0) (.slice none 0 0) := by
        rw [hW6]; have := ((Box.new ((((wA.alloc (.cells #[.int .i64 1, .int .i64 0, .slice none 0 0] 24)).alloc (.cells #[.int .i64 2, .int .i64 0, .slice none 0 0] 24)).alloc (.cells #[.int .i64 1, .int .i64 0, .slice none 0 0] 24)).alloc (.cells #[.int .i64 8, .int .i64 0, .slice (some ⟨wA.heap.size + 2, 0, none⟩) 1 1] 24)) (.int .i64 2) (.int .i64 0) (.slice none 0 0)).alloc (.cells #[.int .i64 1, .int .i64 0, .slice none 0 0] 24)); simpa using this
      have hq10 : Box W6 (wA.heap.size + 5) (.int .i64 1) (.int .i64 0) (.slice none 0 0) := by
        rw [hW6]; have := (Box.new (((((wA.alloc (.cells #[.int .i64 1, .int .i64 0, .slice none 0 0] 24)).alloc (.cells #[.int .i64 2, .int .i64 0, .slice none 0 0] 24)).alloc (.cells #[.int .i64 1, .int .i64 0, .slice none 0 0] 24)).alloc (.cells #[.int .i64 8, .int .i64 0, .slice (some ⟨wA.heap.size + 2, 0, none⟩) 1 1] 24)).alloc (.cells #[.int .i64 2, .int .i64 0, .slice none 0 0] 24)) (.int .i64 1) (.int .i64 0) (.slice none 0 0)); simpa using this
      have hf9 : W6.frozen? ⟨wA.heap.size + 4, 2, none⟩ = false := by rw [hW6]; simp [go_sem]
      obtain ⟨⟨z0, z1, z2⟩, f0, f1, f2⟩ := HZA.out.keep (show Below wA.heap.size wA ((((((wA.alloc (.cells #[.int .i64 1, .int .i64 0, .slice none 0 0] 24)).alloc (.cells #[.int .i64 2, .int .i64 0, .slice none 0 0] 24)).alloc (.cells #[.int .i64 1, .int .i64 0, .slice none 0 0] 24)).alloc (.cells #[.int .i64 8, .int .i64 0, .slice (some ⟨wA.heap.size + 2, 0, none⟩) 1 1] 24)).alloc (.cells #[.int .i64 2, .int .i64 0, .slice none 0 0] 24)).alloc (.cells #[.int .i64 1, .int .i64 0, .slice none 0 0] 24)) from below_al (below_al (below_al (below_al (below_al (below_al (Below.refl _ _)))))))
      have hks : ks = [] := by
        rcases kind_of HWF.out with ⟨_, h⟩ | ⟨h, _⟩ | ⟨h, _⟩
        · exact h
        · omega
        · omega
      have HRF := Lib.hid (show R = .node 2 0 [] by rw [HR.out, hks]; exact mkT_leaf (by omega) 0 [])
      have HBF := Lib.hid (below_ret (HBA.out.trans ((show Below wA.heap.size wA ((((((wA.alloc (.cells #[.int .i64 1, .int .i64 0, .slice none 0 0] 24)).alloc (.cells #[.int .i64 2, .int .i64 0, .slice none 0 0] 24)).alloc (.cells #[.int .i64 1, .int .i64 0, .slice none 0 0] 24)).alloc (.cells #[.int .i64 8, .int .i64 0, .slice (some ⟨wA.heap.size + 2, 0, none⟩) 1 1] 24)).alloc (.cells #[.int .i64 2, .int .i64 0, .slice none 0 0] 24)).alloc (.cells #[.int .i64 1, .int .i64 0, .slice none 0 0] 24)) from hW6 ▸ hB6).mono HBA.out.size)) (b0 := w.heap.size + 1) (by omega) (.int .i64 2) (.int .i64 0) (.slice none 0 0))
      have HBL := Lib.hid (HI.out.2.2.1)
      clear hq6 hq7 hq2 hq8 hq9 hq10 hf9 hB6 hW6 hsz6 hks
      go_wp2_with fail
      refine bodyPost_ret (v := .agg #[.int .i64 2, .int .i64 0, .slice none 0 0]) (by simp [results, Try.results10, go_sem, z0, z1, z2]) rfl ?_
      rw [HRF.out]
      exact ⟨none, 0, rfl, ⟨.zero _, by unfold B64; simp [T.op], HBL.out, by simp [T.ks]⟩, HBF.out⟩
set_option maxRecDepth 100000 in
set_option maxHeartbeats 16000000 in
theorem refN_3 (l : Int) (ks : List T) (hw : wfT 6 (.node 3 l ks) = true) (hs : sizeT (.node 3 l ks) ≤ 1000000000) (ih : ∀ (i : Nat) (o l : Int) (ls : List T), ks[i]? = some (.node o l ls) → ∀ (a : Option Addr) (c : Nat) (w : World), InX w o l ls a → Calls Try.prog 10 #[.agg #[.int .i64 o, .int .i64 l, .slice a ls.length c]] w (GiveT w (nrmT (.node o l ls)))) (a : Option Addr) (c : Nat) (w : World) (hin : InX w 3 l ks a) :
    Calls Try.prog 10 #[.agg #[.int .i64 3, .int .i64 l, .slice a ks.length c]] w (GiveT w (nrmT (.node 3 l ks))) := by
  have HI := Lib.hid hin
  have hsk : sizeL ks < 1000000000 := by simp only [sizeT] at hs; omega
  have hlk : ks.length ≤ 1000000000 := by have := sizeL_len ks; omega
  have HWF := Lib.hid hw
  have HW := Lib.hid (wfT_node.1 hw).2.2
  have IH := Lib.hid ih
  have hgood : ∀ k, k ∈ ks.map nrmT → GoodT k := fun k hk => by
    obtain ⟨x, hx, rfl⟩ := List.mem_map.1 hk
    exact (nrm_all x ((wfT_node.1 hw).2.2 x hx)).1
  have hsm : sizeL (ks.map nrmT) ≤ 1000000000 := by
    have := sizeL_map fun k hk => (nrm_all k ((wfT_node.1 hw).2.2 k hk)).2.1
    omega
  have HGO := Lib.hid hgood
  have HSM := Lib.hid hsm
  have hgd := (nrm_all _ hw).1.1
  rw [nrmT_node] at hgd ⊢
  obtain ⟨R, hR⟩ : ∃ R, R = mkT 3 l (ks.map nrmT) := ⟨_, rfl⟩
  rw [← hR] at hgd ⊢
  have HR := Lib.hid hR
  have HGD := Lib.hid hgd
  obtain ⟨n, hn⟩ : ∃ n, n = ks.length := ⟨_, rfl⟩
  rw [← hn] at hlk ⊢
  have HN := Lib.hid hn
  obtain ⟨W2, hW2⟩ : ∃ W, W = (w.alloc (.cells #[.int .i64 3, .int .i64 l, .slice a n c] 24)).alloc (.cells #[.int .i64 0, .int .i64 0, .slice none 0 0] 24) := ⟨_, rfl⟩
  have HW2 := Lib.hid hW2
  have HB2 := Lib.hid (show Below w.heap.size w W2 by rw [hW2]; exact ((Below.refl w.heap.size w).alloc (Nat.le_refl _) _).alloc (by simp) _)
  have HBX2 := Lib.hid (show Box W2 w.heap.size (.int .i64 3) (.int .i64 l) (.slice a n c) by rw [hW2]; exact (Box.new w _ _ _).alloc _)
  have HZ2 := Lib.hid (show Zero3 W2 (w.heap.size + 1) by
    rw [hW2]; have := Zero3.new (w.alloc (.cells #[.int .i64 3, .int .i64 l, .slice a n c] 24)); simpa using this)
  have hsz2 : W2.heap.size = w.heap.size + 2 := by rw [hW2]; simp
  clear hin hw hs ih hgood hsm hgd hR hn hW2 hsk
  obtain ⟨i0, hinf, hz0, hz1, hz2⟩ := info_parts infoE
  go_enter Try.func10, Try.ntmps10
  go_wp2_with fail
  rw [← HW2.out]
  go_loopw [3, 21] (fun vp vi wr => ∃ (i : Nat) (es : List Ex), i ≤ n ∧ vi = .int .i64 i ∧ es.length = i ∧ es.map Ex.t = (ks.take i).map nrmT ∧ FillV W2 wr vp es) (fun _ vi _ => n - (intOf vi).toNat)
  case atStart => exact ⟨0, [], Nat.zero_le _, rfl, rfl, by simp, .inl ⟨rfl, rfl, Below.refl _ _⟩⟩
  case round =>
    rename World => wA
    obtain ⟨i, es, hi, rfl, hel, hmp, hF⟩ := hrel
    have HF := Lib.hid hF
    have HMP := Lib.hid hmp
    by_cases hlt : i < n
    · have hlt' : i < ks.length := by rw [← HN.out]; exact hlt
      obtain ⟨ko, kl, kk, hk, hk2⟩ := kid_some hlt'
      obtain ⟨b, off, a', c', rfl, hbz, d0, d1, d2, hx⟩ := (HI.out.keep (HB2.out.trans (hF.bel.mono HB2.out.size))).kid hk
      have hi0 : (0 : Int) ≤ (i : Int) := by omega
      have hin2 : (i : Int) < (n : Int) := by omega
      have hwi : IntKind.i64.wrap (i : Int) = (i : Int) := IntWalk.i64_in _ (by omega)
      obtain ⟨ro', rl', rk', hr'⟩ : ∃ o l k, nrmT (.node ko kl kk) = .node o l k := by
        cases h : nrmT (.node ko kl kk) with
        | node o l k => exact ⟨o, l, k, rfl⟩
      obtain ⟨kn, hkn⟩ : ∃ n, n = kk.length := ⟨_, rfl⟩
      rw [← hkn] at d2
      have HC := Lib.hid (IH.out i ko kl kk hk a' c' _ (hx.box (.cells #[.int .i64 ko, .int .i64 kl, .slice a' kn c'] 24)))
      rw [hr', ← hkn] at HC
      have HG' := Lib.hid (show wfT 6 (.node ro' rl' rk') = true by rw [← hr']; exact (nrm_all _ (HW.out _ (List.mem_of_getElem? hk))).1.1)
      have HM' := Lib.hid (show es.map Ex.t ++ [.node ro' rl' rk'] = (ks.take (i + 1)).map nrmT by rw [take_map_snoc hlt', HMP.out, hk2, hr'])
      clear hk hk2 hx hr' hkn hF hmp
      go_wp2_with fail
      refine HC.out.mono ?_
      rintro e w5 hgv
      obtain ⟨a5, c5, rfl, hx5, hb5⟩ := give_node.1 hgv
      have HF5 := Lib.hid ((HF.out.alloc (.cells #[.int .i64 ko, .int .i64 kl, .slice a' kn c'] 24)).keep hb5 (Nat.le_refl _))
      have HX5 := Lib.hid hx5
      clear hgv hx5 hb5
      go_wp2_with (at_builtin; refine wpList_append_fill rfl _ _ 22 rfl i0 Try.underlying22 hinf hz0 hz1 hz2 W2 _ es rfl (HF5.out.alloc _) ⟨_, 0, none⟩ 1 ⟨ro', rl', rk', a5, c5⟩ rfl ?c1 ?c2 HG'.out ?c3 ?_)
      case c1 => exact World.news_of_block (cs := #[.int .i64 ro', .int .i64 rl', .slice a5 rk'.length c5]) (t := 24) (fr := (0, 0)) (by have h := heap_alloc_new w5 (.cells #[.int .i64 ro', .int .i64 rl', .slice a5 rk'.length c5] 24); simpa using h)
      case c2 => exact HX5.out.box _
      case c3 => omega
      intro v' w6 hf6
      have HF6 := Lib.hid hf6
      clear hf6
      go_wp2_with fail
      exact ⟨⟨i + 1, es ++ [(⟨ro', rl', rk', a5, c5⟩ : Ex)], by omega, by go_num, by simp [hel], by rw [List.map_append]; exact HM'.out, by exact HF6.out⟩, by simp [intOf]; omega⟩
    · obtain rfl : i = n := by omega
      obtain ⟨a0, c0, rfl, hK⟩ := hF.kids (op := 0) (l := 0) (by unfold B64; omega) (by unfold B64; omega)
      rw [hmp, HN.out, List.take_length] at hK
      have HK := Lib.hid hK
      have HBA := Lib.hid (HB2.out.trans (hF.bel.mono HB2.out.size))
      have HZA := Lib.hid (HZ2.out.keep hF.bel)
      have HXA := Lib.hid (HBX2.out.keep hF.bel)
      have hszA : w.heap.size + 2 ≤ wA.heap.size := by have := hF.bel.size; omega
      have hkl : (ks.map nrmT).length = i := by rw [List.length_map, ← HN.out]
      rw [hel] at *
      clear hF hmp hK HF HMP
      obtain ⟨x0, x1, x2⟩ := HXA.out.keep (show Below wA.heap.size wA ((((wA.alloc (.cells #[.int .i64 1, .int .i64 0, .slice none 0 0] 24)).alloc (.cells #[.int .i64 2, .int .i64 0, .slice none 0 0] 24)).alloc (.cells #[.int .i64 1, .int .i64 0, .slice none 0 0] 24)).alloc (.cells #[.int .i64 8, .int .i64 0, .slice (some ⟨wA.heap.size + 2, 0, none⟩) 1 1] 24)) from below_al (below_al (below_al (below_al (Below.refl _ _)))))
      obtain ⟨y0, y1, y2⟩ := HXA.out.keep (show Below wA.heap.size wA ((((((wA.alloc (.cells #[.int .i64 1, .int .i64 0, .slice none 0 0] 24)).alloc (.cells #[.int .i64 2, .int .i64 0, .slice none 0 0] 24)).alloc (.cells #[.int .i64 1, .int .i64 0, .slice none 0 0] 24)).alloc (.cells #[.int .i64 8, .int .i64 0, .slice (some ⟨wA.heap.size + 2, 0, none⟩) 1 1] 24)).alloc (.cells #[.int .i64 3, .int .i64 l, .slice none 0 0] 24)).alloc (.cells #[.int .i64 1, .int .i64 0, .slice none 0 0] 24)) from below_al (below_al (below_al (below_al (below_al (below_al (Below.refl _ _)))))))
      obtain ⟨W6, hW6⟩ : ∃ W, W = ((((((wA.alloc (.cells #[.int .i64 1, .int .i64 0, .slice none 0 0] 24)).alloc (.cells #[.int .i64 2, .int .i64 0, .slice none 0 0] 24)).alloc (.cells #[.int .i64 1, .int .i64 0, .slice none 0 0] 24)).alloc (.cells #[.int .i64 8, .int .i64 0, .slice (some ⟨wA.heap.size + 2, 0, none⟩) 1 1] 24)).alloc (.cells #[.int .i64 3, .int .i64 l, .slice none 0 0] 24)).alloc (.cells #[.int .i64 1, .int .i64 0, .slice none 0 0] 24)) := ⟨_, rfl⟩
      have hB6 : Below wA.heap.size wA W6 := by rw [hW6]; exact below_al (below_al (below_al (below_al (below_al (below_al (Below.refl _ _))))))
      have hsz6 : W6.heap.size = wA.heap.size + 6 := by rw [hW6]; simp
      have hq6 : Box W6 wA.heap.size (.int .i64 1) (.int .i64 0) (.slice none 0 0) := by
        rw [hW6]; have := ((((((Box.new wA (.int .i64 1) (.int .i64 0) (.slice none 0 0)).alloc (.cells #[.int .i64 2, .int .i64 0, .slice none 0 0] 24)).alloc (.cells #[.int .i64 1, .int .i64 0, .slice none 0 0] 24)).alloc (.cells #[.int .i64 8, .int .i64 0, .slice (some ⟨wA.heap.size + 2, 0, none⟩) 1 1] 24)).alloc (.cells #[.int .i64 3, .int .i64 l, .slice none 0 0] 24)).alloc (.cells #[.int .i64 1, .int .i64 0, .slice none 0 0] 24)); simpa using this
      have hq7 : Box W6 (wA.heap.size + 1) (.int .i64 2) (.int .i64 0) (.slice none 0 0) := by
        rw [hW6]; have := (((((Box.new (wA.alloc (.cells #[.int .i64 1, .int .i64 0, .slice none 0 0] 24)) (.int .i64 2) (.int .i64 0) (.slice none 0 0)).alloc (.cells #[.int .i64 1, .int .i64 0, .slice none 0 0] 24)).alloc (.cells #[.int .i64 8, .int .i64 0, .slice (some ⟨wA.heap.size + 2, 0, none⟩) 1 1] 24)).alloc (.cells #[.int .i64 3, .int .i64 l, .slice none 0 0] 24)).alloc (.cells #[.int .i64 1, .int .i64 0, .slice none 0 0] 24)); simpa using this
      have hq2 : Box W6 (wA.heap.size + 2) (.int .i64 1) (.int .i64 0) (.slice none 0 0) := by
        rw [hW6]; have := ((((Box.new ((wA.alloc (.cells #[.int .i64 1, .int .i64 0, .slice none 0 0] 24)).alloc (.cells #[.int .i64 2, .int .i64 0, .slice none 0 0] 24)) (.int .i64 1) (.int .i64 0) (.slice none 0 0)).alloc (.cells #[.int .i64 8, .int .i64 0, .slice (some ⟨wA.heap.size + 2, 0, none⟩) 1 1] 24)).alloc (.cells #[.int .i64 3, .int .i64 l, .slice none 0 0] 24)).alloc (.cells #[.int .i64 1, .int .i64 0, .slice none 0 0] 24)); simpa using this
      have hq8 : Box W6 (wA.heap.size + 3) (.int .i64 8) (.int .i64 0) (.slice (some ⟨wA.heap.size + 2, 0, none⟩) 1 1) := by
        rw [hW6]; have := (((Box.new (((wA.alloc (.cells #[.int .i64 1, .int .i64 0, .slice none 0 0] 24)).alloc (.cells #[.int .i64 2, .int .i64 0, .slice none 0 0] 24)).alloc (.cells #[.int .i64 1, .int .i64 0, .slice none 0 0] 24)) (.int .i64 8) (.int .i64 0) (.slice (some ⟨wA.heap.size + 2, 0, none⟩) 1 1)).alloc (.cells #[.int .i64 3, .int .i64 l, .slice none 0 0] 24)).alloc (.cells #[.int .i64 1, .int .i64 0, .slice none 0 0] 24)); simpa using this
      have hq9 : Box W6 (wA.heap.size + 4) (.int .i64 3) (.int .i64 l) (.slice none 0 0) := by
        rw [hW6]; have := ((Box.new ((((wA.alloc (.cells #[.int .i64 1, .int .i64 0, .slice none 0 0] 24)).alloc (.cells #[.int .i64 2, .int .i64 0, .slice none 0 0] 24)).alloc (.cells #[.int .i64 1, .int .i64 0, .slice none 0 0] 24)).alloc (.cells #[.int .i64 8, .int .i64 0, .slice (some ⟨wA.heap.size + 2, 0, none⟩) 1 1] 24)) (.int .i64 3) (.int .i64 l) (.slice none 0 0)).alloc (.cells #[.int .i64 1, .int .i64 0, .slice none 0 0] 24)); simpa using this
      have hq10 : Box W6 (wA.heap.size + 5) (.int .i64 1) (.int .i64 0) (.slice none 0 0) := by
        rw [hW6]; have := (Box.new (((((wA.alloc (.cells #[.int .i64 1, .int .i64 0, .slice none 0 0] 24)).alloc (.cells #[.int .i64 2, .int .i64 0, .slice none 0 0] 24)).alloc (.cells #[.int .i64 1, .int .i64 0, .slice none 0 0] 24)).alloc (.cells #[.int .i64 8, .int .i64 0, .slice (some ⟨wA.heap.size + 2, 0, none⟩) 1 1] 24)).alloc (.cells #[.int .i64 3, .int .i64 l, .slice none 0 0] 24)) (.int .i64 1) (.int .i64 0) (.slice none 0 0)); simpa using this
      have hf9 : W6.frozen? ⟨wA.heap.size + 4, 2, none⟩ = false := by rw [hW6]; simp [go_sem]
      obtain ⟨⟨z0, z1, z2⟩, f0, f1, f2⟩ := HZA.out.keep (show Below wA.heap.size wA ((((((wA.alloc (.cells #[.int .i64 1, .int .i64 0, .slice none 0 0] 24)).alloc (.cells #[.int .i64 2, .int .i64 0, .slice none 0 0] 24)).alloc (.cells #[.int .i64 1, .int .i64 0, .slice none 0 0] 24)).alloc (.cells #[.int .i64 8, .int .i64 0, .slice (some ⟨wA.heap.size + 2, 0, none⟩) 1 1] 24)).alloc (.cells #[.int .i64 3, .int .i64 l, .slice none 0 0] 24)).alloc (.cells #[.int .i64 1, .int .i64 0, .slice none 0 0] 24)) from below_al (below_al (below_al (below_al (below_al (below_al (Below.refl _ _)))))))
      have hks : ks = [] := by
        rcases kind_of HWF.out with ⟨_, h⟩ | ⟨h, _⟩ | ⟨h, _⟩
        · exact h
        · omega
        · omega
      have HRF := Lib.hid (show R = .node 3 l [] by rw [HR.out, hks]; exact mkT_leaf (by omega) l [])
      have HBF := Lib.hid (below_ret (HBA.out.trans ((show Below wA.heap.size wA ((((((wA.alloc (.cells #[.int .i64 1, .int .i64 0, .slice none 0 0] 24)).alloc (.cells #[.int .i64 2, .int .i64 0, .slice none 0 0] 24)).alloc (.cells #[.int .i64 1, .int .i64 0, .slice none 0 0] 24)).alloc (.cells #[.int .i64 8, .int .i64 0, .slice (some ⟨wA.heap.size + 2, 0, none⟩) 1 1] 24)).alloc (.cells #[.int .i64 3, .int .i64 l, .slice none 0 0] 24)).alloc (.cells #[.int .i64 1, .int .i64 0, .slice none 0 0] 24)) from hW6 ▸ hB6).mono HBA.out.size)) (b0 := w.heap.size + 1) (by omega) (.int .i64 3) (.int .i64 l) (.slice none 0 0))
      have HBL := Lib.hid (HI.out.2.2.1)
      clear hq6 hq7 hq2 hq8 hq9 hq10 hf9 hB6 hW6 hsz6 hks
      go_wp2_with fail
      refine bodyPost_ret (v := .agg #[.int .i64 3, .int .i64 l, .slice none 0 0]) (by simp [results, Try.results10, go_sem, z0, z1, z2]) rfl ?_
      rw [HRF.out]
      exact ⟨none, 0, rfl, ⟨.zero _, by unfold B64; simp [T.op], HBL.out, by simp [T.ks]⟩, HBF.out⟩
set_option maxRecDepth 100000 in
set_option maxHeartbeats 16000000 in
theorem refN_8 (ks : List T) (hw : wfT 6 (.node 8 0 ks) = true) (hs : sizeT (.node 8 0 ks) ≤ 1000000000) (ih : ∀ (i : Nat) (o l : Int) (ls : List T), ks[i]? = some (.node o l ls) → ∀ (a : Option Addr) (c : Nat) (w : World), InX w o l ls a → Calls Try.prog 10 #[.agg #[.int .i64 o, .int .i64 l, .slice a ls.length c]] w (GiveT w (nrmT (.node o l ls)))) (a : Option Addr) (c : Nat) (w : World) (hin : InX w 8 0 ks a) :
    Calls Try.prog 10 #[.agg #[.int .i64 8, .int .i64 0, .slice a ks.length c]] w (GiveT w (nrmT (.node 8 0 ks))) := by
  have HI := Lib.hid hin
  have hsk : sizeL ks < 1000000000 := by simp only [sizeT] at hs; omega
  have hlk : ks.length ≤ 1000000000 := by have := sizeL_len ks; omega
  have HWF := Lib.hid hw
  have HW := Lib.hid (wfT_node.1 hw).2.2
  have IH := Lib.hid ih
  have hgood : ∀ k, k ∈ ks.map nrmT → GoodT k := fun k hk => by
    obtain ⟨x, hx, rfl⟩ := List.mem_map.1 hk
    exact (nrm_all x ((wfT_node.1 hw).2.2 x hx)).1
  have hsm : sizeL (ks.map nrmT) ≤ 1000000000 := by
    have := sizeL_map fun k hk => (nrm_all k ((wfT_node.1 hw).2.2 k hk)).2.1
    omega
  have HGO := Lib.hid hgood
  have HSM := Lib.hid hsm
  have hgd := (nrm_all _ hw).1.1
  rw [nrmT_node] at hgd ⊢
  obtain ⟨R, hR⟩ : ∃ R, R = mkT 8 0 (ks.map nrmT) := ⟨_, rfl⟩
  rw [← hR] at hgd ⊢
  have HR := Lib.hid hR
  have HGD := Lib.hid hgd
  obtain ⟨n, hn⟩ : ∃ n, n = ks.length := ⟨_, rfl⟩
  rw [← hn] at hlk ⊢
  have HN := Lib.hid hn
  obtain ⟨W2, hW2⟩ : ∃ W, W = (w.alloc (.cells #[.int .i64 8, .int .i64 0, .slice a n c] 24)).alloc (.cells #[.int .i64 0, .int .i64 0, .slice none 0 0] 24) := ⟨_, rfl⟩
  have HW2 := Lib.hid hW2
  have HB2 := Lib.hid (show Below w.heap.size w W2 by rw [hW2]; exact ((Below.refl w.heap.size w).alloc (Nat.le_refl _) _).alloc (by simp) _)
  have HBX2 := Lib.hid (show Box W2 w.heap.size (.int .i64 8) (.int .i64 0) (.slice a n c) by rw [hW2]; exact (Box.new w _ _ _).alloc _)
  have HZ2 := Lib.hid (show Zero3 W2 (w.heap.size + 1) by
    rw [hW2]; have := Zero3.new (w.alloc (.cells #[.int .i64 8, .int .i64 0, .slice a n c] 24)); simpa using this)
  have hsz2 : W2.heap.size = w.heap.size + 2 := by rw [hW2]; simp
  clear hin hw hs ih hgood hsm hgd hR hn hW2 hsk
  obtain ⟨i0, hinf, hz0, hz1, hz2⟩ := info_parts infoE
  go_enter Try.func10, Try.ntmps10
  go_wp2_with fail
  rw [← HW2.out]
  go_loopw [3, 21] (fun vp vi wr => ∃ (i : Nat) (es : List Ex), i ≤ n ∧ vi = .int .i64 i ∧ es.length = i ∧ es.map Ex.t = (ks.take i).map nrmT ∧ FillV W2 wr vp es) (fun _ vi _ => n - (intOf vi).toNat)
  case atStart => exact ⟨0, [], Nat.zero_le _, rfl, rfl, by simp, .inl ⟨rfl, rfl, Below.refl _ _⟩⟩
  case round =>
    rename World => wA
    obtain ⟨i, es, hi, rfl, hel, hmp, hF⟩ := hrel
    have HF := Lib.hid hF
    have HMP := Lib.hid hmp
    by_cases hlt : i < n
    · have hlt' : i < ks.length := by rw [← HN.out]; exact hlt
      obtain ⟨ko, kl, kk, hk, hk2⟩ := kid_some hlt'
      obtain ⟨b, off, a', c', rfl, hbz, d0, d1, d2, hx⟩ := (HI.out.keep (HB2.out.trans (hF.bel.mono HB2.out.size))).kid hk
      have hi0 : (0 : Int) ≤ (i : Int) := by omega
      have hin2 : (i : Int) < (n : Int) := by omega
      have hwi : IntKind.i64.wrap (i : Int) = (i : Int) := IntWalk.i64_in _ (by omega)
      obtain ⟨ro', rl', rk', hr'⟩ : ∃ o l k, nrmT (.node ko kl kk) = .node o l k := by
        cases h : nrmT (.node ko kl kk) with
        | node o l k => exact ⟨o, l, k, rfl⟩
      obtain ⟨kn, hkn⟩ : ∃ n, n = kk.length := ⟨_, rfl⟩
      rw [← hkn] at d2
      have HC := Lib.hid (IH.out i ko kl kk hk a' c' _ (hx.box (.cells #[.int .i64 ko, .int .i64 kl, .slice a' kn c'] 24)))
      rw [hr', ← hkn] at HC
      have HG' := Lib.hid (show wfT 6 (.node ro' rl' rk') = true by rw [← hr']; exact (nrm_all _ (HW.out _ (List.mem_of_getElem? hk))).1.1)
      have HM' := Lib.hid (show es.map Ex.t ++ [.node ro' rl' rk'] = (ks.take (i + 1)).map nrmT by rw [take_map_snoc hlt', HMP.out, hk2, hr'])
      clear hk hk2 hx hr' hkn hF hmp
      go_wp2_with fail
      refine HC.out.mono ?_
      rintro e w5 hgv
      obtain ⟨a5, c5, rfl, hx5, hb5⟩ := give_node.1 hgv
      have HF5 := Lib.hid ((HF.out.alloc (.cells #[.int .i64 ko, .int .i64 kl, .slice a' kn c'] 24)).keep hb5 (Nat.le_refl _))
      have HX5 := Lib.hid hx5
      clear hgv hx5 hb5
      go_wp2_with (at_builtin; refine wpList_append_fill rfl _ _ 22 rfl i0 Try.underlying22 hinf hz0 hz1 hz2 W2 _ es rfl (HF5.out.alloc _) ⟨_, 0, none⟩ 1 ⟨ro', rl', rk', a5, c5⟩ rfl ?c1 ?c2 HG'.out ?c3 ?_)
      case c1 => exact World.news_of_block (cs := #[.int .i64 ro', .int .i64 rl', .slice a5 rk'.length c5]) (t := 24) (fr := (0, 0)) (by have h := heap_alloc_new w5 (.cells #[.int .i64 ro', .int .i64 rl', .slice a5 rk'.length c5] 24); simpa using h)
      case c2 => exact HX5.out.box _
      case c3 => omega
      intro v' w6 hf6
      have HF6 := Lib.hid hf6
      clear hf6
      go_wp2_with fail
      exact ⟨⟨i + 1, es ++ [(⟨ro', rl', rk', a5, c5⟩ : Ex)], by omega, by go_num, by simp [hel], by rw [List.map_append]; exact HM'.out, by exact HF6.out⟩, by simp [intOf]; omega⟩
    · obtain rfl : i = n := by omega
      obtain ⟨a0, c0, rfl, hK⟩ := hF.kids (op := 0) (l := 0) (by unfold B64; omega) (by unfold B64; omega)
      rw [hmp, HN.out, List.take_length] at hK
      have HK := Lib.hid hK
      have HBA := Lib.hid (HB2.out.trans (hF.bel.mono HB2.out.size))
      have HZA := Lib.hid (HZ2.out.keep hF.bel)
      have HXA := Lib.hid (HBX2.out.keep hF.bel)
      have hszA : w.heap.size + 2 ≤ wA.heap.size := by have := hF.bel.size; omega
      have hkl : (ks.map nrmT).length = i := by rw [List.length_map, ← HN.out]
      rw [hel] at *
      clear hF hmp hK HF HMP
      obtain ⟨x0, x1, x2⟩ := HXA.out.keep (show Below wA.heap.size wA ((((wA.alloc (.cells #[.int .i64 1, .int .i64 0, .slice none 0 0] 24)).alloc (.cells #[.int .i64 2, .int .i64 0, .slice none 0 0] 24)).alloc (.cells #[.int .i64 1, .int .i64 0, .slice none 0 0] 24)).alloc (.cells #[.int .i64 8, .int .i64 0, .slice (some ⟨wA.heap.size + 2, 0, none⟩) 1 1] 24)) from below_al (below_al (below_al (below_al (Below.refl _ _)))))
      obtain ⟨y0, y1, y2⟩ := HXA.out.keep (show Below wA.heap.size wA ((((((wA.alloc (.cells #[.int .i64 1, .int .i64 0, .slice none 0 0] 24)).alloc (.cells #[.int .i64 2, .int .i64 0, .slice none 0 0] 24)).alloc (.cells #[.int .i64 1, .int .i64 0, .slice none 0 0] 24)).alloc (.cells #[.int .i64 8, .int .i64 0, .slice (some ⟨wA.heap.size + 2, 0, none⟩) 1 1] 24)).alloc (.cells #[.int .i64 8, .int .i64 0, .slice none 0 0] 24)).alloc (.cells #[.int .i64 1, .int .i64 0, .slice none 0 0] 24)) from below_al (below_al (below_al (below_al (below_al (below_al (Below.refl _ _)))))))
      obtain ⟨W6, hW6⟩ : ∃ W, W = ((((((wA.alloc (.cells #[.int .i64 1, .int .i64 0, .slice none 0 0] 24)).alloc (.cells #[.int .i64 2, .int .i64 0, .slice none 0 0] 24)).alloc (.cells #[.int .i64 1, .int .i64 0, .slice none 0 0] 24)).alloc (.cells #[.int .i64 8, .int .i64 0, .slice (some ⟨wA.heap.size + 2, 0, none⟩) 1 1] 24)).alloc (.cells #[.int .i64 8, .int .i64 0, .slice none 0 0] 24)).alloc (.cells #[.int .i64 1, .int .i64 0, .slice none 0 0] 24)) := ⟨_, rfl⟩
      have hB6 : Below wA.heap.size wA W6 := by rw [hW6]; exact below_al (below_al (below_al (below_al (below_al (below_al (Below.refl _ _))))))
      have hsz6 : W6.heap.size = wA.heap.size + 6 := by rw [hW6]; simp
      have hq6 : Box W6 wA.heap.size (.int .i64 1) (.int .i64 0) (.slice none 0 0) := by
        rw [hW6]; have := ((((((Box.new wA (.int .i64 1) (.int .i64 0) (.slice none 0 0)).alloc (.cells #[.int .i64 2, .int .i64 0, .slice none 0 0] 24)).alloc (.cells #[.int .i64 1, .int .i64 0, .slice none 0 0] 24)).alloc (.cells #[.int .i64 8, .int .i64 0, .slice (some ⟨wA.heap.size + 2, 0, none⟩) 1 1] 24)).alloc (.cells #[.int .i64 8, .int .i64 0, .slice none 0 0] 24)).alloc (.cells #[.int .i64 1, .int .i64 0, .slice none 0 0] 24)); simpa using this
      have hq7 : Box W6 (wA.heap.size + 1) (.int .i64 2) (.int .i64 0) (.slice none 0 0) := by
        rw [hW6]; have := (((((Box.new (wA.alloc (.cells #[.int .i64 1, .int .i64 0, .slice none 0 0] 24)) (.int .i64 2) (.int .i64 0) (.slice none 0 0)).alloc (.cells #[.int .i64 1, .int .i64 0, .slice none 0 0] 24)).alloc (.cells #[.int .i64 8, .int .i64 0, .slice (some ⟨wA.heap.size + 2, 0, none⟩) 1 1] 24)).alloc (.cells #[.int .i64 8, .int .i64 0, .slice none 0 0] 24)).alloc (.cells #[.int .i64 1, .int .i64 0, .slice none 0 0] 24)); simpa using this
      have hq2 : Box W6 (wA.heap.size + 2) (.int .i64 1) (.int .i64 0) (.slice none 0 0) := by
        rw [hW6]; have := ((((Box.new ((wA.alloc (.cells #[.int .i64 1, .int .i64 0, .slice none 0 0] 24)).alloc (.cells #[.int .i64 2, .int .i64 0, .slice none 0 0] 24)) (.int .i64 1) (.int .i64 0) (.slice none 0 0)).alloc (.cells #[.int .i64 8, .int .i64 0, .slice (some ⟨wA.heap.size + 2, 0, none⟩) 1 1] 24)).alloc (.cells #[.int .i64 8, .int .i64 0, .slice none 0 0] 24)).alloc (.cells #[.int .i64 1, .int .i64 0, .slice none 0 0] 24)); simpa using this
      have hq8 : Box W6 (wA.heap.size + 3) (.int .i64 8) (.int .i64 0) (.slice (some ⟨wA.heap.size + 2, 0, none⟩) 1 1) := by
        rw [hW6]; have := (((Box.new (((wA.alloc (.cells #[.int .i64 1, .int .i64 0, .slice none 0 0] 24)).alloc (.cells #[.int .i64 2, .int .i64 0, .slice none 0 0] 24)).alloc (.cells #[.int .i64 1, .int .i64 0, .slice none 0 0] 24)) (.int .i64 8) (.int .i64 0) (.slice (some ⟨wA.heap.size + 2, 0, none⟩) 1 1)).alloc (.cells #[.int .i64 8, .int .i64 0, .slice none 0 0] 24)).alloc (.cells #[.int .i64 1, .int .i64 0, .slice none 0 0] 24)); simpa using this
      have hq9 : Box W6 (wA.heap.size + 4) (.int .i64 8) (.int .i64 0) (.slice none 0 0) := by
        rw [hW6]; have := ((Box.new ((((wA.alloc (.cells #[.int .i64 1, .int .i64 0, .slice none 0 0] 24)).alloc (.cells #[.int .i64 2, .int .i64 0, .slice none 0 0] 24)).alloc (.cells #[.int .i64 1, .int .i64 0, .slice none 0 0] 24)).alloc (.cells #[.int .i64 8, .int .i64 0, .slice (some ⟨wA.heap.size + 2, 0, none⟩) 1 1] 24)) (.int .i64 8) (.int .i64 0) (.slice none 0 0)).alloc (.cells #[.int .i64 1, .int .i64 0, .slice none 0 0] 24)); simpa using this
      have hq10 : Box W6 (wA.heap.size + 5) (.int .i64 1) (.int .i64 0) (.slice none 0 0) := by
        rw [hW6]; have := (Box.new (((((wA.alloc (.cells #[.int .i64 1, .int .i64 0, .slice none 0 0] 24)).alloc (.cells #[.int .i64 2, .int .i64 0, .slice none 0 0] 24)).alloc (.cells #[.int .i64 1, .int .i64 0, .slice none 0 0] 24)).alloc (.cells #[.int .i64 8, .int .i64 0, .slice (some ⟨wA.heap.size + 2, 0, none⟩) 1 1] 24)).alloc (.cells #[.int .i64 8, .int .i64 0, .slice none 0 0] 24)) (.int .i64 1) (.int .i64 0) (.slice none 0 0)); simpa using this
      have hf9 : W6.frozen? ⟨wA.heap.size + 4, 2, none⟩ = false := by rw [hW6]; simp [go_sem]
      obtain ⟨⟨z0, z1, z2⟩, f0, f1, f2⟩ := HZA.out.keep (show Below wA.heap.size wA ((((((wA.alloc (.cells #[.int .i64 1, .int .i64 0, .slice none 0 0] 24)).alloc (.cells #[.int .i64 2, .int .i64 0, .slice none 0 0] 24)).alloc (.cells #[.int .i64 1, .int .i64 0, .slice none 0 0] 24)).alloc (.cells #[.int .i64 8, .int .i64 0, .slice (some ⟨wA.heap.size + 2, 0, none⟩) 1 1] 24)).alloc (.cells #[.int .i64 8, .int .i64 0, .slice none 0 0] 24)).alloc (.cells #[.int .i64 1, .int .i64 0, .slice none 0 0] 24)) from below_al (below_al (below_al (below_al (below_al (below_al (Below.refl _ _)))))))
      obtain ⟨kx, hkx⟩ : ∃ k, ks = [k] := by
        rcases kind_of HWF.out with ⟨h, _⟩ | ⟨_, _, h⟩ | ⟨h, _⟩
        · omega
        · exact h
        · omega
      obtain ⟨ko, kl, kk, hk0⟩ : ∃ o l k, nrmT kx = .node o l k := by
        cases h : nrmT kx with
        | node o l k => exact ⟨o, l, k, rfl⟩
      have hmp : ks.map nrmT = [.node ko kl kk] := by rw [hkx, ← hk0]; rfl
      have hgk : GoodT (.node ko kl kk) := HGO.out _ (by rw [hmp]; simp)
      have hi1 : i = 1 := by rw [← hkl, hmp]; rfl
      have hl0 : (0 : Int) < (i : Int) := by omega
      have HK1 := Lib.hid (show InX wA 0 0 [.node ko kl kk] a0 by rw [← hmp]; exact HK.out)
      obtain ⟨b, off, a1, c1, rfl, hbz, d0, d1, d2, hx⟩ := (HK1.out.keep (show Below wA.heap.size wA ((((((wA.alloc (.cells #[.int .i64 1, .int .i64 0, .slice none 0 0] 24)).alloc (.cells #[.int .i64 2, .int .i64 0, .slice none 0 0] 24)).alloc (.cells #[.int .i64 1, .int .i64 0, .slice none 0 0] 24)).alloc (.cells #[.int .i64 8, .int .i64 0, .slice (some ⟨wA.heap.size + 2, 0, none⟩) 1 1] 24)).alloc (.cells #[.int .i64 8, .int .i64 0, .slice none 0 0] 24)).alloc (.cells #[.int .i64 1, .int .i64 0, .slice none 0 0] 24)) from hW6 ▸ hB6)).kid (i := 0) rfl
      simp only [Nat.zero_mul, Nat.add_zero] at d0 d1 d2
      have hR2 : R = notT (.node ko kl kk) := by rw [HR.out, hmp]; rfl
      by_cases h8 : ko = 8
      · subst h8
        obtain ⟨k1, rfl⟩ : ∃ k, kk = [k] := by
          rcases kind_of hgk.1 with ⟨h, _⟩ | ⟨_, _, h⟩ | ⟨h, _⟩
          · omega
          · exact h
          · omega
        obtain ⟨ro, rl, rk⟩ := k1
        obtain ⟨b2, off2, a2, c2, rfl, hbz2, g0, g1, g2, hx2⟩ := hx.kid (i := 0) rfl
        simp only [Nat.zero_mul, Nat.add_zero] at g0 g1 g2
        obtain ⟨m1, hm1⟩ : ∃ m, m = [T.node ro rl rk].length := ⟨_, rfl⟩
        rw [← hm1] at d2
        have hm10 : (0 : Int) < (m1 : Int) := by rw [hm1]; simp
        obtain ⟨rn, hrn⟩ : ∃ m, m = rk.length := ⟨_, rfl⟩
        rw [← hrn] at g2
        have HRN := Lib.hid hrn
        have HRF := Lib.hid (show R = .node ro rl rk from hR2)
        have HBF := Lib.hid (below_ret (HBA.out.trans ((show Below wA.heap.size wA ((((((wA.alloc (.cells #[.int .i64 1, .int .i64 0, .slice none 0 0] 24)).alloc (.cells #[.int .i64 2, .int .i64 0, .slice none 0 0] 24)).alloc (.cells #[.int .i64 1, .int .i64 0, .slice none 0 0] 24)).alloc (.cells #[.int .i64 8, .int .i64 0, .slice (some ⟨wA.heap.size + 2, 0, none⟩) 1 1] 24)).alloc (.cells #[.int .i64 8, .int .i64 0, .slice none 0 0] 24)).alloc (.cells #[.int .i64 1, .int .i64 0, .slice none 0 0] 24)) from hW6 ▸ hB6).mono HBA.out.size)) (b0 := w.heap.size + 1) (by omega) (.int .i64 ro) (.int .i64 rl) (.slice a2 rn c2))
        have HXF := Lib.hid (inX_ret (x := ⟨ro, rl, rk, a2, c2⟩) z0 z1 z2 hx2 (show wfT 6 (.node ro rl rk) = true by rw [← HRF.out]; exact HGD.out) (.int .i64 ro) (.int .i64 rl) (.slice a2 rn c2))
        clear hq6 hq7 hq2 hq8 hq9 hq10 hf9 hB6 hW6 hsz6 hx hx2 hm1 hrn hmp hk0 hkx hgk hR2 hi1
        go_wp2_with fail
        refine bodyPost_ret (v := .agg #[.int .i64 ro, .int .i64 rl, .slice a2 rn c2]) (by simp [results, Try.results10, go_sem, z0, z1, z2]) rfl ?_
        rw [HRF.out]
        exact ⟨a2, c2, by rw [HRN.out]; rfl, HXF.out, HBF.out⟩
      · have t8 : (ko == 8) = false := ne_beq h8
        have hB7 : Below wA.heap.size wA ((((((wA.alloc (.cells #[.int .i64 1, .int .i64 0, .slice none 0 0] 24)).alloc (.cells #[.int .i64 2, .int .i64 0, .slice none 0 0] 24)).alloc (.cells #[.int .i64 1, .int .i64 0, .slice none 0 0] 24)).alloc (.cells #[.int .i64 8, .int .i64 0, .slice (some ⟨wA.heap.size + 2, 0, none⟩) 1 1] 24)).alloc (.cells #[.int .i64 8, .int .i64 0, .slice (some ⟨b, off, none⟩) i c0] 24)).alloc (.cells #[.int .i64 1, .int .i64 0, .slice none 0 0] 24)) := below_al (below_al (below_al (below_al (below_al (below_al (Below.refl _ _))))))
        obtain ⟨⟨y0', y1', y2'⟩, u0', u1', u2'⟩ := HZA.out.keep hB7
        have HRF := Lib.hid (show R = .node 8 0 [.node ko kl kk] from hR2.trans (if_neg h8))
        have HBF := Lib.hid (below_ret (HBA.out.trans (hB7.mono HBA.out.size)) (b0 := w.heap.size + 1) (by omega) (.int .i64 8) (.int .i64 0) (.slice (some ⟨b, off, none⟩) i c0))
        have HXF := Lib.hid (inX_ret (x := ⟨8, 0, [.node ko kl kk], some ⟨b, off, none⟩, c0⟩) y0' y1' y2' (show InX _ 8 0 [.node ko kl kk] _ from ⟨(HK1.out.keep hB7).1, by unfold B64; omega, by unfold B64; omega, by simp⟩) (show wfT 6 (.node 8 0 [.node ko kl kk]) = true by rw [← HRF.out]; exact HGD.out) (.int .i64 8) (.int .i64 0) (.slice (some ⟨b, off, none⟩) i c0))
        have HI1 := Lib.hid hi1
        clear hq6 hq7 hq2 hq8 hq9 hq10 hf9 hB6 hW6 hsz6 hx hmp hk0 hkx hgk hR2 hi1 hB7
        go_wp2_with fail
        refine bodyPost_ret (v := .agg #[.int .i64 8, .int .i64 0, .slice (some ⟨b, off, none⟩) i c0]) (by simp [results, Try.results10, go_sem, y0', y1', y2']) rfl ?_
        rw [HRF.out]
        exact ⟨_, c0, by rw [HI1.out]; rfl, HXF.out, HBF.out⟩
set_option maxRecDepth 100000 in
set_option maxHeartbeats 16000000 in
theorem refN_7 (ks : List T) (hw : wfT 6 (.node 7 0 ks) = true) (hs : sizeT (.node 7 0 ks) ≤ 1000000000) (ih : ∀ (i : Nat) (o l : Int) (ls : List T), ks[i]? = some (.node o l ls) → ∀ (a : Option Addr) (c : Nat) (w : World), InX w o l ls a → Calls Try.prog 10 #[.agg #[.int .i64 o, .int .i64 l, .slice a ls.length c]] w (GiveT w (nrmT (.node o l ls)))) (a : Option Addr) (c : Nat) (w : World) (hin : InX w 7 0 ks a) :
    Calls Try.prog 10 #[.agg #[.int .i64 7, .int .i64 0, .slice a ks.length c]] w (GiveT w (nrmT (.node 7 0 ks))) := by
  have HI := Lib.hid hin
  have hsk : sizeL ks < 1000000000 := by simp only [sizeT] at hs; omega
  have hlk : ks.length ≤ 1000000000 := by have := sizeL_len ks; omega
  have HWF := Lib.hid hw
  have HW := Lib.hid (wfT_node.1 hw).2.2
  have IH := Lib.hid ih
  have hgood : ∀ k, k ∈ ks.map nrmT → GoodT k := fun k hk => by
    obtain ⟨x, hx, rfl⟩ := List.mem_map.1 hk
    exact (nrm_all x ((wfT_node.1 hw).2.2 x hx)).1
  have hsm : sizeL (ks.map nrmT) ≤ 1000000000 := by
    have := sizeL_map fun k hk => (nrm_all k ((wfT_node.1 hw).2.2 k hk)).2.1
    omega
  have HGO := Lib.hid hgood
  have HSM := Lib.hid hsm
  have hgd := (nrm_all _ hw).1.1
  rw [nrmT_node] at hgd ⊢
  obtain ⟨R, hR⟩ : ∃ R, R = mkT 7 0 (ks.map nrmT) := ⟨_, rfl⟩
  rw [← hR] at hgd ⊢
  have HR := Lib.hid hR
  have HGD := Lib.hid hgd
  obtain ⟨n, hn⟩ : ∃ n, n = ks.length := ⟨_, rfl⟩
  rw [← hn] at hlk ⊢
  have HN := Lib.hid hn
  obtain ⟨W2, hW2⟩ : ∃ W, W = (w.alloc (.cells #[.int .i64 7, .int .i64 0, .slice a n c] 24)).alloc (.cells #[.int .i64 0, .int .i64 0, .slice none 0 0] 24) := ⟨_, rfl⟩
  have HW2 := Lib.hid hW2
  have HB2 := Lib.hid (show Below w.heap.size w W2 by rw [hW2]; exact ((Below.refl w.heap.size w).alloc (Nat.le_refl _) _).alloc (by simp) _)
  have HBX2 := Lib.hid (show Box W2 w.heap.size (.int .i64 7) (.int .i64 0) (.slice a n c) by rw [hW2]; exact (Box.new w _ _ _).alloc _)
  have HZ2 := Lib.hid (show Zero3 W2 (w.heap.size + 1) by
    rw [hW2]; have := Zero3.new (w.alloc (.cells #[.int .i64 7, .int .i64 0, .slice a n c] 24)); simpa using this)
  have hsz2 : W2.heap.size = w.heap.size + 2 := by rw [hW2]; simp
  clear hin hw hs ih hgood hsm hgd hR hn hW2 hsk
  obtain ⟨i0, hinf, hz0, hz1, hz2⟩ := info_parts infoE
  go_enter Try.func10, Try.ntmps10
  go_wp2_with fail
  rw [← HW2.out]
  go_loopw [3, 21] (fun vp vi wr => ∃ (i : Nat) (es : List Ex), i ≤ n ∧ vi = .int .i64 i ∧ es.length = i ∧ es.map Ex.t = (ks.take i).map nrmT ∧ FillV W2 wr vp es) (fun _ vi _ => n - (intOf vi).toNat)
  case atStart => exact ⟨0, [], Nat.zero_le _, rfl, rfl, by simp, .inl ⟨rfl, rfl, Below.refl _ _⟩⟩
  case round =>
    rename World => wA
    obtain ⟨i, es, hi, rfl, hel, hmp, hF⟩ := hrel
    have HF := Lib.hid hF
    have HMP := Lib.hid hmp
    by_cases hlt : i < n
    · have hlt' : i < ks.length := by rw [← HN.out]; exact hlt
      obtain ⟨ko, kl, kk, hk, hk2⟩ := kid_some hlt'
      obtain ⟨b, off, a', c', rfl, hbz, d0, d1, d2, hx⟩ := (HI.out.keep (HB2.out.trans (hF.bel.mono HB2.out.size))).kid hk
      have hi0 : (0 : Int) ≤ (i : Int) := by omega
      have hin2 : (i : Int) < (n : Int) := by omega
      have hwi : IntKind.i64.wrap (i : Int) = (i : Int) := IntWalk.i64_in _ (by omega)
      obtain ⟨ro', rl', rk', hr'⟩ : ∃ o l k, nrmT (.node ko kl kk) = .node o l k := by
        cases h : nrmT (.node ko kl kk) with
        | node o l k => exact ⟨o, l, k, rfl⟩
      obtain ⟨kn, hkn⟩ : ∃ n, n = kk.length := ⟨_, rfl⟩
      rw [← hkn] at d2
      have HC := Lib.hid (IH.out i ko kl kk hk a' c' _ (hx.box (.cells #[.int .i64 ko, .int .i64 kl, .slice a' kn c'] 24)))
      rw [hr', ← hkn] at HC
      have HG' := Lib.hid (show wfT 6 (.node ro' rl' rk') = true by rw [← hr']; exact (nrm_all _ (HW.out _ (List.mem_of_getElem? hk))).1.1)
      have HM' := Lib.hid (show es.map Ex.t ++ [.node ro' rl' rk'] = (ks.take (i + 1)).map nrmT by rw [take_map_snoc hlt', HMP.out, hk2, hr'])
      clear hk hk2 hx hr' hkn hF hmp
      go_wp2_with fail
      refine HC.out.mono ?_
      rintro e w5 hgv
      obtain ⟨a5, c5, rfl, hx5, hb5⟩ := give_node.1 hgv
      have HF5 := Lib.hid ((HF.out.alloc (.cells #[.int .i64 ko, .int .i64 kl, .slice a' kn c'] 24)).keep hb5 (Nat.le_refl _))
      have HX5 := Lib.hid hx5
      clear hgv hx5 hb5
      go_wp2_with (at_builtin; refine wpList_append_fill rfl _ _ 22 rfl i0 Try.underlying22 hinf hz0 hz1 hz2 W2 _ es rfl (HF5.out.alloc _) ⟨_, 0, none⟩ 1 ⟨ro', rl', rk', a5, c5⟩ rfl ?c1 ?c2 HG'.out ?c3 ?_)
      case c1 => exact World.news_of_block (cs := #[.int .i64 ro', .int .i64 rl', .slice a5 rk'.length c5]) (t := 24) (fr := (0, 0)) (by have h := heap_alloc_new w5 (.cells #[.int .i64 ro', .int .i64 rl', .slice a5 rk'.length c5] 24); simpa using h)
      case c2 => exact HX5.out.box _
      case c3 => omega
      intro v' w6 hf6
      have HF6 := Lib.hid hf6
      clear hf6
      go_wp2_with fail
      exact ⟨⟨i + 1, es ++ [(⟨ro', rl', rk', a5, c5⟩ : Ex)], by omega, by go_num, by simp [hel], by rw [List.map_append]; exact HM'.out, by exact HF6.out⟩, by simp [intOf]; omega⟩
    · obtain rfl : i = n := by omega
      obtain ⟨a0, c0, rfl, hK⟩ := hF.kids (op := 0) (l := 0) (by unfold B64; omega) (by unfold B64; omega)
      rw [hmp, HN.out, List.take_length] at hK
      have HK := Lib.hid hK
      have HBA := Lib.hid (HB2.out.trans (hF.bel.mono HB2.out.size))
      have HZA := Lib.hid (HZ2.out.keep hF.bel)
      have HXA := Lib.hid (HBX2.out.keep hF.bel)
      have hszA : w.heap.size + 2 ≤ wA.heap.size := by have := hF.bel.size; omega
      have hkl : (ks.map nrmT).length = i := by rw [List.length_map, ← HN.out]
      rw [hel] at *
      clear hF hmp hK HF HMP
      obtain ⟨x0, x1, x2⟩ := HXA.out.keep (show Below wA.heap.size wA ((((wA.alloc (.cells #[.int .i64 1, .int .i64 0, .slice none 0 0] 24)).alloc (.cells #[.int .i64 2, .int .i64 0, .slice none 0 0] 24)).alloc (.cells #[.int .i64 1, .int .i64 0, .slice none 0 0] 24)).alloc (.cells #[.int .i64 8, .int .i64 0, .slice (some ⟨wA.heap.size + 2, 0, none⟩) 1 1] 24)) from below_al (below_al (below_al (below_al (Below.refl _ _)))))
      obtain ⟨y0, y1, y2⟩ := HXA.out.keep (show Below wA.heap.size wA ((((((wA.alloc (.cells #[.int .i64 1, .int .i64 0, .slice none 0 0] 24)).alloc (.cells #[.int .i64 2, .int .i64 0, .slice none 0 0] 24)).alloc (.cells #[.int .i64 1, .int .i64 0, .slice none 0 0] 24)).alloc (.cells #[.int .i64 8, .int .i64 0, .slice (some ⟨wA.heap.size + 2, 0, none⟩) 1 1] 24)).alloc (.cells #[.int .i64 7, .int .i64 0, .slice none 0 0] 24)).alloc (.cells #[.int .i64 1, .int .i64 0, .slice none 0 0] 24)) from below_al (below_al (below_al (below_al (below_al (below_al (Below.refl _ _)))))))
      obtain ⟨W6, hW6⟩ : ∃ W, W = ((((((wA.alloc (.cells #[.int .i64 1, .int .i64 0, .slice none 0 0] 24)).alloc (.cells #[.int .i64 2, .int .i64 0, .slice none 0 0] 24)).alloc (.cells #[.int .i64 1, .int .i64 0, .slice none 0 0] 24)).alloc (.cells #[.int .i64 8, .int .i64 0, .slice (some ⟨wA.heap.size + 2, 0, none⟩) 1 1] 24)).alloc (.cells #[.int .i64 7, .int .i64 0, .slice none 0 0] 24)).alloc (.cells #[.int .i64 1, .int .i64 0, .slice none 0 0] 24)) := ⟨_, rfl⟩
      have hB6 : Below wA.heap.size wA W6 := by rw [hW6]; exact below_al (below_al (below_al (below_al (below_al (below_al (Below.refl _ _))))))
      have hsz6 : W6.heap.size = wA.heap.size + 6 := by rw [hW6]; simp
      have hq6 : Box W6 wA.heap.size (.int .i64 1) (.int .i64 0) (.slice none 0 0) := by
        rw [hW6]; have := ((((((Box.new wA (.int .i64 1) (.int .i64 0) (.slice none 0 0)).alloc (.cells #[.int .i64 2, .int .i64 0, .slice none 0 0] 24)).alloc (.cells #[.int .i64 1, .int .i64 0, .slice none 0 0] 24)).alloc (.cells #[.int .i64 8, .int .i64 0, .slice (some ⟨wA.heap.size + 2, 0, none⟩) 1 1] 24)).alloc (.cells #[.int .i64 7, .int .i64 0, .slice none 0 0] 24)).alloc (.cells #[.int .i64 1, .int .i64 0, .slice none 0 0] 24)); simpa using this
      have hq7 : Box W6 (wA.heap.size + 1) (.int .i64 2) (.int .i64 0) (.slice none 0 0) := by
        rw [hW6]; have := (((((Box.new (wA.alloc (.cells #[.int .i64 1, .int .i64 0, .slice none 0 0] 24)) (.int .i64 2) (.int .i64 0) (.slice none 0 0)).alloc (.cells #[.int .i64 1, .int .i64 0, .slice none 0 0] 24)).alloc (.cells #[.int .i64 8, .int .i64 0, .slice (some ⟨wA.heap.size + 2, 0, none⟩) 1 1] 24)).alloc (.cells #[.int .i64 7, .int .i64 0, .slice none 0 0] 24)).alloc (.cells #[.int .i64 1, .int .i64 0, .slice none 0 0] 24)); simpa using this
      have hq2 : Box W6 (wA.heap.size + 2) (.int .i64 1) (.int .i64 0) (.slice none 0 0) := by
        rw [hW6]; have := ((((Box.new ((wA.alloc (.cells #[.int .i64 1, .int .i64 0, .slice none 0 0] 24)).alloc (.cells #[.int .i64 2, .int .i64 0, .slice none 0 0] 24)) (.int .i64 1) (.int .i64 0) (.slice none 0 0)).alloc (.cells #[.int .i64 8, .int .i64 0, .slice (some ⟨wA.heap.size + 2, 0, none⟩) 1 1] 24)).alloc (.cells #[.int .i64 7, .int .i64 0, .slice none 0 0] 24)).alloc (.cells #[.int .i64 1, .int .i64 0, .slice none 0 0] 24)); simpa using this
      have hq8 : Box W6 (wA.heap.size + 3) (.int .i64 8) (.int .i64 0) (.slice (some ⟨wA.heap.size + 2, 0, none⟩) 1 1) := by
        rw [hW6]; have := (((Box.new (((wA.alloc (.cells #[.int .i64 1, .int .i64 0, .slice none 0 0] 24)).alloc (.cells #[.int .i64 2, .int .i64 0, .slice none 0 0] 24)).alloc (.cells #[.int .i64 1, .int .i64 0, .slice none 0 0] 24)) (.int .i64 8) (.int .i64 0) (.slice (some ⟨wA.heap.size + 2, 0, none⟩) 1 1)).alloc (.cells #[.int .i64 7, .int .i64 0, .slice none 0 0] 24)).alloc (.cells #[.int .i64 1, .int .i64 0, .slice none 0 0] 24)); simpa using this
      have hq9 : Box W6 (wA.heap.size + 4) (.int .i64 7) (.int .i64 0) (.slice none 0 0) := by
        rw [hW6]; have := ((Box.new ((((wA.alloc (.cells #[.int .i64 1, .int .i64 0, .slice none 0 0] 24)).alloc (.cells #[.int .i64 2, .int .i64 0, .slice none 0 0] 24)).alloc (.cells #[.int .i64 1, .int .i64 0, .slice none 0 0] 24)).alloc (.cells #[.int .i64 8, .int .i64 0, .slice (some ⟨wA.heap.size + 2, 0, none⟩) 1 1] 24)) (.int .i64 7) (.int .i64 0) (.slice none 0 0)).alloc (.cells #[.int .i64 1, .int .i64 0, .slice none 0 0] 24)); simpa using this
      have hq10 : Box W6 (wA.heap.size + 5) (.int .i64 1) (.int .i64 0) (.slice none 0 0) := by
        rw [hW6]; have := (Box.new (((((wA.alloc (.cells #[.int .i64 1, .int .i64 0, .slice none 0 0] 24)).alloc (.cells #[.int .i64 2, .int .i64 0, .slice none 0 0] 24)).alloc (.cells #[.int .i64 1, .int .i64 0, .slice none 0 0] 24)).alloc (.cells #[.int .i64 8, .int .i64 0, .slice (some ⟨wA.heap.size + 2, 0, none⟩) 1 1] 24)).alloc (.cells #[.int .i64 7, .int .i64 0, .slice none 0 0] 24)) (.int .i64 1) (.int .i64 0) (.slice none 0 0)); simpa using this
      have hf9 : W6.frozen? ⟨wA.heap.size + 4, 2, none⟩ = false := by rw [hW6]; simp [go_sem]
      obtain ⟨kx, hkx⟩ : ∃ k, ks = [k] := by
        rcases kind_of HWF.out with ⟨h, _⟩ | ⟨_, _, h⟩ | ⟨h, _⟩
        · omega
        · exact h
        · omega
      obtain ⟨ko, kl, kk, hk0⟩ : ∃ o l k, nrmT kx = .node o l k := by
        cases h : nrmT kx with
        | node o l k => exact ⟨o, l, k, rfl⟩
      have hmp : ks.map nrmT = [.node ko kl kk] := by rw [hkx, ← hk0]; rfl
      have hgk : GoodT (.node ko kl kk) := HGO.out _ (by rw [hmp]; simp)
      have hi1 : i = 1 := by rw [← hkl, hmp]; rfl
      have hl0 : (0 : Int) < (i : Int) := by omega
      have HK1 := Lib.hid (show InX wA 0 0 [.node ko kl kk] a0 by rw [← hmp]; exact HK.out)
      obtain ⟨b, off, a1, c1, rfl, hbz, d0, d1, d2, hx⟩ := (HK1.out.keep (show Below wA.heap.size wA ((((((wA.alloc (.cells #[.int .i64 1, .int .i64 0, .slice none 0 0] 24)).alloc (.cells #[.int .i64 2, .int .i64 0, .slice none 0 0] 24)).alloc (.cells #[.int .i64 1, .int .i64 0, .slice none 0 0] 24)).alloc (.cells #[.int .i64 8, .int .i64 0, .slice (some ⟨wA.heap.size + 2, 0, none⟩) 1 1] 24)).alloc (.cells #[.int .i64 7, .int .i64 0, .slice none 0 0] 24)).alloc (.cells #[.int .i64 1, .int .i64 0, .slice none 0 0] 24)) from hW6 ▸ hB6)).kid (i := 0) rfl
      simp only [Nat.zero_mul, Nat.add_zero] at d0 d1 d2
      have hR2 : R = starT (.node ko kl kk) := by rw [HR.out, hmp]; rfl
      obtain ⟨kn, hkn⟩ : ∃ m, m = kk.length := ⟨_, rfl⟩
      rw [← hkn] at d2
      have HKN := Lib.hid hkn
      have hB7 : Below wA.heap.size wA (((((((wA.alloc (.cells #[.int .i64 1, .int .i64 0, .slice none 0 0] 24)).alloc (.cells #[.int .i64 2, .int .i64 0, .slice none 0 0] 24)).alloc (.cells #[.int .i64 1, .int .i64 0, .slice none 0 0] 24)).alloc (.cells #[.int .i64 8, .int .i64 0, .slice (some ⟨wA.heap.size + 2, 0, none⟩) 1 1] 24)).alloc (.cells #[.int .i64 7, .int .i64 0, .slice none 0 0] 24)).alloc (.cells #[.int .i64 1, .int .i64 0, .slice none 0 0] 24)).alloc (.cells #[.int .i64 ko, .int .i64 kl, .slice a1 kn c1] 24)) := below_al (below_al (below_al (below_al (below_al (below_al (below_al (Below.refl _ _)))))))
      have HB7 := Lib.hid hB7
      obtain ⟨⟨z0, z1, z2⟩, f0, f1, f2⟩ := HZA.out.keep hB7
      have hx7 : InX (((((((wA.alloc (.cells #[.int .i64 1, .int .i64 0, .slice none 0 0] 24)).alloc (.cells #[.int .i64 2, .int .i64 0, .slice none 0 0] 24)).alloc (.cells #[.int .i64 1, .int .i64 0, .slice none 0 0] 24)).alloc (.cells #[.int .i64 8, .int .i64 0, .slice (some ⟨wA.heap.size + 2, 0, none⟩) 1 1] 24)).alloc (.cells #[.int .i64 7, .int .i64 0, .slice none 0 0] 24)).alloc (.cells #[.int .i64 1, .int .i64 0, .slice none 0 0] 24)).alloc (.cells #[.int .i64 ko, .int .i64 kl, .slice a1 kn c1] 24)) ko kl kk a1 := hx.box _
      by_cases h12 : ko = 1 ∨ ko = 2
      · have HRF := Lib.hid (show R = unitT from hR2.trans (if_pos h12))
        have HBF := Lib.hid (below_ret (HBA.out.trans (HB7.out.mono HBA.out.size)) (b0 := w.heap.size + 1) (by omega) (.int .i64 2) (.int .i64 0) (.slice none 0 0))
        clear hq6 hq7 hq2 hq8 hq9 hq10 hf9 hB6 hW6 hsz6 hmp hk0 hkx hgk hR2 hi1 hx hkn hB7 hx7
        rcases h12 with rfl | rfl
        · go_wp2_with fail
          refine bodyPost_ret (v := .agg #[.int .i64 2, .int .i64 0, .slice none 0 0]) (by simp [results, Try.results10, go_sem, z0, z1, z2]) rfl ?_
          rw [HRF.out]
          exact ⟨none, 0, rfl, inX_unit _, HBF.out⟩
        · go_wp2_with fail
          refine bodyPost_ret (v := .agg #[.int .i64 2, .int .i64 0, .slice none 0 0]) (by simp [results, Try.results10, go_sem, z0, z1, z2]) rfl ?_
          rw [HRF.out]
          exact ⟨none, 0, rfl, inX_unit _, HBF.out⟩
      · have t1 : (ko == 1) = false := ne_beq fun e => h12 (.inl e)
        have t2 : (ko == 2) = false := ne_beq fun e => h12 (.inr e)
        by_cases h7 : ko = 7
        · have HRF := Lib.hid (show R = .node ko kl kk from hR2.trans ((if_neg h12).trans (if_pos (.inl h7))))
          have t7 : (ko == 7) = true := by rw [h7]; rfl
          have HBF := Lib.hid (below_ret (HBA.out.trans (HB7.out.mono HBA.out.size)) (b0 := w.heap.size + 1) (by omega) (.int .i64 ko) (.int .i64 kl) (.slice a1 kn c1))
          have HXF := Lib.hid (inX_ret (x := ⟨ko, kl, kk, a1, c1⟩) z0 z1 z2 hx7 hgk.1 (.int .i64 ko) (.int .i64 kl) (.slice a1 kn c1))
          clear hq6 hq7 hq2 hq8 hq9 hq10 hf9 hB6 hW6 hsz6 hmp hk0 hkx hgk hR2 hi1 hx hkn hB7 hx7 h12 h7
          go_wp2_with fail
          refine bodyPost_ret (v := .agg #[.int .i64 ko, .int .i64 kl, .slice a1 kn c1]) (by simp [results, Try.results10, go_sem, z0, z1, z2]) rfl ?_
          rw [HRF.out]
          exact ⟨a1, c1, by rw [HKN.out]; rfl, HXF.out, HBF.out⟩
        · have t7 : (ko == 7) = false := ne_beq h7
          obtain ⟨r, hr⟩ : ∃ r, r = isT (.node ko kl kk) allT := ⟨_, rfl⟩
          have HCU : RowKit.Hid (Calls Try.prog 21 #[.agg #[.int .i64 ko, .int .i64 kl, .slice a1 kn c1]] (((((((wA.alloc (.cells #[.int .i64 1, .int .i64 0, .slice none 0 0] 24)).alloc (.cells #[.int .i64 2, .int .i64 0, .slice none 0 0] 24)).alloc (.cells #[.int .i64 1, .int .i64 0, .slice none 0 0] 24)).alloc (.cells #[.int .i64 8, .int .i64 0, .slice (some ⟨wA.heap.size + 2, 0, none⟩) 1 1] 24)).alloc (.cells #[.int .i64 7, .int .i64 0, .slice none 0 0] 24)).alloc (.cells #[.int .i64 1, .int .i64 0, .slice none 0 0] 24)).alloc (.cells #[.int .i64 ko, .int .i64 kl, .slice a1 kn c1] 24)) fun e w' => e = .returned (.bool r) ∧ Below (((((((wA.alloc (.cells #[.int .i64 1, .int .i64 0, .slice none 0 0] 24)).alloc (.cells #[.int .i64 2, .int .i64 0, .slice none 0 0] 24)).alloc (.cells #[.int .i64 1, .int .i64 0, .slice none 0 0] 24)).alloc (.cells #[.int .i64 8, .int .i64 0, .slice (some ⟨wA.heap.size + 2, 0, none⟩) 1 1] 24)).alloc (.cells #[.int .i64 7, .int .i64 0, .slice none 0 0] 24)).alloc (.cells #[.int .i64 1, .int .i64 0, .slice none 0 0] 24)).alloc (.cells #[.int .i64 ko, .int .i64 kl, .slice a1 kn c1] 24)).heap.size (((((((wA.alloc (.cells #[.int .i64 1, .int .i64 0, .slice none 0 0] 24)).alloc (.cells #[.int .i64 2, .int .i64 0, .slice none 0 0] 24)).alloc (.cells #[.int .i64 1, .int .i64 0, .slice none 0 0] 24)).alloc (.cells #[.int .i64 8, .int .i64 0, .slice (some ⟨wA.heap.size + 2, 0, none⟩) 1 1] 24)).alloc (.cells #[.int .i64 7, .int .i64 0, .slice none 0 0] 24)).alloc (.cells #[.int .i64 1, .int .i64 0, .slice none 0 0] 24)).alloc (.cells #[.int .i64 ko, .int .i64 kl, .slice a1 kn c1] 24)) w') := Lib.hid (by rw [hr, hkn]; exact univ_any ko kl kk a1 c1 _ (by rw [← hkn]; exact hx7) hgk.1)
          have HO6 := Lib.hid (show OutB W6 (wA.heap.size + 4) (.int .i64 7) (.int .i64 0) (.slice none 0 0) from ⟨hq9, hf9⟩)
          have HO7 := Lib.hid (show OutB (((((((wA.alloc (.cells #[.int .i64 1, .int .i64 0, .slice none 0 0] 24)).alloc (.cells #[.int .i64 2, .int .i64 0, .slice none 0 0] 24)).alloc (.cells #[.int .i64 1, .int .i64 0, .slice none 0 0] 24)).alloc (.cells #[.int .i64 8, .int .i64 0, .slice (some ⟨wA.heap.size + 2, 0, none⟩) 1 1] 24)).alloc (.cells #[.int .i64 7, .int .i64 0, .slice none 0 0] 24)).alloc (.cells #[.int .i64 1, .int .i64 0, .slice none 0 0] 24)).alloc (.cells #[.int .i64 ko, .int .i64 kl, .slice a1 kn c1] 24)) (wA.heap.size + 4) (.int .i64 7) (.int .i64 0) (.slice none 0 0) by rw [← hW6]; exact HO6.out.keep (below_al (Below.refl _ _)))
          have HZ7 := Lib.hid (HZA.out.keep hB7)
          have HXB7 := Lib.hid (show Box (((((((wA.alloc (.cells #[.int .i64 1, .int .i64 0, .slice none 0 0] 24)).alloc (.cells #[.int .i64 2, .int .i64 0, .slice none 0 0] 24)).alloc (.cells #[.int .i64 1, .int .i64 0, .slice none 0 0] 24)).alloc (.cells #[.int .i64 8, .int .i64 0, .slice (some ⟨wA.heap.size + 2, 0, none⟩) 1 1] 24)).alloc (.cells #[.int .i64 7, .int .i64 0, .slice none 0 0] 24)).alloc (.cells #[.int .i64 1, .int .i64 0, .slice none 0 0] 24)).alloc (.cells #[.int .i64 ko, .int .i64 kl, .slice a1 kn c1] 24)) (wA.heap.size + 6) (.int .i64 ko) (.int .i64 kl) (.slice a1 kn c1) by
            rw [← hW6, ← hsz6]; exact Box.new W6 _ _ _)
          have HX7 := Lib.hid hx7
          have HGK := Lib.hid hgk.1
          have HR2 := Lib.hid hR2
          have HRR := Lib.hid (show (isT (.node ko kl kk) allT = r) from hr.symm)
          have HNS := Lib.hid (And.intro h12 h7)
          have HI1 := Lib.hid hi1
          clear hq6 hq7 hq2 hq8 hq9 hq10 hf9 hB6 hW6 hsz6 hmp hk0 hkx hgk hR2 hi1 hx hkn hB7 hx7 h12 h7 hr z0 z1 z2 f0 f1 f2
          go_wp2_with fail
          refine HCU.out.mono ?_
          rintro e w8 ⟨rfl, hB⟩
          have HB8 := Lib.hid (HB7.out.trans (hB.mono HB7.out.size))
          obtain ⟨⟨z0, z1, z2⟩, f0, f1, f2⟩ := HZ7.out.keep hB
          obtain ⟨x0', x1', x2'⟩ := HXB7.out.keep hB
          have HO8 := Lib.hid (HO7.out.keep hB)
          have HX8 := Lib.hid (HX7.out.keep hB)
          have HK8 := Lib.hid (HK1.out.keep HB8.out)
          have hn9 : wA.heap.size + 4 ≠ w.heap.size + 1 := by omega
          clear hB
          cases r
          · have HRF := Lib.hid (show R = .node 7 0 [.node ko kl kk] from HR2.out.trans ((if_neg HNS.out.1).trans (if_neg (fun h => h.elim HNS.out.2 (fun h => by rw [HRR.out] at h; cases h)))))
            obtain ⟨o0, o1, o2⟩ := HO8.out.1
            have of2 := HO8.out.2
            have hZ9 : Box (w8.setCell ⟨wA.heap.size + 4, 2, none⟩ (.slice (some ⟨b, off, none⟩) i c0)) (w.heap.size + 1) (.int .i64 0) (.int .i64 0) (.slice none 0 0) := ⟨(World.cell?_setCell_other _ _ _ _ (fun e => hn9 (congrArg Addr.block e))).trans z0, (World.cell?_setCell_other _ _ _ _ (fun e => hn9 (congrArg Addr.block e))).trans z1, (World.cell?_setCell_other _ _ _ _ (fun e => hn9 (congrArg Addr.block e))).trans z2⟩
            obtain ⟨z0', z1', z2'⟩ := hZ9
            have hO9 := (HO8.out.set (.slice (some ⟨b, off, none⟩) i c0)).1
            obtain ⟨o0', o1', o2'⟩ := hO9
            have hb9 : Below wA.heap.size wA (w8.setCell ⟨wA.heap.size + 4, 2, none⟩ (.slice (some ⟨b, off, none⟩) i c0)) := HB8.out.setCell (p := ⟨wA.heap.size + 4, 2, none⟩) (by simp) _
            have HBF := Lib.hid (below_ret (HBA.out.trans (hb9.mono HBA.out.size)) (b0 := w.heap.size + 1) (by omega) (.int .i64 7) (.int .i64 0) (.slice (some ⟨b, off, none⟩) i c0))
            have HXF := Lib.hid (inX_ret (x := ⟨7, 0, [.node ko kl kk], some ⟨b, off, none⟩, c0⟩) z0' z1' z2' (show InX _ 7 0 [.node ko kl kk] _ from ⟨(HK1.out.keep hb9).1, by unfold B64; omega, by unfold B64; omega, by simp⟩) (show wfT 6 (.node 7 0 [.node ko kl kk]) = true by rw [← HRF.out]; exact HGD.out) (.int .i64 7) (.int .i64 0) (.slice (some ⟨b, off, none⟩) i c0))
            clear hb9
            go_wp2_with fail
            refine bodyPost_ret (v := .agg #[.int .i64 7, .int .i64 0, .slice (some ⟨b, off, none⟩) i c0]) (by simp [results, Try.results10, go_sem, z0', z1', z2']) rfl ?_
            rw [HRF.out]
            exact ⟨_, c0, by rw [HI1.out]; rfl, HXF.out, HBF.out⟩
          · have HRF := Lib.hid (show R = .node ko kl kk from HR2.out.trans ((if_neg HNS.out.1).trans (if_pos (.inr HRR.out))))
            have HBF := Lib.hid (below_ret (HBA.out.trans (HB8.out.mono HBA.out.size)) (b0 := w.heap.size + 1) (by omega) (.int .i64 ko) (.int .i64 kl) (.slice a1 kn c1))
            have HXF := Lib.hid (inX_ret (x := ⟨ko, kl, kk, a1, c1⟩) z0 z1 z2 HX8.out HGK.out (.int .i64 ko) (.int .i64 kl) (.slice a1 kn c1))
            go_wp2_with fail
            refine bodyPost_ret (v := .agg #[.int .i64 ko, .int .i64 kl, .slice a1 kn c1]) (by simp [results, Try.results10, go_sem, z0, z1, z2]) rfl ?_
            rw [HRF.out]
            exact ⟨a1, c1, by rw [HKN.out]; rfl, HXF.out, HBF.out⟩
theorem normalR_any (op l : Int) (ks : List T) : wfT 6 (.node op l ks) = true → sizeT (.node op l ks) ≤ 1000000000 → ∀ (a : Option Addr) (c : Nat) (w : World), InX w op l ks a →
    Calls Try.prog 10 #[.agg #[.int .i64 op, .int .i64 l, .slice a ks.length c]] w (GiveT w (nrmT (.node op l ks))) := by
  refine T.ind2 (P := fun op l ks => wfT 6 (.node op l ks) = true → sizeT (.node op l ks) ≤ 1000000000 → ∀ (a : Option Addr) (c : Nat) (w : World), InX w op l ks a →
    Calls Try.prog 10 #[.agg #[.int .i64 op, .int .i64 l, .slice a ks.length c]] w (GiveT w (nrmT (.node op l ks)))) ?_ op l ks
  clear op l ks
  intro op l ks ih hw hs a c w hin
  have ih2 := fun (i : Nat) (o l : Int) (ls : List T) (h : ks[i]? = some (.node o l ls)) => ih i o l ls h ((wfT_node.1 hw).2.2 _ (List.mem_of_getElem? h)) (by have := sizeL_mem (List.mem_of_getElem? h); simp only [sizeT] at hs ⊢; simp only [sizeT] at this; omega)
  have hl0 : op ≠ 3 → l = 0 := fun h3 => by
    have := (wfT_node.1 hw).2.1
    rw [letOk_n h3] at this; simpa using this
  rcases kind_of hw with ⟨h | h | h, _⟩ | ⟨h | h, _⟩ | ⟨h | h | h, _⟩
  all_goals subst h
  · obtain rfl := hl0 (by decide); exact refN_1 ks hw hs ih2 a c w hin
  · obtain rfl := hl0 (by decide); exact refN_2 ks hw hs ih2 a c w hin
  · exact refN_3 l ks hw hs ih2 a c w hin
  · obtain rfl := hl0 (by decide); exact refN_7 ks hw hs ih2 a c w hin
  · obtain rfl := hl0 (by decide); exact refN_8 ks hw hs ih2 a c w hin
  · obtain rfl := hl0 (by decide); exact refN_4 ks hw hs ih2 a c w hin
  · obtain rfl := hl0 (by decide); exact refN_5 ks hw hs ih2 a c w hin
  · obtain rfl := hl0 (by decide); exact refN_6 ks hw hs ih2 a c w hin
end Go.Proofs.Ythmdndondlffeaa
