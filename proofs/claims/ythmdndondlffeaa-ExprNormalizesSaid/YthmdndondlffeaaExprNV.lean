/- Contract: normalList. -/
import Derived.Test.YthmdndondlffeaaExprNT
import Derived.Test.YthmdndondlffeaaExprNW
namespace Go.Proofs.Ythmdndondlffeaa
open Go Go.RowKit Go.Sort
set_option linter.unusedVariables false
/-- a result's cell is written: the tree does not touch it -/
theorem inX_ret {w : World} {b0 : Nat} {x : Ex} (y0 : w.cell? ⟨b0, 0, none⟩ = some (.int .i64 0)) (y1 : w.cell? ⟨b0, 1, none⟩ = some (.int .i64 0)) (y2 : w.cell? ⟨b0, 2, none⟩ = some (.slice none 0 0)) (h : InX w x.op x.l x.ks x.a) (hw : wfT 6 x.t = true) (u v z : Value) :
    InX (((w.setCell ⟨b0, 0, none⟩ u).setCell ⟨b0, 1, none⟩ v).setCell ⟨b0, 2, none⟩ z) x.op x.l x.ks x.a :=
  inX_zero (g := b0) (o := 0) (vs := [u, v, z]) rfl y0 y1 y2 h hw
theorem below_ret {B b0 : Nat} {a w : World} (h : Below B a w) (hb : B ≤ b0) (u v z : Value) : Below B a (((w.setCell ⟨b0, 0, none⟩ u).setCell ⟨b0, 1, none⟩ v).setCell ⟨b0, 2, none⟩ z) :=
  ((h.setCell (p := ⟨b0, 0, none⟩) hb u).setCell (p := ⟨b0, 1, none⟩) hb v).setCell (p := ⟨b0, 2, none⟩) hb z
/-- a box of zeros that may be written -/
def Zero3 (w : World) (b0 : Nat) : Prop := Box w b0 (.int .i64 0) (.int .i64 0) (.slice none 0 0) ∧ w.frozen? ⟨b0, 0, none⟩ = false ∧ w.frozen? ⟨b0, 1, none⟩ = false ∧ w.frozen? ⟨b0, 2, none⟩ = false
theorem Zero3.new (w : World) : Zero3 (w.alloc (.cells #[.int .i64 0, .int .i64 0, .slice none 0 0] 24)) w.heap.size := by
  obtain ⟨f0, f1, f2⟩ := box_frozen (Below.refl (w.heap.size + 1) (w.alloc (.cells #[.int .i64 0, .int .i64 0, .slice none 0 0] 24)))
  exact ⟨Box.new _ _ _ _, f0, f1, f2⟩
theorem Zero3.keep {W W' : World} {b : Nat} (h : Zero3 W b) (hb : Below W.heap.size W W') : Zero3 W' b := by
  have hlt : b < W.heap.size := cell_lt (s := none) h.1.1
  exact ⟨h.1.keep hb, by rw [hb.frozen (p := ⟨b, 0, none⟩) hlt]; exact h.2.1, by rw [hb.frozen (p := ⟨b, 1, none⟩) hlt]; exact h.2.2.1, by rw [hb.frozen (p := ⟨b, 2, none⟩) hlt]; exact h.2.2.2⟩
/-- the loop: i looked at, j kept in front; from place i on the row is as it was -/
structure KeepI {W0 : World} (ab ne : T) (es : List (ExIn W0)) (i j : Nat) (L : List (ExIn W0)) : Prop where
  size : L.length = es.length
  le : j ≤ i
  low : (L.take j).map (·.1.t) = ((es.map (·.1.t)).take i).filter fun k => !isT k ne
  high : ∀ q, i ≤ q → L[q]? = es[q]?
  no : ∀ q (h : q < es.length), q < i → isT es[q].1.t ab = false
theorem KeepI.start {W0 : World} (ab ne : T) (es : List (ExIn W0)) : KeepI ab ne es 0 0 es := ⟨rfl, Nat.le_refl _, by simp, fun _ _ => rfl, fun q h hq => by omega⟩
theorem KeepI.skip {W0 : World} {ab ne : T} {es L : List (ExIn W0)} {i j : Nat} (h : KeepI ab ne es i j L) (hi : i < es.length) (h1 : isT es[i].1.t ab = false) (h2 : isT es[i].1.t ne = true) : KeepI ab ne es (i + 1) j L :=
  ⟨h.size, Nat.le_succ_of_le h.le, by rw [take_snoc (by simpa using hi), List.filter_append, h.low]; simp [h2], fun q hq => h.high q (by omega), fun q hq hlt => by
    by_cases e : q = i
    · subst e; exact h1
    · exact h.no q hq (by omega)⟩
theorem KeepI.put {W0 : World} {ab ne : T} {es L : List (ExIn W0)} {i j : Nat} (h : KeepI ab ne es i j L) (hi : i < es.length) (h1 : isT es[i].1.t ab = false) (h2 : isT es[i].1.t ne = false) : KeepI ab ne es (i + 1) (j + 1) (L.set j es[i]) := by
  have hj := h.le
  have hs := h.size
  refine ⟨by simpa using h.size, by omega, ?_, fun q hq => by rw [List.getElem?_set_ne (by omega)]; exact h.high q (by omega), fun q hq hlt => by
    by_cases e : q = i
    · subst e; exact h1
    · exact h.no q hq (by omega)⟩
  have hk : j < (L.set j es[i]).length := by simp; omega
  have e : (es.map (·.1.t)).take (i + 1) = _ := take_snoc (by simpa using hi)
  rw [e, List.filter_append, ← h.low, List.take_succ_eq_append_getElem hk, List.map_append, List.take_set_of_le (Nat.le_refl j)]
  simp [h2]
theorem KeepI.done {W0 : World} {op : Int} {ab ne : T} {ks : List T} {es L : List (ExIn W0)} {j : Nat} (h : KeepI ab ne es es.length j L) (he : es.map (·.1.t) = flatT op ks) :
    (L.take j).map (·.1.t) = partsT op ne ks ∧ listT op ab ne ks = outT op ne (qsT op ne ks) := by
  refine ⟨by rw [h.low, List.take_of_length_le (by simp), he]; rfl, ?_⟩
  have : ((flatT op ks).any fun k => isT k ab) = false := by
    rw [← he, List.any_eq_false]
    intro x hx
    obtain ⟨y, hy, rfl⟩ := List.mem_map.1 hx
    obtain ⟨q, hq, rfl⟩ := List.mem_iff_getElem.1 hy
    rw [h.no q hq hq]; decide
  unfold listT qsT
  rw [if_neg (by rw [this]; decide)]
theorem list_ab {W0 : World} {op : Int} {ab ne : T} {ks : List T} {es : List (ExIn W0)} {i : Nat} (hi : i < es.length) (he : es.map (·.1.t) = flatT op ks) (h : isT es[i].1.t ab = true) : listT op ab ne ks = ab := by
  unfold listT
  rw [if_pos]
  rw [← he, List.any_eq_true]
  exact ⟨es[i].1.t, List.mem_map.2 ⟨es[i], List.getElem_mem hi, rfl⟩, h⟩
theorem sorted_map {W0 : World} {es : List (ExIn W0)} (h : SortedX es) : (es.map (·.1.t)).Pairwise fun x y => cmpT x y ≤ 0 := List.pairwise_map.2 h
open Go Go.RowKit Go.Sort
set_option linter.unusedVariables false
theorem equalT {W0 w : World} (hB : Below W0.heap.size W0 w) (x : ExIn W0) {o l : Int} {ks : List T} {a : Option Addr} {n c : Nat} (hn : n = ks.length) (ht : InX W0 o l ks a) (r : Bool) (hr : isT x.1.t (.node o l ks) = r) :
    Calls Try.prog 52 #[.agg #[.int .i64 x.1.op, .int .i64 x.1.l, .slice x.1.a x.1.ks.length x.1.c], .agg #[.int .i64 o, .int .i64 l, .slice a n c]] w fun e w' => e = .returned (.bool r) ∧ Below w.heap.size w w' := by
  subst hn
  have h := equalB_any x.1.op x.1.l x.1.ks o l ks x.1.a a x.1.c c w (x.2.keep hB) (ht.keep hB)
  rw [show isT (.node x.1.op x.1.l x.1.ks) (.node o l ks) = r from hr] at h
  exact h
set_option maxRecDepth 100000 in
set_option maxHeartbeats 8000000 in
theorem normalList_any {op ao al no nl : Int} {ak nk : List T} (ht : Trip op (.node ao al ak) (.node no nl nk)) (ks : List T) (hg : ∀ k, k ∈ ks → GoodT k) (hs : sizeL ks ≤ 1000000000) (a aa an : Option Addr) (c ca cn : Nat) (W0 : World) (hin : InX W0 0 0 ks a) (hab : InX W0 ao al ak aa) (hne : InX W0 no nl nk an) :
    Calls Try.prog 40 #[.int .i64 op, .slice a ks.length c, .agg #[.int .i64 ao, .int .i64 al, .slice aa ak.length ca], .agg #[.int .i64 no, .int .i64 nl, .slice an nk.length cn]] W0 (GiveT W0 (listT op (.node ao al ak) (.node no nl nk) ks)) := by
  have HT := Lib.hid ht
  have HGL := Lib.hid (listT_good ht hg)
  have HS := Lib.hid hs
  obtain ⟨na, hna⟩ : ∃ n, n = ak.length := ⟨_, rfl⟩
  obtain ⟨nn, hnn⟩ : ∃ n, n = nk.length := ⟨_, rfl⟩
  obtain ⟨nk0, hnk0⟩ : ∃ n, n = ks.length := ⟨_, rfl⟩
  rw [← hna, ← hnn]
  obtain ⟨W1, hW1⟩ : ∃ W, W = ((W0.alloc (.cells #[.int .i64 ao, .int .i64 al, .slice aa na ca] 24)).alloc (.cells #[.int .i64 no, .int .i64 nl, .slice an nn cn] 24)).alloc (.cells #[.int .i64 0, .int .i64 0, .slice none 0 0] 24) := ⟨_, rfl⟩
  have hB1 : Below W0.heap.size W0 W1 := by rw [hW1]; exact (((Below.refl _ _).alloc (Nat.le_refl _) _).alloc (by simp) _).alloc (by simp; omega) _
  have hsz : W1.heap.size = W0.heap.size + 3 := by rw [hW1]; simp
  have hb1 : Box W1 W0.heap.size (.int .i64 ao) (.int .i64 al) (.slice aa na ca) := by rw [hW1]; exact ((Box.new W0 _ _ _).alloc _).alloc _
  have hb2 : Box W1 (W0.heap.size + 1) (.int .i64 no) (.int .i64 nl) (.slice an nn cn) := by
    rw [hW1]; have := (Box.new (W0.alloc (.cells #[.int .i64 ao, .int .i64 al, .slice aa na ca] 24)) (.int .i64 no) (.int .i64 nl) (.slice an nn cn)).alloc (.cells #[.int .i64 0, .int .i64 0, .slice none 0 0] 24); simpa using this
  have hz3 : Zero3 W1 (W0.heap.size + 2) := by
    rw [hW1]; have := Zero3.new ((W0.alloc (.cells #[.int .i64 ao, .int .i64 al, .slice aa na ca] 24)).alloc (.cells #[.int .i64 no, .int .i64 nl, .slice an nn cn] 24)); simpa using this
  have HFL : RowKit.Hid (Calls Try.prog 51 #[.int .i64 op, .slice a ks.length c] (((W0.alloc (.cells #[.int .i64 ao, .int .i64 al, .slice aa na ca] 24)).alloc (.cells #[.int .i64 no, .int .i64 nl, .slice an nn cn] 24)).alloc (.cells #[.int .i64 0, .int .i64 0, .slice none 0 0] 24)) fun e w' => ∃ v, e = .returned v ∧ v ≠ .slice none 0 0 ∧ OwnX W1 w' v (flatT op ks)) :=
    Lib.hid (by rw [← hW1]; exact flat_any op ht.ops ks hg hs a c W1 (hin.keep hB1))
  have HB1 := Lib.hid hB1
  have HBX := Lib.hid (And.intro hb1 (And.intro hb2 hz3))
  have EQA := Lib.hid (fun (x : ExIn W1) W (h : Below W1.heap.size W1 W) r hr => equalT (c := ca) h x hna (hab.keep hB1) r hr)
  have EQN := Lib.hid (fun (x : ExIn W1) W (h : Below W1.heap.size W1 W) r hr => equalT (c := cn) h x hnn (hne.keep hB1) r hr)
  have HRA := Lib.hid (show ∀ w', Below W0.heap.size W0 w' → listT op (.node ao al ak) (.node no nl nk) ks = .node ao al ak → GiveT W0 (listT op (.node ao al ak) (.node no nl nk) ks) (.returned (.agg #[.int .i64 ao, .int .i64 al, .slice aa na ca])) w' from fun w' h e => ⟨aa, ca, by rw [e, hna]; rfl, by rw [e]; exact hab.keep h, h⟩)
  have HRN := Lib.hid (show ∀ w', Below W0.heap.size W0 w' → listT op (.node ao al ak) (.node no nl nk) ks = .node no nl nk → GiveT W0 (listT op (.node ao al ak) (.node no nl nk) ks) (.returned (.agg #[.int .i64 no, .int .i64 nl, .slice an nn cn])) w' from fun w' h e => ⟨an, cn, by rw [e, hnn]; rfl, by rw [e]; exact hne.keep h, h⟩)
  obtain ⟨AB, hAB⟩ : ∃ t, t = T.node ao al ak := ⟨_, rfl⟩
  obtain ⟨NE, hNE⟩ : ∃ t, t = T.node no nl nk := ⟨_, rfl⟩
  rw [← hAB] at HT HGL EQA HRA HRN
  rw [← hNE] at HT HGL EQN HRA HRN
  rw [← hAB, ← hNE]
  obtain ⟨R, hR⟩ : ∃ t, t = listT op AB NE ks := ⟨_, rfl⟩
  have HR := Lib.hid hR
  rw [← hR] at HGL HRA HRN ⊢
  rw [← hnk0] at HFL ⊢
  clear hg hs hin hab hne ht hna hnn hW1 hB1 hb1 hb2 hz3 hAB hNE hR hnk0
  obtain ⟨i0, hinf, hz0, hz1, hz2⟩ := info_parts infoE
  go_enter Try.func40, Try.ntmps40
  go_wp2_with fail
  refine HFL.out.mono ?_
  rintro e w2 ⟨v, rfl, hnil, hown⟩
  obtain ⟨⟨es, hes, ho⟩, hbel⟩ := hown
  have hll : es.length ≤ 1000000000 := by
    have h1 := sizeL_len (flatT op ks)
    have h2 := sizeL_flatT op ks
    have h3 := HS.out
    have h4 : es.length = (flatT op ks).length := by rw [← hes, List.length_map]
    omega
  rcases ho.2 with ⟨h0, _⟩ | ⟨g, cap, cur, hv, _⟩
  · exact absurd h0 hnil
  subst hv
  obtain ⟨_, hL0⟩ := BlkX.of_own hbel ho
  have HES := Lib.hid hes
  have HL0 := Lib.hid hL0
  have hcap : es.length ≤ cap := hL0.le
  clear hes hbel ho hnil hL0
  go_wp2_with fail
  go_loopw [10, 20] (fun vp vi wr => ∃ (i j : Nat) (L : List (ExIn W1)), i ≤ es.length ∧ vi = .int .i64 i ∧ vp = .slice (some ⟨g, 0, none⟩) j cap ∧ BlkX W1 wr g cap L ∧ KeepI AB NE es i j L) (fun _ vi _ => es.length - (intOf vi).toNat)
  case atStart => exact ⟨0, 0, es, Nat.zero_le _, rfl, rfl, HL0.out, KeepI.start AB NE es⟩
  case round =>
    rename World => wA
    obtain ⟨i, j, L, hi, rfl, rfl, hL, hI⟩ := hrel
    have hjle := hI.le
    have hLs := hI.size
    have HL := Lib.hid hL
    have HI := Lib.hid hI
    clear hL hI
    by_cases hlt : i < es.length
    · have i1 : i < L.length := by omega
      have hx : L[i] = es[i] := by
        have h1 := HI.out.high i (Nat.le_refl _)
        rw [List.getElem?_eq_getElem i1, List.getElem?_eq_getElem hlt] at h1
        injection h1
      obtain ⟨c0, c1, c2⟩ := HL.out.get i1
      have hi0 : (0 : Int) ≤ (i : Int) := by omega
      have hin2 : (i : Int) < (es.length : Int) := by omega
      have hwi : IntKind.i64.wrap (i : Int) = (i : Int) := IntWalk.i64_in _ (by omega)
      obtain ⟨x, hx2⟩ : ∃ x, x = es[i] := ⟨_, rfl⟩
      rw [hx, ← hx2] at c0 c1 c2
      have HX := Lib.hid hx2
      clear hx hx2
      obtain ⟨xn, hxn⟩ : ∃ n, n = x.1.ks.length := ⟨_, rfl⟩
      rw [← hxn] at c2
      have HXN := Lib.hid hxn
      -- the box of the element
      have hBA := HL.out.bel
      have HBA := Lib.hid (hBA.alloc hBA.size (.cells #[.int .i64 x.1.op, .int .i64 x.1.l, .slice x.1.a xn x.1.c] 24))
      have HLA := Lib.hid (HL.out.alloc (.cells #[.int .i64 x.1.op, .int .i64 x.1.l, .slice x.1.a xn x.1.c] 24))
      obtain ⟨p0, p1, p2⟩ := HBX.out.1.keep HBA.out
      obtain ⟨q0, q1, q2⟩ := HBX.out.2.1.keep HBA.out
      obtain ⟨⟨z0, z1, z2⟩, f0, f1, f2⟩ := HBX.out.2.2.keep HBA.out
      obtain ⟨r1, hr1⟩ : ∃ r, r = isT x.1.t AB := ⟨_, rfl⟩
      have EA := Lib.hid (fun W (h : Below W1.heap.size W1 W) => EQA.out x W h r1 hr1.symm)
      rw [← hxn] at EA
      have HR1 := Lib.hid hr1
      have BX := Lib.hid (Box.new wA (.int .i64 x.1.op) (.int .i64 x.1.l) (.slice x.1.a xn x.1.c))
      clear hBA hr1 hxn
      go_wp2_with fail
      refine (EA.out _ HBA.out).mono ?_
      rintro e w3 ⟨rfl, hB⟩
      have HB3 := Lib.hid (HBA.out.trans (hB.mono HBA.out.size))
      have HL3 := Lib.hid (HLA.out.keep hB HLA.out.lt)
      have BX3 := Lib.hid (BX.out.keep hB)
      clear hB p0 p1 p2 q0 q1 q2 z0 z1 z2 f0 f1 f2
      obtain ⟨p0, p1, p2⟩ := HBX.out.1.keep HB3.out
      obtain ⟨q0, q1, q2⟩ := HBX.out.2.1.keep HB3.out
      obtain ⟨⟨z0, z1, z2⟩, f0, f1, f2⟩ := HBX.out.2.2.keep HB3.out
      obtain ⟨x0, x1, x2⟩ := BX3.out
      cases r1
      · obtain ⟨r2, hr2⟩ : ∃ r, r = isT x.1.t NE := ⟨_, rfl⟩
        have EN := Lib.hid (fun W (h : Below W1.heap.size W1 W) => EQN.out x W h r2 hr2.symm)
        rw [← HXN.out] at EN
        have HR2 := Lib.hid hr2
        clear hr2
        go_wp2_with fail
        refine (EN.out _ HB3.out).mono ?_
        rintro e w4 ⟨rfl, hB⟩
        have HB4 := Lib.hid (HB3.out.trans (hB.mono HB3.out.size))
        have HL4 := Lib.hid (HL3.out.keep hB HL3.out.lt)
        have BX4 := Lib.hid (BX3.out.keep hB)
        clear hB p0 p1 p2 q0 q1 q2 z0 z1 z2 f0 f1 f2 x0 x1 x2
        obtain ⟨x0, x1, x2⟩ := BX4.out
        cases r2
        · have i3 : j < L.length := by omega
          have hroom : j + 1 ≤ cap := by omega
          have hee : encX x = [.int .i64 x.1.op, .int .i64 x.1.l, .slice x.1.a xn x.1.c] := by rw [HXN.out]; rfl
          have HP := Lib.hid ((HL4.out.alloc (.cells #[.int .i64 x.1.op, .int .i64 x.1.l, .slice x.1.a xn x.1.c] 24)).set i3 x)
          rw [hee] at HP
          clear hee
          have HN := Lib.hid (HI.out.put hlt (by rw [← HX.out]; exact HR1.out.symm) (by rw [← HX.out]; exact HR2.out.symm))
          have HL5 := Lib.hid (HL4.out.alloc (.cells #[.int .i64 x.1.op, .int .i64 x.1.l, .slice x.1.a xn x.1.c] 24))
          have HLP := Lib.hid ((HL4.out.alloc (.cells #[.int .i64 x.1.op, .int .i64 x.1.l, .slice x.1.a xn x.1.c] 24)).pre j)
          have hlen4 := HL4.out.lt
          have hcmx := HL4.out.cm
          go_wp2_with (at_builtin; refine wpList_append_arg _ rfl _ _ 22 rfl 24 i0 _ 3 40 Try.underlying22 hinf hz0 hz1 hz2 rfl (by decide) g 0 j cap (cellsE (L.take j)) rfl ?c0 ?c1 ⟨_, 0, none⟩ 1 1 [.int .i64 x.1.op, .int .i64 x.1.l, .slice x.1.a xn x.1.c] rfl rfl ?c2 ?c3 ?c4 ?c5 ?c6 ?_ ?c7)
          case c0 => rw [cellsE_len, List.length_take]; omega
          case c1 => intro q u hu; rw [Nat.zero_add]; exact HLP.out.cells q u hu
          case c2 => exact World.news_of_block (cs := #[.int .i64 x.1.op, .int .i64 x.1.l, .slice x.1.a xn x.1.c]) (t := 24) (fr := (0, 0)) (by have h := heap_alloc_new w4 (.cells #[.int .i64 x.1.op, .int .i64 x.1.l, .slice x.1.a xn x.1.c] 24); simpa using h)
          case c3 => simp [Value.oneCell']
          case c4 => intro _ q hq; exact ⟨HL5.out.is (by have : q < 3 := hq; omega), HL5.out.fr _⟩
          case c5 => unfold maxLen; omega
          case c6 => omega
          case c7 => intro h; omega
          rw [← HX.out] at HN
          exact ⟨⟨i + 1, j + 1, L.set j x, by omega, by go_num, rfl, by first | exact HP.out | (rw [Nat.zero_add]; exact HP.out), HN.out⟩, by simp [intOf]; omega⟩
        · have HN := Lib.hid (HI.out.skip hlt (by rw [← HX.out]; exact HR1.out.symm) (by rw [← HX.out]; exact HR2.out.symm))
          go_wp2_with fail
          exact ⟨⟨i + 1, j, L, by omega, by go_num, rfl, HL4.out, HN.out⟩, by simp [intOf]; omega⟩
      · have HF := Lib.hid (list_ab (ne := NE) hlt HES.out (by rw [← HX.out]; exact HR1.out.symm))
        have HBF := Lib.hid (below_ret (HB1.out.trans (HB3.out.mono HB1.out.size)) (b0 := W0.heap.size + 2) (by omega) (.int .i64 ao) (.int .i64 al) (.slice aa na ca))
        go_wp2_with fail
        refine bodyPost_ret (v := .agg #[.int .i64 ao, .int .i64 al, .slice aa na ca]) (by simp [results, Try.results40, go_sem, z0, z1, z2]) rfl ?_
        exact HRA.out _ HBF.out (HR.out.trans HF.out)
    · obtain rfl : i = es.length := by omega
      obtain ⟨hd1, hd2⟩ := HI.out.done HES.out
      have HLO := Lib.hid (show R = outT op NE (qsT op NE ks) from HR.out.trans hd2)
      obtain ⟨es2, he2⟩ : ∃ l, l = L.take j := ⟨_, rfl⟩
      have hln : es2.length = j := by rw [he2, List.length_take]; omega
      rw [← he2] at hd1
      have HL2 := Lib.hid (show BlkX W1 wA g cap es2 by rw [he2]; exact HL.out.pre j)
      subst hln
      have HD := Lib.hid hd1
      clear hd1 hd2 he2
      by_cases h5 : op = 5
      · have t5 : (op != 5) = false := by simp [h5]
        have HM := Lib.hid (show es2.map (·.1.t) = qsT op NE ks by unfold qsT; rw [if_pos h5]; exact HD.out)
        clear h5
        obtain ⟨y0, y1, y2⟩ := HBX.out.2.1.keep HL2.out.bel
        obtain ⟨⟨z0, z1, z2⟩, f0, f1, f2⟩ := HBX.out.2.2.keep HL2.out.bel
        have HBW := Lib.hid (HB1.out.trans (HL2.out.bel.mono HB1.out.size))
        by_cases e0 : es2.length = 0
        · have t0 : ((es2.length : Int) == 0) = true := by rw [e0]; rfl
          have HF := Lib.hid (show R = NE by
            have h1 := HM.out
            rw [List.eq_nil_of_length_eq_zero e0] at h1
            rw [HLO.out, ← h1]; rfl)
          have HBF := Lib.hid (below_ret HBW.out (b0 := W0.heap.size + 2) (by omega) (.int .i64 no) (.int .i64 nl) (.slice an nn cn))
          go_wp2_with fail
          refine bodyPost_ret (v := .agg #[.int .i64 no, .int .i64 nl, .slice an nn cn]) (by simp [results, Try.results40, go_sem, z0, z1, z2]) rfl ?_
          exact HRN.out _ HBF.out HF.out
        · have t0 : ((es2.length : Int) == 0) = false := ne_beq (by omega)
          by_cases e1 : es2.length = 1
          · have t1 : ((es2.length : Int) == 1) = true := by rw [e1]; rfl
            have hp0 : (0 : Int) < (es2.length : Int) := by omega
            obtain ⟨c0, c1, c2⟩ := HL2.out.get (i := 0) (by omega)
            simp only [Nat.zero_mul, Nat.zero_add] at c0 c1 c2
            obtain ⟨x, hx⟩ : ∃ x, x = es2[0] := ⟨_, rfl⟩
            rw [← hx] at c0 c1 c2
            have HF := Lib.hid (show R = x.1.t by
              have h1 := HM.out
              obtain ⟨b, hb⟩ := List.length_eq_one_iff.1 e1
              rw [HLO.out, ← h1, hx]
              simp [hb, outT])
            clear hx
            have HBF := Lib.hid (below_ret HBW.out (b0 := W0.heap.size + 2) (by omega) (.int .i64 x.1.op) (.int .i64 x.1.l) (.slice x.1.a x.1.ks.length x.1.c))
            have HXF := Lib.hid (inX_ret (x := x.1) z0 z1 z2 (x.2.keep HL2.out.bel) (by rw [← HF.out]; exact HGL.out.1) (.int .i64 x.1.op) (.int .i64 x.1.l) (.slice x.1.a x.1.ks.length x.1.c))
            go_wp2_with fail
            refine bodyPost_ret (v := .agg #[.int .i64 x.1.op, .int .i64 x.1.l, .slice x.1.a x.1.ks.length x.1.c]) (by simp [results, Try.results40, go_sem, z0, z1, z2]) rfl ⟨x.1.a, x.1.c, by rw [HF.out]; rfl, by rw [HF.out]; exact HXF.out, HBF.out⟩
          · have t1 : ((es2.length : Int) == 1) = false := ne_beq (by omega)
            have hopb : B64 op := by have := HT.out.ops; unfold B64; omega
            have HF := Lib.hid (show R = .node op 0 (es2.map (·.1.t)) by
              rw [HLO.out, ← HM.out]
              exact outT_two op NE (by simp; omega))
            have hxi := HL2.out.inx (op := op) (l := 0) hopb (by unfold B64; omega)
            have HXF := Lib.hid (inX_ret (x := ⟨op, 0, es2.map (fun y => y.1.t), some ⟨g, 0, none⟩, cap⟩) z0 z1 z2 hxi (by rw [HF.out] at HGL; exact HGL.out.1) (.int .i64 op) (.int .i64 0) (.slice (some ⟨g, 0, none⟩) es2.length cap))
            have HBF := Lib.hid (below_ret HBW.out (b0 := W0.heap.size + 2) (by omega) (.int .i64 op) (.int .i64 0) (.slice (some ⟨g, 0, none⟩) es2.length cap))
            clear hopb hxi
            go_wp2_with fail
            refine bodyPost_ret (v := .agg #[.int .i64 op, .int .i64 0, .slice (some ⟨g, 0, none⟩) es2.length cap]) (by simp [results, Try.results40, go_sem, z0, z1, z2]) rfl ⟨some ⟨g, 0, none⟩, cap, by rw [HF.out]; simp [T.op, T.lt, T.ks], by rw [HF.out]; exact HXF.out, HBF.out⟩
      · have t5 : (op != 5) = true := by simp [h5]
        have HSO := Lib.hid (sort_any W1 wA HL2.out.bel _ es2 (by omega) HL2.out.own)
        have H5 := Lib.hid h5
        clear h5
        go_wp2_with fail
        refine HSO.out.mono ?_
        rintro e w5 ⟨rfl, es3, hp, hso, hown3, hbel3⟩
        have hl3 : es3.length = es2.length := hp.length_eq
        rw [← hl3] at *
        obtain ⟨_, hL3⟩ := BlkX.of_own hbel3 hown3
        have HCO := Lib.hid (compact_any W1 w5 g cap es3 hL3)
        have HPM := Lib.hid hp
        have HSM := Lib.hid hso
        clear hp hso hown3 hbel3 hL3
        go_wp2_with fail
        refine HCO.out.mono ?_
        rintro e w6 ⟨es4, rfl, hL4, hm4⟩
        have HL4 := Lib.hid hL4
        have HM := Lib.hid (show es4.map (·.1.t) = qsT op NE ks by
          rw [hm4, qsT, if_neg H5.out]
          refine runs_setT (sorted_map HSM.out) fun z => ?_
          rw [← HD.out]
          exact (HPM.out.map (·.1.t)).mem_iff)
        have hle4 := hL4.le
        clear hL4 hm4
        obtain ⟨y0, y1, y2⟩ := HBX.out.2.1.keep HL4.out.bel
        obtain ⟨⟨z0, z1, z2⟩, f0, f1, f2⟩ := HBX.out.2.2.keep HL4.out.bel
        have HBW := Lib.hid (HB1.out.trans (HL4.out.bel.mono HB1.out.size))
        by_cases e0 : es4.length = 0
        · have t0 : ((es4.length : Int) == 0) = true := by rw [e0]; rfl
          have HF := Lib.hid (show R = NE by
            have h1 := HM.out
            rw [List.eq_nil_of_length_eq_zero e0] at h1
            rw [HLO.out, ← h1]; rfl)
          have HBF := Lib.hid (below_ret HBW.out (b0 := W0.heap.size + 2) (by omega) (.int .i64 no) (.int .i64 nl) (.slice an nn cn))
          go_wp2_with fail
          refine bodyPost_ret (v := .agg #[.int .i64 no, .int .i64 nl, .slice an nn cn]) (by simp [results, Try.results40, go_sem, z0, z1, z2]) rfl ?_
          exact HRN.out _ HBF.out HF.out
        · have t0 : ((es4.length : Int) == 0) = false := ne_beq (by omega)
          by_cases e1 : es4.length = 1
          · have t1 : ((es4.length : Int) == 1) = true := by rw [e1]; rfl
            have hp0 : (0 : Int) < (es4.length : Int) := by omega
            obtain ⟨c0, c1, c2⟩ := HL4.out.get (i := 0) (by omega)
            simp only [Nat.zero_mul, Nat.zero_add] at c0 c1 c2
            obtain ⟨x, hx⟩ : ∃ x, x = es4[0] := ⟨_, rfl⟩
            rw [← hx] at c0 c1 c2
            have HF := Lib.hid (show R = x.1.t by
              have h1 := HM.out
              obtain ⟨b, hb⟩ := List.length_eq_one_iff.1 e1
              rw [HLO.out, ← h1, hx]
              simp [hb, outT])
            clear hx
            have HBF := Lib.hid (below_ret HBW.out (b0 := W0.heap.size + 2) (by omega) (.int .i64 x.1.op) (.int .i64 x.1.l) (.slice x.1.a x.1.ks.length x.1.c))
            have HXF := Lib.hid (inX_ret (x := x.1) z0 z1 z2 (x.2.keep HL4.out.bel) (by rw [← HF.out]; exact HGL.out.1) (.int .i64 x.1.op) (.int .i64 x.1.l) (.slice x.1.a x.1.ks.length x.1.c))
            go_wp2_with fail
            refine bodyPost_ret (v := .agg #[.int .i64 x.1.op, .int .i64 x.1.l, .slice x.1.a x.1.ks.length x.1.c]) (by simp [results, Try.results40, go_sem, z0, z1, z2]) rfl ⟨x.1.a, x.1.c, by rw [HF.out]; rfl, by rw [HF.out]; exact HXF.out, HBF.out⟩
          · have t1 : ((es4.length : Int) == 1) = false := ne_beq (by omega)
            have hopb : B64 op := by have := HT.out.ops; unfold B64; omega
            have HF := Lib.hid (show R = .node op 0 (es4.map (·.1.t)) by
              rw [HLO.out, ← HM.out]
              exact outT_two op NE (by simp; omega))
            have hxi := HL4.out.inx (op := op) (l := 0) hopb (by unfold B64; omega)
            have HXF := Lib.hid (inX_ret (x := ⟨op, 0, es4.map (fun y => y.1.t), some ⟨g, 0, none⟩, cap⟩) z0 z1 z2 hxi (by rw [HF.out] at HGL; exact HGL.out.1) (.int .i64 op) (.int .i64 0) (.slice (some ⟨g, 0, none⟩) es4.length cap))
            have HBF := Lib.hid (below_ret HBW.out (b0 := W0.heap.size + 2) (by omega) (.int .i64 op) (.int .i64 0) (.slice (some ⟨g, 0, none⟩) es4.length cap))
            clear hopb hxi
            go_wp2_with fail
            refine bodyPost_ret (v := .agg #[.int .i64 op, .int .i64 0, .slice (some ⟨g, 0, none⟩) es4.length cap]) (by simp [results, Try.results40, go_sem, z0, z1, z2]) rfl ⟨some ⟨g, 0, none⟩, cap, by rw [HF.out]; simp [T.op, T.lt, T.ks], by rw [HF.out]; exact HXF.out, HBF.out⟩
end Go.Proofs.Ythmdndondlffeaa
