/- A row of expressions that is filled one by one, each with a tree that lies anywhere (it is not touched by the row's stores: the cells that are written held no node). -/
import Derived.Test.YthmdndondlffeaaExprNP
namespace Go.Proofs.Ythmdndondlffeaa
open Go Go.RowKit Go.Sort
set_option linter.unusedVariables false
theorem size_setCells (g : Nat) : ∀ (vs : List Value) (o : Nat) (w : World), (w.setCells g o vs).heap.size = w.heap.size
  | [], _, _ => rfl
  | v :: r, o, w => by rw [World.setCells, size_setCells g r]; simp
theorem wf_op {t : T} (h : wfT 6 t = true) : t.op ≠ 0 := by
  obtain ⟨op, l, ks⟩ := t
  rcases kind_of h with ⟨h, _⟩ | ⟨h, _⟩ | ⟨h, _⟩ <;> (show op ≠ 0; omega)
theorem inK_zero {w : World} {g o : Nat} {vs : List Value} (hv : vs.length = 3) (z0 : w.cell? ⟨g, o, none⟩ = some (.int .i64 0)) (z1 : w.cell? ⟨g, o + 1, none⟩ = some (.int .i64 0)) (z2 : w.cell? ⟨g, o + 2, none⟩ = some (.slice none 0 0))
    {a : Option Addr} {ks : List T} (h : InK w a ks) (hw : ∀ k, k ∈ ks → wfT 6 k = true) : InK (w.setCells g o vs) a ks := by
  induction h with
  | zero a => exact .zero a
  | row b off ks A C hb hc hz hi ih =>
    refine .row b off ks A C (by rw [size_setCells]; exact hb) (fun i k hk => ?_) hz (fun i k hk => ih i k hk fun x hx => ?_)
    · obtain ⟨c0, c1, c2⟩ := hc i k hk
      have hop := wf_op (hw k (List.mem_of_getElem? hk))
      have key : b = g → off + i * 3 + 2 < o ∨ o + 2 < off + i * 3 := by
        intro hbg
        subst hbg
        apply Classical.byContradiction
        intro hno
        have hcase : off + i * 3 = o ∨ off + i * 3 = o + 1 ∨ off + i * 3 = o + 2 ∨ off + i * 3 + 1 = o ∨ off + i * 3 + 2 = o := by omega
        rcases hcase with e | e | e | e | e
        · rw [e, z0] at c0; injection c0 with c0; injection c0 with _ c0; exact hop c0.symm
        · rw [e, z1] at c0; injection c0 with c0; injection c0 with _ c0; exact hop c0.symm
        · rw [e, z2] at c0; injection c0 with c0; cases c0
        · rw [show off + i * 3 + 2 = o + 1 by omega, z1] at c2; injection c2 with c2; cases c2
        · rw [e, z0] at c2; injection c2 with c2; cases c2
      refine ⟨?_, ?_, ?_⟩
      · rw [World.cell?_setCells_out g vs o w ⟨b, off + i * 3, none⟩ (fun h _ => by have := key h; rw [hv]; simp; omega)]; exact c0
      · rw [World.cell?_setCells_out g vs o w ⟨b, off + i * 3 + 1, none⟩ (fun h _ => by have := key h; rw [hv]; simp; omega)]; exact c1
      · rw [World.cell?_setCells_out g vs o w ⟨b, off + i * 3 + 2, none⟩ (fun h _ => by have := key h; rw [hv]; simp; omega)]; exact c2
    · have h1 := hw k (List.mem_of_getElem? hk)
      obtain ⟨ko, kl, kk⟩ := k
      exact (wfT_node.1 h1).2.2 x hx
theorem inX_zero {w : World} {g o : Nat} {vs : List Value} (hv : vs.length = 3) (z0 : w.cell? ⟨g, o, none⟩ = some (.int .i64 0)) (z1 : w.cell? ⟨g, o + 1, none⟩ = some (.int .i64 0)) (z2 : w.cell? ⟨g, o + 2, none⟩ = some (.slice none 0 0))
    {x : Ex} (h : InX w x.op x.l x.ks x.a) (hw : wfT 6 x.t = true) : InX (w.setCells g o vs) x.op x.l x.ks x.a :=
  ⟨inK_zero hv z0 z1 z2 h.1 fun k hk => (wfT_node.1 hw).2.2 k hk, h.2.1, h.2.2.1, h.2.2.2⟩
/-- block g, as long as cap expressions, holds es and then nothing; each lies in memory -/
structure FillX (W w : World) (g cap : Nat) (es : List Ex) : Prop where
  hb : W.heap.size ≤ g
  shape : ∃ cur, w.heap[g]? = some (.cells cur 24 (0, 0)) ∧ cur.size = cap * 3
  cells : ∀ i (h : i < es.length), w.cell? ⟨g, i * 3, none⟩ = some (.int .i64 es[i].op) ∧ w.cell? ⟨g, i * 3 + 1, none⟩ = some (.int .i64 es[i].l) ∧ w.cell? ⟨g, i * 3 + 2, none⟩ = some (.slice es[i].a es[i].ks.length es[i].c)
  zero : ∀ i, es.length ≤ i → i < cap → w.cell? ⟨g, i * 3, none⟩ = some (.int .i64 0) ∧ w.cell? ⟨g, i * 3 + 1, none⟩ = some (.int .i64 0) ∧ w.cell? ⟨g, i * 3 + 2, none⟩ = some (.slice none 0 0)
  inx : ∀ x, x ∈ es → InX w x.op x.l x.ks x.a
  good : ∀ x, x ∈ es → wfT 6 x.t = true
  le : es.length ≤ cap
  cm : cap ≤ maxLen
  bel : Below W.heap.size W w
theorem FillX.lt {W w : World} {g cap : Nat} {es : List Ex} (h : FillX W w g cap es) : g < w.heap.size := by
  obtain ⟨cur, h1, _⟩ := h.shape
  exact (Array.getElem?_eq_some_iff.1 h1).1
theorem FillX.is {W w : World} {g cap : Nat} {es : List Ex} (h : FillX W w g cap es) {o : Nat} (ho : o < cap * 3) : (w.cell? ⟨g, o, none⟩).isSome = true := by
  obtain ⟨cur, h1, h2⟩ := h.shape
  simp only [World.cell?, h1]
  simp [h2, ho]
theorem FillX.fr {W w : World} {g cap : Nat} {es : List Ex} (h : FillX W w g cap es) (o : Nat) : w.frozen? ⟨g, o, none⟩ = false := by
  obtain ⟨cur, h1, h2⟩ := h.shape
  simp [World.frozen?, h1]
theorem FillX.keep {W w w' : World} {g cap B : Nat} {es : List Ex} (h : FillX W w g cap es) (hk : Below B w w') (hB : w.heap.size ≤ B) : FillX W w' g cap es := by
  obtain ⟨cur, h1, h2⟩ := h.shape
  have hg : g < B := Nat.lt_of_lt_of_le h.lt hB
  have key : ∀ o, w'.cell? ⟨g, o, none⟩ = w.cell? ⟨g, o, none⟩ := fun o => hk.cell (p := ⟨g, o, none⟩) hg
  exact ⟨h.hb, ⟨cur, (hk.block g hg).trans h1, h2⟩, fun i hi => by rw [key, key, key]; exact h.cells i hi, fun i hi hc => by rw [key, key, key]; exact h.zero i hi hc, fun x hx => (h.inx x hx).keep (hk.mono hB), h.good, h.le, h.cm, h.bel.trans (hk.mono (by have := h.hb; omega))⟩
theorem FillX.put {W w : World} {g cap : Nat} {es : List Ex} (h : FillX W w g cap es) (hlt : es.length < cap) (x : Ex) (hx : InX w x.op x.l x.ks x.a) (hw : wfT 6 x.t = true) : FillX W (w.setCells g (es.length * 3) x.enc) g cap (es ++ [x]) := by
  obtain ⟨cur, h1, h2⟩ := h.shape
  obtain ⟨cur', h3, h4⟩ := shape_setCells x.enc (es.length * 3) w cur h1
  obtain ⟨z0, z1, z2⟩ := h.zero es.length (Nat.le_refl _) hlt
  have hin : ∀ r (hr : r < 3), (w.setCells g (es.length * 3) x.enc).cell? ⟨g, es.length * 3 + r, none⟩ = some (x.enc[r]'hr) := fun r hr => World.cell?_setCells_in g x.enc (es.length * 3) w (fun q hq => h.is (by have : q < 3 := hq; omega)) r hr
  have hout : ∀ o, o < es.length * 3 ∨ es.length * 3 + 3 ≤ o → (w.setCells g (es.length * 3) x.enc).cell? ⟨g, o, none⟩ = w.cell? ⟨g, o, none⟩ := fun o ho => World.cell?_setCells_out g x.enc (es.length * 3) w ⟨g, o, none⟩ (fun _ _ => ho)
  refine ⟨h.hb, ⟨cur', h3, by omega⟩, fun i hi => ?_, fun i hi hc => ?_, fun y hy => ?_, fun y hy => ?_, by simp; omega, h.cm, below_setCells _ _ W w h.bel h.hb⟩
  · by_cases e : i < es.length
    · rw [hout _ (by omega), hout _ (by omega), hout _ (by omega)]
      simp only [List.getElem_append_left e]
      exact h.cells i e
    · obtain rfl : i = es.length := by simp at hi; omega
      simp only [List.getElem_concat_length]
      exact ⟨hin 0 (by omega), hin 1 (by omega), hin 2 (by omega)⟩
  · simp at hi
    rw [hout _ (by omega), hout _ (by omega), hout _ (by omega)]
    exact h.zero i (by omega) hc
  · rcases List.mem_append.1 hy with hy | hy
    · exact inX_zero rfl z0 z1 z2 (h.inx y hy) (h.good y hy)
    · rw [List.mem_singleton.1 hy]; exact inX_zero rfl z0 z1 z2 hx hw
  · rcases List.mem_append.1 hy with hy | hy
    · exact h.good y hy
    · rw [List.mem_singleton.1 hy]; exact hw
/-- the row is a tree's list of kids -/
theorem FillX.kids {W w : World} {g cap : Nat} {es : List Ex} (h : FillX W w g cap es) {op l : Int} (ho : B64 op) (hl : B64 l) : InX w op l (es.map Ex.t) (some ⟨g, 0, none⟩) := by
  have hle := h.le
  have hcm := h.cm
  refine ⟨.row g 0 _ (fun i => (es[i]?.getD ⟨0, 0, [], none, 0⟩).a) (fun i => (es[i]?.getD ⟨0, 0, [], none, 0⟩).c) h.lt (fun i k hk => ?_) (fun i k hk => ?_) (fun i k hk => ?_), ho, hl, by simp; unfold maxLen at hcm; omega⟩
  all_goals
    have hi : i < es.length := by have := (List.getElem?_eq_some_iff.1 hk).1; simpa using this
    have e : es[i]?.getD ⟨0, 0, [], none, 0⟩ = es[i] := by simp [hi]
    obtain rfl : es[i].t = k := by simpa [hi] using hk
    try rw [e]
  · obtain ⟨c0, c1, c2⟩ := h.cells i hi
    simp only [Nat.zero_add]
    exact ⟨c0, c1, c2⟩
  · have := h.inx es[i] (List.getElem_mem hi)
    exact ⟨this.2.1, this.2.2.1, this.2.2.2⟩
  · exact (h.inx es[i] (List.getElem_mem hi)).1
theorem zero3 {cur : Array Value} {W w : World} {g n cap : Nat} {e : TypeId} (hg : w.heap[g]? = some (.cells cur e (0, 0))) (hc : ∀ j, n * 3 ≤ j → j < cap * 3 → cur[j]? = some ((#[Value.int .i64 0, .int .i64 0, .slice none 0 0] : Array Value)[j % 3]!)) :
    ∀ i, n ≤ i → i < cap → w.cell? ⟨g, i * 3, none⟩ = some (.int .i64 0) ∧ w.cell? ⟨g, i * 3 + 1, none⟩ = some (.int .i64 0) ∧ w.cell? ⟨g, i * 3 + 2, none⟩ = some (.slice none 0 0) := by
  intro i h1 h2
  refine ⟨?_, ?_, ?_⟩
  · have := hc (i * 3) (by omega) (by omega)
    rw [show i * 3 % 3 = 0 by omega] at this
    simp only [World.cell?, hg]; simpa using this
  · have := hc (i * 3 + 1) (by omega) (by omega)
    rw [show (i * 3 + 1) % 3 = 1 by omega] at this
    simp only [World.cell?, hg]; simpa using this
  · have := hc (i * 3 + 2) (by omega) (by omega)
    rw [show (i * 3 + 2) % 3 = 2 by omega] at this
    simp only [World.cell?, hg]; simpa using this
theorem FillX.made {W w' : World} {g n : Nat} (hB : Below W.heap.size W w') (h : w'.ownsRow W.heap.size 24 3 (.slice (some ⟨g, 0, none⟩) n n) n (madeCells #[.int .i64 0, .int .i64 0, .slice none 0 0] (n * 3)).toList) : FillX W w' g n [] := by
  rcases h.2 with ⟨h1, _⟩ | ⟨g', cap', cur, he, hg, hb, h1, h2, h3, h4⟩
  · cases h1
  · injection he with e1 e2 e3
    injection e1 with e1
    injection e1 with e1
    subst e1 e3
    have hcur : cur.toList = (madeCells #[.int .i64 0, .int .i64 0, .slice none 0 0] (n * 3)).toList := by
      rw [← h4, List.take_of_length_le (by simp; omega)]
    refine ⟨hg, ⟨cur, hb, h3⟩, (fun i hi => by simp at hi), zero3 (W := W) hb fun j _ hj => ?_, (fun x hx => by cases hx), (fun x hx => by cases hx), by simp, h2, hB⟩
    have h5 : cur = madeCells #[.int .i64 0, .int .i64 0, .slice none 0 0] (n * 3) := Array.toList_inj.1 hcur
    rw [h5]
    simp [madeCells, hj]
/-- such a row, or nothing yet -/
def FillV (W w : World) (v : Value) (es : List Ex) : Prop :=
  (v = .slice none 0 0 ∧ es = [] ∧ Below W.heap.size W w) ∨ ∃ g cap, v = .slice (some ⟨g, 0, none⟩) es.length cap ∧ FillX W w g cap es
theorem FillV.bel {W w : World} {v : Value} {es : List Ex} (h : FillV W w v es) : Below W.heap.size W w := by
  rcases h with ⟨_, _, h⟩ | ⟨_, _, _, h⟩
  · exact h
  · exact h.bel
theorem FillV.keep {W w w' : World} {B : Nat} {v : Value} {es : List Ex} (h : FillV W w v es) (hk : Below B w w') (hB : w.heap.size ≤ B) : FillV W w' v es := by
  rcases h with ⟨h1, h2, h3⟩ | ⟨g, cap, h1, h2⟩
  · exact .inl ⟨h1, h2, h3.trans (hk.mono (by have := h3.size; omega))⟩
  · exact .inr ⟨g, cap, h1, h2.keep hk hB⟩
theorem FillV.alloc {W w : World} {v : Value} {es : List Ex} (h : FillV W w v es) (o : Obj) : FillV W (w.alloc o) v es := h.keep ((Below.refl w.heap.size w).alloc (Nat.le_refl _) o) (Nat.le_refl _)
/-- the value and the kids -/
theorem FillV.kids {W w : World} {v : Value} {es : List Ex} (h : FillV W w v es) {op l : Int} (ho : B64 op) (hl : B64 l) : ∃ a c, v = .slice a es.length c ∧ InX w op l (es.map Ex.t) a := by
  rcases h with ⟨rfl, rfl, _⟩ | ⟨g, cap, rfl, h⟩
  · exact ⟨none, 0, rfl, .zero _, ho, hl, by simp⟩
  · exact ⟨some ⟨g, 0, none⟩, cap, rfl, h.kids ho hl⟩
theorem FillX.grown {W w : World} {cap : Nat} {es : List Ex} {x : Ex} (hW : W.heap.size ≤ w.heap.size) (hB : Below W.heap.size W w) (hin : ∀ y, y ∈ es ++ [x] → InX w y.op y.l y.ks y.a) (hw : ∀ y, y ∈ es ++ [x] → wfT 6 y.t = true) (hc : es.length + 1 ≤ cap) (hm : cap ≤ maxLen) (olds : List Value) (ho : olds = es.flatMap Ex.enc) :
    FillX W (w.drew.alloc (.cells (olds.toArray ++ x.enc.toArray ++ Builtin.zeroCells #[.int .i64 0, .int .i64 0, .slice none 0 0] (cap - (es.length + 1))) 24)) w.heap.size cap (es ++ [x]) := by
  subst ho
  have hlen : ∀ l : List Ex, (l.flatMap Ex.enc).length = l.length * 3 := by
    intro l
    induction l with
    | nil => rfl
    | cons a l ih => simp only [List.flatMap_cons, List.length_append, ih, List.length_cons]; show 3 + _ = _; omega
  have hsz : ((es.flatMap Ex.enc).toArray ++ x.enc.toArray ++ Builtin.zeroCells #[.int .i64 0, .int .i64 0, .slice none 0 0] (cap - (es.length + 1))).size = cap * 3 := by
    have h3 : x.enc.length = 3 := rfl
    simp only [Array.size_append, List.size_toArray, size_zeroCells, hlen, h3]
    show es.length * 3 + 3 + (cap - (es.length + 1)) * 3 = cap * 3
    omega
  have hnew := heap_alloc_new w.drew (.cells ((es.flatMap Ex.enc).toArray ++ x.enc.toArray ++ Builtin.zeroCells #[.int .i64 0, .int .i64 0, .slice none 0 0] (cap - (es.length + 1))) 24)
  have hBel : Below w.heap.size w (w.drew.alloc (.cells ((es.flatMap Ex.enc).toArray ++ x.enc.toArray ++ Builtin.zeroCells #[.int .i64 0, .int .i64 0, .slice none 0 0] (cap - (es.length + 1))) 24)) := (Below.refl _ w).drew.alloc (Nat.le_refl _) _
  have hl2 : (es.flatMap Ex.enc) ++ x.enc = (es ++ [x]).flatMap Ex.enc := by simp
  have hat : ∀ (l : List Ex) (i r : Nat) (hi : i < l.length) (hr : r < 3), (l.flatMap Ex.enc)[i * 3 + r]? = some ((l[i].enc)[r]'hr) := by
    intro l
    induction l with
    | nil => intro i r hi; simp at hi
    | cons a l ih =>
      intro i r hi hr
      simp only [List.flatMap_cons]
      have h3 : a.enc.length = 3 := rfl
      cases i with
      | zero => rw [List.getElem?_append_left (by omega), Nat.zero_mul, Nat.zero_add, List.getElem?_eq_getElem (by omega)]; rfl
      | succ j =>
        rw [List.getElem?_append_right (by omega), h3, show (j + 1) * 3 + r - 3 = j * 3 + r by omega, ih j r (by simpa using hi) hr]
        rfl
  refine ⟨hW, ⟨_, hnew, hsz⟩, fun i hi => ?_, zero3 (W := W) hnew fun j h1 h2 => ?_, fun y hy => (hin y hy).keep hBel, hw, by simpa using hc, hm, hB.trans (hBel.mono hW)⟩
  · have hi3 : i * 3 + 2 < ((es ++ [x]).flatMap Ex.enc).length := by rw [hlen]; omega
    have key : ∀ r (hr : r < 3), (w.drew.alloc (.cells ((es.flatMap Ex.enc).toArray ++ x.enc.toArray ++ Builtin.zeroCells #[.int .i64 0, .int .i64 0, .slice none 0 0] (cap - (es.length + 1))) 24)).cell? ⟨w.heap.size, i * 3 + r, none⟩ = some (((es ++ [x])[i].enc)[r]'hr) := by
      intro r hr
      have h6 := hat (es ++ [x]) i r hi hr
      simp only [World.cell?]
      rw [show (w.drew.alloc (.cells ((es.flatMap Ex.enc).toArray ++ x.enc.toArray ++ Builtin.zeroCells #[.int .i64 0, .int .i64 0, .slice none 0 0] (cap - (es.length + 1))) 24)).heap[w.heap.size]? = _ from hnew]
      simp only [Option.isSome_none, Bool.false_eq_true, if_false]
      rw [← Array.getElem?_toList, Array.toList_append, List.getElem?_append_left (by simp only [Array.toList_append, hl2]; omega), Array.toList_append]
      show (es.flatMap Ex.enc ++ x.enc)[i * 3 + r]? = _
      rw [hl2]; exact h6
    exact ⟨key 0 (by omega), key 1 (by omega), key 2 (by omega)⟩
  · have h7 : ((es.flatMap Ex.enc).toArray ++ x.enc.toArray).size = es.length * 3 + 3 := by
      have h3 : x.enc.length = 3 := rfl
      simp only [Array.size_append, List.size_toArray, hlen, h3]
    simp at h1
    rw [Array.getElem?_append_right (by omega), h7]
    have h8 : j - (es.length * 3 + 3) < (cap - (es.length + 1)) * 3 := by omega
    simp only [Builtin.zeroCells]
    rw [Array.getElem?_map, Array.getElem?_eq_getElem (by simpa using h8)]
    simp only [Array.getElem_range, Option.map_some]
    congr 2
    show (j - (es.length * 3 + 3)) % 3 = j % 3
    omega
/-- one more at the end -/
theorem wpList_append_fill {ops : Array Oper} {rest : List Oper} {o : Oper} {a : Act} {Q : Exit → Act → World → Prop} {w : World} (hgd : o.guard = none) (s xo : Operand) (t : TypeId)
    (ho : o.op = .call { callee := .builtin .append, args := #[s, xo], argTypes := #[t, t] })
    (i : TypeInfo) (ht : Try.prog.underlying t = some (.slice 24)) (hi : Try.prog.info? 24 = some i) (hz : i.zero = some (.agg #[.int .i64 0, .int .i64 0, .slice none 0 0])) (hsize : i.size = 3) (hby : i.bytes = 40)
    (W : World) (v : Value) (es : List Ex) (hs : a.eval s = v) (hown : FillV W w v es)
    (ad : Addr) (c : Nat) (x : Ex) (hx : a.eval xo = .slice (some ad) 1 c) (hnews : ∀ j u, x.enc[j]? = some u → w.cell? (ad.add j) = some u) (hin : InX w x.op x.l x.ks x.a) (hw : wfT 6 x.t = true)
    (hlen : es.length ≤ 1000000000000)
    (h : ∀ v' w', FillV W w' v' (es ++ [x]) → wpList Try.prog ops Q rest (a.put o.dst v') w') :
    wpList Try.prog ops Q (o :: rest) a w := by
  refine wpList_plain hgd fun K hK => ?_
  have hone : ∀ u ∈ x.enc, u.oneCell' = true := by
    intro u hu; simp [Ex.enc] at hu; rcases hu with rfl | rfl | rfl <;> rfl
  have h3 : x.enc.length = 1 * i.size := by rw [hsize]; rfl
  obtain ⟨v', w', hrun, hf⟩ : ∃ v' w', (Builtin.append_ #[t, t] o.type #[v, .slice (some ad) 1 c]).run Try.prog w = .ok v' w' ∧ FillV W w' v' (es ++ [x]) := by
    rcases hown with ⟨rfl, rfl, hB⟩ | ⟨g, cap, rfl, hf⟩
    · have hr := run_append_nil (P := Try.prog) w t o.type 24 i _ ht hi hz ad 1 c x.enc h3 hnews (by omega) (by omega) (by rw [hby]; omega)
      refine ⟨_, _, hr, .inr ⟨_, _, rfl, ?_⟩⟩
      have hge := grownCap_ge w 1 0 24
      have hcm := grownCap_le_maxLen w 1 0 24 (by unfold maxLen; omega)
      have := FillX.grown (W := W) (w := w) (cap := grownCap w 1 0 24) (es := []) (x := x) hB.size hB (fun y hy => by rw [List.mem_singleton.1 hy]; exact hin) (fun y hy => by rw [List.mem_singleton.1 hy]; exact hw) hge hcm [] rfl
      simpa [Value.cells] using this
    · by_cases hroom : es.length + 1 ≤ cap
      · have hr := run_append_room_cells (P := Try.prog) w t o.type 24 i ht hi g 0 es.length cap ad 1 c x.enc h3 hnews hone hroom (fun j hj => hf.is (by have : j < 3 := hj; rw [hsize]; omega)) (fun j hj => hf.fr _)
        refine ⟨_, _, hr, .inr ⟨g, cap, by simp, ?_⟩⟩
        have := hf.put (by omega) x hin hw
        rw [hsize, Nat.zero_add]; exact this
      · have hle := hf.le
        have hlo : (es.flatMap Ex.enc).length = es.length * i.size := by
          rw [hsize]
          have : ∀ l : List Ex, (l.flatMap Ex.enc).length = l.length * 3 := by
            intro l
            induction l with
            | nil => rfl
            | cons a l ih => simp only [List.flatMap_cons, List.length_append, ih, List.length_cons]; show 3 + _ = _; omega
          exact this es
        have hat : ∀ (l : List Ex) (i r : Nat) (hi : i < l.length) (hr : r < 3), (l.flatMap Ex.enc)[i * 3 + r]? = some ((l[i].enc)[r]'hr) := by
          intro l
          induction l with
          | nil => intro i r hi; simp at hi
          | cons a l ih =>
            intro i r hi hr
            simp only [List.flatMap_cons]
            have h3 : a.enc.length = 3 := rfl
            cases i with
            | zero => rw [List.getElem?_append_left (by omega), Nat.zero_mul, Nat.zero_add, List.getElem?_eq_getElem (by omega)]; rfl
            | succ j =>
              rw [List.getElem?_append_right (by omega), h3, show (j + 1) * 3 + r - 3 = j * 3 + r by omega, ih j r (by simpa using hi) hr]
              rfl
        have holds : ∀ j u, (es.flatMap Ex.enc)[j]? = some u → w.cell? ((⟨g, 0, none⟩ : Addr).add j) = some u := by
          intro j u hu
          have hj := (List.getElem?_eq_some_iff.1 hu).1
          rw [hlo, hsize] at hj
          have h6 := hat es (j / 3) (j % 3) (by omega) (Nat.mod_lt _ (by omega))
          rw [show j / 3 * 3 + j % 3 = j by omega, hu] at h6
          injection h6 with h6
          obtain ⟨c0, c1, c2⟩ := hf.cells (j / 3) (by omega)
          rw [Addr.add_lit, Nat.zero_add, h6]
          match hr : j % 3, Nat.mod_lt j (show 3 > 0 by omega) with
          | 0, _ => rw [show j / 3 * 3 = j by omega] at c0; simpa [Ex.enc] using c0
          | 1, _ => rw [show j / 3 * 3 + 1 = j by omega] at c1; simpa [Ex.enc] using c1
          | 2, _ => rw [show j / 3 * 3 + 2 = j by omega] at c2; simpa [Ex.enc] using c2
        have hr := run_append_grow (P := Try.prog) w t o.type 24 i _ ht hi hz ⟨g, 0, none⟩ es.length cap (es.flatMap Ex.enc) hlo holds ad 1 c x.enc h3 hnews (by omega) (by omega) (growslice_fits (by omega) (by rw [hby]; omega))
        refine ⟨_, _, hr, .inr ⟨w.heap.size, grownCap w (es.length + 1) cap 24, by simp, ?_⟩⟩
        have hge := grownCap_ge w (es.length + 1) cap 24
        have hcm := grownCap_le_maxLen w (es.length + 1) cap 24 (by unfold maxLen; omega)
        have := FillX.grown (W := W) (w := w) (cap := grownCap w (es.length + 1) cap 24) (es := es) (x := x) hf.bel.size hf.bel (fun y hy => by
          rcases List.mem_append.1 hy with hy | hy
          · exact hf.inx y hy
          · rw [List.mem_singleton.1 hy]; exact hin) (fun y hy => by
          rcases List.mem_append.1 hy with hy | hy
          · exact hf.good y hy
          · rw [List.mem_singleton.1 hy]; exact hw) hge hcm _ rfl
        simpa [Value.cells] using this
  unfold Oper.wp execOp
  simp only [ho, resolve, invoke, builtin, Sem.run_bind, Sem.run_pure, Result.andThen_ok, List.map_toArray, List.map_cons, List.map_nil, hs, hx, hrun]
  exact hK _ _ (h v' w' hf)
end Go.Proofs.Ythmdndondlffeaa
