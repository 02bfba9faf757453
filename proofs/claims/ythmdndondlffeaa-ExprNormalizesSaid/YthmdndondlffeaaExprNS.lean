/- Contract: slices.SortFunc over expressions in a row of the call's own. (Needs the seat's SortK: iter3.py SEAT FOLDER.) -/
import Derived.Test.YthmdndondlffeaaExprND
import Derived.Test.YthmdndondlffeaaSortK
import Derived.Shelf.SlSortCmp.NoneTotal
import Derived.Sort.OwnSorted
namespace Go.Proofs.Ythmdndondlffeaa
open Go Go.RowKit Go.Sort
set_option linter.unusedVariables false
/-- an expression by value -/
structure Ex where
  op : Int
  l : Int
  ks : List T
  a : Option Addr
  c : Nat
def Ex.t (x : Ex) : T := .node x.op x.l x.ks
def Ex.enc (x : Ex) : List Value := [.int .i64 x.op, .int .i64 x.l, .slice x.a x.ks.length x.c]
/-- an expression that lies in W0 -/
def ExIn (W0 : World) := { x : Ex // InX W0 x.op x.l x.ks x.a }
instance {W0 : World} : Inhabited (ExIn W0) := ⟨⟨⟨0, 0, [], none, 0⟩, .zero _, ⟨by decide, by decide⟩, ⟨by decide, by decide⟩, by simp⟩⟩
def encX {W0 : World} (x : ExIn W0) : List Value := x.1.enc
def cellsE {W0 : World} (es : List (ExIn W0)) : List Value := es.flatMap encX
theorem encX_len {W0 : World} (x : ExIn W0) : (encX x).length = 3 := rfl
theorem cellsE_len {W0 : World} (es : List (ExIn W0)) : (cellsE es).length = es.length * 3 := by
  induction es with
  | nil => rfl
  | cons x a ih => simp only [cellsE, List.flatMap_cons, List.length_append, List.length_cons, encX_len] at ih ⊢; omega
theorem cellsE_at {W0 : World} (es : List (ExIn W0)) : ∀ (i r : Nat), r < 3 → i < es.length → (cellsE es)[i * 3 + r]? = some ((encX es.toArray[i]!)[r]!) := by
  induction es with
  | nil => intro i r _ h; simp at h
  | cons x a ih =>
    intro i r hr hi
    have hx := encX_len x
    simp only [cellsE, List.flatMap_cons]
    cases i with
    | zero =>
      rw [List.getElem?_append_left (by omega), Nat.zero_mul, Nat.zero_add, List.getElem?_eq_getElem (by omega)]
      simp [getElem!_pos, hx, hr]
    | succ j =>
      rw [List.getElem?_append_right (by omega), hx, show (j + 1) * 3 + r - 3 = j * 3 + r by omega]
      have h1 := ih j r hr (by simpa using hi)
      simp only [cellsE] at h1
      rw [h1]
      have hj : j < a.length := by simpa using hi
      simp [hj]
theorem flatK_cells {W0 : World} (es : List (ExIn W0)) : (flatK encX 3 es.toArray).toList = cellsE es := by
  apply List.ext_getElem?
  intro j
  by_cases hj : j < es.length * 3
  · have h1 := cellsE_at es (j / 3) (j % 3) (Nat.mod_lt _ (by omega)) (by omega)
    rw [show j / 3 * 3 + j % 3 = j by omega] at h1
    rw [h1, Array.getElem?_toList, Array.getElem?_eq_getElem (by simpa using hj)]
    congr 1
    have h2 := get_flatK encX 3 es.toArray j (by simpa using hj)
    rw [getElem!_pos _ j (by simpa using hj)] at h2
    exact h2
  · rw [List.getElem?_eq_none (by simp; omega), List.getElem?_eq_none (by rw [cellsE_len]; omega)]
theorem holdsK_own {W0 w : World} {g : Nat} {cur : Array Value} {e : TypeId} (es : List (ExIn W0)) (hb : w.heap[g]? = some (.cells cur e (0, 0))) (ht : cur.toList.take (es.length * 3) = cellsE es) : HoldsK encX 3 w g 0 es.toArray := by
  intro j hj
  have hj' : j < es.length * 3 := by simpa using hj
  refine ⟨?_, by simp [World.frozen?, hb]⟩
  have h1 : (cur.toList.take (es.length * 3))[j]? = (flatK encX 3 es.toArray).toList[j]? := by rw [ht, flatK_cells]
  rw [List.getElem?_take_of_lt hj', Array.getElem?_toList, Array.getElem?_toList, Array.getElem?_eq_getElem hj] at h1
  simp only [World.cell?, hb, Nat.zero_add]
  rw [getElem!_pos _ j hj]
  simpa using h1
theorem grownBy_sortK {W0 w : World} {g n : Nat} {os : Array Obj} (d : Array (ExIn W0)) : w.grownBy (sortWorldK encX 3 w g 0 n d os) (some g) := by
  refine ⟨rfl, rfl, rfl, by simp [sortWorldK, putRowK], fun k hk hne => ?_⟩
  unfold sortWorldK putRowK
  rw [heap_grow_old _ _ (by simpa using hk)]
  have : g ≠ k := fun e => hne (by rw [e])
  simp [putRow, mapBlock, Sort.ahead, Array.getElem?_modify, this]
theorem heap_sortK {W0 w : World} {g n : Nat} {os : Array Obj} {cur : Array Value} {e : TypeId} {fr : Nat × Nat} (d : Array (ExIn W0)) (hb : w.heap[g]? = some (.cells cur e fr)) :
    (sortWorldK encX 3 w g 0 n d os).heap[g]? = some (.cells (putCells id 0 (flatK encX 3 d) cur) e fr) := by
  have hg : g < w.heap.size := (Array.getElem?_eq_some_iff.1 hb).1
  unfold sortWorldK putRowK
  rw [heap_grow_old _ _ (by simpa using hg)]
  simp [putRow, mapBlock, Sort.ahead, Array.getElem?_modify, hb, onCells]
theorem take_putK (cur F : Array Value) (h : F.size ≤ cur.size) : (putCells id 0 F cur).toList.take F.size = F.toList := by
  apply List.ext_getElem?
  intro j
  by_cases hj : j < F.size
  · rw [List.getElem?_take_of_lt hj, Array.getElem?_toList]
    simp [putCells, hj, show j < cur.size by omega]
  · rw [List.getElem?_take_eq_none (by omega), List.getElem?_eq_none (by simp; omega)]
def cfX {W0 : World} (x y : ExIn W0) : Int := cmpT x.1.t y.1.t
theorem swoX (W0 : World) : SWO (ltOf (cfX (W0 := W0))) where
  irrefl x := by simp [ltOf, cfX, cmpT_self]
  trans x y z h1 h2 := by
    have h1 : cmpT x.1.t y.1.t < 0 := of_decide_eq_true h1
    have h2 : cmpT y.1.t z.1.t < 0 := of_decide_eq_true h2
    have h3 := cmpT_trans _ _ _ (Int.le_of_lt h1) (Int.le_of_lt h2)
    have h4 : cmpT x.1.t z.1.t ≠ 0 := fun h => by
      have h5 := cmpT_zero _ _ h
      have h6 := cmpT_neg y.1.t z.1.t
      rw [h5] at h1; omega
    exact decide_eq_true (show cmpT x.1.t z.1.t < 0 by omega)
  ntrans x y z h1 h2 := by
    have h1 : ¬ cmpT x.1.t y.1.t < 0 := of_decide_eq_false h1
    have h2 : ¬ cmpT y.1.t z.1.t < 0 := of_decide_eq_false h2
    have e1 := cmpT_neg x.1.t y.1.t
    have e2 := cmpT_neg y.1.t z.1.t
    have e3 := cmpT_neg x.1.t z.1.t
    have h3 := cmpT_trans z.1.t y.1.t x.1.t (by omega) (by omega)
    exact decide_eq_false (show ¬ cmpT x.1.t z.1.t < 0 by omega)
theorem cmpLays_of {W0 w : World} {g : Nat} (hB : Below W0.heap.size W0 w) (hg : W0.heap.size ≤ g) (n : Nat) : CmpLays Try.prog 54 #[] (encX (W0 := W0)) 3 cfX g 0 n w := by
  intro m os dk _ x y
  have hb : Below W0.heap.size W0 (sortWorldK encX 3 w g 0 m dk os) := hB.grown (grownBy_sortK dk) hB.size (fun k h => by injection h with h; omega)
  refine (compareD_any x.1.op x.1.l x.1.ks y.1.op y.1.l y.1.ks x.1.a y.1.a x.1.c y.1.c _ (x.2.keep hb) (y.2.keep hb)).mono ?_
  rintro e w' ⟨he, hd⟩
  exact ⟨he, grown_of_belowD hd⟩
/-- sorted -/
def SortedX {W0 : World} (es : List (ExIn W0)) : Prop := es.Pairwise fun x y => cmpT x.1.t y.1.t ≤ 0
theorem sortedX_of {W0 : World} (d : Array (ExIn W0)) (h : SortedIn (ltOf cfX) 0 d.size d) : SortedX d.toList := by
  unfold SortedX
  rw [List.pairwise_iff_getElem]
  intro i j hi hj hij
  have h1 := h i j (Nat.zero_le _) hij (by simpa using hj)
  rw [getElem!_pos d i (by simpa using hi), getElem!_pos d j (by simpa using hj)] at h1
  have hi' : i < d.size := by simpa using hi
  have hj' : j < d.size := by simpa using hj
  have h1 : ¬ cmpT (d[j]'hj').1.t (d[i]'hi').1.t < 0 := of_decide_eq_false h1
  have h2 := cmpT_neg (d[i]'hi').1.t (d[j]'hj').1.t
  show cmpT (d[i]'hi').1.t (d[j]'hj').1.t ≤ 0
  omega
/-- what SortFunc leaves of a row -/
def SortP (W0 : World) (es : List (ExIn W0)) (v : Value) (e : Ending) (w' : World) : Prop :=
  e = .returned (.tuple #[]) ∧ ∃ es' : List (ExIn W0), es'.Perm es ∧ SortedX es' ∧ w'.ownsRow W0.heap.size 24 3 v es'.length (cellsE es') ∧ Below W0.heap.size W0 w'
theorem sort_any (W0 w : World) (hB : Below W0.heap.size W0 w) (v : Value) (es : List (ExIn W0)) (hn : es.length < 4611686018427387904) (ho : w.ownsRow W0.heap.size 24 3 v es.length (cellsE es)) :
    Calls Try.prog 53 #[v, .func (.func 54) #[] #[]] w (SortP W0 es v) := by
  rcases ho.2 with ⟨rfl, h0⟩ | ⟨g, cap, cur, rfl, hg, hb, h1, h2, h3, h4⟩
  · have hes : es = [] := List.eq_nil_of_length_eq_zero h0
    subst hes
    have hc := AnyF.slices_SortFunc_none Try.sortE53 none 0 (.func (.func 54) #[] #[]) w
    refine (show Calls Try.prog 53 _ _ _ from hc).mono ?_
    rintro e w' ⟨rfl, hw⟩
    exact ⟨rfl, [], .refl _, .nil, World.ownsRow_nil _ _ _ _, hw ▸ hB⟩
  · have eg : ∀ args w, (callFunc 54 args).run Try.prog w = .ok (.enter 54 args) w := enters_of Try.func54 (by kernel_rfl) rfl
    have hg2 : g < w.heap.size := (Array.getElem?_eq_some_iff.1 hb).1
    have hc := AnyQ.slices_SortFunc Try.sortE53 3 Try.isAgg24 Try.sizeOf24 (encX (W0 := W0)) encX_len (fun x v hv => by simp [encX, Ex.enc] at hv; rcases hv with rfl | rfl | rfl <;> rfl) cfX (swoX W0) 54 #[] g 0 cap es.toArray w eg (cmpLays_of hB hg _) (holdsK_own es hb h4) hg2 (by simpa using hn)
    refine (show Calls Try.prog 53 _ _ _ from hc).mono ?_
    rintro e w' ⟨rfl, d', n, os, hp, hs, rfl⟩
    have hsz : d'.size = es.length := by have := hp.1; simpa using this
    have hperm : d'.toList.Perm es := by
      have h5 := hp.2.2
      have e1 : d'.extract 0 es.toArray.size = d' := by rw [show es.toArray.size = d'.size by simp [hsz]]; simp
      have e2 : es.toArray.extract 0 es.toArray.size = es.toArray := by simp
      rw [e1, e2] at h5
      exact h5
    have hfl : (flatK encX 3 d').toList = cellsE d'.toList := flatK_cells d'.toList
    refine ⟨rfl, d'.toList, hperm, sortedX_of d' (by rw [hsz]; simpa using hs), ⟨by rw [cellsE_len], .inr ⟨g, cap, _, by simp [hsz], hg, heap_sortK d' hb, by simp [hsz]; exact h1, h2, by simp [putCells, h3], ?_⟩⟩, hB.grown (grownBy_sortK d') hB.size (fun k h => by injection h with h; omega)⟩
    have h6 := take_putK cur (flatK encX 3 d') (by rw [size_flatK, hsz, h3]; exact Nat.mul_le_mul_right 3 h1)
    rw [size_flatK, hfl] at h6
    simpa using h6
end Go.Proofs.Ythmdndondlffeaa
