/- Automata in memory. -/
import Derived.Test.YtdoifdpmgmlpdaaExprD
import Derived.Test.YtdoifdpmgmlpdaaNfaS
import Derived.Lib.SmallJoins
import Derived.Deep.Fields
import Derived.Deep.Slices
import Derived.ChangeSame
import Derived.OpenShut
namespace Go.Proofs.Ytdoifdpmgmlpdaa
open Go Go.RowKit Go.ChangeShapes Go.WideShapes Go.Joins Go.Deep
set_option linter.unusedVariables false
/-- at a lie the edges es -/
def InE (w : World) (a : Option Addr) (es : List Ed) : Prop :=
  es = [] ∨ ∃ b off, a = some ⟨b, off, none⟩ ∧ b < w.heap.size ∧ ∀ (i : Nat) (e : Ed), es[i]? = some e →
    (w.cell? ⟨b, off + i * 3, none⟩ = some (.int .i64 e.f) ∧ w.cell? ⟨b, off + i * 3 + 1, none⟩ = some (.int .i64 e.l) ∧ w.cell? ⟨b, off + i * 3 + 2, none⟩ = some (.int .i64 e.t)) ∧ B64 e.f ∧ B64 e.l ∧ B64 e.t
theorem InE.keep {w w' : World} {a : Option Addr} {es : List Ed} (h : InE w a es) (hb : Below w.heap.size w w') : InE w' a es := by
  rcases h with h | ⟨b, off, rfl, hl, hc⟩
  · exact .inl h
  · refine .inr ⟨b, off, rfl, Nat.lt_of_lt_of_le hl hb.size, fun i e hi => ?_⟩
    obtain ⟨⟨h1, h2, h3⟩, h4⟩ := hc i e hi
    exact ⟨⟨by rw [hb.cell (p := ⟨b, _, none⟩) hl]; exact h1, by rw [hb.cell (p := ⟨b, _, none⟩) hl]; exact h2, by rw [hb.cell (p := ⟨b, _, none⟩) hl]; exact h3⟩, h4⟩
/-- the i-th edge -/
theorem InE.at {w : World} {a : Option Addr} {es : List Ed} (h : InE w a es) {i : Nat} (hi : i < es.length) :
    ∃ b off, a = some ⟨b, off, none⟩ ∧ b < w.heap.size ∧ w.cell? ⟨b, off + i * 3, none⟩ = some (.int .i64 (es.getD i noE).f) ∧ w.cell? ⟨b, off + i * 3 + 1, none⟩ = some (.int .i64 (es.getD i noE).l) ∧ w.cell? ⟨b, off + i * 3 + 2, none⟩ = some (.int .i64 (es.getD i noE).t) ∧
      B64 (es.getD i noE).f ∧ B64 (es.getD i noE).l ∧ B64 (es.getD i noE).t := by
  rcases h with rfl | ⟨b, off, rfl, hl, hc⟩
  · simp at hi
  · obtain ⟨⟨h1, h2, h3⟩, h4⟩ := hc i _ (ed_some hi)
    exact ⟨b, off, rfl, hl, h1, h2, h3, h4⟩
/-- an automaton by value -/
def InN (w : World) (L S : Int) (st fi : Nat) (a : Option Addr) (es : List Ed) : Prop :=
  InE w a es ∧ B64 L ∧ B64 S ∧ st < 18446744073709551616 ∧ fi < 18446744073709551616 ∧ es.length ≤ 9223372036854775807
theorem InN.keep {w w' : World} {L S : Int} {st fi : Nat} {a : Option Addr} {es : List Ed} (h : InN w L S st fi a es) (hb : Below w.heap.size w w') : InN w' L S st fi a es := ⟨h.1.keep hb, h.2⟩
theorem InN.box {w : World} {L S : Int} {st fi : Nat} {a : Option Addr} {es : List Ed} (h : InN w L S st fi a es) (o : Obj) : InN (w.alloc o) L S st fi a es := h.keep ((Below.refl _ _).alloc (Nat.le_refl _) _)
/-- a box of an automaton, later -/
theorem nbox_cells {w w' : World} {v0 v1 v2 v3 v4 : Value} (h : Below (w.heap.size + 1) (w.alloc (.cells #[v0, v1, v2, v3, v4] 25)) w') :
    w'.cell? ⟨w.heap.size, 0, none⟩ = some v0 ∧ w'.cell? ⟨w.heap.size, 1, none⟩ = some v1 ∧ w'.cell? ⟨w.heap.size, 2, none⟩ = some v2 ∧ w'.cell? ⟨w.heap.size, 3, none⟩ = some v3 ∧ w'.cell? ⟨w.heap.size, 4, none⟩ = some v4 := by
  refine ⟨?_, ?_, ?_, ?_, ?_⟩ <;> rw [h.cell (p := ⟨w.heap.size, _, none⟩) (by simp)] <;> simp [go_sem]
/-! ### opening -/
theorem cellsE : Try.prog.cellsOf 44 = 3 := by kernel_rfl
theorem cellsN : Try.prog.cellsOf 25 = 5 := by kernel_rfl
theorem cellsInt : Try.prog.cellsOf 3 = 1 := by kernel_rfl
theorem cellsU : Try.prog.cellsOf 22 = 1 := by kernel_rfl
theorem cellsSE : Try.prog.cellsOf 23 = 1 := by kernel_rfl
theorem b64_of' {n : Int} (h : (Lit.int .i64 n).wf = true) : B64 n := bounds_i64 h
theorem add_none' (b off k : Nat) : (⟨b, off, none⟩ : Addr).add k = ⟨b, off + k, none⟩ := by unfold Addr.add; split <;> simp_all
theorem five {α : Type} {cs : Array α} (h : cs.size = 5) : ∃ c0 c1 c2 c3 c4, cs = #[c0, c1, c2, c3, c4] := by
  obtain ⟨l⟩ := cs
  match l, h with
  | [c0, c1, c2, c3, c4], _ => exact ⟨c0, c1, c2, c3, c4, rfl⟩
theorem fiveL {α : Type} {l : List α} (h : l.length = 5) : ∃ c0 c1 c2 c3 c4, l = [c0, c1, c2, c3, c4] := by
  match l, h with
  | [c0, c1, c2, c3, c4], _ => exact ⟨c0, c1, c2, c3, c4, rfl⟩
/-- a struct of five one-cell fields, by value -/
theorem open_five {H : Type} {enc : TypeId × Value → H} {P : Program} {w : World} {base : Nat} {spare : Nat → Bool} {held : Bool} {r : Reach} {b0 : Nat} {t : TypeId} {f0 f1 f2 f3 f4 : Field} {v : Value} {d : DataW H} {p : List MemPlace} (hs : P.underlying t = some (.struct #[f0, f1, f2, f3, f4])) (hone : oneCellFields P #[f0, f1, f2, f3, f4] = true) (hC : P.cellsOf t = 5)
    (hv : Value.okWide P w r b0 t v) (h : DataW.Trod enc P w base spare held t v d p) :
    ∃ (v0 v1 v2 v3 v4 : Value) (y0 y1 y2 y3 y4 : DataW H × List MemPlace) (n : Nat), v = .agg #[v0, v1, v2, v3, v4] ∧
      DataW.trod enc P w base spare held n f0.type [v0] = some y0 ∧ DataW.trod enc P w base spare held n f1.type [v1] = some y1 ∧ DataW.trod enc P w base spare held n f2.type [v2] = some y2 ∧ DataW.trod enc P w base spare held n f3.type [v3] = some y3 ∧ DataW.trod enc P w base spare held n f4.type [v4] = some y4 := by
  obtain ⟨cs, rfl, hsz⟩ := okWide_struct hs hv
  obtain ⟨c0, c1, c2, c3, c4, rfl⟩ := five (hsz.trans hC)
  obtain ⟨fuel, hf⟩ := h
  obtain ⟨xs, n, _, _, hl, hlen, hf⟩ := DataW.trod_struct hs hf
  obtain ⟨y0, y1, y2, y3, y4, rfl⟩ := fiveL (show xs.length = 5 from hlen)
  obtain ⟨o0, k0⟩ := hone_of hone 0 f0 rfl
  obtain ⟨o1, k1⟩ := hone_of hone 1 f1 rfl
  obtain ⟨o2, k2⟩ := hone_of hone 2 f2 rfl
  obtain ⟨o3, k3⟩ := hone_of hone 3 f3 rfl
  obtain ⟨o4, k4⟩ := hone_of hone 4 f4 rfl
  have h0 := hf 0 f0 rfl
  have h1 := hf 1 f1 rfl
  have h2 := hf 2 f2 rfl
  have h3 := hf 3 f3 rfl
  have h4 := hf 4 f4 rfl
  exact ⟨c0, c1, c2, c3, c4, y0, y1, y2, y3, y4, n, rfl, by simpa [Value.cells, o0, k0] using h0, by simpa [Value.cells, o1, k1] using h1, by simpa [Value.cells, o2, k2] using h2, by simpa [Value.cells, o3, k3] using h3, by simpa [Value.cells, o4, k4] using h4⟩
section
variable {H : Type} {enc : TypeId × Value → H} {w : World} {spare : Nat → Bool} {held : Bool}
set_option maxRecDepth 100000 in
theorem edges_in (fuel : Nat) (v : Value) (x : DataW H × List MemPlace) (h : DataW.trod enc Try.prog w 0 spare held fuel 23 [v] = some x) : ∃ a es c, v = .slice a (List.length es) c ∧ InE w a es ∧ es.length ≤ 9223372036854775807 := by
  rcases DataW.trod_slice Try.underlying23 h with ⟨hcs, _⟩ | ⟨a, len, cap, elems, rest, n, hf, hcs, _, _, hl, hm, hlen, hel, _, _⟩
  · have hv : v = .slice none 0 0 := by simpa using hcs
    exact ⟨none, [], 0, hv, .inl rfl, by simp⟩
  · have hv : v = .slice (some a) len cap := by simpa using hcs
    have hlm : len ≤ 9223372036854775807 := by unfold maxLen at hm; omega
    by_cases h0 : len = 0
    · subst h0
      exact ⟨some a, [], cap, hv, .inl rfl, by simp⟩
    rw [cellsE] at hel
    have elem : ∀ i, i < len → ∃ (cs' : List Value) (y : DataW H × List MemPlace), w.cells? 0 (a.add (i * 3)) 3 = some cs' ∧ DataW.trod enc Try.prog w 0 spare held n 44 cs' = some y := by
      intro i hi
      have key := hel i hi
      rw [List.getElem?_eq_getElem (by omega)] at key
      obtain ⟨cs', h1, h2⟩ := Option.bind_eq_some_iff.1 key
      exact ⟨cs', _, h1, h2⟩
    obtain ⟨b, off, spot⟩ := a
    have hspot : spot = none ∧ b < w.heap.size := by
      obtain ⟨cs', y, h1, h2⟩ := elem 0 (by omega)
      obtain ⟨_, hcl, hat⟩ := World.cells?_some h1
      have h3 := hat 0 (by omega)
      rw [List.getElem?_eq_getElem (by omega)] at h3
      have hs : spot = none := by simpa [Addr.add] using World.cell?_spot h3
      subst hs
      exact ⟨rfl, by simp [Addr.add] at h3; exact cell_lt (s := none) h3⟩
    obtain ⟨rfl, hb⟩ := hspot
    have hk : ∀ i, ∃ e : Ed, i < len → (w.cell? ⟨b, off + i * 3, none⟩ = some (.int .i64 e.f) ∧ w.cell? ⟨b, off + i * 3 + 1, none⟩ = some (.int .i64 e.l) ∧ w.cell? ⟨b, off + i * 3 + 2, none⟩ = some (.int .i64 e.t)) ∧ B64 e.f ∧ B64 e.l ∧ B64 e.t := by
      intro i
      by_cases hi : i < len
      · obtain ⟨cs', y, h1, h2⟩ := elem i hi
        obtain ⟨_, hcl, hat⟩ := World.cells?_some h1
        obtain ⟨ys, n', hn', _, _, hlen', hfld⟩ := DataW.trod_struct Try.underlying44 h2
        obtain ⟨c0, c1, c2, rfl⟩ : ∃ c0 c1 c2, cs' = [c0, c1, c2] := by
          match cs', hcl with
          | [c0, c1, c2], _ => exact ⟨c0, c1, c2, rfl⟩
        have f0 := hfld 0 _ rfl
        have f1 := hfld 1 _ rfl
        have f2 := hfld 2 _ rfl
        have a0 := hat 0 (by omega)
        have a1 := hat 1 (by omega)
        have a2 := hat 2 (by omega)
        rw [add_none', add_none'] at a0 a1 a2
        have a0 : w.cell? ⟨b, off + i * 3, none⟩ = some c0 := a0
        have a1 : w.cell? ⟨b, off + i * 3 + 1, none⟩ = some c1 := a1
        have a2 : w.cell? ⟨b, off + i * 3 + 2, none⟩ = some c2 := a2
        have hy3 : ys.length = 3 := hlen'
        change DataW.trod enc Try.prog w 0 spare held n' 3 ((List.drop 0 [c0, c1, c2]).take (Try.prog.cellsOf 3)) = _ at f0
        change DataW.trod enc Try.prog w 0 spare held n' 3 ((List.drop 1 [c0, c1, c2]).take (Try.prog.cellsOf 3)) = _ at f1
        change DataW.trod enc Try.prog w 0 spare held n' 3 ((List.drop 2 [c0, c1, c2]).take (Try.prog.cellsOf 3)) = _ at f2
        rw [cellsInt, List.getElem?_eq_getElem (by omega)] at f0 f1 f2
        obtain ⟨op, e0, _, w0⟩ := DataW.trod_int Try.underlying3 f0
        obtain ⟨l, e1, _, w1⟩ := DataW.trod_int Try.underlying3 f1
        obtain ⟨u, e2, _, w2⟩ := DataW.trod_int Try.underlying3 f2
        have e0' : c0 = .int .i64 op := by simpa using e0
        have e1' : c1 = .int .i64 l := by simpa using e1
        have e2' : c2 = .int .i64 u := by simpa using e2
        subst e0' e1' e2'
        exact ⟨⟨op, l, u⟩, fun _ => ⟨⟨a0, a1, a2⟩, b64_of' w0, b64_of' w1, b64_of' w2⟩⟩
      · exact ⟨noE, fun h => absurd h hi⟩
    obtain ⟨E, hE⟩ := Classical.axiomOfChoice hk
    refine ⟨some ⟨b, off, none⟩, (List.range len).map E, cap, by simpa using hv, .inr ⟨b, off, rfl, hb, fun i e he => ?_⟩, by simpa using hlm⟩
    have hi : i < len := by
      apply Nat.lt_of_not_le; intro hle; rw [List.getElem?_eq_none (by simp; exact hle)] at he; cases he
    have : E i = e := by simpa [hi] using he
    rw [← this]
    exact hE i hi
set_option maxRecDepth 100000 in
/-- an automaton by value, opened -/
theorem open_nfa {r : Reach} {b0 : Nat} {v : Value} {d : DataW H} {p : List MemPlace} (hv : Value.okWide Try.prog w r b0 25 v) (h : DataW.Trod enc Try.prog w 0 spare held 25 v d p) :
    ∃ L S st fi a es c, v = .agg #[.int .i64 L, .int .i64 S, .int .u64 (st : Nat), .int .u64 (fi : Nat), .slice a (List.length es) c] ∧ InN w L S st fi a es := by
  obtain ⟨v0, v1, v2, v3, v4, y0, y1, y2, y3, y4, n, rfl, h0, h1, h2, h3, h4⟩ := open_five Try.underlying25 (by kernel_rfl) cellsN hv h
  obtain ⟨L, e0, _, w0⟩ := DataW.trod_int Try.underlying3 h0
  obtain ⟨S, e1, _, w1⟩ := DataW.trod_int Try.underlying3 h1
  obtain ⟨st, e2, _, w2⟩ := DataW.trod_int Try.underlying22 h2
  obtain ⟨fi, e3, _, w3⟩ := DataW.trod_int Try.underlying22 h3
  obtain ⟨a, es, c, rfl, hin, hkl⟩ := edges_in n v4 _ h4
  have e0' : v0 = .int .i64 L := by simpa using e0
  have e1' : v1 = .int .i64 S := by simpa using e1
  have e2' : v2 = .int .u64 st := by simpa using e2
  have e3' : v3 = .int .u64 fi := by simpa using e3
  subst e0' e1' e2' e3'
  have b2 := bounds_u64 w2
  have b3 := bounds_u64 w3
  exact ⟨L, S, st.toNat, fi.toNat, a, es, c, by rw [Int.toNat_of_nonneg b2.1, Int.toNat_of_nonneg b3.1], hin, b64_of' w0, b64_of' w1, by omega, by omega, hkl⟩
end
end Go.Proofs.Ytdoifdpmgmlpdaa
