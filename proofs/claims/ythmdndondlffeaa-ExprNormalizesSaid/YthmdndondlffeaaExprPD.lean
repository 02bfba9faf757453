/- Trees of the parser's own; contract: list. -/
import Derived.Test.YthmdndondlffeaaExprPC
namespace Go.Proofs.Ythmdndondlffeaa
open Go Go.RowKit Go.Lib
set_option linter.unusedVariables false
/-- at a lie the trees ks, in blocks of which q holds -/
inductive InQ (w : World) (q : Nat → Prop) : Option Addr → List T → Prop
  | zero (a : Option Addr) : InQ w q a []
  | row (b off : Nat) (ks : List T) (A : Nat → Option Addr) (C : Nat → Nat) (hb : b < w.heap.size) (hq : q b)
      (hc : ∀ (i : Nat) (k : T), ks[i]? = some k → w.cell? ⟨b, off + i * 3, none⟩ = some (.int .i64 k.op) ∧ w.cell? ⟨b, off + i * 3 + 1, none⟩ = some (.int .i64 k.lt) ∧ w.cell? ⟨b, off + i * 3 + 2, none⟩ = some (.slice (A i) k.ks.length (C i)))
      (hz : ∀ (i : Nat) (k : T), ks[i]? = some k → B64 k.op ∧ B64 k.lt ∧ k.ks.length ≤ 9223372036854775807)
      (hi : ∀ (i : Nat) (k : T), ks[i]? = some k → InQ w q (A i) k.ks) : InQ w q (some ⟨b, off, none⟩) ks
theorem InQ.toK {w : World} {q : Nat → Prop} {a : Option Addr} {ks : List T} (h : InQ w q a ks) : InK w a ks := by
  induction h with
  | zero a => exact .zero a
  | row b off ks A C hb hq hc hz hi ih => exact .row b off ks A C hb hc hz ih
theorem InQ.keep {w w' : World} {q q' : Nat → Prop} {a : Option Addr} {ks : List T} (h : InQ w q a ks) (hs : w.heap.size ≤ w'.heap.size) (hb : ∀ b, b < w.heap.size → q b → w'.heap[b]? = w.heap[b]? ∧ q' b) : InQ w' q' a ks := by
  induction h with
  | zero a => exact .zero a
  | row b off ks A C hlt hq hc hz hi ih =>
    obtain ⟨h1, h2⟩ := hb b hlt hq
    have key : ∀ o, w'.cell? ⟨b, o, none⟩ = w.cell? ⟨b, o, none⟩ := fun o => World.cell?_of_block (w := w) (w' := w') (a := ⟨b, o, none⟩) h1
    exact .row b off ks A C (Nat.lt_of_lt_of_le hlt hs) h2 (fun i k hk => by rw [key, key, key]; exact hc i k hk) hz ih
/-- an expression by value, its kids in blocks of which q holds -/
def InY (w : World) (q : Nat → Prop) (op l : Int) (ks : List T) (a : Option Addr) : Prop := InQ w q a ks ∧ B64 op ∧ B64 l ∧ ks.length ≤ 9223372036854775807
theorem InY.toX {w : World} {q : Nat → Prop} {op l : Int} {ks : List T} {a : Option Addr} (h : InY w q op l ks a) : InX w op l ks a := ⟨h.1.toK, h.2⟩
theorem InY.keep {w w' : World} {q q' : Nat → Prop} {op l : Int} {ks : List T} {a : Option Addr} (h : InY w q op l ks a) (hs : w.heap.size ≤ w'.heap.size) (hb : ∀ b, b < w.heap.size → q b → w'.heap[b]? = w.heap[b]? ∧ q' b) : InY w' q' op l ks a := ⟨h.1.keep hs hb, h.2⟩
/-- what a function of the parser that hands back a tree leaves -/
def PTree (p : Nat) (s : ByteArray) (L : Int) (w : World) (op l : Int) (ks : List T) (i : Nat) (e : Ending) (w' : World) : Prop :=
  ∃ a c, e = .returned (.agg #[.int .i64 op, .int .i64 l, .slice a ks.length c]) ∧ InY w' (fun b => w.heap.size ≤ b) op l ks a ∧ w.grownBy w' (some p) ∧ PSt w' p s L i
theorem PSt.keep {w w' : World} {p : Nat} {s : ByteArray} {L : Int} {i : Nat} (h : PSt w p s L i) (hs : w.heap.size ≤ w'.heap.size) (hb : w'.heap[p]? = w.heap[p]?) : PSt w' p s L i := by
  have key : ∀ o, w'.cell? ⟨p, o, none⟩ = w.cell? ⟨p, o, none⟩ := fun o => World.cell?_of_block (w := w) (w' := w') (a := ⟨p, o, none⟩) hb
  exact ⟨Nat.lt_of_lt_of_le h.lt hs, by rw [key]; exact h.c0, by rw [key]; exact h.c1, by rw [key]; exact h.c2, by rw [World.frozen?_of_block (w := w) (w' := w') (a := ⟨p, 2, none⟩) hb]; exact h.fz, h.le, h.sz⟩
theorem PSt.alloc {w : World} {p : Nat} {s : ByteArray} {L : Int} {i : Nat} (h : PSt w p s L i) (o : Obj) : PSt (w.alloc o) p s L i := h.keep (by simp) (Below.heap_alloc w o p h.lt)
theorem PSt.setc {w : World} {p : Nat} {s : ByteArray} {L : Int} {i : Nat} (h : PSt w p s L i) {b c : Nat} (hne : b ≠ p) (v : Value) : PSt (w.setCell ⟨b, c, none⟩ v) p s L i :=
  h.keep (by simp [World.setCell]) (Below.heap_setCell w ⟨b, c, none⟩ v p (fun e => hne e.symm))
/-- p aside, all that was there is as it was -/
theorem grown_alloc {a w : World} {r : Option Nat} (h : a.grownBy w r) (o : Obj) : a.grownBy (w.alloc o) r := World.grownBy.trans h (World.grownBy_alloc w o r)
theorem grown_set_new {a w : World} {r : Option Nat} (h : a.grownBy w r) {b c : Nat} (hb : a.heap.size ≤ b) (v : Value) : a.grownBy (w.setCell ⟨b, c, none⟩ v) r :=
  ⟨h.os, h.tape, h.output, Nat.le_trans h.size (by simp [World.setCell]), fun k hk hne => (Below.heap_setCell w ⟨b, c, none⟩ v k (by intro e; simp at e; omega)).trans (h.block k hk hne)⟩
/-- trees in a row of the call's own -/
structure OwnE (w : World) (base : Nat) (v : Value) (ts : List T) : Prop where
  own : ∃ xs, w.ownsRow base 24 3 v ts.length xs ∧ ∀ (i : Nat) (k : T), ts[i]? = some k → ∃ a c, xs[i * 3]? = some (.int .i64 k.op) ∧ xs[i * 3 + 1]? = some (.int .i64 k.lt) ∧ xs[i * 3 + 2]? = some (.slice a k.ks.length c) ∧ InY w (fun b => base ≤ b ∧ some b ≠ v.ownBlock) k.op k.lt k.ks a
theorem infoE : (Try.prog.info? 24).map (fun i => (i.zero, i.size, i.bytes)) = some (some (.agg #[.int .i64 0, .int .i64 0, .slice none 0 0]), 3, 40) := by kernel_rfl
theorem OwnE.keep {w w' : World} {base p : Nat} {v : Value} {ts : List T} (h : OwnE w base v ts) (hg : w.grownBy w' (some p)) (hp : p < base) : OwnE w' base v ts := by
  obtain ⟨xs, ho, hx⟩ := h.own
  refine ⟨xs, World.ownsRow.kept ho hg ?_, fun i k hk => ?_⟩
  · cases hv : v.ownBlock with
    | none => exact .inl rfl
    | some g => exact .inr (fun e => by injection e with e; have := (ho.lt g hv).1; omega)
  · obtain ⟨a, c, h1, h2, h3, h4⟩ := hx i k hk
    exact ⟨a, c, h1, h2, h3, h4.keep hg.size fun b hb hq => ⟨hg.block b hb (fun e => by injection e with e; omega), hq⟩⟩
theorem OwnE.alloc {w : World} {base : Nat} {v : Value} {ts : List T} (h : OwnE w base v ts) (o : Obj) : OwnE (w.alloc o) base v ts := by
  obtain ⟨xs, ho, hx⟩ := h.own
  refine ⟨xs, ho.alloc o, fun i k hk => ?_⟩
  obtain ⟨a, c, h1, h2, h3, h4⟩ := hx i k hk
  exact ⟨a, c, h1, h2, h3, h4.keep (by simp) fun b hb hq => ⟨Below.heap_alloc w o b hb, hq⟩⟩
/-- the first tree -/
theorem OwnE.one {w : World} {op l : Int} {B : Nat} {ks : List T} {a : Option Addr} {c : Nat} (hB : B ≤ w.heap.size) (h : InY w (fun b => B ≤ b) op l ks a) :
    OwnE (w.alloc (.cells #[.int .i64 op, .int .i64 l, .slice a ks.length c] 24)) B (.slice (some ⟨w.heap.size, 0, none⟩) 1 1) [.node op l ks] := by
  refine ⟨_, World.ownsRow_lit (base := B) (e := 24) (size := 3) w #[.int .i64 op, .int .i64 l, .slice a ks.length c] 1 hB (by unfold maxLen; omega) rfl, fun i k hk => ?_⟩
  have h0 : i = 0 := by
    cases i with
    | zero => rfl
    | succ j => simp at hk
  subst h0
  obtain rfl : T.node op l ks = k := by simpa using hk
  exact ⟨a, c, rfl, rfl, rfl, h.keep (by simp) fun b hb hq => ⟨Below.heap_alloc w _ b hb, hq, fun e => by simp [Value.ownBlock] at e; omega⟩⟩
/-- one tree more -/
theorem OwnE.push {w w2 : World} {op l : Int} {B : Nat} {v v' : Value} {ts : List T} {xs : List Value} {ks : List T} {a : Option Addr} {c : Nat} {o : Obj}
    (ho : w.ownsRow B 24 3 v ts.length xs) (hx : ∀ (i : Nat) (k : T), ts[i]? = some k → ∃ a c, xs[i * 3]? = some (.int .i64 k.op) ∧ xs[i * 3 + 1]? = some (.int .i64 k.lt) ∧ xs[i * 3 + 2]? = some (.slice a k.ks.length c) ∧ InY w (fun b => B ≤ b ∧ some b ≠ v.ownBlock) k.op k.lt k.ks a)
    (hk : InY w (fun b => B ≤ b ∧ some b ≠ v.ownBlock) op l ks a)
    (h2 : w2.ownsRow B 24 3 v' (ts.length + 1) (xs ++ [.int .i64 op, .int .i64 l, .slice a ks.length c])) (hg : (w.alloc o).grownBy w2 v.ownBlock) (hat : v'.ownBlock = v.ownBlock ∨ v'.ownBlock = some (w.heap.size + 1)) :
    OwnE w2 B v' (ts ++ [.node op l ks]) := by
  have hxl : xs.length = ts.length * 3 := ho.1
  have hsz : w.heap.size ≤ w2.heap.size := by have := hg.size; simp at this; omega
  have hkeep : ∀ b, b < w.heap.size → (B ≤ b ∧ some b ≠ v.ownBlock) → w2.heap[b]? = w.heap[b]? ∧ (B ≤ b ∧ some b ≠ v'.ownBlock) := by
    intro b hb hq
    refine ⟨(hg.block b (by simp; omega) hq.2).trans (Below.heap_alloc w o b hb), hq.1, ?_⟩
    rcases hat with e | e
    · rw [e]; exact hq.2
    · rw [e]; intro e2; injection e2; omega
  refine ⟨_, by rw [List.length_append]; exact h2, fun i k hi => ?_⟩
  by_cases hlt : i < ts.length
  · rw [List.getElem?_append_left hlt] at hi
    obtain ⟨a1, c1, e1, e2, e3, e4⟩ := hx i k hi
    exact ⟨a1, c1, by rw [List.getElem?_append_left (by omega)]; exact e1, by rw [List.getElem?_append_left (by omega)]; exact e2, by rw [List.getElem?_append_left (by omega)]; exact e3, e4.keep hsz hkeep⟩
  · rw [List.getElem?_append_right (by omega)] at hi
    have h0 : i - ts.length = 0 := by
      apply Nat.eq_zero_of_not_pos; intro hpos
      rw [List.getElem?_eq_none (by simp; omega)] at hi; cases hi
    rw [h0] at hi
    obtain rfl : T.node op l ks = k := by simpa using hi
    obtain rfl : i = ts.length := by omega
    refine ⟨a, c, ?_, ?_, ?_, hk.keep hsz hkeep⟩
    · rw [List.getElem?_append_right (by omega), hxl, show ts.length * 3 - ts.length * 3 = 0 by omega]; rfl
    · rw [List.getElem?_append_right (by omega), hxl, show ts.length * 3 + 1 - ts.length * 3 = 1 by omega]; rfl
    · rw [List.getElem?_append_right (by omega), hxl, show ts.length * 3 + 2 - ts.length * 3 = 2 by omega]; rfl
/-- the row, read as kids -/
theorem OwnE.form {w : World} {B : Nat} {v : Value} {ts : List T} (h : OwnE w B v ts) (hn : 0 < ts.length) (hm : ts.length ≤ 9223372036854775807) : ∃ g c, v = .slice (some ⟨g, 0, none⟩) ts.length c ∧ B ≤ g ∧ g < w.heap.size ∧ InQ w (fun b => B ≤ b) (some ⟨g, 0, none⟩) ts := by
  obtain ⟨xs, ho, hx⟩ := h.own
  obtain ⟨g, c, rfl, hb, hg⟩ := ho.form hn
  refine ⟨g, c, rfl, hb, hg, ?_⟩
  have hxl := ho.1
  have key : ∀ (i : Nat) (k : T), ts[i]? = some k → ∃ z : Option Addr × Nat, xs[i * 3]? = some (.int .i64 k.op) ∧ xs[i * 3 + 1]? = some (.int .i64 k.lt) ∧ xs[i * 3 + 2]? = some (.slice z.1 k.ks.length z.2) ∧ InY w (fun b => B ≤ b) k.op k.lt k.ks z.1 := by
    intro i k hk
    obtain ⟨a, c, h1, h2, h3, h4⟩ := hx i k hk
    exact ⟨(a, c), h1, h2, h3, h4.keep (Nat.le_refl _) fun b _ hq => ⟨rfl, hq.1⟩⟩
  have hch : ∀ i, ∃ z : Option Addr × Nat, ∀ k, ts[i]? = some k → xs[i * 3]? = some (.int .i64 k.op) ∧ xs[i * 3 + 1]? = some (.int .i64 k.lt) ∧ xs[i * 3 + 2]? = some (.slice z.1 k.ks.length z.2) ∧ InY w (fun b => B ≤ b) k.op k.lt k.ks z.1 := by
    intro i
    cases hk : ts[i]? with
    | none => exact ⟨(none, 0), fun k h => by cases h⟩
    | some k =>
      obtain ⟨z, hz⟩ := key i k hk
      exact ⟨z, fun k' h => by injection h with h; subst h; exact hz⟩
  obtain ⟨Z, hZ⟩ := Classical.axiomOfChoice hch
  refine .row g 0 ts (fun i => (Z i).1) (fun i => (Z i).2) hg hb (fun i k hk => ?_) (fun i k hk => (hZ i k hk).2.2.2.2) (fun i k hk => (hZ i k hk).2.2.2.1)
  have hlt : i < ts.length := by
    apply Nat.lt_of_not_le; intro hle; rw [List.getElem?_eq_none hle] at hk; cases hk
  obtain ⟨h1, h2, h3, _⟩ := hZ i k hk
  simp only [Nat.zero_add]
  exact ⟨by rw [ho.cellAt _ (by omega)]; exact h1, by rw [ho.cellAt _ (by omega)]; exact h2, by rw [ho.cellAt _ (by omega)]; exact h3⟩
end Go.Proofs.Ythmdndondlffeaa
