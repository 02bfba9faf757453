/- The list of live states in memory; contract: Words. -/
import Derived.Test.YtohoiebofkmjeacDfaEE
import Derived.Test.YtohoiebofkmjeacDfaN
namespace Go.Proofs.Ytohoiebofkmjeac
open Go Go.RowKit
set_option linter.unusedVariables false
/-- append of one new element at a step of a region, behind a call -/
theorem step_push1 {P : Program} {ops : Array Oper} {o : Oper} {a : Act} {w w1 : World} {K : Act → World → Prop} {Q : Exit → Act → World → Prop} {E : Prop} (hgd : o.guard = none) (s x : Operand) (t : TypeId)
    (ho : o.op = .call { callee := .builtin .append, args := #[s, x], argTypes := #[t, t] })
    (base : Nat) (e : TypeId) (i : TypeInfo) (z : Value) (bytes : Nat) (ht : P.underlying t = some (.slice e)) (hi : P.info? e = some i) (hz : i.zero = some z)
    (hsize : i.size = 1) (hby : i.bytes = bytes) (hzs : z.cells.size = 1)
    (v : Value) (n : Nat) (xs : List Value) (hs : a.eval s = v) (u : Value) (hw1 : w = w1.alloc (.cells #[u] e)) (hown : w1.ownsRow base e 1 v n xs)
    (hx : a.eval x = .slice (some ⟨w1.heap.size, 0, none⟩) 1 1) (h1 : u.oneCell' = true)
    (h63 : n + 1 ≤ maxLen) (hbytes : (n + 1) * bytes ≤ 140737488355328) (hb : base ≤ w1.heap.size)
    (h : ∀ v' w', w'.ownsRow base e 1 v' (n + 1) (xs ++ [u]) → (w1.alloc (.cells #[u] e)).grownBy w' v.ownBlock → (v'.ownBlock = v.ownBlock ∨ v'.ownBlock = some (w1.heap.size + 1)) → K (a.put o.dst v') w') :
    if Region.wanted o (yielded ops a.tmps) = true then Oper.wp P o a w K Q else E := by
  have hw : Region.wanted o (yielded ops a.tmps) = true := by simp [Region.wanted, hgd]
  rw [if_pos hw]
  subst hw1
  obtain ⟨v', w', hr, h2, h3, _, h5⟩ := run_append_own_at (P := P) (w1.alloc (.cells #[u] e)) base t o.type e i z 1 bytes ht hi hz hsize hby hzs (by decide) v n xs (hown.alloc _) ⟨w1.heap.size, 0, none⟩ 1 1 [u] rfl (cell_one_new w1 u e) (by intro y hy; rw [List.mem_singleton] at hy; subst hy; exact h1) h63 hbytes (by simp; omega)
  unfold Oper.wp execOp
  simp only [ho, resolve, invoke, builtin, Sem.run_bind, Sem.run_pure, Result.andThen_ok, List.map_toArray, List.map_cons, List.map_nil, hs, hx, hr]
  exact h v' w' h2 h3 (by
    rcases h5 with e5 | e5
    · exact .inl e5
    · exact .inr (by rw [e5]; simp))
theorem infoSB : (Try.prog.info? 22).map (fun i => (i.zero, i.size, i.bytes)) = some (some (.slice none 0 0), 1, 24) := by kernel_rfl
theorem RowX.row {X : Nat → Prop} {w : World} {a : Option Addr} {n : Nat} {f : Nat → Value} (h : RowX X w a n f) : RowV w a n f := by
  rcases h with h | ⟨b, off, rfl, hl, hc⟩
  · exact .inl h
  · exact .inr ⟨b, off, rfl, hl.2, hc⟩
theorem RowX.mono {X X' : Nat → Prop} {w : World} {a : Option Addr} {n : Nat} {f : Nat → Value} (h : RowX X w a n f) (hX : ∀ k, X k → X' k) : RowX X' w a n f := by
  rcases h with h | ⟨b, off, rfl, hl, hc⟩
  · exact .inl h
  · exact .inr ⟨b, off, rfl, ⟨hX b hl.1, hl.2⟩, hc⟩
theorem RowV.old {X : Nat → Prop} {B : Nat} {w0 w : World} {a : Option Addr} {n : Nat} {f : Nat → Value} (h : RowV w0 a n f) (hb : Below B w0 w) (h0 : w0.heap.size ≤ B) (hX : ∀ k, k < B → X k) : RowX X w a n f := by
  rcases h with h | ⟨b, off, rfl, hl, hc⟩
  · exact .inl h
  · exact .inr ⟨b, off, rfl, ⟨hX b (by omega), Nat.lt_of_lt_of_le hl hb.size⟩, fun i hi => by rw [hb.cell (p := ⟨b, off + i, none⟩) (by show b < B; omega)]; exact hc i hi⟩
theorem RowsV.old {X : Nat → Prop} {B : Nat} {w0 w : World} {a : Option Addr} {m : Nat} {ln : Nat → Nat} {g : Nat → Nat → Value} (h : RowsV w0 a m ln g) (hb : Below B w0 w) (h0 : w0.heap.size ≤ B) (hX : ∀ k, k < B → X k) : RowsX X w a m ln g := by
  rcases h with h | ⟨b, off, rfl, hl, hc⟩
  · exact .inl h
  · refine .inr ⟨b, off, rfl, ⟨hX b (by omega), Nat.lt_of_lt_of_le hl hb.size⟩, fun i hi => ?_⟩
    obtain ⟨r, c, h1, h2⟩ := hc i hi
    exact ⟨r, c, by rw [hb.cell (p := ⟨b, off + i, none⟩) (by show b < B; omega)]; exact h1, h2.old hb h0 hX⟩
/-- the list of the live states: m rows -/
structure LiveW (w : World) (B bp : Nat) (vw vf : Value) (d : DF) (m gl cl : Nat) (R : Nat → Option Addr) (C : Nat → Nat) : Prop where
  own : w.ownsRow B 22 1 (.slice (some ⟨gl, 0, none⟩) m cl) m (vals m fun k => .slice (R k) d.n (C k))
  off : OX bp vw vf gl
  rows : ∀ k, k < m → RowX (fun b => OX bp vw vf b ∧ b ≠ gl) w (R k) d.n (boolsV (d.lv k))
section
variable {w w' : World} {B bp m gl cl : Nat} {vw vf vw' vf' : Value} {d : DF} {R : Nat → Option Addr} {C : Nat → Nat}
theorem LiveW.lt (h : LiveW w B bp vw vf d m gl cl R C) : B ≤ gl ∧ gl < w.heap.size := World.ownsRow.lt h.own gl rfl
theorem LiveW.cell (h : LiveW w B bp vw vf d m gl cl R C) {k : Nat} (hk : k < m) : w.cell? ⟨gl, k, none⟩ = some (.slice (R k) d.n (C k)) := by
  rw [World.ownsRow.cellAt h.own k (by omega), vals_get hk]
theorem LiveW.rowsX (h : LiveW w B bp vw vf d m gl cl R C) : RowsX (OX bp vw vf) w (some ⟨gl, 0, none⟩) m (fun _ => d.n) (fun k => boolsV (d.lv k)) :=
  .inr ⟨gl, 0, rfl, ⟨h.off, h.lt.2⟩, fun i hi => ⟨R i, C i, by rw [Nat.zero_add]; exact h.cell hi, (h.rows i hi).mono fun k hk => hk.1⟩⟩
theorem LiveW.step (h : LiveW w B bp vw vf d m gl cl R C) (s : StepX (OX bp vw vf) w (OX bp vw' vf') w') : LiveW w' B bp vw' vf' d m gl cl R C := by
  obtain ⟨h1, h2⟩ := s.2 gl h.lt.2 h.off
  refine ⟨⟨h.own.1, ?_⟩, h1, fun k hk => (h.rows k hk).step ⟨s.1, fun j hj hx => ⟨⟨(s.2 j hj hx.1).1, hx.2⟩, (s.2 j hj hx.1).2⟩⟩⟩
  rcases h.own.2 with ⟨h3, h4⟩ | ⟨g', cap, cur, he, h3, h4, h5⟩
  · cases h3
  · have : gl = g' := by injection he with e1; injection e1 with e2; injection e2
    subst this
    exact .inr ⟨gl, cap, cur, he, h3, by rw [h2]; exact h4, h5⟩
/-- a further row: appended in w3 (from w1, behind the block of the new element), then stored at the search's field in w' -/
theorem LiveW.push {w1 w2 w3 : World} {g gl' cl' : Nat} (h : LiveW w B bp vw vf d m gl cl R C) (hbp : bp < w.heap.size) (hvw : ∀ k, vw.ownBlock = some k → k < w.heap.size) (hvf : ∀ k, vf.ownBlock = some k → k < w.heap.size)
    (h1 : Below w.heap.size w w1) (hg : OwnV w1 w.heap.size 4 g d.n (boolsV (d.lv m))) (h2 : w2 = w1.alloc (.cells #[.slice (some ⟨g, 0, none⟩) d.n d.n] 22)) (h3 : w2.grownBy w3 (some gl))
    (ho : w3.ownsRow B 22 1 (.slice (some ⟨gl', 0, none⟩) (m + 1) cl') (m + 1) ((vals m fun k => .slice (R k) d.n (C k)) ++ [.slice (some ⟨g, 0, none⟩) d.n d.n])) (hat : gl' = gl ∨ gl' = w1.heap.size + 1) (v : Value) :
    LiveW (w3.setCell ⟨bp, 4, none⟩ v) B bp vw vf d (m + 1) gl' cl' (fun k => if k = m then some ⟨g, 0, none⟩ else R k) (fun k => if k = m then d.n else C k) := by
  have hgl := h.lt
  have hglt := hg.lt
  have s1 := h1.size
  have hs2 : w2.heap.size = w1.heap.size + 1 := by rw [h2]; simp
  have hne : gl' ≠ bp := by
    rcases hat with e | e
    · rw [e]; exact h.off.1
    · omega
  have hblk : ∀ k, k < w1.heap.size → k ≠ gl → k ≠ bp → (w3.setCell ⟨bp, 4, none⟩ v).heap[k]? = w1.heap[k]? := fun k hk e1 e2 => by
    rw [Below.heap_setCell _ _ _ _ e2, h3.block k (by omega) (fun e => e1 (by injection e)), h2, Below.heap_alloc _ _ _ hk]
  refine ⟨?_, ⟨hne, fun e => ?_, fun e => ?_⟩, fun k hk => ?_⟩
  · have hs : w3.grownBy (w3.setCell ⟨bp, 4, none⟩ v) (some bp) := ⟨rfl, rfl, rfl, by simp [World.setCell], fun k hk hn => Below.heap_setCell w3 ⟨bp, 4, none⟩ v k (fun e => hn (by rw [e]))⟩
    have := ho.kept hs (.inr (fun e => hne (by injection e)))
    have e : vals (m + 1) (fun k => Value.slice (if k = m then some ⟨g, 0, none⟩ else R k) d.n (if k = m then d.n else C k)) = (vals m fun k => .slice (R k) d.n (C k)) ++ [.slice (some ⟨g, 0, none⟩) d.n d.n] := by
      rw [vals_snoc, if_pos rfl, if_pos rfl]
      congr 1
      exact vals_congr fun t ht => by rw [if_neg (by omega), if_neg (by omega)]
    rw [e]; exact this
  · rcases hat with e1 | e1
    · exact h.off.2.1 (by rw [← e1]; exact e)
    · have := hvw _ e; omega
  · rcases hat with e1 | e1
    · exact h.off.2.2 (by rw [← e1]; exact e)
    · have := hvf _ e; omega
  · by_cases e : k = m
    · subst e
      rw [if_pos rfl]
      rcases hg.row with h0 | ⟨b, off, hb, hl, hc⟩
      · exact .inl h0
      · injection hb with hb; injection hb with hb1 hb2
        subst hb1 hb2
        have h9 : ∀ j, vw.ownBlock = some j ∨ vf.ownBlock = some j → j ≠ g := fun j hj => by
          rcases hj with hj | hj
          · have := hvw j hj; omega
          · have := hvf j hj; omega
        refine .inr ⟨g, 0, rfl, ⟨⟨⟨by omega, fun e => h9 g (.inl e) rfl, fun e => h9 g (.inr e) rfl⟩, by omega⟩, by have := h3.size; simp [World.setCell]; omega⟩, fun i hi => ?_⟩
        rw [World.cell?_of_block (w := w1) (a := ⟨g, 0 + i, none⟩) (hblk g hl (by omega) (by omega))]
        exact hc i hi
    · rw [if_neg e]
      refine (h.rows k (by omega)).step ⟨by have := h3.size; simp [World.setCell]; omega, fun j hj hx => ⟨⟨hx.1, ?_⟩, ?_⟩⟩
      · rcases hat with e1 | e1
        · rw [e1]; exact hx.2
        · omega
      · rw [hblk j (by omega) hx.2 hx.1.1]
        exact h1.block j hj
end
theorem SrW.putL {w w1 : World} {B bp most gl : Nat} {c0 c1 c2 c3 c4 vw vf : Value} {pre : List Int} {fs : List ByteArray} (h : SrW w B bp c0 c1 c2 c3 c4 most vw vf pre fs) (hg : w.grownBy w1 (some gl)) (ho : OX bp vw vf gl) (c4' : Value) :
    SrW (w1.setCell ⟨bp, 4, none⟩ c4') B bp c0 c1 c2 c3 c4' most vw vf pre fs := by
  have hbp : w1.heap[bp]? = some (sO c0 c1 c2 c3 c4 vw vf most) := by rw [hg.block bp h.lt (fun e => ho.1 (by injection e with e; exact e.symm))]; exact h.hb
  have hs : w1.grownBy (w1.setCell ⟨bp, 4, none⟩ c4') (some bp) := ⟨rfl, rfl, rfl, by simp [World.setCell], fun k hk hne => Below.heap_setCell w1 ⟨bp, 4, none⟩ c4' k (fun e => hne (by rw [e]))⟩
  refine ⟨?_, (h.rw.kept hg (.inr ho.2.1)).kept hs (.inr h.n1), (h.rf.kept hg (.inr ho.2.2)).kept hs (.inr h.n2), h.bl, h.n1, h.n2, h.n3⟩
  rw [heap_setCell_same w1 bp 4 _ _ c4' hbp]; simp
/-- at a there are the strings of l -/
def RowSt (w : World) (a : Option Addr) (l : List ByteArray) : Prop := RowV w a l.length fun i => .string (l.getD i ⟨#[]⟩)
theorem RowSt.of_own {w : World} {base : Nat} {e : TypeId} {v : Value} {l : List ByteArray} (h : w.ownsRow base e 1 v l.length (rowS l)) : ∃ a c, v = .slice a l.length c ∧ RowSt w a l := by
  rcases h.2 with ⟨rfl, h0⟩ | ⟨g, cap, cur, rfl, hg, hh, h1, h2, _⟩
  · rw [h0]; exact ⟨none, 0, rfl, .inl h0⟩
  · refine ⟨_, _, rfl, ?_⟩
    by_cases h0 : l.length = 0
    · exact .inl h0
    refine .inr ⟨g, 0, rfl, ?_, fun i hi => ?_⟩
    · apply Nat.lt_of_not_le; intro hle; rw [Array.getElem?_eq_none hle] at hh; cases hh
    · rw [Nat.zero_add, World.ownsRow.cellAt h i (by omega), rowS_get (List.getElem?_eq_getElem hi)]
      simp [List.getD, hi]
theorem RowSt.keep {w w' : World} {a : Option Addr} {l : List ByteArray} (h : RowSt w a l) (hb : Below w.heap.size w w') : RowSt w' a l := RowV.keep h hb
def GivesS (w : World) (l : List ByteArray) (e : Ending) (w' : World) : Prop :=
  ∃ (r : Option Addr) (c : Nat), e = .returned (.slice r l.length c) ∧ RowSt w' r l ∧ Below w.heap.size w w'
end Go.Proofs.Ytohoiebofkmjeac
