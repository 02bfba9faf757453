/- The search in memory. -/
import Derived.Test.YtohoiebofkmjeacDfaA
import Derived.Test.YtohoiebofkmjeacDfaW
import Derived.Deep.AppendLies
import Derived.Deep.RegionLaw
import Derived.OwnWalk
import Derived.WalkSmall
import Derived.Laws.BytesArg
namespace Go.Proofs.Ytohoiebofkmjeac
open Go Go.RowKit
set_option linter.unusedVariables false
theorem infoS : (Try.prog.info? 9).map (fun i => (i.zero, i.size, i.bytes)) = some (some (.string ⟨#[]⟩), 1, 16) := by kernel_rfl
theorem infoU8 : (Try.prog.info? 5).map (fun i => (i.zero, i.size, i.bytes)) = some (some (.int .u8 0), 1, 1) := by kernel_rfl
def rowS (l : List ByteArray) : List Value := l.map fun (x : ByteArray) => Value.string x
theorem rowS_length (l : List ByteArray) : (rowS l).length = l.length := by simp [rowS]
theorem rowS_get {l : List ByteArray} {i : Nat} {x : ByteArray} (h : l[i]? = some x) : (rowS l)[i]? = some (.string x) := by simp [rowS, h]
theorem rowS_append (l m : List ByteArray) : rowS (l ++ m) = rowS l ++ rowS m := by simp [rowS]
abbrev encB : Int → Value := fun x => Value.int .u8 x
def rowB8 (l : List Int) : List Value := l.map encB
theorem rowB8_append (l m : List Int) : rowB8 (l ++ m) = rowB8 l ++ rowB8 m := by simp [rowB8]
theorem ownsRow_shape {w : World} {base : Nat} {e : TypeId} {size n : Nat} {v : Value} {xs : List Value} (h : w.ownsRow base e size v n xs) : ∃ a c, v = .slice a n c := by
  rcases h.2 with ⟨rfl, rfl⟩ | ⟨g, cap, cur, rfl, _⟩
  · exact ⟨_, _, rfl⟩
  · exact ⟨_, _, rfl⟩
theorem ownsRow_pos {w : World} {base n : Nat} {e : TypeId} {v : Value} {xs : List Value} (h : w.ownsRow base e 1 v (n + 1) xs) : ∃ g c, v = .slice (some ⟨g, 0, none⟩) (n + 1) c ∧ n + 1 ≤ c := by
  rcases h.2 with ⟨_, h0⟩ | ⟨g, cap, cur, rfl, _, _, hc, _⟩
  · omega
  · exact ⟨_, _, rfl, hc⟩
/-- 'string(b)' of a row of bytes that the call owns. -/
theorem run_convert_own {P : Program} {w : World} {base : Nat} {e : TypeId} {v : Value} {n : Nat} {xs : List Int} (h : w.ownsRow base e 1 v n (rowB8 xs)) (src dst : TypeId)
    (hs : P.underlying src = some (.slice e)) (he : P.underlying e = some (.int .u8)) (hd : P.underlying dst = some .string) :
    (convert src dst v).run P w = .ok (.string (strOfNums xs)) w := by
  have hlen : xs.length = n := by have := h.1; simpa [rowB8] using this
  rcases h.2 with ⟨rfl, rfl⟩ | ⟨g, cap, cur, rfl, _⟩
  · obtain rfl : xs = [] := List.length_eq_zero_iff.1 hlen
    rw [run_convert_bytes_nil w src e hs he 0 0 dst hd]; rfl
  · refine run_convert_bytes_arg w src e hs he g 0 n cap xs hlen (fun i hi => ?_) dst hd
    have hc := h.cellAt i (by omega)
    rw [Nat.zero_add, hc]
    simp [rowB8, show i < xs.length by omega]
/-- append of one new element at a step of a region that draws its order -/
theorem step_push {P : Program} {ops : Array Oper} {o : Oper} {a : Act} {w w1 : World} {K : Act → World → Prop} {Q : Exit → Act → World → Prop} {E : Prop} (hgd : o.guard = none) (s x : Operand) (t : TypeId)
    (ho : o.op = .call { callee := .builtin .append, args := #[s, x], argTypes := #[t, t] })
    (base : Nat) (e : TypeId) (i : TypeInfo) (z : Value) (bytes : Nat) (ht : P.underlying t = some (.slice e)) (hi : P.info? e = some i) (hz : i.zero = some z)
    (hsize : i.size = 1) (hby : i.bytes = bytes) (hzs : z.cells.size = 1)
    (v : Value) (n : Nat) (xs : List Value) (hs : a.eval s = v) (u : Value) (hw1 : w = (w1.alloc (.cells #[u] e)).drew) (hown : w1.ownsRow base e 1 v n xs)
    (hx : a.eval x = .slice (some ⟨w1.heap.size, 0, none⟩) 1 1) (h1 : u.oneCell' = true)
    (h63 : n + 1 ≤ maxLen) (hbytes : (n + 1) * bytes ≤ 140737488355328) (hb : base ≤ w1.heap.size)
    (h : ∀ v' w', w'.ownsRow base e 1 v' (n + 1) (xs ++ [u]) → (w1.alloc (.cells #[u] e)).grownBy w' v.ownBlock → (v'.ownBlock = v.ownBlock ∨ v'.ownBlock = some (w1.heap.size + 1)) → K (a.put o.dst v') w') :
    if Region.wanted o (yielded ops a.tmps) = true then Oper.wp P o a w K Q else E := by
  have hw : Region.wanted o (yielded ops a.tmps) = true := by simp [Region.wanted, hgd]
  rw [if_pos hw]
  subst hw1
  obtain ⟨v', w', hr, h2, h3, _, h5⟩ := run_append_own_at (P := P) (w1.alloc (.cells #[u] e)).drew base t o.type e i z 1 bytes ht hi hz hsize hby hzs (by decide) v n xs (show World.ownsRow (World.drew _) _ _ _ _ _ _ from hown.alloc _) ⟨w1.heap.size, 0, none⟩ 1 1 [u] rfl (cell_one_new w1 u e) (by intro y hy; rw [List.mem_singleton] at hy; subst hy; exact h1) h63 hbytes (by show base ≤ (w1.alloc (.cells #[u] e)).heap.size; simp; omega)
  unfold Oper.wp execOp
  simp only [ho, resolve, invoke, builtin, Sem.run_bind, Sem.run_pure, Result.andThen_ok, List.map_toArray, List.map_cons, List.map_nil, hs, hx, hr]
  exact h v' w' h2 ⟨h3.os, h3.tape, h3.output, h3.size, h3.block⟩ (by
    rcases h5 with e5 | e5
    · exact .inl e5
    · exact .inr (by rw [e5]; show some (w1.alloc (.cells #[u] e)).heap.size = _; simp))
/-! ### rows that a set of blocks holds -/
def RowX (X : Nat → Prop) (w : World) (a : Option Addr) (n : Nat) (f : Nat → Value) : Prop :=
  n = 0 ∨ ∃ b off, a = some ⟨b, off, none⟩ ∧ (X b ∧ b < w.heap.size) ∧ ∀ i, i < n → w.cell? ⟨b, off + i, none⟩ = some (f i)
def RowsX (X : Nat → Prop) (w : World) (a : Option Addr) (m : Nat) (ln : Nat → Nat) (g : Nat → Nat → Value) : Prop :=
  m = 0 ∨ ∃ b off, a = some ⟨b, off, none⟩ ∧ (X b ∧ b < w.heap.size) ∧ ∀ i, i < m → ∃ r c, w.cell? ⟨b, off + i, none⟩ = some (.slice r (ln i) c) ∧ RowX X w r (ln i) (g i)
theorem RowX.at {X : Nat → Prop} {w : World} {a : Option Addr} {n : Nat} {f : Nat → Value} (h : RowX X w a n f) {i : Nat} (hi : i < n) : ∃ b off, a = some ⟨b, off, none⟩ ∧ w.cell? ⟨b, off + i, none⟩ = some (f i) := by
  rcases h with h | ⟨b, off, rfl, hl, hc⟩
  · omega
  · exact ⟨b, off, rfl, hc i hi⟩
theorem RowsX.at {X : Nat → Prop} {w : World} {a : Option Addr} {m : Nat} {ln : Nat → Nat} {g : Nat → Nat → Value} (h : RowsX X w a m ln g) {i : Nat} (hi : i < m) :
    ∃ b off r c, a = some ⟨b, off, none⟩ ∧ w.cell? ⟨b, off + i, none⟩ = some (.slice r (ln i) c) ∧ RowX X w r (ln i) (g i) := by
  rcases h with h | ⟨b, off, rfl, hl, hc⟩
  · omega
  · obtain ⟨r, c, h1, h2⟩ := hc i hi
    exact ⟨b, off, r, c, rfl, h1, h2⟩
/-- from a world to a later one in which the blocks of X are as they were -/
def StepX (X : Nat → Prop) (w : World) (X' : Nat → Prop) (w' : World) : Prop := w.heap.size ≤ w'.heap.size ∧ ∀ k, k < w.heap.size → X k → X' k ∧ w'.heap[k]? = w.heap[k]?
theorem RowX.step {X X' : Nat → Prop} {w w' : World} {a : Option Addr} {n : Nat} {f : Nat → Value} (h : RowX X w a n f) (s : StepX X w X' w') : RowX X' w' a n f := by
  rcases h with h | ⟨b, off, rfl, ⟨hx, hl⟩, hc⟩
  · exact .inl h
  · obtain ⟨h1, h2⟩ := s.2 b hl hx
    exact .inr ⟨b, off, rfl, ⟨h1, Nat.lt_of_lt_of_le hl s.1⟩, fun i hi => by rw [World.cell?_of_block (w := w) (a := ⟨b, off + i, none⟩) h2]; exact hc i hi⟩
theorem RowsX.step {X X' : Nat → Prop} {w w' : World} {a : Option Addr} {m : Nat} {ln : Nat → Nat} {g : Nat → Nat → Value} (h : RowsX X w a m ln g) (s : StepX X w X' w') : RowsX X' w' a m ln g := by
  rcases h with h | ⟨b, off, rfl, ⟨hx, hl⟩, hc⟩
  · exact .inl h
  · obtain ⟨h1, h2⟩ := s.2 b hl hx
    refine .inr ⟨b, off, rfl, ⟨h1, Nat.lt_of_lt_of_le hl s.1⟩, fun i hi => ?_⟩
    obtain ⟨r, c, h3, h4⟩ := hc i hi
    exact ⟨r, c, by rw [World.cell?_of_block (w := w) (a := ⟨b, off + i, none⟩) h2]; exact h3, h4.step s⟩
theorem RowV.inX {X : Nat → Prop} {w : World} {a : Option Addr} {n : Nat} {f : Nat → Value} (h : RowV w a n f) (hX : ∀ k, k < w.heap.size → X k) : RowX X w a n f := by
  rcases h with h | ⟨b, off, rfl, hl, hc⟩
  · exact .inl h
  · exact .inr ⟨b, off, rfl, ⟨hX b hl, hl⟩, hc⟩
theorem RowsV.inX {X : Nat → Prop} {w : World} {a : Option Addr} {m : Nat} {ln : Nat → Nat} {g : Nat → Nat → Value} (h : RowsV w a m ln g) (hX : ∀ k, k < w.heap.size → X k) : RowsX X w a m ln g := by
  rcases h with h | ⟨b, off, rfl, hl, hc⟩
  · exact .inl h
  · refine .inr ⟨b, off, rfl, ⟨hX b hl, hl⟩, fun i hi => ?_⟩
    obtain ⟨r, c, h3, h4⟩ := hc i hi
    exact ⟨r, c, h3, h4.inX hX⟩
/-! ### the search's struct, its word, its list -/
abbrev sO (c0 c1 c2 c3 c4 vw vf : Value) (most : Nat) : Obj := .cells #[c0, c1, c2, c3, c4, vw, vf, .int .i64 (most : Int)] 54
structure SrW (w : World) (B bp : Nat) (c0 c1 c2 c3 c4 : Value) (most : Nat) (vw vf : Value) (pre : List Int) (fs : List ByteArray) : Prop where
  hb : w.heap[bp]? = some (sO c0 c1 c2 c3 c4 vw vf most)
  rw : w.ownsRow B 5 1 vw pre.length (rowB8 pre)
  rf : w.ownsRow B 9 1 vf fs.length (rowS fs)
  bl : B ≤ bp
  n1 : vw.ownBlock ≠ some bp
  n2 : vf.ownBlock ≠ some bp
  n3 : ∀ k, vw.ownBlock = some k → vf.ownBlock ≠ some k
section
variable {w w' : World} {B bp most : Nat} {c0 c1 c2 c3 c4 vw vf : Value} {pre : List Int} {fs : List ByteArray}
theorem SrW.lt (h : SrW w B bp c0 c1 c2 c3 c4 most vw vf pre fs) : bp < w.heap.size := by
  apply Nat.lt_of_not_le; intro hle; have := h.hb; rw [Array.getElem?_eq_none hle] at this; cases this
theorem SrW.cells (h : SrW w B bp c0 c1 c2 c3 c4 most vw vf pre fs) : w.cell? ⟨bp, 3, none⟩ = some c3 ∧ w.cell? ⟨bp, 4, none⟩ = some c4 ∧ w.cell? ⟨bp, 5, none⟩ = some vw ∧ w.cell? ⟨bp, 6, none⟩ = some vf ∧ w.cell? ⟨bp, 7, none⟩ = some (.int .i64 (most : Int)) := by
  have := h.hb
  simp [World.cell?, this]
theorem SrW.free (h : SrW w B bp c0 c1 c2 c3 c4 most vw vf pre fs) (i : Nat) : w.frozen? ⟨bp, i, none⟩ = false := by
  have := h.hb
  simp [World.frozen?, this]
theorem SrW.grown {row : Option Nat} (h : SrW w B bp c0 c1 c2 c3 c4 most vw vf pre fs) (hg : w.grownBy w' row) (h1 : some bp ≠ row) (h2 : vw.ownBlock = none ∨ vw.ownBlock ≠ row) (h3 : vf.ownBlock = none ∨ vf.ownBlock ≠ row) : SrW w' B bp c0 c1 c2 c3 c4 most vw vf pre fs :=
  ⟨by rw [hg.block bp h.lt h1]; exact h.hb, h.rw.kept hg h2, h.rf.kept hg h3, h.bl, h.n1, h.n2, h.n3⟩
theorem grownBy_below (hb : Below w.heap.size w w') : w.grownBy w' none := ⟨hb.os, hb.tape, hb.output, hb.size, fun k hk _ => hb.block k hk⟩
theorem none_or (v : Option Nat) : v = none ∨ v ≠ none := by cases v <;> simp
theorem SrW.below (h : SrW w B bp c0 c1 c2 c3 c4 most vw vf pre fs) (hb : Below w.heap.size w w') : SrW w' B bp c0 c1 c2 c3 c4 most vw vf pre fs :=
  h.grown (grownBy_below hb) (by simp) (none_or _) (none_or _)
/-- blocks that are none of the search's -/
def OX (bp : Nat) (vw vf : Value) (k : Nat) : Prop := k ≠ bp ∧ vw.ownBlock ≠ some k ∧ vf.ownBlock ≠ some k
structure SKeep (w w' : World) (bp : Nat) (vw vf : Value) : Prop where
  os : w'.os = w.os
  tape : w'.tape = w.tape
  output : w'.output = w.output
  size : w.heap.size ≤ w'.heap.size
  block : ∀ k, k < w.heap.size → OX bp vw vf k → w'.heap[k]? = w.heap[k]?
/-- v' lies where v lay or in new memory -/
def NewB (w : World) (v v' : Value) : Prop := ∀ k, v'.ownBlock = some k → v.ownBlock = some k ∨ w.heap.size ≤ k
theorem NewB.refl (w : World) (v : Value) : NewB w v v := fun k h => .inl h
theorem NewB.trans {v v' v'' : Value} (h : NewB w v v') (hs : w.heap.size ≤ w'.heap.size) (h' : NewB w' v' v'') : NewB w v v'' := fun k hk => by
  rcases h' k hk with e | e
  · exact h k e
  · exact .inr (Nat.le_trans hs e)
theorem ox_new {vw' vf' : Value} {k : Nat} (h : OX bp vw vf k) (hk : k < w.heap.size) (h1 : NewB w vw vw') (h2 : NewB w vf vf') : OX bp vw' vf' k := by
  refine ⟨h.1, fun e => ?_, fun e => ?_⟩
  · rcases h1 k e with e1 | e1
    · exact h.2.1 e1
    · omega
  · rcases h2 k e with e1 | e1
    · exact h.2.2 e1
    · omega
theorem SKeep.refl (w : World) (bp : Nat) (vw vf : Value) : SKeep w w bp vw vf := ⟨rfl, rfl, rfl, Nat.le_refl _, fun _ _ _ => rfl⟩
theorem SKeep.of_below (hb : Below w.heap.size w w') : SKeep w w' bp vw vf := ⟨hb.os, hb.tape, hb.output, hb.size, fun k hk _ => hb.block k hk⟩
theorem SKeep.trans {w'' : World} {vw' vf' : Value} (h : SKeep w w' bp vw vf) (h1 : NewB w vw vw') (h2 : NewB w vf vf') (h' : SKeep w' w'' bp vw' vf') : SKeep w w'' bp vw vf :=
  ⟨h'.os.trans h.os, h'.tape.trans h.tape, h'.output.trans h.output, Nat.le_trans h.size h'.size, fun k hk hx => (h'.block k (Nat.lt_of_lt_of_le hk h.size) (ox_new hx hk h1 h2)).trans (h.block k hk hx)⟩
theorem SKeep.step {vw' vf' : Value} (h : SKeep w w' bp vw vf) (h1 : NewB w vw vw') (h2 : NewB w vf vf') : StepX (OX bp vw vf) w (OX bp vw' vf') w' :=
  ⟨h.size, fun k hk hx => ⟨ox_new hx hk h1 h2, h.block k hk hx⟩⟩
/-- seen from an older world -/
theorem SKeep.old {w0 : World} (h : SKeep w w' bp vw vf) (hb : Below B w0 w) (h0 : B ≤ w.heap.size) (h1 : B ≤ bp) (h2 : ∀ k, vw.ownBlock = some k → B ≤ k) (h3 : ∀ k, vf.ownBlock = some k → B ≤ k) : Below B w0 w' :=
  ⟨h.os.trans hb.os, h.tape.trans hb.tape, h.output.trans hb.output, Nat.le_trans hb.size h.size, fun k hk => (h.block k (Nat.lt_of_lt_of_le hk h0) ⟨by omega, fun e => by have := h2 k e; omega, fun e => by have := h3 k e; omega⟩).trans (hb.block k hk)⟩
theorem SrW.putF {w1 : World} {vf' : Value} {fs' : List ByteArray} (h : SrW w B bp c0 c1 c2 c3 c4 most vw vf pre fs) (hg : w.grownBy w1 vf.ownBlock) (ho : w1.ownsRow B 9 1 vf' fs'.length (rowS fs')) (hn : NewB w vf vf') :
    SrW (w1.setCell ⟨bp, 6, none⟩ vf') B bp c0 c1 c2 c3 c4 most vw vf' pre fs' ∧ SKeep w (w1.setCell ⟨bp, 6, none⟩ vf') bp vw vf := by
  have hbp : w1.heap[bp]? = some (sO c0 c1 c2 c3 c4 vw vf most) := by rw [hg.block bp h.lt (fun e => h.n2 e.symm)]; exact h.hb
  have hs : w1.grownBy (w1.setCell ⟨bp, 6, none⟩ vf') (some bp) := ⟨rfl, rfl, rfl, by simp [World.setCell], fun k hk hne => Below.heap_setCell w1 ⟨bp, 6, none⟩ vf' k (fun e => hne (by rw [e]))⟩
  have hnb : vf'.ownBlock ≠ some bp := fun e => by
    rcases hn bp e with e1 | e1
    · exact h.n2 e1
    · have := h.lt; omega
  refine ⟨⟨?_, ?_, ho.kept hs (.inr hnb), h.bl, h.n1, hnb, fun k hk e => ?_⟩, ⟨hg.os, hg.tape, hg.output, by simpa [World.setCell] using hg.size, fun k hk hx => ?_⟩⟩
  · rw [heap_setCell_same w1 bp 6 _ _ vf' hbp]; simp
  · refine (h.rw.kept hg ?_).kept hs (.inr h.n1)
    cases hv : vw.ownBlock with
    | none => exact .inl rfl
    | some k => exact .inr (fun e => h.n3 k hv e.symm)
  · rcases hn k e with e1 | e1
    · exact h.n3 k hk e1
    · have := (World.ownsRow.lt h.rw k hk).2; omega
  · rw [Below.heap_setCell w1 ⟨bp, 6, none⟩ vf' k hx.1, hg.block k hk (fun e => hx.2.2 e.symm)]
theorem SrW.putW {w1 : World} {vw' : Value} {pre' : List Int} (h : SrW w B bp c0 c1 c2 c3 c4 most vw vf pre fs) (hg : w.grownBy w1 vw.ownBlock) (ho : w1.ownsRow B 5 1 vw' pre'.length (rowB8 pre')) (hn : NewB w vw vw') :
    SrW (w1.setCell ⟨bp, 5, none⟩ vw') B bp c0 c1 c2 c3 c4 most vw' vf pre' fs ∧ SKeep w (w1.setCell ⟨bp, 5, none⟩ vw') bp vw vf := by
  have hbp : w1.heap[bp]? = some (sO c0 c1 c2 c3 c4 vw vf most) := by rw [hg.block bp h.lt (fun e => h.n1 e.symm)]; exact h.hb
  have hs : w1.grownBy (w1.setCell ⟨bp, 5, none⟩ vw') (some bp) := ⟨rfl, rfl, rfl, by simp [World.setCell], fun k hk hne => Below.heap_setCell w1 ⟨bp, 5, none⟩ vw' k (fun e => hne (by rw [e]))⟩
  have hnb : vw'.ownBlock ≠ some bp := fun e => by
    rcases hn bp e with e1 | e1
    · exact h.n1 e1
    · have := h.lt; omega
  refine ⟨⟨?_, ho.kept hs (.inr hnb), ?_, h.bl, hnb, h.n2, fun k hk e => ?_⟩, ⟨hg.os, hg.tape, hg.output, by simpa [World.setCell] using hg.size, fun k hk hx => ?_⟩⟩
  · rw [heap_setCell_same w1 bp 5 _ _ vw' hbp]; simp
  · refine (h.rf.kept hg ?_).kept hs (.inr h.n2)
    cases hv : vf.ownBlock with
    | none => exact .inl rfl
    | some k => exact .inr (fun e => h.n3 k e.symm hv)
  · rcases hn k hk with e1 | e1
    · exact h.n3 k e1 e
    · have := (World.ownsRow.lt h.rf k e).2; omega
  · rw [Below.heap_setCell w1 ⟨bp, 5, none⟩ vw' k hx.1, hg.block k hk (fun e => hx.2.1 e.symm)]
end
end Go.Proofs.Ytohoiebofkmjeac
