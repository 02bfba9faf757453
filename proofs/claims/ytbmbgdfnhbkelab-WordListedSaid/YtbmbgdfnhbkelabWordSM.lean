/- Rows of strings; insertion into an ascending list. -/
import Derived.Test.YtbmbgdfnhbkelabWordK
import Derived.Test.YtbmbgdfnhbkelabWordCM
import Derived.OwnWalk
import Derived.Deep.AppendLies
import Derived.Deep.RegionLaw
import Derived.Laws.AppendOwnNone
namespace Go.Proofs.Ytbmbgdfnhbkelab
open Go Go.RowKit
open WordM
set_option linter.unusedVariables false

theorem infoS : (Try.prog.info? 9).map (fun i => (i.zero, i.size, i.bytes)) = some (some (.string ⟨#[]⟩), 1, 16) := by kernel_rfl

def rowS (l : List ByteArray) : List Value := l.map fun (x : ByteArray) => Value.string x
theorem rowS_length (l : List ByteArray) : (rowS l).length = l.length := by simp [rowS]
theorem rowS_get {l : List ByteArray} {i : Nat} {x : ByteArray} (h : l[i]? = some x) : (rowS l)[i]? = some (.string x) := by simp [rowS, h]
theorem rowS_one {l : List ByteArray} : ∀ u ∈ rowS l, u.oneCell' = true := by
  intro u hu
  simp only [rowS, List.mem_map] at hu
  obtain ⟨x, _, rfl⟩ := hu
  rfl
theorem rowS_append (l m : List ByteArray) : rowS (l ++ m) = rowS l ++ rowS m := by simp [rowS]

theorem cell_ltS {w : World} {b o : Nat} {v : Value} (h : w.cell? ⟨b, o, none⟩ = some v) : b < w.heap.size := by
  apply Nat.lt_of_not_le
  intro hle
  have : w.heap[b]? = none := by simp [hle]
  simp [World.cell?, this] at h

/-- at a, with capacity c, there are the strings of l -/
def RowS (w : World) (a : Option Addr) (c : Nat) (l : List ByteArray) : Prop :=
  (a = none ∧ l = [] ∧ c = 0) ∨ ∃ b off, a = some ⟨b, off, none⟩ ∧ b < w.heap.size ∧ l.length ≤ c ∧ c ≤ maxLen ∧ ∀ (i : Nat) (x : ByteArray), l[i]? = some x → w.cell? ⟨b, off + i, none⟩ = some (.string x)
theorem RowS.keep {w w' : World} {a : Option Addr} {c : Nat} {l : List ByteArray} (h : RowS w a c l) (hb : Below w.heap.size w w') : RowS w' a c l := by
  rcases h with h | ⟨b, off, rfl, hl, h1, h2, hc⟩
  · exact .inl h
  · exact .inr ⟨b, off, rfl, Nat.lt_of_lt_of_le hl hb.size, h1, h2, fun i x hi => by rw [hb.cell (p := ⟨b, off + i, none⟩) hl]; exact hc i x hi⟩
theorem RowS.of_own {w : World} {base : Nat} {e : TypeId} {v : Value} {l : List ByteArray} (h : w.ownsRow base e 1 v l.length (rowS l)) : ∃ a c, v = .slice a l.length c ∧ RowS w a c l := by
  rcases h.2 with ⟨rfl, h0⟩ | ⟨g, cap, cur, rfl, hg, hh, h1, h2, _⟩
  · rw [h0]; exact ⟨none, 0, rfl, .inl ⟨rfl, List.length_eq_zero_iff.1 h0, rfl⟩⟩
  · refine ⟨_, _, rfl, .inr ⟨g, 0, rfl, ?_, h1, h2, fun i x hi => ?_⟩⟩
    · apply Nat.lt_of_not_le; intro hle; rw [Array.getElem?_eq_none hle] at hh; cases hh
    · have hlt : i < l.length := by
        apply Nat.lt_of_not_le; intro hle; rw [List.getElem?_eq_none hle] at hi; cases hi
      rw [Nat.zero_add, World.ownsRow.cellAt h i (by omega), rowS_get hi]
/-- the call returns a slice that reads as the strings of l, and leaves what was there -/
def GivesS (w : World) (l : List ByteArray) (e : Ending) (w' : World) : Prop :=
  ∃ (r : Option Addr) (c : Nat), e = .returned (.slice r l.length c) ∧ RowS w' r c l ∧ Below w.heap.size w w'

/-- how many of the first k words are not behind x, as the search from the end finds it -/
def posN (l : List ByteArray) (x : ByteArray) : Nat → Nat
  | 0 => 0
  | k + 1 => if cmpW x (l.getD k ⟨#[]⟩) < 0 then posN l x k else k + 1
theorem posN_le (l : List ByteArray) (x : ByteArray) : ∀ k, posN l x k ≤ k
  | 0 => Nat.le_refl _
  | k + 1 => by have := posN_le l x k; rw [posN]; split <;> omega
theorem posN_yes {l : List ByteArray} {x : ByteArray} {k : Nat} (h : cmpW x (l.getD k ⟨#[]⟩) < 0) : posN l x (k + 1) = posN l x k := by rw [posN, if_pos h]
theorem posN_no {l : List ByteArray} {x : ByteArray} {k : Nat} (h : ¬ cmpW x (l.getD k ⟨#[]⟩) < 0) : posN l x (k + 1) = k + 1 := by rw [posN, if_neg h]
/-- x into l -/
def insF (l : List ByteArray) (x : ByteArray) : List ByteArray :=
  if 0 < posN l x l.length ∧ l.getD (posN l x l.length - 1) ⟨#[]⟩ = x then l else l.take (posN l x l.length) ++ [x] ++ l.drop (posN l x l.length)

/-- append at a step of a region that draws its order: onto a slice of the call's own, from a row that was there when the call began -/
theorem step_append_from {P : Program} {ops : Array Oper} {o : Oper} {a : Act} {w : World} {K : Act → World → Prop} {Q : Exit → Act → World → Prop} {E : Prop} (hgd : o.guard = none) (s x : Operand) (t : TypeId)
    (ho : o.op = .call { callee := .builtin .append, args := #[s, x], argTypes := #[t, t] })
    (w0 : World) (e : TypeId) (i : TypeInfo) (z : Value) (bytes : Nat) (ht : P.underlying t = some (.slice e)) (hi : P.info? e = some i) (hz : i.zero = some z)
    (hsize : i.size = 1) (hby : i.bytes = bytes) (hzs : z.cells.size = 1)
    (v : Value) (n : Nat) (xs : List Value) (hs : a.eval s = v) (hown : w.ownsRow w0.heap.size e 1 v n xs)
    (ad : Addr) (m c : Nat) (news : List Value) (hx : a.eval x = .slice (some ad) m c) (hl : news.length = m) (hnews : ∀ j u, news[j]? = some u → w0.cell? (ad.add j) = some u) (had : ad.block < w0.heap.size) (h1 : ∀ u ∈ news, u.oneCell' = true)
    (h63 : n + m ≤ maxLen) (hbytes : (n + m) * bytes ≤ 140737488355328) (hb : Below w0.heap.size w0 w)
    (h : ∀ v' w', w'.ownsRow w0.heap.size e 1 v' (n + m) (xs ++ news) → w.grownBy w' v.ownBlock → (v' = .slice none 0 0 ↔ v = .slice none 0 0 ∧ m = 0) → Below w0.heap.size w0 w' → K (a.put o.dst v') w') :
    if Region.wanted o (yielded ops a.tmps) = true then Oper.wp P o a w K Q else E := by
  have hw : Region.wanted o (yielded ops a.tmps) = true := by simp [Region.wanted, hgd]
  rw [if_pos hw]
  refine wp_append_own w s x t ho w0.heap.size e i z 1 bytes ht hi hz hsize hby hzs (by decide) v n xs hs hown ad m c news hx (by omega) (fun j u hu => ?_) h1 h63 hbytes hb.size ?_
  · have hblk : (ad.add j).block = ad.block := by unfold Addr.add; split <;> rfl
    rw [hb.cell (by rw [hblk]; exact had)]
    exact hnews j u hu
  · intro v' w' h2 h3 h4
    exact h v' w' h2 h3 h4 (hb.grown h3 hb.size fun k hk => (hown.lt k hk).1)
/-- the same, from a block that the call has made: one cell at its head -/
theorem step_append_one {P : Program} {ops : Array Oper} {o : Oper} {a : Act} {w : World} {K : Act → World → Prop} {Q : Exit → Act → World → Prop} {E : Prop} (hgd : o.guard = none) (s x : Operand) (t : TypeId)
    (ho : o.op = .call { callee := .builtin .append, args := #[s, x], argTypes := #[t, t] })
    (w0 : World) (e : TypeId) (i : TypeInfo) (z : Value) (bytes : Nat) (ht : P.underlying t = some (.slice e)) (hi : P.info? e = some i) (hz : i.zero = some z)
    (hsize : i.size = 1) (hby : i.bytes = bytes) (hzs : z.cells.size = 1)
    (v : Value) (n : Nat) (xs : List Value) (hs : a.eval s = v) (hown : w.ownsRow w0.heap.size e 1 v n xs)
    (g c : Nat) (u : Value) (hx : a.eval x = .slice (some ⟨g, 0, none⟩) 1 c) (hnews : w.cell? ⟨g, 0, none⟩ = some u) (h1 : u.oneCell' = true)
    (h63 : n + 1 ≤ maxLen) (hbytes : (n + 1) * bytes ≤ 140737488355328) (hb : Below w0.heap.size w0 w)
    (h : ∀ v' w', w'.ownsRow w0.heap.size e 1 v' (n + 1) (xs ++ [u]) → w.grownBy w' v.ownBlock → (v' = .slice none 0 0 ↔ v = .slice none 0 0 ∧ 1 = 0) → Below w0.heap.size w0 w' → K (a.put o.dst v') w') :
    if Region.wanted o (yielded ops a.tmps) = true then Oper.wp P o a w K Q else E := by
  have hw : Region.wanted o (yielded ops a.tmps) = true := by simp [Region.wanted, hgd]
  rw [if_pos hw]
  refine wp_append_own w s x t ho w0.heap.size e i z 1 bytes ht hi hz hsize hby hzs (by decide) v n xs hs hown ⟨g, 0, none⟩ 1 c [u] hx rfl (fun j y hy => ?_) (by intro y hy; rw [List.mem_singleton] at hy; subst hy; exact h1) h63 hbytes hb.size ?_
  · have h0 : j = 0 := by
      cases j with
      | zero => rfl
      | succ j => simp at hy
    subst h0
    simp at hy
    subst hy
    simpa [Addr.add] using hnews
  · intro v' w' h2 h3 h4
    exact h v' w' h2 h3 h4 (hb.grown h3 hb.size fun k hk => (hown.lt k hk).1)
/-- the same, nothing is appended: a nil slice -/
theorem step_append_none {P : Program} {ops : Array Oper} {o : Oper} {a : Act} {w : World} {K : Act → World → Prop} {Q : Exit → Act → World → Prop} {E : Prop} (hgd : o.guard = none) (s x : Operand) (t : TypeId)
    (ho : o.op = .call { callee := .builtin .append, args := #[s, x], argTypes := #[t, t] })
    (base : Nat) (e : TypeId) (i : TypeInfo) (ht : P.underlying t = some (.slice e)) (hi : P.info? e = some i) (hsize : i.size = 1)
    (v : Value) (n : Nat) (xs : List Value) (hs : a.eval s = v) (hown : w.ownsRow base e 1 v n xs) (hx : a.eval x = .slice none 0 0)
    (h : K (a.put o.dst v) w) :
    if Region.wanted o (yielded ops a.tmps) = true then Oper.wp P o a w K Q else E := by
  have hw : Region.wanted o (yielded ops a.tmps) = true := by simp [Region.wanted, hgd]
  rw [if_pos hw]
  have hrun := run_append_owned_none (P := P) (w := w) base t o.type e i 1 ht hi v n xs hown
  unfold Oper.wp
  simp [execOp, ho, resolve, invoke, builtin, hs, hx, hrun, Result.andThen]
  exact h
end Go.Proofs.Ytbmbgdfnhbkelab
