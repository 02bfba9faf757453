/- Facts: the search for accepted words. -/
import Derived.Test.YtohoiebofkmjeacDfaM
import Derived.Laws.BytesArg
namespace Go.Proofs.Ytohoiebofkmjeac
open Go
set_option linter.unusedVariables false
/-- from which states a letter leads into p -/
def DF.bf (d : DF) (p : Nat → Bool) (q : Nat) : Bool := (List.range d.L.toNat).any fun x => p (d.nx q x)
/-- .. the first j letters -/
def DF.bfx (d : DF) (p : Nat → Bool) (q j : Nat) : Bool := (List.range j).any fun x => p (d.nx q x)
theorem DF.bfx_zero (d : DF) (p : Nat → Bool) (q : Nat) : d.bfx p q 0 = false := rfl
theorem DF.bfx_succ (d : DF) (p : Nat → Bool) (q j : Nat) : d.bfx p q (j + 1) = (d.bfx p q j || p (d.nx q j)) := by simp [DF.bfx, List.range_succ]
theorem DF.bfx_all (d : DF) (p : Nat → Bool) (q : Nat) : d.bfx p q d.L.toNat = d.bf p q := rfl
/-- from which states k letters lead to a final state -/
def DF.lv (d : DF) : Nat → Nat → Bool
  | 0 => d.F
  | k + 1 => d.bf (d.lv k)
/-- the words found behind those of fs: k letters from q behind pre, at most 'most' in all -/
def DF.ext (d : DF) (most : Nat) : Nat → Nat → List Int → List ByteArray → List ByteArray
  | 0, q, pre, fs => if most ≤ fs.length ∨ d.lv 0 q = false then fs else fs ++ [strOfNums pre]
  | k + 1, q, pre, fs => if most ≤ fs.length ∨ d.lv (k + 1) q = false then fs else (List.range d.L.toNat).foldl (fun fs x => d.ext most k (d.nx q x) (pre ++ [97 + (x : Int)]) fs) fs
/-- .. by the first j letters -/
def DF.extx (d : DF) (most k q : Nat) (pre : List Int) (fs : List ByteArray) (j : Nat) : List ByteArray :=
  (List.range j).foldl (fun fs x => d.ext most k (d.nx q x) (pre ++ [97 + (x : Int)]) fs) fs
theorem DF.extx_zero (d : DF) (most k q : Nat) (pre : List Int) (fs : List ByteArray) : d.extx most k q pre fs 0 = fs := rfl
theorem DF.extx_succ (d : DF) (most k q : Nat) (pre : List Int) (fs : List ByteArray) (j : Nat) : d.extx most k q pre fs (j + 1) = d.ext most k (d.nx q j) (pre ++ [97 + (j : Int)]) (d.extx most k q pre fs j) := by
  simp [DF.extx, List.range_succ]
theorem DF.ext_stop (d : DF) {most k q : Nat} {pre : List Int} {fs : List ByteArray} (h : most ≤ fs.length ∨ d.lv k q = false) : d.ext most k q pre fs = fs := by
  cases k <;> rw [DF.ext, if_pos h]
theorem DF.ext_zero (d : DF) {most q : Nat} {pre : List Int} {fs : List ByteArray} (h : ¬ (most ≤ fs.length ∨ d.lv 0 q = false)) : d.ext most 0 q pre fs = fs ++ [strOfNums pre] := by rw [DF.ext, if_neg h]
theorem DF.ext_succ (d : DF) {most k q : Nat} {pre : List Int} {fs : List ByteArray} (h : ¬ (most ≤ fs.length ∨ d.lv (k + 1) q = false)) : d.ext most (k + 1) q pre fs = d.extx most k q pre fs d.L.toNat := by rw [DF.ext, if_neg h]; rfl
/-- what holds of fs and is kept by each step holds of what is found -/
theorem DF.ext_ind (d : DF) (most : Nat) (P : List ByteArray → Prop) : ∀ (k q : Nat) (pre : List Int) (fs : List ByteArray), P fs → (∀ fs x, P fs → fs.length < most → x.size = pre.length + k → P (fs ++ [x])) → P (d.ext most k q pre fs)
  | 0, q, pre, fs, h0, hs => by
    by_cases h : most ≤ fs.length ∨ d.lv 0 q = false
    · rw [d.ext_stop h]; exact h0
    · rw [d.ext_zero h]; exact hs fs _ h0 (by omega) (by rw [strOfNums_size]; rfl)
  | k + 1, q, pre, fs, h0, hs => by
    by_cases h : most ≤ fs.length ∨ d.lv (k + 1) q = false
    · rw [d.ext_stop h]; exact h0
    · rw [d.ext_succ h]
      suffices ∀ j, P (d.extx most k q pre fs j) from this _
      intro j
      induction j with
      | zero => exact h0
      | succ j ih =>
        rw [d.extx_succ]
        refine DF.ext_ind d most P k _ _ _ ih fun fs x h1 h2 h3 => hs fs x h1 h2 (by rw [h3]; simp; omega)
theorem DF.ext_len (d : DF) {most k q : Nat} {pre : List Int} {fs : List ByteArray} (h : fs.length ≤ most) : (d.ext most k q pre fs).length ≤ most :=
  d.ext_ind most (fun fs => fs.length ≤ most) k q pre fs h fun fs x h1 h2 _ => by simp; omega
theorem DF.extx_len (d : DF) {most k q : Nat} {pre : List Int} {fs : List ByteArray} (h : fs.length ≤ most) : ∀ j, (d.extx most k q pre fs j).length ≤ most
  | 0 => h
  | j + 1 => by rw [d.extx_succ]; exact d.ext_len (d.extx_len h j)
/-- all of fs have at most b bytes -/
def ShortS (b : Nat) (fs : List ByteArray) : Prop := ∀ x, x ∈ fs → x.size ≤ b
theorem ShortS.snoc {b : Nat} {fs : List ByteArray} {x : ByteArray} (h : ShortS b fs) (hx : x.size ≤ b) : ShortS b (fs ++ [x]) := by
  intro y hy
  rw [List.mem_append, List.mem_singleton] at hy
  rcases hy with hy | rfl
  · exact h y hy
  · exact hx
theorem DF.ext_short (d : DF) {most k q b : Nat} {pre : List Int} {fs : List ByteArray} (h : ShortS b fs) (hb : pre.length + k ≤ b) : ShortS b (d.ext most k q pre fs) :=
  d.ext_ind most (ShortS b) k q pre fs h fun fs x h1 _ h3 => h1.snoc (by omega)
theorem DF.extx_short (d : DF) {most k q b : Nat} {pre : List Int} {fs : List ByteArray} (h : ShortS b fs) (hb : pre.length + k + 1 ≤ b) : ∀ j, ShortS b (d.extx most k q pre fs j)
  | 0 => h
  | j + 1 => by rw [d.extx_succ]; exact d.ext_short (d.extx_short h hb j) (by simp; omega)
/-- the words of fewer than k letters -/
def DF.wds (d : DF) (most : Nat) : Nat → List ByteArray
  | 0 => []
  | k + 1 => d.ext most k d.S.toNat [] (d.wds most k)
theorem DF.wds_len (d : DF) (most : Nat) : ∀ k, (d.wds most k).length ≤ most
  | 0 => Nat.zero_le _
  | k + 1 => d.ext_len (d.wds_len most k)
theorem DF.wds_short (d : DF) (most : Nat) : ∀ k, ShortS k (d.wds most k)
  | 0 => fun x h => by simp [DF.wds] at h
  | k + 1 => d.ext_short (fun x h => Nat.le_trans (d.wds_short most k x h) (by omega)) (by simp)
theorem DF.wds_full (d : DF) {most k : Nat} (h : most ≤ (d.wds most k).length) : ∀ j, d.wds most (k + j) = d.wds most k
  | 0 => rfl
  | j + 1 => by
    rw [← Nat.add_assoc, DF.wds, d.ext_stop (.inl (by rw [d.wds_full h j]; exact h)), d.wds_full h j]
/-- all words that Words lists -/
def DF.words (d : DF) (most : Nat) : List ByteArray := d.wds most 2049
theorem DF.words_full (d : DF) {most k : Nat} (hk : k ≤ 2049) (h : most ≤ (d.wds most k).length) : d.words most = d.wds most k := by
  have := d.wds_full h (2049 - k)
  rw [show k + (2049 - k) = 2049 by omega] at this
  exact this
end Go.Proofs.Ytohoiebofkmjeac
