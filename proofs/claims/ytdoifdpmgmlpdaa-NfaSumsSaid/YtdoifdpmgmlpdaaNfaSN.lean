/- Contract: slices.Clone of edges. Facts: how many edges a valid automaton has. -/
import Derived.Test.YtdoifdpmgmlpdaaNfaNM
import Derived.Test.YtdoifdpmgmlpdaaNfaD
import Derived.Maps.AppendAt
import Derived.Laws.Cover3
namespace Go.Proofs.Ytdoifdpmgmlpdaa
open Go Go.RowKit
set_option linter.unusedVariables false
def codeE (e : Ed) : Int := (e.f * 6 + e.l) * 64 + e.t
theorem valN_len {L S : Int} {st fi : Nat} {es : List Ed} (hv : valN L S st fi es = true) : es.length ≤ 24576 := by
  have h := valN_iff.1 hv
  have key : ∀ i : Nat, i < es.length → (i : Int) ≤ codeE (es.getD i noE) ∧ codeE (es.getD i noE) < 24576 := by
    intro i
    induction i with
    | zero =>
      intro hi
      have h1 := inE_iff.1 (valN_in hv (List.mem_of_getElem? (ed_some hi)))
      unfold codeE; omega
    | succ i ih =>
      intro hi
      have h1 := inE_iff.1 (valN_in hv (List.mem_of_getElem? (ed_some hi)))
      have hi' : i < es.length := by omega
      have h2 := inE_iff.1 (valN_in hv (List.mem_of_getElem? (ed_some hi')))
      have h3 := (ih hi').1
      have h4 := h.2.2 (i + 1) hi
      rw [okAt, Bool.and_eq_true, Nat.add_sub_cancel] at h4
      have h5 : ltE (es.getD i noE) (es.getD (i + 1) noE) = true := by simpa using h4.2
      unfold ltE at h5
      rw [decide_eq_true_iff] at h5
      unfold codeE at h3 ⊢
      omega
  by_cases h0 : es.length = 0
  · omega
  · have := key (es.length - 1) (by omega)
    omega
theorem newsE {w : World} {ad : Addr} {es : List Ed} (h : InE w (some ad) es) : ∀ j u, (flatE es)[j]? = some u → w.cell? (ad.add j) = some u := by
  rcases h with rfl | ⟨b, off, e, hl, hc⟩
  · intro j u hu; simp [flatE] at hu
  · injection e with e
    subst e
    have hlen : ∀ es : List Ed, (flatE es).length = es.length * 3 := by
      intro es
      induction es with
      | nil => rfl
      | cons e es ih => simp only [flatE, List.length_cons, ih]; omega
    intro j u hu
    have hj : j < es.length * 3 := by
      rw [← hlen]; apply Nat.lt_of_not_le; intro hle; rw [List.getElem?_eq_none hle] at hu; cases hu
    have hi : j / 3 < es.length := by omega
    have he : es[j / 3]? = some es[j / 3] := List.getElem?_eq_getElem hi
    obtain ⟨⟨c1, c2, c3⟩, _⟩ := hc _ _ he
    obtain ⟨f1, f2, f3⟩ := flatE_get he
    rw [add_none']
    have h3 : j % 3 = 0 ∨ j % 3 = 1 ∨ j % 3 = 2 := by omega
    rcases h3 with h3 | h3 | h3
    · have ej : j = j / 3 * 3 := by omega
      rw [← ej] at f1 c1
      rw [f1] at hu; rw [← hu]; exact c1
    · have ej : j = j / 3 * 3 + 1 := by omega
      rw [← ej] at f2
      rw [f2] at hu; rw [← hu]
      rw [show off + j = off + j / 3 * 3 + 1 by omega]; exact c2
    · have ej : j = j / 3 * 3 + 2 := by omega
      rw [← ej] at f3
      rw [f3] at hu; rw [← hu]
      rw [show off + j = off + j / 3 * 3 + 2 by omega]; exact c3
theorem flatE_length (es : List Ed) : (flatE es).length = es.length * 3 := by
  induction es with
  | nil => rfl
  | cons e es ih => simp only [flatE, List.length_cons, ih]; omega
theorem flatE_one (es : List Ed) : ∀ u, u ∈ flatE es → u.oneCell' = true := by
  induction es with
  | nil => intro u hu; cases hu
  | cons e es ih =>
    intro u hu
    simp only [flatE, List.mem_cons] at hu
    rcases hu with rfl | rfl | rfl | hu
    · rfl
    · rfl
    · rfl
    · exact ih u hu
set_option maxRecDepth 100000 in
set_option maxHeartbeats 2000000 in
theorem clone_any (es : List Ed) (a : Option Addr) (c : Nat) (w : World) (hin : InE w a es) (hlen : es.length ≤ 24576) :
    Calls Try.prog 49 #[.slice a es.length c] w fun e w' => ∃ v, e = .returned v ∧ OwnEd w' w.heap.size v es ∧ Below w.heap.size w w' := by
  obtain ⟨i0, hi0, hz0, hz1, hz2⟩ := info_parts infoEd
  have hnil : ∀ (W : World) (a : Option Addr) (n c : Nat), (binOp .eql 23 (.slice a n c) (.slice none 0 0)).run Try.prog W = .ok (.bool a.isNone) W := fun W a n c => by
    simp only [binOp]
    simp [run_equal_slice_nil W 23 _ a n c Try.underlying23]
  cases a with
  | none =>
    have h0 : es = [] := by
      rcases hin with h | ⟨b, off, e, _⟩
      · exact h
      · cases e
    subst h0
    clear hin hlen
    simp only [List.length_nil]
    go_enter Try.func49, Try.ntmps49
    go_wp2_with fail
    go_ret
    exact ⟨_, rfl, OwnEd.nil _ _, Below.refl _ _⟩
  | some ad =>
    have HI := Lib.hid hin
    obtain ⟨n, hn⟩ : ∃ n, n = es.length := ⟨_, rfl⟩
    have HN := Lib.hid hn
    have HFL := Lib.hid (flatE_length es)
    have HF1 := Lib.hid (flatE_one es)
    rw [← hn] at hlen HFL ⊢
    have HOW := Lib.hid (show (w.alloc (.cells #[] 44)).ownsRow w.heap.size 44 3 (.slice (some ⟨w.heap.size, 0, none⟩) 0 0) 0 [] from World.ownsRow_lit (base := w.heap.size) (e := 44) (size := 3) w #[] 0 (Nat.le_refl _) (by unfold maxLen; omega) rfl)
    have HNE := Lib.hid (newsE (w := w.alloc (.cells #[] 44)) (ad := ad) (es := es) (HI.out.keep ((Below.refl _ _).alloc (Nat.le_refl _) _)))
    clear hin hn
    go_enter Try.func49, Try.ntmps49
    go_wp2_with (at_builtin; refine wpList_append_own_at _ rfl _ _ 23 rfl w.heap.size 44 i0 _ 3 24 Try.underlying23 hi0 hz0 hz1 hz2 rfl (by decide) _ _ _ rfl HOW.out ad n c (flatE es) rfl HFL.out HNE.out HF1.out ?c3 ?c4 ?c5 ?_)
    case c3 => unfold maxLen; omega
    case c4 => omega
    case c5 => simp
    intro v' w4 h4 hg4 _ hat
    have HO4 := Lib.hid (show OwnEd w4 w.heap.size v' es by
      unfold OwnEd
      rw [← HN.out]
      simpa using h4)
    have HB4 := Lib.hid (((Below.refl w.heap.size w).alloc (Nat.le_refl _) (.cells #[] 44)).grown hg4 (by simp) (fun k hk => by simp [Value.ownBlock] at hk; omega))
    clear h4 hg4 hat
    go_wp2_with fail
    go_ret
    exact ⟨_, rfl, HO4.out, HB4.out⟩
end Go.Proofs.Ytdoifdpmgmlpdaa
