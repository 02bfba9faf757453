/- Facts on meets and joins, no Go; contracts: pair, Meet and Join of valid partitions. -/
import Derived.Test.YtfgpjkkdgjhkfaaPartFB
import Derived.Test.YtfgpjkkdgjhkfaaPartFC
import Derived.Test.YtfgpjkkdgjhkfaaPartFD
import Derived.Test.YtfgpjkkdgjhkfaaPartW
import Derived.Test.YtfgpjkkdgjhkfaaPartE
namespace Go.Proofs.Ytfgpjkkdgjhkfaa
open Go Go.RowKit Go.Maps
set_option linter.unusedVariables false


/-- the join -/
def jnF (n : Nat) (p q : Nat → Int) : Nat → Int := can (joinF n p q)
theorem jn_pat (n : Nat) (p q : Nat → Int) : Pat n (jnF n p q) (joinF n p q) := pat_can n _
theorem jn_le {n : Nat} {p q h : Nat → Int} : refB n (jnF n p q) h = true ↔ refB n p h = true ∧ refB n q h = true := by
  rw [refB_pl (jn_pat n p q), refB_iff, ← JP_iff]
  constructor
  · intro H i hi
    have h1 := fst_le p i
    have h2 := fst_le q i
    have h3 := (joinF_least n p q).1 i hi
    exact ⟨H _ _ hi (by omega) h3.1, H _ _ hi (by omega) h3.2⟩
  · intro H i j hi hj e
    exact (joinF_least n p q).2 h H i j hi hj e
theorem mt_le {n : Nat} {p q h : Nat → Int} : refB n h (meetF n p q) = true ↔ refB n h p = true ∧ refB n h q = true := by
  simp only [refB_iff]
  constructor
  · exact fun H => ⟨fun i j hi hj e => ((meetF_iff hi hj).1 (H i j hi hj e)).1, fun i j hi hj e => ((meetF_iff hi hj).1 (H i j hi hj e)).2⟩
  · exact fun H i j hi hj e => (meetF_iff hi hj).2 ⟨H.1 i j hi hj e, H.2 i j hi hj e⟩
theorem ref_refl (n : Nat) (p : Nat → Int) : refB n p p = true := refB_iff.2 fun _ _ _ _ e => e
theorem val_mt {n : Nat} (hn : n ≤ 4096) (p q : Nat → Int) : valP n (meetF n p q) = true := valP_can hn _
theorem val_jn {n : Nat} (hn : n ≤ 4096) (p q : Nat → Int) : valP n (jnF n p q) = true := valP_can hn _
theorem same_of {n : Nat} {p q : Nat → Int} (hp : valP n p = true) (hq : valP n q = true) (h1 : refB n p q = true) (h2 : refB n q p = true) : sameB n p n q = true :=
  sameB_true fun i hi => valP_same hp hq (refB_pat h1 h2) hi
theorem pair_of {n : Nat} {p q : Nat → Int} (hp : valP n p = true) (hq : valP n q = true) : pairB n p n q = true := pairB_iff.2 ⟨rfl, hp, hq⟩
theorem mt_comm {n : Nat} (hn : n ≤ 4096) (p q : Nat → Int) : sameB n (meetF n p q) n (meetF n q p) = true :=
  same_of (val_mt hn _ _) (val_mt hn _ _) (mt_le.2 (mt_le.1 (ref_refl n _)).symm) (mt_le.2 (mt_le.1 (ref_refl n _)).symm)
theorem jn_comm {n : Nat} (hn : n ≤ 4096) (p q : Nat → Int) : sameB n (jnF n p q) n (jnF n q p) = true :=
  same_of (val_jn hn _ _) (val_jn hn _ _) (jn_le.2 (jn_le.1 (ref_refl n _)).symm) (jn_le.2 (jn_le.1 (ref_refl n _)).symm)
theorem mt_assoc {n : Nat} (hn : n ≤ 4096) (p q r : Nat → Int) : sameB n (meetF n (meetF n p q) r) n (meetF n p (meetF n q r)) = true := by
  have a := mt_le.1 (ref_refl n (meetF n (meetF n p q) r))
  have a2 := mt_le.1 a.1
  have b := mt_le.1 (ref_refl n (meetF n p (meetF n q r)))
  have b2 := mt_le.1 b.2
  exact same_of (val_mt hn _ _) (val_mt hn _ _) (mt_le.2 ⟨a2.1, mt_le.2 ⟨a2.2, a.2⟩⟩) (mt_le.2 ⟨mt_le.2 ⟨b.1, b2.1⟩, b2.2⟩)
theorem jn_assoc {n : Nat} (hn : n ≤ 4096) (p q r : Nat → Int) : sameB n (jnF n (jnF n p q) r) n (jnF n p (jnF n q r)) = true := by
  have a := jn_le.1 (ref_refl n (jnF n (jnF n p q) r))
  have a2 := jn_le.1 a.1
  have b := jn_le.1 (ref_refl n (jnF n p (jnF n q r)))
  have b2 := jn_le.1 b.2
  exact same_of (val_jn hn _ _) (val_jn hn _ _) (jn_le.2 ⟨jn_le.2 ⟨b.1, b2.1⟩, b2.2⟩) (jn_le.2 ⟨a2.1, jn_le.2 ⟨a2.2, a.2⟩⟩)
theorem jn_mt {n : Nat} {p : Nat → Int} (hp : valP n p = true) (q : Nat → Int) : sameB n (jnF n p (meetF n p q)) n p = true :=
  same_of (val_jn (valP_iff.1 hp).1 _ _) hp (jn_le.2 ⟨ref_refl n p, (mt_le.1 (ref_refl n _)).1⟩) (jn_le.1 (ref_refl n _)).1
theorem mt_jn {n : Nat} {p : Nat → Int} (hp : valP n p = true) (q : Nat → Int) : sameB n (meetF n p (jnF n p q)) n p = true :=
  same_of (val_mt (valP_iff.1 hp).1 _ _) hp (mt_le.1 (ref_refl n _)).1 (mt_le.2 ⟨ref_refl n p, (jn_le.1 (ref_refl n _)).1⟩)
theorem ext_mt (n : Nat) (p q : Nat → Int) : refB n (meetF n p q) p = true ∧ refB n (meetF n p q) q = true := mt_le.1 (ref_refl n _)
theorem ext_jn (n : Nat) (p q : Nat → Int) : refB n p (jnF n p q) = true ∧ refB n q (jnF n p q) = true := jn_le.1 (ref_refl n _)
theorem ext_below (n : Nat) (p q h : Nat → Int) : refB n h (meetF n p q) = (refB n h p && refB n h q) := by rw [Bool.eq_iff_iff, mt_le, Bool.and_eq_true]
theorem ext_above (n : Nat) (p q h : Nat → Int) : refB n (jnF n p q) h = (refB n p h && refB n q h) := by rw [Bool.eq_iff_iff, jn_le, Bool.and_eq_true]
theorem sameR_mt {n : Nat} (p q : Nat → Int) : sameB n (meetF n p q) n (meetF n p q) = true := sameB_true fun _ _ => rfl
theorem sameR_jn {n : Nat} (p q : Nat → Int) : sameB n (jnF n p q) n (can (jR p q n)) = true := sameB_true fun i hi => (joinR_eq n p q hi).symm
theorem row_in2 {w : World} {a : Option Addr} {len cap : Nat} {zs : List Int} (h : IntRow .i64 w a len cap zs) : ∃ f, RowI w a len f ∧ len ≤ maxLen ∧ (a = none → len = 0 ∧ cap = 0) := by
  obtain ⟨f, hr, hl⟩ := row_in h
  refine ⟨f, hr, hl, fun e => ?_⟩
  rcases h with ⟨rfl, rfl, rfl, rfl⟩ | ⟨x, rfl, _⟩
  · exact ⟨rfl, rfl⟩
  · cases e
theorem join_g (a : Option Addr) (n c : Nat) (f : Nat → Int) (a' : Option Addr) (c' : Nat) (g : Nat → Int) (w : World) (hr : RowI w a n f) (hs : RowI w a' n g) (hp : pairB n f n g = true) :
    Calls Try.prog 32 #[.slice a n c, .slice a' n c'] w (Gives w n (jnF n f g)) := join_ok a n c f a' c' g w hr hs hp
theorem joinR_any (a : Option Addr) (n c : Nat) (f : Nat → Int) (a' : Option Addr) (c' : Nat) (q : Nat → Int) (w : World) (hr : RowI w a n f) (hs : RowI w a' n q) (hn : n ≤ 4096) (h0 : a = none → n = 0 ∧ c = 0) :
    Calls Try.prog 34 #[.slice a n c, .slice a' n c'] w (Gives w n (can (jR f q n))) := by
  cases a with
  | none => obtain ⟨rfl, rfl⟩ := h0 rfl; exact joinR_none _ a' c' w
  | some ad => exact joinR_some ad n c f a' c' q w hr hs hn

/-- pair(p, q, 60) -/
def prB (n : Nat) (f : Nat → Int) (m : Nat) (g : Nat → Int) : Bool := decide (n = m) && (decide (n ≤ 60) && (valP n f && valP m g))
end Go.Proofs.Ytfgpjkkdgjhkfaa
