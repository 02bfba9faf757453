/- The parser's state; contracts: skipBlanks, advance, accept, letter, beginsUnary (success alone). -/
import Derived.Test.YthmdndondlffeaaExprI
import Derived.Test.YthmdndondlffeaaShelf
import Derived.StillTactics
import Derived.BigQuiet
import Derived.RegionTactic
namespace Go.Proofs.Ythmdndondlffeaa
open Go Go.RowKit Go.Lib
set_option linter.unusedVariables false

/-- the parser lies in block p and stands at i -/
structure PSt (w : World) (p : Nat) (s : ByteArray) (L : Int) (i : Nat) : Prop where
  lt : p < w.heap.size
  c0 : w.cell? ⟨p, 0, none⟩ = some (.string s)
  c1 : w.cell? ⟨p, 1, none⟩ = some (.int .i64 L)
  c2 : w.cell? ⟨p, 2, none⟩ = some (.int .i64 (i : Int))
  fz : w.frozen? ⟨p, 2, none⟩ = false
  le : i ≤ s.size
  sz : s.size ≤ 4096
/-- the text as numbers -/
def bytesI (s : ByteArray) : List Int := s.data.toList.map fun b => (b.toNat : Int)
theorem bytesI_len (s : ByteArray) : (bytesI s).length = s.size := by unfold bytesI; rw [List.length_map, Array.length_toList]; rfl
theorem bytesI_get {s : ByteArray} {i : Nat} (h : i < s.size) : (bytesI s)[i]? = some (s[i].toNat : Int) := by
  have h2 : i < s.data.toList.length := by rw [Array.length_toList]; exact h
  unfold bytesI
  rw [List.getElem?_map, List.getElem?_eq_getElem h2]
  rfl
theorem byte_at {s : ByteArray} {i : Nat} {b : Int} {r : List Int} (h : (bytesI s).drop i = b :: r) : ∃ hlt : i < s.size, ((s[i]'hlt).toNat : Int) = b ∧ (bytesI s).drop (i + 1) = r := by
  have hlt : i < s.size := by
    apply Nat.lt_of_not_le; intro hle
    rw [List.drop_of_length_le (by rw [bytesI_len]; exact hle)] at h; cases h
  refine ⟨hlt, ?_, ?_⟩
  · have h2 : (bytesI s)[i]? = some b := by
      have := congrArg (fun l => l[0]?) h
      simpa using this
    rw [bytesI_get hlt] at h2
    injection h2
  · rw [← List.drop_drop, h]; rfl
theorem byte_end {s : ByteArray} {i : Nat} (h : (bytesI s).drop i = []) (hi : i ≤ s.size) : i = s.size := by
  have := congrArg List.length h
  rw [List.length_drop, bytesI_len] at this
  simp at this; omega
/-- no blank stands at i -/
def noBl (l : List Int) : Prop := ∀ b r, l = b :: r → b ≠ 32

/-- what a function of the parser that hands nothing back leaves -/
def PEnd (p : Nat) (s : ByteArray) (L : Int) (w : World) (v : Value) (i : Nat) (e : Ending) (w' : World) : Prop := e = .returned v ∧ w.grownBy w' (some p) ∧ PSt w' p s L i
theorem PSt.drewN {w : World} {p : Nat} {s : ByteArray} {L : Int} {i : Nat} (h : PSt w p s L i) (n : Nat) : PSt (w.drewN n) p s L i := ⟨h.lt, h.c0, h.c1, h.c2, h.fz, h.le, h.sz⟩
theorem PSt.drew {w : World} {p : Nat} {s : ByteArray} {L : Int} {i : Nat} (h : PSt w p s L i) : PSt w.drew p s L i := ⟨h.lt, h.c0, h.c1, h.c2, h.fz, h.le, h.sz⟩
theorem grown_drewN (w : World) (r : Option Nat) (n : Nat) : w.grownBy (w.drewN n) r := ⟨rfl, rfl, rfl, Nat.le_refl _, fun _ _ _ => rfl⟩
theorem grown_drew (w : World) (r : Option Nat) : w.grownBy w.drew r := ⟨rfl, rfl, rfl, Nat.le_refl _, fun _ _ _ => rfl⟩
set_option maxRecDepth 100000 in
set_option maxHeartbeats 1000000 in
theorem skip_any (p : Nat) (s : ByteArray) (L : Int) (i : Nat) (w : World) (hp : PSt w p s L i) (hbl : noBl ((bytesI s).drop i)) :
    Calls Try.prog 46 #[.pointer (some ⟨p, 0, none⟩)] w (PEnd p s L w (.tuple #[]) i) := by
  have HP := Lib.hid hp
  have h0 := hp.c0
  have h2 := hp.c2
  have hle := hp.le
  have hsz := hp.sz
  clear hp
  have hi0 : (0 : Int) ≤ (i : Int) := by omega
  by_cases hlt : i < s.size
  · have hin : (i : Int) < (s.size : Int) := by omega
    obtain ⟨b, hb⟩ : ∃ b : Int, (s[i].toNat : Int) = b := ⟨_, rfl⟩
    have hb32 : (b == 32) = false := by
      refine ne_beq (hbl b ((bytesI s).drop (i + 1)) ?_)
      rw [List.drop_eq_getElem_cons (by rw [bytesI_len]; exact hlt)]
      congr 1
      have := bytesI_get hlt
      rw [List.getElem?_eq_getElem (by rw [bytesI_len]; exact hlt)] at this
      injection this with this
      rw [this, hb]
    go_enter Try.func46, Try.ntmps46
    go_wp2_with fail
    go_loopw [] (fun wr => w = wr) (fun _ => 0)
    case atStart => rfl
    case round =>
      subst hrel
      go_wp2_with fail
      go_still (by kernel_rfl)
      change Exit.then _ _ _ _ (World.drew w)
      go_wp2_with fail
      go_end0
      exact ⟨rfl, grown_drew _ _, HP.out.drew⟩
  · have hbf : i = s.size := by omega
    have hin : decide ((i : Int) < (s.size : Int)) = false := by simp; omega
    have hin2 : decide (i < s.size) = false := by simp; omega
    clear hbf hlt hle
    go_enter Try.func46, Try.ntmps46
    go_wp2_with fail
    go_loopw [] (fun wr => w = wr) (fun _ => 0)
    case atStart => rfl
    case round =>
      subst hrel
      go_wp2_with fail
      go_quiet (fail)
      go_wp2_with fail
      go_end0
      exact ⟨rfl, grown_drewN _ _ _, HP.out.drewN _⟩
end Go.Proofs.Ythmdndondlffeaa
