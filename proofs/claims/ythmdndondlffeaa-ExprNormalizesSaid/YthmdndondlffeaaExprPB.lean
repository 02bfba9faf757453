/- Contracts: advance, accept, letter, beginsUnary (success alone). -/
import Derived.Test.YthmdndondlffeaaExprPA
namespace Go.Proofs.Ythmdndondlffeaa
open Go Go.RowKit Go.Lib
set_option linter.unusedVariables false
theorem grown_setc (w : World) (g c : Nat) (v : Value) : w.grownBy (w.setCell ⟨g, c, none⟩ v) (some g) :=
  ⟨rfl, rfl, rfl, by simp [World.setCell], fun k hk hne => Below.heap_setCell w ⟨g, c, none⟩ v k (fun e => hne (by rw [e]))⟩
theorem PSt.set {w : World} {p : Nat} {s : ByteArray} {L : Int} {i : Nat} (h : PSt w p s L i) (hi : i + 1 ≤ s.size) : PSt (w.setCell ⟨p, 2, none⟩ (.int .i64 ((i : Int) + 1))) p s L (i + 1) := by
  refine ⟨by simpa using h.lt, ?_, ?_, ?_, ?_, hi, h.sz⟩
  · rw [World.cell?_setCell_other _ _ _ _ (by simp)]; exact h.c0
  · rw [World.cell?_setCell_other _ _ _ _ (by simp)]; exact h.c1
  · exact World.cell?_setCell_same _ _ _ h.c2
  · have := h.fz; simpa using this
set_option maxRecDepth 100000 in
set_option maxHeartbeats 1000000 in
theorem advance_any (p : Nat) (s : ByteArray) (L : Int) (i : Nat) (w : World) (hp : PSt w p s L i) (hlt : i < s.size) (hbl : noBl ((bytesI s).drop (i + 1))) :
    Calls Try.prog 80 #[.pointer (some ⟨p, 0, none⟩)] w (PEnd p s L w (.tuple #[]) (i + 1)) := by
  have HP := Lib.hid hp
  have hlp := hp.lt
  have h2 := hp.c2
  have hfz := hp.fz
  have hsz := hp.sz
  have HP2 := Lib.hid (hp.set hlt)
  have HBL := Lib.hid hbl
  have hi0 : (0 : Int) ≤ (i : Int) := by omega
  have hi9 : (i : Int) ≤ 4096 := by omega
  clear hp hbl
  go_enter Try.func80, Try.ntmps80
  go_wp2_with fail
  refine (skip_any p s L (i + 1) _ HP2.out HBL.out).mono ?_
  rintro e w2 ⟨rfl, hg, hP⟩
  have HG := Lib.hid (World.grownBy.trans (grown_setc w p 2 (.int .i64 ((i : Int) + 1))) hg)
  have HP3 := Lib.hid hP
  clear hg hP
  go_wp2_with fail
  go_end0
  exact ⟨rfl, HG.out, HP3.out⟩
set_option maxRecDepth 100000 in
set_option maxHeartbeats 1000000 in
theorem accept_yes (p : Nat) (s : ByteArray) (L : Int) (i : Nat) (b : Int) (r : List Int) (w : World) (hp : PSt w p s L i) (hd : (bytesI s).drop i = b :: r) (hbl : noBl r) :
    Calls Try.prog 66 #[.pointer (some ⟨p, 0, none⟩), .int .u8 b] w (PEnd p s L w (.bool true) (i + 1)) := by
  obtain ⟨hlt, hb, hr⟩ := byte_at hd
  have HP := Lib.hid hp
  have h0 := hp.c0
  have h2 := hp.c2
  have hsz := hp.sz
  have HA := Lib.hid (fun W (h : PSt W p s L i) => advance_any p s L i W h hlt (by rw [hr]; exact hbl))
  have hi0 : (0 : Int) ≤ (i : Int) := by omega
  have hin : (i : Int) < (s.size : Int) := by omega
  have ht : ((i : Int) == (s.size : Int)) = false := ne_beq (by omega)
  have ht2 : (b == b) = true := by simp
  have ht3 : (b != b) = false := by simp
  clear hp hd hbl hr
  go_enter Try.func66, Try.ntmps66
  go_wp2_with fail
  go_quiet (fail)
  go_wp2_with fail
  refine (HA.out _ (HP.out.drewN _)).mono ?_
  rintro e w2 ⟨rfl, hg, hP⟩
  have HG := Lib.hid (World.grownBy.trans (grown_drewN w (some p) _) hg)
  have HP3 := Lib.hid hP
  clear hg hP
  go_wp2_with fail
  go_ret
  exact ⟨rfl, HG.out, HP3.out⟩
set_option maxRecDepth 100000 in
set_option maxHeartbeats 1000000 in
theorem accept_no (p : Nat) (s : ByteArray) (L : Int) (i : Nat) (b : Int) (w : World) (hp : PSt w p s L i) (hd : ∀ r, (bytesI s).drop i ≠ b :: r) :
    Calls Try.prog 66 #[.pointer (some ⟨p, 0, none⟩), .int .u8 b] w (PEnd p s L w (.bool false) i) := by
  have HP := Lib.hid hp
  have h0 := hp.c0
  have h2 := hp.c2
  have hsz := hp.sz
  have hle := hp.le
  have hi0 : (0 : Int) ≤ (i : Int) := by omega
  by_cases hlt : i < s.size
  · obtain ⟨x, r, hx⟩ : ∃ x r, (bytesI s).drop i = x :: r := by
      rw [List.drop_eq_getElem_cons (by rw [bytesI_len]; exact hlt)]; exact ⟨_, _, rfl⟩
    obtain ⟨_, hb, _⟩ := byte_at hx
    have hne : x ≠ b := fun e => hd r (by rw [hx, e])
    have hin : (i : Int) < (s.size : Int) := by omega
    have ht : ((i : Int) == (s.size : Int)) = false := ne_beq (by omega)
    have ht2 : (x == b) = false := ne_beq hne
    have ht3 : (x != b) = true := by simp [hne]
    clear hp hd hx hne
    go_enter Try.func66, Try.ntmps66
    go_wp2_with fail
    go_quiet (fail)
    go_wp2_with fail
    go_ret
    exact ⟨rfl, grown_drewN _ _ _, HP.out.drewN _⟩
  · have ht : ((i : Int) == (s.size : Int)) = true := by rw [show i = s.size by omega]; simp
    clear hp hd hlt hle
    go_enter Try.func66, Try.ntmps66
    go_wp2_with fail
    go_quiet (fail)
    go_wp2_with fail
    go_ret
    exact ⟨rfl, grown_drewN _ _ _, HP.out.drewN _⟩
end Go.Proofs.Ythmdndondlffeaa
