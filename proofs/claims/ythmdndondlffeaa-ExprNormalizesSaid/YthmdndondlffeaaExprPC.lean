/- Contracts: letter, beginsUnary. -/
import Derived.Test.YthmdndondlffeaaExprPB
namespace Go.Proofs.Ythmdndondlffeaa
open Go Go.RowKit Go.Lib
set_option linter.unusedVariables false
def ltrB (L b : Int) : Bool := decide (97 ≤ b) && decide (b < 97 + L)
def inB (b : Int) : Bool := b == 33 || b == 48 || b == 49 || b == 40
def begB (L b : Int) : Bool := ltrB L b || inB b
theorem inB_nat : ∀ n : Fin 256, decide (0 ≤ indexByte [33, 48, 49, 40] (n.val.toUInt8)) = inB (n.val : Int) := by decide +kernel
theorem drewN3 (w : World) (a b c : Nat) : ((w.drewN a).drewN b).drewN c = w.drewN (a + b + c) := by simp only [World.drewN, Nat.add_assoc]
theorem inB_idx {b : Int} (h0 : 0 ≤ b) (h1 : b < 256) : decide (0 ≤ indexByte [33, 48, 49, 40] b.toNat.toUInt8) = inB b := by
  have h := inB_nat ⟨b.toNat, by omega⟩
  rw [show ((⟨b.toNat, by omega⟩ : Fin 256).val : Int) = b by simp; omega] at h
  exact h
theorem byte_lt {s : ByteArray} {i : Nat} {h : i < s.size} {b : Int} (hb : ((s[i]'h).toNat : Int) = b) : 0 ≤ b ∧ b < 256 := by
  have := (s[i]'h).toNat_lt
  omega
set_option maxRecDepth 100000 in
set_option maxHeartbeats 1000000 in
theorem letter_some (p : Nat) (s : ByteArray) (L : Int) (i : Nat) (b : Int) (r : List Int) (w : World) (hp : PSt w p s L i) (hd : (bytesI s).drop i = b :: r) :
    Calls Try.prog 87 #[.pointer (some ⟨p, 0, none⟩)] w fun e w' => e = .returned (.tuple #[.int .i64 (b - 97), .bool (ltrB L b)]) ∧ ∃ n, w' = w.drewN n := by
  obtain ⟨hlt, hb, hr⟩ := byte_at hd
  obtain ⟨hb0, hb1⟩ := byte_lt hb
  have h0 := hp.c0
  have h1 := hp.c1
  have h2 := hp.c2
  have hsz := hp.sz
  have hi0 : (0 : Int) ≤ (i : Int) := by omega
  have hin : (i : Int) < (s.size : Int) := by omega
  have ht : ((i : Int) == (s.size : Int)) = false := ne_beq (by omega)
  have hw : IntKind.i64.wrap (b - 97) = b - 97 := IntWalk.i64_in _ (by omega)
  clear hp hd hr
  by_cases h5 : 97 ≤ b
  · by_cases h6 : b - 97 < L
    · have H := Lib.hid (show ltrB L b = true by unfold ltrB; simp; omega)
      have h7 : 0 ≤ b - 97 := by omega
      go_enter Try.func87, Try.ntmps87
      go_wp2_with fail
      go_quiet (fail)
      go_wp2_with fail
      go_quiet (fail)
      go_wp2_with fail
      go_quiet (fail)
      go_wp2_with fail
      go_ret2
      exact ⟨by rw [H.out]; rfl, _, drewN3 _ _ _ _⟩
    · have H := Lib.hid (show ltrB L b = false by unfold ltrB; simp; omega)
      have h7 : 0 ≤ b - 97 := by omega
      have h8 : decide (b - 97 < L) = false := by simp; omega
      go_enter Try.func87, Try.ntmps87
      go_wp2_with fail
      go_quiet (fail)
      go_wp2_with fail
      go_quiet (fail)
      go_wp2_with fail
      go_quiet (fail)
      go_wp2_with fail
      go_ret2
      exact ⟨by rw [H.out]; rfl, _, drewN3 _ _ _ _⟩
  · have H := Lib.hid (show ltrB L b = false by unfold ltrB; simp; omega)
    have h7 : ¬ 0 ≤ b - 97 := by omega
    have h8 : decide (0 ≤ b - 97) = false := by simp; omega
    have h9 : decide (97 ≤ b) = false := by simp; omega
    go_enter Try.func87, Try.ntmps87
    go_wp2_with fail
    go_quiet (fail)
    go_wp2_with fail
    go_quiet (fail)
    go_wp2_with fail
    go_quiet (fail)
    go_wp2_with fail
    go_ret2
    exact ⟨by rw [H.out]; rfl, _, drewN3 _ _ _ _⟩
set_option maxRecDepth 100000 in
set_option maxHeartbeats 1000000 in
theorem begins_end (p : Nat) (s : ByteArray) (L : Int) (i : Nat) (w : World) (hp : PSt w p s L i) (hd : (bytesI s).drop i = []) :
    Calls Try.prog 79 #[.pointer (some ⟨p, 0, none⟩)] w (PEnd p s L w (.bool false) i) := by
  have HP := Lib.hid hp
  have h0 := hp.c0
  have h2 := hp.c2
  have hsz := hp.sz
  have hi0 : (0 : Int) ≤ (i : Int) := by omega
  have ht : ((i : Int) == (s.size : Int)) = true := by rw [byte_end hd hp.le]; simp
  clear hp hd
  go_enter Try.func79, Try.ntmps79
  go_wp2_with fail
  go_quiet (fail)
  go_wp2_with fail
  go_ret
  exact ⟨rfl, grown_drewN _ _ _, HP.out.drewN _⟩
set_option maxRecDepth 100000 in
set_option maxHeartbeats 1000000 in
theorem begins_some (p : Nat) (s : ByteArray) (L : Int) (i : Nat) (b : Int) (r : List Int) (w : World) (hp : PSt w p s L i) (hd : (bytesI s).drop i = b :: r) :
    Calls Try.prog 79 #[.pointer (some ⟨p, 0, none⟩)] w (PEnd p s L w (.bool (begB L b)) i) := by
  have HQ := Lib.hid (fun W (h : PSt W p s L i) => letter_some p s L i b r W h hd)
  obtain ⟨hlt, hb, hr⟩ := byte_at hd
  obtain ⟨hb0, hb1⟩ := byte_lt hb
  have HP := Lib.hid hp
  have h0 := hp.c0
  have h2 := hp.c2
  have hsz := hp.sz
  have hi0 : (0 : Int) ≤ (i : Int) := by omega
  have hin : (i : Int) < (s.size : Int) := by omega
  have ht : ((i : Int) == (s.size : Int)) = false := ne_beq (by omega)
  have HIX := Lib.hid (inB_idx hb0 hb1)
  have HC := Lib.hid (fun W => Try.strings_IndexByte ⟨#[33, 48, 49, 40]⟩ b W)
  clear hp hd hr
  cases hl : ltrB L b
  · have H := Lib.hid (show begB L b = inB b by unfold begB; rw [hl]; rfl)
    have HL := Lib.hid hl
    clear hl
    obtain ⟨ix, hix⟩ : ∃ ix, ix = indexByte [33, 48, 49, 40] b.toNat.toUInt8 := ⟨_, rfl⟩
    have HC2 := Lib.hid (fun W => show Calls Try.prog 88 #[.string ⟨#[33, 48, 49, 40]⟩, .int .u8 b] W fun e w' => e = .returned (.int .i64 ix) ∧ w' = W by rw [hix]; exact HC.out W)
    rw [← hix] at HIX
    clear hix
    go_enter Try.func79, Try.ntmps79
    go_wp2_with fail
    go_quiet (fail)
    go_wp2_with fail
    refine (HQ.out _ (HP.out.drewN _)).mono ?_
    rintro e w2 ⟨rfl, n2, rfl⟩
    rw [HL.out]
    go_wp2_with fail
    go_quiet ((go_at_call 88; exact (HC2.out _).mono fun _ _ ⟨he, hw⟩ => ⟨he, _, hw⟩))
    go_wp2_with fail
    go_ret
    exact ⟨by rw [H.out, ← HIX.out]; rfl, by rw [World.drewN_drewN]; exact grown_drewN _ _ _, by rw [World.drewN_drewN]; exact HP.out.drewN _⟩
  · have H := Lib.hid (show begB L b = true by unfold begB; rw [hl]; rfl)
    have HL := Lib.hid hl
    clear hl
    go_enter Try.func79, Try.ntmps79
    go_wp2_with fail
    go_quiet (fail)
    go_wp2_with fail
    refine (HQ.out _ (HP.out.drewN _)).mono ?_
    rintro e w2 ⟨rfl, n2, rfl⟩
    rw [HL.out]
    go_wp2_with fail
    go_quiet (fail)
    go_wp2_with fail
    go_ret
    exact ⟨by rw [H.out]; rfl, by rw [World.drewN_drewN]; exact grown_drewN _ _ _, by rw [World.drewN_drewN]; exact HP.out.drewN _⟩
end Go.Proofs.Ythmdndondlffeaa
