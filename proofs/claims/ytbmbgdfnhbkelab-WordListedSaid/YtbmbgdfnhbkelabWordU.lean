/- Contracts: word.Unrank. -/
import Derived.Test.YtbmbgdfnhbkelabWordA
import Derived.Test.YtbmbgdfnhbkelabWordR
import Derived.Below
import Derived.OwnWalk
import Derived.Laws.BytesArg
namespace Go.Proofs.Ytbmbgdfnhbkelab
open Go.RowKit Go.Sort
open WordM

theorem info5 : (Try.prog.info? 5).map (fun i => (i.zero, i.size, i.bytes)) = some (some (.int .u8 0), 1, 1) := by kernel_rfl

theorem digs_step (m : Int) (κ : Nat) (h : 0 < m) : digs κ m.toNat = (97 + (m - 1) % (κ : Int)) :: digs κ ((m - 1) / (κ : Int)).toNat := by
  obtain ⟨p, rfl⟩ : ∃ p : Nat, m = (p : Int) + 1 := ⟨(m - 1).toNat, by omega⟩
  have h1 : ((p : Int) + 1).toNat = p + 1 := by omega
  have h2 : (p : Int) + 1 - 1 = (p : Int) := by omega
  have h3 : ((p : Int) / (κ : Int)).toNat = p / κ := by rw [← Int.natCast_ediv, Int.toNat_natCast]
  rw [h1, h2, h3, digs_succ, Int.natCast_emod]

set_option maxHeartbeats 400000 in
theorem unrank_bad (n k : Int) (w : World) (hm : mayB k = false ∨ n < 0 ∨ 4611686018427387904 < n) :
    Calls Try.prog 19 #[.int .i64 n, .int .i64 k] w fun e w' => e = .returned (.tuple #[.string ⟨#[]⟩, .bool false]) ∧ w = w' := by
  cases hk : mayB k
  · have HK := Lib.hid hk
    clear hk hm
    go_enter Try.func19, Try.ntmps19
    go_wp2_with (go_at_call 28; refine (validLetters_any _ _).mono ?_; rintro e w' ⟨rfl, rfl⟩; rw [HK.out])
    go_ret2
    exact ⟨rfl, rfl⟩
  · have HK := Lib.hid hk
    have hm' : n < 0 ∨ 4611686018427387904 < n := by rcases hm with h | h; (rw [hk] at h; cases h); exact h
    clear hk hm
    by_cases h0 : n < 0
    · go_enter Try.func19, Try.ntmps19
      go_wp2_with (go_at_call 28; refine (validLetters_any _ _).mono ?_; rintro e w' ⟨rfl, rfl⟩; rw [HK.out])
      go_ret2
      exact ⟨rfl, rfl⟩
    · have h1 : 4611686018427387904 < n := by omega
      clear hm'
      go_enter Try.func19, Try.ntmps19
      go_wp2_with (go_at_call 28; refine (validLetters_any _ _).mono ?_; rintro e w' ⟨rfl, rfl⟩; rw [HK.out])
      go_ret2
      exact ⟨rfl, rfl⟩

set_option maxRecDepth 100000 in
set_option maxHeartbeats 1000000 in
theorem unrank_ok (n : Int) (κ : Nat) (w : World) (hk1 : 1 ≤ κ) (hk2 : κ ≤ 6) (hn0 : 0 ≤ n) (hn : n ≤ 4611686018427387904) :
    Calls Try.prog 19 #[.int .i64 n, .int .i64 κ] w fun e w' => e = .returned (.tuple #[.string (urS κ n.toNat), .bool (urB κ n.toNat)]) ∧ Below w.heap.size w w' := by
  have HK := Lib.hid (mayB_true (k := κ) (by omega) (by omega))
  obtain ⟨i0, hi, hz0, hz1, hz2⟩ := info_parts info5
  go_enter Try.func19, Try.ntmps19
  go_wp2_with (go_at_call 28; refine (validLetters_any _ _).mono ?_; rintro e w' ⟨rfl, rfl⟩; rw [HK.out])
  go_loopw [0, 6] (fun vn v wr => ∃ (m : Int) (xs : List Int), vn = .int .i64 m ∧ 0 ≤ m ∧ m ≤ 4611686018427387904 ∧ wr.ownsRow w.heap.size 5 1 v xs.length (xs.map encB) ∧ xs ++ digs κ m.toNat = digs κ n.toNat ∧ xs.length ≤ 2048 ∧ Below w.heap.size w wr) (fun vn _ _ => (intOf vn).toNat)
  case atStart => exact ⟨n, [], rfl, hn0, hn, World.ownsRow_nil _ _ _ _, rfl, by simp, Below.refl _ _⟩
  case round =>
    obtain ⟨m, xs, rfl, hm0, hm, hown, hdig, hlen, hb⟩ := hrel
    have HD := Lib.hid hdig
    clear hdig
    obtain ⟨ad, cp, rfl⟩ := ownsRow_shape hown
    have hkp : (0 : Int) < (κ : Int) := by omega
    have hr0 : 0 ≤ (m - 1) % (κ : Int) := Int.emod_nonneg _ (by omega)
    have hr1 : (m - 1) % (κ : Int) < 6 := Int.lt_of_lt_of_le (Int.emod_lt_of_pos _ hkp) (by omega)
    have hr2 : (m - 1) % (κ : Int) % 256 = (m - 1) % (κ : Int) := by omega
    have hr3 : (97 + (m - 1) % (κ : Int)) % 256 = 97 + (m - 1) % (κ : Int) := by omega
    by_cases h0 : 0 < m
    · by_cases hl : xs.length = 2048
      · go_wp2_with fail
        go_ret2
        obtain ⟨e1, e2⟩ := ur_long HD.out hl (by rw [show m.toNat = (m.toNat - 1) + 1 by omega, digs_succ]; simp)
        exact ⟨by rw [e1, e2]; rfl, hb⟩
      · go_wp2_with (at_builtin; refine wpList_append_own _ rfl _ _ 47 rfl w.heap.size 5 i0 (.int .u8 0) 1 1 Try.underlying47 hi hz0 hz1 hz2 rfl (by decide) _ _ _ rfl (hown.alloc _) ⟨wr.heap.size, 0, none⟩ 1 1 [.int .u8 (97 + (m - 1) % (κ : Int))] rfl rfl (cell_one_new _ _ _) ?c2 ?c3 ?c4 ?c5 ?_)
        case c2 => simp [Value.oneCell']
        case c3 => unfold maxLen; omega
        case c4 => omega
        case c5 => have := hb.size; simp; omega
        intro v' w1 hown1 hg1 _
        have hq0 : 0 ≤ (m - 1) / (κ : Int) := Int.ediv_nonneg (by omega) (by omega)
        have hq1 : (m - 1) / (κ : Int) ≤ m - 1 := Int.ediv_le_self _ (by omega)
        have hb1 : Below w.heap.size w w1 := (hb.alloc hb.size _).grown hg1 (by have := hb.size; simp; omega) (by intro q hq; exact (hown.lt q hq).1)
        clear hg1
        go_wp2_with fail
        refine ⟨⟨(m - 1) / κ, xs ++ [97 + (m - 1) % (κ : Int)], rfl, hq0, by omega, by simpa using hown1, ?_, by simp; omega, hb1⟩, by simp [intOf]; omega⟩
        rw [← HD.out, List.append_assoc, digs_step m κ h0]
        rfl
    · obtain rfl : m = 0 := by omega
      go_wp2_with fail
      refine (reverse_own w.heap.size _ xs _ hown (by omega)).mono ?_
      rintro e w2 ⟨rfl, hown2, hg2⟩
      have hb2 : Below w.heap.size w w2 := hb.grown hg2 hb.size (fun q hq => (hown.lt q hq).1)
      have hcv := run_convert_own hown2 47 9 Try.underlying47 Try.underlying5 Try.underlying9
      clear hg2
      go_wp2_with fail
      go_ret2
      obtain ⟨e1, e2⟩ := ur_short (by rw [← HD.out]; simp [digs_zero]) hlen
      exact ⟨by rw [e1, e2]; rfl, hb2⟩
end Go.Proofs.Ytbmbgdfnhbkelab
