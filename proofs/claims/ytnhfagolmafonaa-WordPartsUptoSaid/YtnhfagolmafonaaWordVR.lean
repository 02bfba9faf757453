/- Contracts: word.Reverse, the reference's Reverse, IsFactor and IsSubword. -/
import Derived.Test.YtnhfagolmafonaaWordD
import Derived.Lib.ConvBytes
namespace Go.Proofs.Ytnhfagolmafonaa
open Go.RowKit Go.Sort
open WordM
set_option linter.unusedVariables false

/-- the bytes of s turned round -/
def revS (s : ByteArray) : ByteArray := ⟨s.data.toList.reverse.toArray⟩
theorem revS_data (s : ByteArray) : (revS s).data.toList = s.data.toList.reverse := rfl
theorem revS_size (s : ByteArray) : (revS s).size = s.size := by
  rw [← size_list, revS_data, List.length_reverse, size_list]
/-- the byte numbers of s -/
def nums (s : ByteArray) : List Int := s.data.toList.map fun c => (c.toNat : Int)
theorem nums_length (s : ByteArray) : (nums s).length = s.size := by simp [nums]
theorem nums_rev (s : ByteArray) : strOfNums (nums s).reverse = revS s := by
  apply ext_data
  rw [strOfNums_data, revS_data, nums, ← List.map_reverse, List.map_map]
  have : ((fun n : Int => UInt8.ofNat n.toNat) ∘ fun c : UInt8 => (c.toNat : Int)) = id := by
    funext c; simp
  rw [this, List.map_id]

theorem below_bytes (w : World) (e : TypeId) (s : ByteArray) : Below w.heap.size w (Lib.bytesWorld w e s) :=
  ⟨rfl, rfl, rfl, by rw [Lib.bytesWorld_size]; omega, fun k hk => Lib.bytesWorld_at_old w e s k hk⟩
theorem below_put {B g q : Nat} {w w' : World} {d : Array Int} (h : Below B w w') (hB : B ≤ g) : Below B w (putRow encB (Sort.ahead w' q) g 0 d) := by
  refine h.trans ⟨rfl, rfl, rfl, by simp, fun k hk => ?_⟩
  have hne : g ≠ k := by omega
  simp [putRow, mapBlock, Array.getElem?_modify, hne, Sort.ahead]
theorem frozen_bytes (w : World) (e : TypeId) (s : ByteArray) (j : Nat) (hj : j < s.size) : (Lib.bytesWorld w e s).frozen? ⟨w.heap.size, j, none⟩ = false := by
  have hn : (Lib.bytesCells w e s).size ≥ s.size := by simp [Lib.bytesCells]
  simp only [World.frozen?, Lib.bytesWorld_at_new]
  simp
  omega
theorem holds_bytes (w : World) (e : TypeId) (s : ByteArray) : Holds encB (Lib.bytesWorld w e s) w.heap.size 0 (nums s).toArray := by
  intro j hj
  have hj' : j < s.size := by simpa [nums] using hj
  refine ⟨?_, by rw [Nat.zero_add]; exact frozen_bytes w e s j hj'⟩
  rw [Nat.zero_add, Lib.bytesWorld_cell w e s j hj']
  have hl : j < s.data.toList.length := by simpa using hj'
  simp [nums, hj', List.getD]

set_option maxRecDepth 100000 in
set_option maxHeartbeats 1000000 in
theorem rev_any (s : ByteArray) (w : World) (hs : s.size ≤ 9223372036854775807) :
    Calls Try.prog 24 #[.string s] w fun e w' => e = .returned (.string (revS s)) ∧ Below w.heap.size w w' := by
  obtain ⟨W1, cp, hcv, hb1, hH, hW1⟩ : ∃ W1 cp, (convert 9 47 (.string s)).run Try.prog w = .ok (.slice (some ⟨w.heap.size, 0, none⟩) s.size cp) W1 ∧ Below w.heap.size w W1 ∧ Holds encB W1 w.heap.size 0 (nums s).toArray ∧ w.heap.size < W1.heap.size :=
    ⟨_, _, Lib.run_convert_string_bytes w 9 47 5 s Try.underlying9 Try.underlying47 Try.underlying5, below_bytes w _ s, holds_bytes w _ s, by rw [Lib.bytesWorld_size]; omega⟩
  have HS := Lib.hid (nums_rev s)
  have HL := Lib.hid (nums_length s)
  have HH := Lib.hid hH
  clear hH
  go_enter Try.func24, Try.ntmps24
  go_wp2_with fail
  have hrev := reverse_any w.heap.size 0 cp (nums s) W1 HH.out (by rw [HL.out]; exact hs)
  rw [HL.out] at hrev
  refine hrev.mono ?_
  rintro e w2 ⟨rfl, q, hw2⟩
  have hb2 : Below w.heap.size w w2 := by rw [hw2]; exact below_put hb1 (Nat.le_refl _)
  have hH2 : Holds encB w2 w.heap.size 0 (nums s).reverse.toArray := by
    rw [hw2]; exact holds_putRow encB _ _ 0 (nums s).toArray _ (holds_ahead encB W1 q _ 0 _ HH.out) (by simp)
  have hcv2 := run_convert_bytes_arg (P := Try.prog) w2 47 5 Try.underlying47 Try.underlying5 w.heap.size 0 s.size cp (nums s).reverse (by rw [List.length_reverse]; exact HL.out) (fun i hi => by
    have h1 := (hH2 i (by simp; rw [HL.out]; exact hi)).1
    have hi2 : i < (nums s).reverse.length := by rw [List.length_reverse, HL.out]; exact hi
    rw [h1]
    simp only [List.getD, List.getElem?_eq_getElem hi2, Option.getD_some]
    rw [getElem!_pos _ _ (by simpa using hi2)]
    simp) 9 Try.underlying9
  rw [HS.out] at hcv2
  clear hw2 hH2 hcv hrev
  go_wp2_with fail
  go_ret
  exact ⟨rfl, hb2⟩
end Go.Proofs.Ytnhfagolmafonaa
