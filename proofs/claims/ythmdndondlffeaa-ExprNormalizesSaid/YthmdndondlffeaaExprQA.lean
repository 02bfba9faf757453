/- Contract: awake. -/
import Derived.Test.YthmdndondlffeaaExprPL
namespace Go.Proofs.Ythmdndondlffeaa
open Go Go.RowKit Go.Lib
set_option linter.unusedVariables false
/-- the law's end -/
def Yes (w : World) (e : Ending) (w' : World) : Prop := e = .returned (.bool true) ∧ Below w.heap.size w w'
def awKs : List T := [.node 3 0 [], .node 5 0 [.node 8 0 [.node 7 0 [.node 3 1 []]], .node 3 2 []]]
def awS : ByteArray := ⟨#[97, 124, 33, 98, 42, 99]⟩
theorem aw_bytes : bytesI awS = fmtT (.node 4 0 awKs) := by decide +kernel
theorem aw_text : textB (.node 4 0 awKs) = awS := by
  rw [textB_yes (by decide +kernel)]
  rfl
set_option maxRecDepth 100000 in
set_option maxHeartbeats 1000000 in
theorem awake_any (w : World) : Calls Try.prog 9 #[] w (Yes w) := by
  have HP := Lib.hid (parse_ok awS 3 4 0 awKs w ⟨by omega, by omega⟩ (by decide +kernel) (by decide +kernel) (by decide +kernel) aw_bytes (by rw [aw_bytes]; decide +kernel))
  have HF := Lib.hid (fun W a c (h : InX W 4 0 awKs a) => format_any 4 0 awKs a c W h)
  have HT := Lib.hid (show textB (.node 4 0 awKs) = ⟨#[97, 124, 33, 98, 42, 99]⟩ from aw_text)
  have HN := Lib.hid (show awKs.length = 2 from rfl)
  obtain ⟨n, hn⟩ : ∃ n, n = awKs.length := ⟨_, rfl⟩
  unfold ParsP at HP
  rw [← hn] at HP HF HN
  have hn2 : ((n : Int) == 2) = true := by rw [HN.out]; rfl
  go_enter Try.func9, Try.ntmps9
  go_wp2_with fail
  refine (show Calls Try.prog 19 #[.string ⟨#[97, 124, 33, 98, 42, 99]⟩, .int .i64 3] w _ from HP.out).mono ?_
  rintro e w1 ⟨a, c, rfl, hx, hB⟩
  have HX := Lib.hid (hx.box (.cells #[.int .i64 4, .int .i64 0, .slice a n c] 24))
  have HB := Lib.hid (hB.alloc hB.size (.cells #[.int .i64 4, .int .i64 0, .slice a n c] 24))
  have HS := Lib.hid hB.size
  clear hx hB hn
  go_wp2_with fail
  refine (HF.out _ _ _ HX.out).mono ?_
  rintro e w2 ⟨rfl, hB⟩
  rw [HT.out]
  have HB2 := Lib.hid (HB.out.trans (hB.mono (by have := HS.out; simp; omega)))
  clear hB
  go_wp2_with fail
  go_ret
  exact ⟨rfl, HB2.out⟩
end Go.Proofs.Ythmdndondlffeaa
