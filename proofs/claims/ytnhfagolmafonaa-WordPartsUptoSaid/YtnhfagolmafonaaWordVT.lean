/- The walk of the law on parts, of arguments of bounded bulk. -/
import Derived.Test.YtnhfagolmafonaaWordVS
namespace Go.Proofs.Ytnhfagolmafonaa
theorem wWordPartsB (w : World) (u : ByteArray) (_ : u.size ≤ maxLen) (v : ByteArray) (_ : v.size ≤ maxLen) (hsh : w.ShapedOpen Try.prog)
    (hbulk : u.data.toList.length + 1 + (v.data.toList.length + 1 + 0) ≤ 1048576) :
    Calls Try.prog 9 #[.string u, .string v] w fun e w' => e = .returned (.bool true) ∧ RowKit.Below w.heap.size w w' := by
  rw [WordM.size_list, WordM.size_list] at hbulk
  exact wWordParts w u (by omega) v (by omega) (hasMax_of hsh)
end Go.Proofs.Ytnhfagolmafonaa
