/- Contracts: ab, awake. -/
import Derived.Test.YtdoifdpmgmlpdaaNfaOK
import Derived.Test.YtdoifdpmgmlpdaaNfaW
namespace Go.Proofs.Ytdoifdpmgmlpdaa
open Go Go.RowKit
set_option linter.unusedVariables false
def abT : T := .node 7 0 [.node 5 0 [.node 3 0 [], .node 3 1 []]]
theorem inK_two {w : World} {b : Nat} (h : w.heap[b]? = some (.cells #[.int .i64 3, .int .i64 0, .slice none 0 0, .int .i64 3, .int .i64 1, .slice none 0 0] 49)) : InK w (some ⟨b, 0, none⟩) [.node 3 0 [], .node 3 1 []] := by
  have hb : b < w.heap.size := by
    apply Nat.lt_of_not_le; intro hle; rw [Array.getElem?_eq_none hle] at h; cases h
  refine .row b 0 _ (fun _ => none) (fun _ => 0) hb (fun i k hk => ?_) (fun i k hk => ?_) (fun i k hk => ?_)
  · match i, hk with
    | 0, hk => simp at hk; subst hk; simp [World.cell?, h, T.op, T.lt, T.ks]
    | 1, hk => simp at hk; subst hk; simp [World.cell?, h, T.op, T.lt, T.ks]
    | i + 2, hk => simp at hk
  · match i, hk with
    | 0, hk => simp at hk; subst hk; unfold B64; simp [T.op, T.lt, T.ks]
    | 1, hk => simp at hk; subst hk; unfold B64; simp [T.op, T.lt, T.ks]
    | i + 2, hk => simp at hk
  · match i, hk with
    | 0, hk => simp at hk; subst hk; exact .zero _
    | 1, hk => simp at hk; subst hk; exact .zero _
    | i + 2, hk => simp at hk
theorem inK_ab {w : World} {b b2 : Nat} (h : w.heap[b]? = some (.cells #[.int .i64 3, .int .i64 0, .slice none 0 0, .int .i64 3, .int .i64 1, .slice none 0 0] 49)) (h2 : w.heap[b2]? = some (.cells #[.int .i64 5, .int .i64 0, .slice (some ⟨b, 0, none⟩) 2 2] 49)) : InK w (some ⟨b2, 0, none⟩) [.node 5 0 [.node 3 0 [], .node 3 1 []]] := by
  have hb : b2 < w.heap.size := by
    apply Nat.lt_of_not_le; intro hle; rw [Array.getElem?_eq_none hle] at h2; cases h2
  refine .row b2 0 _ (fun _ => some ⟨b, 0, none⟩) (fun _ => 2) hb (fun i k hk => ?_) (fun i k hk => ?_) (fun i k hk => ?_)
  · match i, hk with
    | 0, hk => simp at hk; subst hk; simp [World.cell?, h2, T.op, T.lt, T.ks]
    | i + 1, hk => simp at hk
  · match i, hk with
    | 0, hk => simp at hk; subst hk; unfold B64; simp [T.op, T.lt, T.ks]
    | i + 1, hk => simp at hk
  · match i, hk with
    | 0, hk => simp at hk; subst hk; exact inK_two h
    | i + 1, hk => simp at hk
set_option maxRecDepth 100000 in
set_option maxHeartbeats 2000000 in
theorem ab_any (w : World) : Calls Try.prog 34 #[] w fun e w' => ∃ a, e = .returned (.agg #[.int .i64 7, .int .i64 0, .slice a 1 1]) ∧ InX w' 7 0 [.node 5 0 [.node 3 0 [], .node 3 1 []]] a ∧ Below w.heap.size w w' := by
  go_enter Try.func34, Try.ntmps34
  go_wp2_with fail
  refine bodyPost_ret (v := .agg #[.int .i64 7, .int .i64 0, .slice (some ⟨w.heap.size + 4, 0, none⟩) 1 1]) (by simp [results, Try.results34, go_sem]) rfl ⟨_, rfl, ⟨inK_ab (b := w.heap.size + 3) ?_ ?_, by unfold B64; omega, by unfold B64; omega, by simp⟩, ?_⟩
  · exact heap_old (heap_new' (by simp))
  · exact heap_new' (by simp)
  · exact (((((Below.refl w.heap.size w).alloc (Nat.le_refl _) _).alloc (by simp) _).alloc (by simp; omega) _).alloc (by simp; omega) _).alloc (by simp; omega) _
def abE : List Ed := [⟨0, 0, 1⟩, ⟨1, 1, 2⟩, ⟨2, 0, 1⟩]
theorem ab_err : errP abT 2 = 0 := by decide +kernel
theorem ab_let : letT abT = 2 := by decide +kernel
theorem ab_pos : posE abT 2 = abE ∧ (posV abT 2).2.la = 5 := by decide +kernel
theorem ab_val : valN 2 3 1 5 abE = true := by decide +kernel
theorem ab_yes : accB 2 1 5 abE ⟨#[97, 98, 97, 98]⟩ = true := by decide +kernel
theorem ab_no : accB 2 1 5 abE ⟨#[97, 98, 97]⟩ = false := by decide +kernel
set_option maxRecDepth 100000 in
set_option maxHeartbeats 4000000 in
theorem awake_any (w : World) : Calls Try.prog 11 #[] w fun e w' => e = .returned (.bool true) ∧ Below w.heap.size w w' := by
  have HP := Lib.hid (fun a W (h : InX W 7 0 [.node 5 0 [.node 3 0 [], .node 3 1 []]] a) => position_ok 7 0 [.node 5 0 [.node 3 0 [], .node 3 1 []]] 2 a 1 W h ab_err (by show 1 + letT abT ≤ 64; rw [ab_let]; decide))
  unfold PosOk at HP
  rw [show letT (T.node 7 0 [.node 5 0 [.node 3 0 [], .node 3 1 []]]) = 2 from ab_let, show posE (T.node 7 0 [.node 5 0 [.node 3 0 [], .node 3 1 []]]) 2 = abE from ab_pos.1, show (posV (T.node 7 0 [.node 5 0 [.node 3 0 [], .node 3 1 []]]) 2).2.la = 5 from ab_pos.2] at HP
  have HA1 := Lib.hid (fun a c W (h : InN W 2 3 1 5 a abE) => accepts_any 2 3 1 5 abE a c ⟨#[97, 98, 97, 98]⟩ W h ab_val)
  have HA2 := Lib.hid (fun a c W (h : InN W 2 3 1 5 a abE) => accepts_any 2 3 1 5 abE a c ⟨#[97, 98, 97]⟩ W h ab_val)
  rw [ab_yes] at HA1
  rw [ab_no] at HA2
  rw [show abE.length = 3 from rfl] at HA1 HA2 HP
  simp only [List.length_singleton] at HP
  go_enter Try.func11, Try.ntmps11
  go_wp2_with fail
  refine (ab_any _).mono ?_
  rintro e w1 ⟨a, rfl, hx, hB⟩
  have HX := Lib.hid hx
  have HB1 := Lib.hid hB
  clear hx hB
  go_wp2_with fail
  refine (HP.out a _ HX.out).mono ?_
  rintro e w2 ⟨a', c', rfl, hE, hB⟩
  have HB2 := Lib.hid (HB1.out.trans (hB.mono HB1.out.size))
  have HN := Lib.hid (show InN w2 2 3 1 5 a' abE from ⟨hE, by unfold B64; omega, by unfold B64; omega, by omega, by omega, by decide⟩)
  clear hB hE
  go_wp2_with fail
  refine (HA1.out a' c' _ ?_).mono ?_
  · exact HN.out.box _
  rintro e w3 ⟨rfl, hB⟩
  have HB3 := Lib.hid (show Below (w2.heap.size + 1) (w2.alloc (.cells #[.int .i64 2, .int .i64 3, .int .u64 1, .int .u64 5, .slice a' 3 c'] 25)) w3 from hB.mono (by simp))
  have HN3 := Lib.hid ((HN.out.box (.cells #[.int .i64 2, .int .i64 3, .int .u64 1, .int .u64 5, .slice a' 3 c'] 25)).keep hB)
  obtain ⟨z0, z1, z2, z3, z4⟩ := nbox_cells HB3.out
  clear hB
  go_wp2_with fail
  refine (HA2.out a' c' _ ?_).mono ?_
  · exact HN3.out
  rintro e w4 ⟨rfl, hB⟩
  have HB4 := Lib.hid (HB2.out.trans ((below_nbox (HB3.out.trans (hB.mono (by have := HB3.out.size; simp at this; omega)))).mono HB2.out.size))
  clear hB
  go_wp2_with fail
  go_ret
  exact ⟨rfl, HB4.out⟩
end Go.Proofs.Ytdoifdpmgmlpdaa
