/- Contract: Combine. -/
import Derived.Test.YthmdndondlffeaaExprNV
namespace Go.Proofs.Ythmdndondlffeaa
open Go Go.RowKit Go.Sort
set_option linter.unusedVariables false
theorem give_node {w w' : World} {o l : Int} {k : List T} {e : Ending} : GiveT w (.node o l k) e w' ↔ ∃ a c, e = .returned (.agg #[.int .i64 o, .int .i64 l, .slice a k.length c]) ∧ InX w' o l k a ∧ Below w.heap.size w w' := Iff.rfl
set_option maxRecDepth 100000 in
set_option maxHeartbeats 2000000 in
theorem combine_5 (ks : List T) (hg : ∀ k, k ∈ ks → GoodT k) (hs : sizeL ks ≤ 1000000000) (a : Option Addr) (c : Nat) (w : World) (hin : InX w 0 0 ks a) :
    Calls Try.prog 30 #[.int .i64 5, .slice a ks.length c] w (GiveT w (mkT 5 0 ks)) := by
  have ht : Trip 5 emptyT unitT := .inl ⟨rfl, rfl, rfl⟩
  have HGG := Lib.hid (listT_good ht hg)
  have HTR := Lib.hid ht
  have hmk := mkT_list ht 0 ks
  have HG := Lib.hid hg
  have HS := Lib.hid hs
  have HI := Lib.hid hin
  obtain ⟨ro, rl, rk, hr⟩ : ∃ o l k, listT 5 emptyT unitT ks = .node o l k := by
    cases h : listT 5 emptyT unitT ks with
    | node o l k => exact ⟨o, l, k, rfl⟩
  rw [hmk, hr]
  have HR := Lib.hid hr
  have HGD := Lib.hid (show wfT 6 (.node ro rl rk) = true by rw [← hr]; exact HGG.out.1)
  obtain ⟨n, hn⟩ : ∃ n, n = ks.length := ⟨_, rfl⟩
  rw [← hn]
  have HN := Lib.hid hn
  clear hg hs hin hr hmk hn ht
  have HB0 := Lib.hid ((Below.refl w.heap.size w).alloc (Nat.le_refl _) (.cells #[.int .i64 0, .int .i64 0, .slice none 0 0] 24))
  have HZ0 := Lib.hid (Zero3.new w)
  go_enter Try.func30, Try.ntmps30
  go_wp2_with fail
  refine (empty_any _).mono ?_
  rintro e w1 ⟨rfl, hB⟩
  have HB1 := Lib.hid (HB0.out.trans (hB.mono HB0.out.size))
  have HZ1 := Lib.hid (HZ0.out.keep hB)
  have HKP1 := Lib.hid hB
  clear hB
  go_wp2_with fail
  refine (unit_any _).mono ?_
  rintro e w2 ⟨rfl, hB⟩
  have HB2 := Lib.hid (HB1.out.trans (hB.mono HB1.out.size))
  have HZ2 := Lib.hid (HZ1.out.keep hB)
  have HKP2 := Lib.hid hB
  clear hB
  go_wp2_with fail
  have HLI := Lib.hid (normalList_any (op := 5) (ao := 1) (al := 0) (no := 2) (nl := 0) (ak := []) (nk := []) HTR.out ks HG.out HS.out a none none c 0 0 w2 (HI.out.keep HB2.out) (inX_empty _) (inX_unit _))
  rw [show listT 5 (.node 1 0 []) (.node 2 0 []) ks = .node ro rl rk from HR.out] at HLI
  rw [HN.out]
  refine HLI.out.mono ?_
  rintro e w3 hgv
  obtain ⟨a', c', rfl, hx', hb'⟩ := give_node.1 hgv
  have HZ := Lib.hid HZ2.out
  have HBP := Lib.hid HB2.out
  clear hgv
  have HZz := Lib.hid (HZ.out.keep hb')
  obtain ⟨⟨z0, z1, z2⟩, f0, f1, f2⟩ := HZz.out
  have HBF := Lib.hid (below_ret (HBP.out.trans (hb'.mono HBP.out.size)) (b0 := w.heap.size) (by omega) (.int .i64 ro) (.int .i64 rl) (.slice a' rk.length c'))
  have HXF := Lib.hid (inX_ret (x := ⟨ro, rl, rk, a', c'⟩) z0 z1 z2 hx' HGD.out (.int .i64 ro) (.int .i64 rl) (.slice a' rk.length c'))
  clear hx' hb'
  go_wp2_with fail
  refine bodyPost_ret (v := .agg #[.int .i64 ro, .int .i64 rl, .slice a' rk.length c']) (by simp [results, Try.results30, go_sem, z0, z1, z2]) rfl ⟨a', c', rfl, HXF.out, HBF.out⟩
set_option maxRecDepth 100000 in
set_option maxHeartbeats 2000000 in
theorem combine_4 (ks : List T) (hg : ∀ k, k ∈ ks → GoodT k) (hs : sizeL ks ≤ 1000000000) (a : Option Addr) (c : Nat) (w : World) (hin : InX w 0 0 ks a) :
    Calls Try.prog 30 #[.int .i64 4, .slice a ks.length c] w (GiveT w (mkT 4 0 ks)) := by
  have ht : Trip 4 allT emptyT := .inr (.inl ⟨rfl, rfl, rfl⟩)
  have HGG := Lib.hid (listT_good ht hg)
  have HTR := Lib.hid ht
  have hmk := mkT_list ht 0 ks
  have HG := Lib.hid hg
  have HS := Lib.hid hs
  have HI := Lib.hid hin
  obtain ⟨ro, rl, rk, hr⟩ : ∃ o l k, listT 4 allT emptyT ks = .node o l k := by
    cases h : listT 4 allT emptyT ks with
    | node o l k => exact ⟨o, l, k, rfl⟩
  rw [hmk, hr]
  have HR := Lib.hid hr
  have HGD := Lib.hid (show wfT 6 (.node ro rl rk) = true by rw [← hr]; exact HGG.out.1)
  obtain ⟨n, hn⟩ : ∃ n, n = ks.length := ⟨_, rfl⟩
  rw [← hn]
  have HN := Lib.hid hn
  clear hg hs hin hr hmk hn ht
  have HB0 := Lib.hid ((Below.refl w.heap.size w).alloc (Nat.le_refl _) (.cells #[.int .i64 0, .int .i64 0, .slice none 0 0] 24))
  have HZ0 := Lib.hid (Zero3.new w)
  go_enter Try.func30, Try.ntmps30
  go_wp2_with fail
  refine (universal_any _).mono ?_
  rintro e w1 ⟨a9, c9, rfl, hx9, hB⟩
  have HX91 := Lib.hid hx9
  have HB1 := Lib.hid (HB0.out.trans (hB.mono HB0.out.size))
  have HZ1 := Lib.hid (HZ0.out.keep hB)
  have HKP1 := Lib.hid hB
  clear hB hx9
  go_wp2_with fail
  refine (empty_any _).mono ?_
  rintro e w2 ⟨rfl, hB⟩
  have HB2 := Lib.hid (HB1.out.trans (hB.mono HB1.out.size))
  have HZ2 := Lib.hid (HZ1.out.keep hB)
  have HKP2 := Lib.hid hB
  clear hB
  go_wp2_with fail
  have HLI := Lib.hid (normalList_any (op := 4) (ao := 8) (al := 0) (no := 1) (nl := 0) (ak := [emptyT]) (nk := []) HTR.out ks HG.out HS.out a a9 none c c9 0 w2 (HI.out.keep HB2.out) (HX91.out.keep HKP2.out) (inX_empty _))
  rw [show listT 4 (.node 8 0 [emptyT]) (.node 1 0 []) ks = .node ro rl rk from HR.out] at HLI
  rw [HN.out]
  refine HLI.out.mono ?_
  rintro e w3 hgv
  obtain ⟨a', c', rfl, hx', hb'⟩ := give_node.1 hgv
  have HZ := Lib.hid HZ2.out
  have HBP := Lib.hid HB2.out
  clear hgv
  have HZz := Lib.hid (HZ.out.keep hb')
  obtain ⟨⟨z0, z1, z2⟩, f0, f1, f2⟩ := HZz.out
  have HBF := Lib.hid (below_ret (HBP.out.trans (hb'.mono HBP.out.size)) (b0 := w.heap.size) (by omega) (.int .i64 ro) (.int .i64 rl) (.slice a' rk.length c'))
  have HXF := Lib.hid (inX_ret (x := ⟨ro, rl, rk, a', c'⟩) z0 z1 z2 hx' HGD.out (.int .i64 ro) (.int .i64 rl) (.slice a' rk.length c'))
  clear hx' hb'
  go_wp2_with fail
  refine bodyPost_ret (v := .agg #[.int .i64 ro, .int .i64 rl, .slice a' rk.length c']) (by simp [results, Try.results30, go_sem, z0, z1, z2]) rfl ⟨a', c', rfl, HXF.out, HBF.out⟩
set_option maxRecDepth 100000 in
set_option maxHeartbeats 2000000 in
theorem combine_6 (ks : List T) (hg : ∀ k, k ∈ ks → GoodT k) (hs : sizeL ks ≤ 1000000000) (a : Option Addr) (c : Nat) (w : World) (hin : InX w 0 0 ks a) :
    Calls Try.prog 30 #[.int .i64 6, .slice a ks.length c] w (GiveT w (mkT 6 0 ks)) := by
  have ht : Trip 6 emptyT allT := .inr (.inr ⟨rfl, rfl, rfl⟩)
  have HGG := Lib.hid (listT_good ht hg)
  have HTR := Lib.hid ht
  have hmk := mkT_list ht 0 ks
  have HG := Lib.hid hg
  have HS := Lib.hid hs
  have HI := Lib.hid hin
  obtain ⟨ro, rl, rk, hr⟩ : ∃ o l k, listT 6 emptyT allT ks = .node o l k := by
    cases h : listT 6 emptyT allT ks with
    | node o l k => exact ⟨o, l, k, rfl⟩
  rw [hmk, hr]
  have HR := Lib.hid hr
  have HGD := Lib.hid (show wfT 6 (.node ro rl rk) = true by rw [← hr]; exact HGG.out.1)
  obtain ⟨n, hn⟩ : ∃ n, n = ks.length := ⟨_, rfl⟩
  rw [← hn]
  have HN := Lib.hid hn
  clear hg hs hin hr hmk hn ht
  have HB0 := Lib.hid ((Below.refl w.heap.size w).alloc (Nat.le_refl _) (.cells #[.int .i64 0, .int .i64 0, .slice none 0 0] 24))
  have HZ0 := Lib.hid (Zero3.new w)
  go_enter Try.func30, Try.ntmps30
  go_wp2_with fail
  refine (empty_any _).mono ?_
  rintro e w1 ⟨rfl, hB⟩
  have HB1 := Lib.hid (HB0.out.trans (hB.mono HB0.out.size))
  have HZ1 := Lib.hid (HZ0.out.keep hB)
  have HKP1 := Lib.hid hB
  clear hB
  go_wp2_with fail
  refine (universal_any _).mono ?_
  rintro e w2 ⟨a9, c9, rfl, hx9, hB⟩
  have HX92 := Lib.hid hx9
  have HB2 := Lib.hid (HB1.out.trans (hB.mono HB1.out.size))
  have HZ2 := Lib.hid (HZ1.out.keep hB)
  have HKP2 := Lib.hid hB
  clear hB hx9
  go_wp2_with fail
  have HLI := Lib.hid (normalList_any (op := 6) (ao := 1) (al := 0) (no := 8) (nl := 0) (ak := []) (nk := [emptyT]) HTR.out ks HG.out HS.out a none a9 c 0 c9 w2 (HI.out.keep HB2.out) (inX_empty _) HX92.out)
  rw [show listT 6 (.node 1 0 []) (.node 8 0 [emptyT]) ks = .node ro rl rk from HR.out] at HLI
  rw [HN.out]
  refine HLI.out.mono ?_
  rintro e w3 hgv
  obtain ⟨a', c', rfl, hx', hb'⟩ := give_node.1 hgv
  have HZ := Lib.hid HZ2.out
  have HBP := Lib.hid HB2.out
  clear hgv
  have HZz := Lib.hid (HZ.out.keep hb')
  obtain ⟨⟨z0, z1, z2⟩, f0, f1, f2⟩ := HZz.out
  have HBF := Lib.hid (below_ret (HBP.out.trans (hb'.mono HBP.out.size)) (b0 := w.heap.size) (by omega) (.int .i64 ro) (.int .i64 rl) (.slice a' rk.length c'))
  have HXF := Lib.hid (inX_ret (x := ⟨ro, rl, rk, a', c'⟩) z0 z1 z2 hx' HGD.out (.int .i64 ro) (.int .i64 rl) (.slice a' rk.length c'))
  clear hx' hb'
  go_wp2_with fail
  refine bodyPost_ret (v := .agg #[.int .i64 ro, .int .i64 rl, .slice a' rk.length c']) (by simp [results, Try.results30, go_sem, z0, z1, z2]) rfl ⟨a', c', rfl, HXF.out, HBF.out⟩
set_option maxRecDepth 100000 in
set_option maxHeartbeats 2000000 in
theorem combine_8 (k : T) (hgk : GoodT k) (a : Option Addr) (c : Nat) (w : World) (hin : InX w 0 0 [k] a) :
    Calls Try.prog 30 #[.int .i64 8, .slice a 1 c] w (GiveT w (mkT 8 0 [k])) := by
  obtain ⟨ko, kl, kk⟩ := k
  have hmk : mkT 8 0 [.node ko kl kk] = notT (.node ko kl kk) := rfl
  obtain ⟨ro, rl, rk, hr⟩ : ∃ o l k, notT (.node ko kl kk) = .node o l k := by
    cases h : notT (.node ko kl kk) with
    | node o l k => exact ⟨o, l, k, rfl⟩
  have HGD := Lib.hid (show wfT 6 (.node ro rl rk) = true by rw [← hr]; exact (notT_all hgk).1.1)
  have HB0 := Lib.hid ((Below.refl w.heap.size w).alloc (Nat.le_refl _) (.cells #[.int .i64 0, .int .i64 0, .slice none 0 0] 24))
  have HZ := Lib.hid (Zero3.new w)
  obtain ⟨b, off, a1, c1, rfl, hbz, d0, d1, d2, hx⟩ := (hin.keep HB0.out).kid (i := 0) rfl
  simp only [Nat.zero_mul, Nat.add_zero] at d0 d1 d2
  have HC := Lib.hid (normalNot_any ko kl kk hgk a1 c1 _ hx)
  rw [hr] at HC
  rw [hmk, hr]
  have HBP := Lib.hid HB0.out
  obtain ⟨n, hn⟩ : ∃ n, n = kk.length := ⟨_, rfl⟩
  rw [← hn] at HC d2
  have hl0 : (0 : Int) < 1 := by decide
  clear hin hx hr hmk hn hgk
  go_enter Try.func30, Try.ntmps30
  go_wp2_with fail
  refine HC.out.mono ?_
  rintro e w3 hgv
  obtain ⟨a', c', rfl, hx', hb'⟩ := give_node.1 hgv
  clear hgv
  have HZz := Lib.hid (HZ.out.keep hb')
  obtain ⟨⟨z0, z1, z2⟩, f0, f1, f2⟩ := HZz.out
  have HBF := Lib.hid (below_ret (HBP.out.trans (hb'.mono HBP.out.size)) (b0 := w.heap.size) (by omega) (.int .i64 ro) (.int .i64 rl) (.slice a' rk.length c'))
  have HXF := Lib.hid (inX_ret (x := ⟨ro, rl, rk, a', c'⟩) z0 z1 z2 hx' HGD.out (.int .i64 ro) (.int .i64 rl) (.slice a' rk.length c'))
  clear hx' hb'
  go_wp2_with fail
  refine bodyPost_ret (v := .agg #[.int .i64 ro, .int .i64 rl, .slice a' rk.length c']) (by simp [results, Try.results30, go_sem, z0, z1, z2]) rfl ⟨a', c', rfl, HXF.out, HBF.out⟩
set_option maxRecDepth 100000 in
set_option maxHeartbeats 2000000 in
theorem combine_7 (k : T) (hgk : GoodT k) (a : Option Addr) (c : Nat) (w : World) (hin : InX w 0 0 [k] a) :
    Calls Try.prog 30 #[.int .i64 7, .slice a 1 c] w (GiveT w (mkT 7 0 [k])) := by
  obtain ⟨ko, kl, kk⟩ := k
  have hmk : mkT 7 0 [.node ko kl kk] = starT (.node ko kl kk) := rfl
  obtain ⟨ro, rl, rk, hr⟩ : ∃ o l k, starT (.node ko kl kk) = .node o l k := by
    cases h : starT (.node ko kl kk) with
    | node o l k => exact ⟨o, l, k, rfl⟩
  have HGD := Lib.hid (show wfT 6 (.node ro rl rk) = true by rw [← hr]; exact (starT_all hgk).1.1)
  have HB0 := Lib.hid ((Below.refl w.heap.size w).alloc (Nat.le_refl _) (.cells #[.int .i64 0, .int .i64 0, .slice none 0 0] 24))
  have HZ := Lib.hid (Zero3.new w)
  obtain ⟨b, off, a1, c1, rfl, hbz, d0, d1, d2, hx⟩ := (hin.keep HB0.out).kid (i := 0) rfl
  simp only [Nat.zero_mul, Nat.add_zero] at d0 d1 d2
  have HC := Lib.hid (normalStar_any ko kl kk a1 c1 _ hx)
  rw [hr] at HC
  rw [hmk, hr]
  have HBP := Lib.hid HB0.out
  obtain ⟨n, hn⟩ : ∃ n, n = kk.length := ⟨_, rfl⟩
  rw [← hn] at HC d2
  have hl0 : (0 : Int) < 1 := by decide
  clear hin hx hr hmk hn hgk
  go_enter Try.func30, Try.ntmps30
  go_wp2_with fail
  refine HC.out.mono ?_
  rintro e w3 hgv
  obtain ⟨a', c', rfl, hx', hb'⟩ := give_node.1 hgv
  clear hgv
  have HZz := Lib.hid (HZ.out.keep hb')
  obtain ⟨⟨z0, z1, z2⟩, f0, f1, f2⟩ := HZz.out
  have HBF := Lib.hid (below_ret (HBP.out.trans (hb'.mono HBP.out.size)) (b0 := w.heap.size) (by omega) (.int .i64 ro) (.int .i64 rl) (.slice a' rk.length c'))
  have HXF := Lib.hid (inX_ret (x := ⟨ro, rl, rk, a', c'⟩) z0 z1 z2 hx' HGD.out (.int .i64 ro) (.int .i64 rl) (.slice a' rk.length c'))
  clear hx' hb'
  go_wp2_with fail
  refine bodyPost_ret (v := .agg #[.int .i64 ro, .int .i64 rl, .slice a' rk.length c']) (by simp [results, Try.results30, go_sem, z0, z1, z2]) rfl ⟨a', c', rfl, HXF.out, HBF.out⟩
theorem combine_any (op : Int) (ks : List T) (hc : (op = 4 ∨ op = 5 ∨ op = 6) ∨ ((op = 7 ∨ op = 8) ∧ ks.length = 1)) (hg : ∀ k, k ∈ ks → GoodT k) (hs : sizeL ks ≤ 1000000000) (a : Option Addr) (c : Nat) (w : World) (hin : InX w 0 0 ks a) :
    Calls Try.prog 30 #[.int .i64 op, .slice a ks.length c] w (GiveT w (mkT op 0 ks)) := by
  rcases hc with (rfl | rfl | rfl) | ⟨h, h1⟩
  · exact combine_4 ks hg hs a c w hin
  · exact combine_5 ks hg hs a c w hin
  · exact combine_6 ks hg hs a c w hin
  · obtain ⟨k, rfl⟩ := List.length_eq_one_iff.1 h1
    rcases h with rfl | rfl
    · exact combine_7 k (hg k (by simp)) a c w hin
    · exact combine_8 k (hg k (by simp)) a c w hin
end Go.Proofs.Ythmdndondlffeaa
