/- Contract: normal. -/
import Derived.Test.YthmdndondlffeaaExprNV
namespace Go.Proofs.Ythmdndondlffeaa
open Go Go.RowKit Go.Sort
set_option linter.unusedVariables false
theorem give_node {w w' : World} {o l : Int} {k : List T} {e : Ending} : GiveT w (.node o l k) e w' ↔ ∃ a c, e = .returned (.agg #[.int .i64 o, .int .i64 l, .slice a k.length c]) ∧ InX w' o l k a ∧ Below w.heap.size w w' := Iff.rfl
set_option maxRecDepth 100000 in
set_option maxHeartbeats 2000000 in
theorem combine_5 (ks : List T) (hg : ∀ k, k ∈ ks → GoodT k) (hs : sizeL ks ≤ 1000000000) (a : Option Addr) (c : Nat) (w : World) (hin : InX w 0 0 ks a) :
    Calls Try.prog 30 #[.int .i64 5, .slice a ks.length c] w (GiveT w (mkT 5 0 ks)) := by
  have ht : Trip 5 emptyT unitT := .inl ⟨rfl, rfl, rfl⟩
  have HGG := Lib.hid (listT_good ht hg)
  have HTR := Lib.hid ht
  have hmk := mkT_list ht 0 ks
  have HG := Lib.hid hg
  have HS := Lib.hid hs
  have HI := Lib.hid hin
  obtain ⟨ro, rl, rk, hr⟩ : ∃ o l k, listT 5 emptyT unitT ks = .node o l k := by
    cases h : listT 5 emptyT unitT ks with
    | node o l k => exact ⟨o, l, k, rfl⟩
  rw [hmk, hr]
  have HR := Lib.hid hr
  have HGD := Lib.hid (show wfT 6 (.node ro rl rk) = true by rw [← hr]; exact HGG.out.1)
  obtain ⟨n, hn⟩ : ∃ n, n = ks.length := ⟨_, rfl⟩
  rw [← hn]
  have HN := Lib.hid hn
  clear hg hs hin hr hmk hn ht
  have HB0 := Lib.hid ((Below.refl w.heap.size w).alloc (Nat.le_refl _) (.cells #[.int .i64 0, .int .i64 0, .slice none 0 0] 24))
  have HZ0 := Lib.hid (Zero3.new w)
  go_enter Try.func30, Try.ntmps30
  go_wp2_with fail
  refine (empty_any _).mono ?_
  rintro e w1 ⟨rfl, hB⟩
  have HB1 := Lib.hid (HB0.out.trans (hB.mono HB0.out.size))
  have HZ1 := Lib.hid (HZ0.out.keep hB)
  have HKP1 := Lib.hid hB
  clear hB
  go_wp2_with fail
  refine (unit_any _).mono ?_
  rintro e w2 ⟨rfl, hB⟩
  have HB2 := Lib.hid (HB1.out.trans (hB.mono HB1.out.size))
  have HZ2 := Lib.hid (HZ1.out.keep hB)
  have HKP2 := Lib.hid hB
  clear hB
  go_wp2_with fail
  have HLI := Lib.hid (normalList_any (op := 5) (ao := 1) (al := 0) (no := 2) (nl := 0) (ak := []) (nk := []) HTR.out ks HG.out HS.out a none none c 0 0 w2 (HI.out.keep HB2.out) (inX_empty _) (inX_unit _))
  rw [show listT 5 (.node 1 0 []) (.node 2 0 []) ks = .node ro rl rk from HR.out] at HLI
  rw [HN.out]
  refine HLI.out.mono ?_
  rintro e w3 hgv
  obtain ⟨a', c', rfl, hx', hb'⟩ := give_node.1 hgv
  have HZ := Lib.hid HZ2.out
  have HBP := Lib.hid HB2.out
  clear hgv
  have HZz := Lib.hid (HZ.out.keep hb')
  obtain ⟨⟨z0, z1, z2⟩, f0, f1, f2⟩ := HZz.out
  have HBF := Lib.hid (below_ret (HBP.out.trans (hb'.mono HBP.out.size)) (b0 := w.heap.size) (by omega) (.int .i64 ro) (.int .i64 rl) (.slice a' rk.length c'))
  have HXF := Lib.hid (inX_ret (x := ⟨ro, rl, rk, a', c'⟩) z0 z1 z2 hx' HGD.out (.int .i64 ro) (.int .i64 rl) (.slice a' rk.length c'))
  clear hx' hb'
  go_wp2_with fail
  refine bodyPost_ret (v := .agg #[.int .i64 ro, .int .i64 rl, .slice a' rk.length c']) (by simp [results, Try.results30, go_sem, z0, z1, z2]) rfl ⟨a', c', rfl, HXF.out, HBF.out⟩
set_option maxRecDepth 100000 in
set_option maxHeartbeats 2000000 in
theorem combine_4 (ks : List T) (hg : ∀ k, k ∈ ks → GoodT k) (hs : sizeL ks ≤ 1000000000) (a : Option Addr) (c : Nat) (w : World) (hin : InX w 0 0 ks a) :
    Calls Try.prog 30 #[.int .i64 4, .slice a ks.length c] w (GiveT w (mkT 4 0 ks)) := by
  have ht : Trip 4 allT emptyT := .inr (.inl ⟨rfl, rfl, rfl⟩)
  have HGG := Lib.hid (listT_good ht hg)
  have HTR := Lib.hid ht
  have hmk := mkT_list ht 0 ks
  have HG := Lib.hid hg
  have HS := Lib.hid hs
  have HI := Lib.hid hin
  obtain ⟨ro, rl, rk, hr⟩ : ∃ o l k, listT 4 allT emptyT ks = .node o l k := by
    cases h : listT 4 allT emptyT ks with
    | node o l k => exact ⟨o, l, k, rfl⟩
  rw [hmk, hr]
  have HR := Lib.hid hr
  have HGD := Lib.hid (show wfT 6 (.node ro rl rk) = true by rw [← hr]; exact HGG.out.1)
  obtain ⟨n, hn⟩ : ∃ n, n = ks.length := ⟨_, rfl⟩
  rw [← hn]
  have HN := Lib.hid hn
  clear hg hs hin hr hmk hn ht
  have HB0 := Lib.hid ((Below.refl w.heap.size w).alloc (Nat.le_refl _) (.cells #[.int .i64 0, .int .i64 0, .slice none 0 0] 24))
  have HZ0 := Lib.hid (Zero3.new w)
  go_enter Try.func30, Try.ntmps30
  go_wp2_with fail
  refine (universal_any _).mono ?_
  rintro e w1 ⟨a9, c9, rfl, hx9, hB⟩
  have HX91 := Lib.hid hx9
  have HB1 := Lib.hid (HB0.out.trans (hB.mono HB0.out.size))
  have HZ1 := Lib.hid (HZ0.out.keep hB)
  have HKP1 := Lib.hid hB
  clear hB hx9
  go_wp2_with fail
  refine (empty_any _).mono ?_
  rintro e w2 ⟨rfl, hB⟩
  have HB2 := Lib.hid (HB1.out.trans (hB.mono HB1.out.size))
  have HZ2 := Lib.hid (HZ1.out.keep hB)
  have HKP2 := Lib.hid hB
  clear hB
  go_wp2_with fail
  have HLI := Lib.hid (normalList_any (op := 4) (ao := 8) (al := 0) (no := 1) (nl := 0) (ak := [emptyT]) (nk := []) HTR.out ks HG.out HS.out a a9 none c c9 0 w2 (HI.out.keep HB2.out) (HX91.out.keep HKP2.out) (inX_empty _))
  rw [show listT 4 (.node 8 0 [emptyT]) (.node 1 0 []) ks = .node ro rl rk from HR.out] at HLI
  rw [HN.out]
  refine HLI.out.mono ?_
  rintro e w3 hgv
  obtain ⟨a', c', rfl, hx', hb'⟩ := give_node.1 hgv
  have HZ := Lib.hid HZ2.out
  have HBP := Lib.hid HB2.out
  clear hgv
  have HZz := Lib.hid (HZ.out.keep hb')
  obtain ⟨⟨z0, z1, z2⟩, f0, f1, f2⟩ := HZz.out
  have HBF := Lib.hid (below_ret (HBP.out.trans (hb'.mono HBP.out.size)) (b0 := w.heap.size) (by omega) (.int .i64 ro) (.int .i64 rl) (.slice a' rk.length c'))
  have HXF := Lib.hid (inX_ret (x := ⟨ro, rl, rk, a', c'⟩) z0 z1 z2 hx' HGD.out (.int .i64 ro) (.int .i64 rl) (.slice a' rk.length c'))
  clear hx' hb'
  go_wp2_with fail
  refine bodyPost_ret (v := .agg #[.int .i64 ro, .int .i64 rl, .slice a' rk.length c']) (by simp [results, Try.results30, go_sem, z0, z1, z2]) rfl ⟨a', c', rfl, HXF.out, HBF.out⟩
set_option maxRecDepth 100000 in
set_option maxHeartbeats 2000000 in
theorem combine_6 (ks : List T) (hg : ∀ k, k ∈ ks → GoodT k) (hs : sizeL ks ≤ 1000000000) (a : Option Addr) (c : Nat) (w : World) (hin : InX w 0 0 ks a) :
    Calls Try.prog 30 #[.int .i64 6, .slice a ks.length c] w (GiveT w (mkT 6 0 ks)) := by
  have ht : Trip 6 emptyT allT := .inr (.inr ⟨rfl, rfl, rfl⟩)
  have HGG := Lib.hid (listT_good ht hg)
  have HTR := Lib.hid ht
  have hmk := mkT_list ht 0 ks
  have HG := Lib.hid hg
  have HS := Lib.hid hs
  have HI := Lib.hid hin
  obtain ⟨ro, rl, rk, hr⟩ : ∃ o l k, listT 6 emptyT allT ks = .node o l k := by
    cases h : listT 6 emptyT allT ks with
    | node o l k => exact ⟨o, l, k, rfl⟩
  rw [hmk, hr]
  have HR := Lib.hid hr
  have HGD := Lib.hid (show wfT 6 (.node ro rl rk) = true by rw [← hr]; exact HGG.out.1)
  obtain ⟨n, hn⟩ : ∃ n, n = ks.length := ⟨_, rfl⟩
  rw [← hn]
  have HN := Lib.hid hn
  clear hg hs hin hr hmk hn ht
  have HB0 := Lib.hid ((Below.refl w.heap.size w).alloc (Nat.le_refl _) (.cells #[.int .i64 0, .int .i64 0, .slice none 0 0] 24))
  have HZ0 := Lib.hid (Zero3.new w)
  go_enter Try.func30, Try.ntmps30
  go_wp2_with fail
  refine (empty_any _).mono ?_
  rintro e w1 ⟨rfl, hB⟩
  have HB1 := Lib.hid (HB0.out.trans (hB.mono HB0.out.size))
  have HZ1 := Lib.hid (HZ0.out.keep hB)
  have HKP1 := Lib.hid hB
  clear hB
  go_wp2_with fail
  refine (universal_any _).mono ?_
  rintro e w2 ⟨a9, c9, rfl, hx9, hB⟩
  have HX92 := Lib.hid hx9
  have HB2 := Lib.hid (HB1.out.trans (hB.mono HB1.out.size))
  have HZ2 := Lib.hid (HZ1.out.keep hB)
  have HKP2 := Lib.hid hB
  clear hB hx9
  go_wp2_with fail
  have HLI := Lib.hid (normalList_any (op := 6) (ao := 1) (al := 0) (no := 8) (nl := 0) (ak := []) (nk := [emptyT]) HTR.out ks HG.out HS.out a none a9 c 0 c9 w2 (HI.out.keep HB2.out) (inX_empty _) HX92.out)
  rw [show listT 6 (.node 1 0 []) (.node 8 0 [emptyT]) ks = .node ro rl rk from HR.out] at HLI
  rw [HN.out]
  refine HLI.out.mono ?_
  rintro e w3 hgv
  obtain ⟨a', c', rfl, hx', hb'⟩ := give_node.1 hgv
  have HZ := Lib.hid HZ2.out
  have HBP := Lib.hid HB2.out
  clear hgv
  have HZz := Lib.hid (HZ.out.keep hb')
  obtain ⟨⟨z0, z1, z2⟩, f0, f1, f2⟩ := HZz.out
  have HBF := Lib.hid (below_ret (HBP.out.trans (hb'.mono HBP.out.size)) (b0 := w.heap.size) (by omega) (.int .i64 ro) (.int .i64 rl) (.slice a' rk.length c'))
  have HXF := Lib.hid (inX_ret (x := ⟨ro, rl, rk, a', c'⟩) z0 z1 z2 hx' HGD.out (.int .i64 ro) (.int .i64 rl) (.slice a' rk.length c'))
  clear hx' hb'
  go_wp2_with fail
  refine bodyPost_ret (v := .agg #[.int .i64 ro, .int .i64 rl, .slice a' rk.length c']) (by simp [results, Try.results30, go_sem, z0, z1, z2]) rfl ⟨a', c', rfl, HXF.out, HBF.out⟩
set_option maxRecDepth 100000 in
set_option maxHeartbeats 2000000 in
theorem combine_8 (k : T) (hgk : GoodT k) (a : Option Addr) (c : Nat) (w : World) (hin : InX w 0 0 [k] a) :
    Calls Try.prog 30 #[.int .i64 8, .slice a 1 c] w (GiveT w (mkT 8 0 [k])) := by
  obtain ⟨ko, kl, kk⟩ := k
  have hmk : mkT 8 0 [.node ko kl kk] = notT (.node ko kl kk) := rfl
  obtain ⟨ro, rl, rk, hr⟩ : ∃ o l k, notT (.node ko kl kk) = .node o l k := by
    cases h : notT (.node ko kl kk) with
    | node o l k => exact ⟨o, l, k, rfl⟩
  have HGD := Lib.hid (show wfT 6 (.node ro rl rk) = true by rw [← hr]; exact (notT_all hgk).1.1)
  have HB0 := Lib.hid ((Below.refl w.heap.size w).alloc (Nat.le_refl _) (.cells #[.int .i64 0, .int .i64 0, .slice none 0 0] 24))
  have HZ := Lib.hid (Zero3.new w)
  obtain ⟨b, off, a1, c1, rfl, hbz, d0, d1, d2, hx⟩ := (hin.keep HB0.out).kid (i := 0) rfl
  simp only [Nat.zero_mul, Nat.add_zero] at d0 d1 d2
  have HC := Lib.hid (normalNot_any ko kl kk hgk a1 c1 _ hx)
  rw [hr] at HC
  rw [hmk, hr]
  have HBP := Lib.hid HB0.out
  obtain ⟨n, hn⟩ : ∃ n, n = kk.length := ⟨_, rfl⟩
  rw [← hn] at HC d2
  have hl0 : (0 : Int) < 1 := by decide
  clear hin hx hr hmk hn hgk
  go_enter Try.func30, Try.ntmps30
  go_wp2_with fail
  refine HC.out.mono ?_
  rintro e w3 hgv
  obtain ⟨a', c', rfl, hx', hb'⟩ := give_node.1 hgv
  clear hgv
  have HZz := Lib.hid (HZ.out.keep hb')
  obtain ⟨⟨z0, z1, z2⟩, f0, f1, f2⟩ := HZz.out
  have HBF := Lib.hid (below_ret (HBP.out.trans (hb'.mono HBP.out.size)) (b0 := w.heap.size) (by omega) (.int .i64 ro) (.int .i64 rl) (.slice a' rk.length c'))
  have HXF := Lib.hid (inX_ret (x := ⟨ro, rl, rk, a', c'⟩) z0 z1 z2 hx' HGD.out (.int .i64 ro) (.int .i64 rl) (.slice a' rk.length c'))
  clear hx' hb'
  go_wp2_with fail
  refine bodyPost_ret (v := .agg #[.int .i64 ro, .int .i64 rl, .slice a' rk.length c']) (by simp [results, Try.results30, go_sem, z0, z1, z2]) rfl ⟨a', c', rfl, HXF.out, HBF.out⟩
set_option maxRecDepth 100000 in
set_option maxHeartbeats 2000000 in
theorem combine_7 (k : T) (hgk : GoodT k) (a : Option Addr) (c : Nat) (w : World) (hin : InX w 0 0 [k] a) :
    Calls Try.prog 30 #[.int .i64 7, .slice a 1 c] w (GiveT w (mkT 7 0 [k])) := by
  obtain ⟨ko, kl, kk⟩ := k
  have hmk : mkT 7 0 [.node ko kl kk] = starT (.node ko kl kk) := rfl
  obtain ⟨ro, rl, rk, hr⟩ : ∃ o l k, starT (.node ko kl kk) = .node o l k := by
    cases h : starT (.node ko kl kk) with
    | node o l k => exact ⟨o, l, k, rfl⟩
  have HGD := Lib.hid (show wfT 6 (.node ro rl rk) = true by rw [← hr]; exact (starT_all hgk).1.1)
  have HB0 := Lib.hid ((Below.refl w.heap.size w).alloc (Nat.le_refl _) (.cells #[.int .i64 0, .int .i64 0, .slice none 0 0] 24))
  have HZ := Lib.hid (Zero3.new w)
  obtain ⟨b, off, a1, c1, rfl, hbz, d0, d1, d2, hx⟩ := (hin.keep HB0.out).kid (i := 0) rfl
  simp only [Nat.zero_mul, Nat.add_zero] at d0 d1 d2
  have HC := Lib.hid (normalStar_any ko kl kk a1 c1 _ hx)
  rw [hr] at HC
  rw [hmk, hr]
  have HBP := Lib.hid HB0.out
  obtain ⟨n, hn⟩ : ∃ n, n = kk.length := ⟨_, rfl⟩
  rw [← hn] at HC d2
  have hl0 : (0 : Int) < 1 := by decide
  clear hin hx hr hmk hn hgk
  go_enter Try.func30, Try.ntmps30
  go_wp2_with fail
  refine HC.out.mono ?_
  rintro e w3 hgv
  obtain ⟨a', c', rfl, hx', hb'⟩ := give_node.1 hgv
  clear hgv
  have HZz := Lib.hid (HZ.out.keep hb')
  obtain ⟨⟨z0, z1, z2⟩, f0, f1, f2⟩ := HZz.out
  have HBF := Lib.hid (below_ret (HBP.out.trans (hb'.mono HBP.out.size)) (b0 := w.heap.size) (by omega) (.int .i64 ro) (.int .i64 rl) (.slice a' rk.length c'))
  have HXF := Lib.hid (inX_ret (x := ⟨ro, rl, rk, a', c'⟩) z0 z1 z2 hx' HGD.out (.int .i64 ro) (.int .i64 rl) (.slice a' rk.length c'))
  clear hx' hb'
  go_wp2_with fail
  refine bodyPost_ret (v := .agg #[.int .i64 ro, .int .i64 rl, .slice a' rk.length c']) (by simp [results, Try.results30, go_sem, z0, z1, z2]) rfl ⟨a', c', rfl, HXF.out, HBF.out⟩
theorem combine_any (op : Int) (ks : List T) (hc : (op = 4 ∨ op = 5 ∨ op = 6) ∨ ((op = 7 ∨ op = 8) ∧ ks.length = 1)) (hg : ∀ k, k ∈ ks → GoodT k) (hs : sizeL ks ≤ 1000000000) (a : Option Addr) (c : Nat) (w : World) (hin : InX w 0 0 ks a) :
    Calls Try.prog 30 #[.int .i64 op, .slice a ks.length c] w (GiveT w (mkT op 0 ks)) := by
  rcases hc with (rfl | rfl | rfl) | ⟨h, h1⟩
  · exact combine_4 ks hg hs a c w hin
  · exact combine_5 ks hg hs a c w hin
  · exact combine_6 ks hg hs a c w hin
  · obtain ⟨k, rfl⟩ := List.length_eq_one_iff.1 h1
    rcases h with rfl | rfl
    · exact combine_7 k (hg k (by simp)) a c w hin
    · exact combine_8 k (hg k (by simp)) a c w hin
open Go Go.RowKit Go.Sort
set_option linter.unusedVariables false
def NrmOf (op l : Int) (ks : List T) : Prop := wfT 6 (.node op l ks) = true → sizeT (.node op l ks) ≤ 1000000000 → ∀ (a : Option Addr) (c : Nat) (w : World), InX w op l ks a →
    Calls Try.prog 16 #[.agg #[.int .i64 op, .int .i64 l, .slice a ks.length c]] w (GiveT w (nrmT (.node op l ks)))
theorem nrm_leaf {op l : Int} (ho : op = 1 ∨ op = 2 ∨ op = 3) : nrmT (.node op l []) = .node op l [] := by rw [nrmT_node, mkT_leaf ho]
theorem mkT_l {op : Int} (h : (op = 4 ∨ op = 5 ∨ op = 6) ∨ (op = 7 ∨ op = 8)) (l : Int) (ks : List T) : mkT op l ks = mkT op 0 ks := by
  unfold mkT
  rcases h with (rfl | rfl | rfl) | (rfl | rfl) <;> simp
theorem take_map_snoc {f : T → T} {ks : List T} {i : Nat} (h : i < ks.length) : (ks.take (i + 1)).map f = (ks.take i).map f ++ [f ks[i]] := by rw [take_snoc h, List.map_append]; rfl
set_option maxRecDepth 100000 in
set_option maxHeartbeats 4000000 in
theorem normal_any (op l : Int) (ks : List T) : NrmOf op l ks := by
  refine T.ind2 (P := fun op l ks => NrmOf op l ks) ?_ op l ks
  clear op l ks
  intro op l ks ih hw hs a c w hin
  have HI := Lib.hid hin
  have HB0 := Lib.hid (((Below.refl w.heap.size w).alloc (Nat.le_refl _) (.cells #[.int .i64 op, .int .i64 l, .slice a ks.length c] 24)).alloc (by simp) (.cells #[.int .i64 0, .int .i64 0, .slice none 0 0] 24))
  have HBX := Lib.hid ((Box.new w (.int .i64 op) (.int .i64 l) (.slice a ks.length c)).alloc (.cells #[.int .i64 0, .int .i64 0, .slice none 0 0] 24))
  by_cases hn0 : ks.length = 0
  · obtain rfl : ks = [] := List.eq_nil_of_length_eq_zero hn0
    have ho : op = 1 ∨ op = 2 ∨ op = 3 := by
      rcases kind_of hw with ⟨h, _⟩ | ⟨_, _, k, h⟩ | ⟨_, _, h⟩
      · exact h
      · cases h
      · simp at h
    rw [nrm_leaf ho]
    have HO := Lib.hid (show B64 op ∧ B64 l from ⟨hin.2.1, hin.2.2.1⟩)
    clear ih hw hs hin hn0 ho
    go_enter Try.func16, Try.ntmps16
    go_wp2_with fail
    refine bodyPost_ret (v := .agg #[.int .i64 op, .int .i64 l, .slice none 0 0]) (by simp [results, Try.results16, go_sem]) rfl ⟨none, 0, rfl, ⟨.zero _, HO.out.1, HO.out.2, Nat.zero_le _⟩, ?_⟩
    exact ((Below.refl w.heap.size w).alloc (Nat.le_refl _) _).alloc (by simp) _
  · have hkind : ((op = 4 ∨ op = 5 ∨ op = 6) ∨ ((op = 7 ∨ op = 8) ∧ ks.length = 1)) := by
      rcases kind_of hw with ⟨_, h⟩ | ⟨h, _, k, h1⟩ | ⟨h, _, _⟩
      · rw [h] at hn0; exact absurd rfl hn0
      · exact .inr ⟨h, by rw [h1]; rfl⟩
      · exact .inl h
    have hsk : sizeL ks < 1000000000 := by simp only [sizeT] at hs; omega
    have hlk : ks.length ≤ 1000000000 := by have := sizeL_len ks; omega
    have HW := Lib.hid (wfT_node.1 hw).2.2
    have IH := Lib.hid (fun (i : Nat) (o l : Int) (ls : List T) (h : ks[i]? = some (.node o l ls)) => ih i o l ls h ((wfT_node.1 hw).2.2 _ (List.mem_of_getElem? h)) (by have := sizeL_mem (List.mem_of_getElem? h); omega))
    have hgood : ∀ k, k ∈ ks.map nrmT → GoodT k := fun k hk => by
      obtain ⟨x, hx, rfl⟩ := List.mem_map.1 hk
      exact (nrm_all x ((wfT_node.1 hw).2.2 x hx)).1
    have hsm : sizeL (ks.map nrmT) ≤ 1000000000 := by
      have := sizeL_map fun k hk => (nrm_all k ((wfT_node.1 hw).2.2 k hk)).2.1
      omega
    have HCB := Lib.hid (fun a c W (h : InX W 0 0 (ks.map nrmT) a) => combine_any op (ks.map nrmT) (by simpa using hkind) hgood hsm a c W h)
    have hmk : nrmT (.node op l ks) = mkT op 0 (ks.map nrmT) := by rw [nrmT_node]; exact mkT_l (by omega) l _
    obtain ⟨ro, rl, rk, hr⟩ : ∃ o l k, mkT op 0 (ks.map nrmT) = .node o l k := by
      cases h : mkT op 0 (ks.map nrmT) with
      | node o l k => exact ⟨o, l, k, rfl⟩
    have HGD := Lib.hid (show wfT 6 (.node ro rl rk) = true by rw [← hr, ← hmk]; exact (nrm_all _ hw).1.1)
    rw [hr] at HCB
    rw [hmk, hr]
    have t0 : ((ks.length : Int) == 0) = false := ne_beq (by omega)
    obtain ⟨n, hn⟩ : ∃ n, n = ks.length := ⟨_, rfl⟩
    have hml : (ks.map nrmT).length = n := by rw [List.length_map, hn]
    rw [hml] at HCB
    rw [← hn] at HBX HB0 t0 hlk ⊢
    have HN := Lib.hid hn
    have HZ2 := Lib.hid (show Zero3 ((w.alloc (.cells #[.int .i64 op, .int .i64 l, .slice a n c] 24)).alloc (.cells #[.int .i64 0, .int .i64 0, .slice none 0 0] 24)) (w.heap.size + 1) by
      have := Zero3.new (w.alloc (.cells #[.int .i64 op, .int .i64 l, .slice a n c] 24)); simpa using this)
    obtain ⟨W2, hW2⟩ : ∃ W, W = (w.alloc (.cells #[.int .i64 op, .int .i64 l, .slice a n c] 24)).alloc (.cells #[.int .i64 0, .int .i64 0, .slice none 0 0] 24) := ⟨_, rfl⟩
    have HW2 := Lib.hid hW2
    have hsz2 : W2.heap.size = w.heap.size + 2 := by rw [hW2]; simp
    have hs0 : ((w.alloc (.cells #[.int .i64 op, .int .i64 l, .slice a n c] 24)).alloc (.cells #[.int .i64 0, .int .i64 0, .slice none 0 0] 24)).heap.size = w.heap.size + 2 := by simp
    have HBX2 := Lib.hid (show Box W2 w.heap.size (.int .i64 op) (.int .i64 l) (.slice a n c) by rw [hW2]; exact HBX.out)
    have HZ3 := Lib.hid (show Zero3 W2 (w.heap.size + 1) by rw [hW2]; exact HZ2.out)
    have HB2 := Lib.hid (show Below w.heap.size w W2 by rw [hW2]; exact HB0.out)
    clear ih hw hs hin hn0 hr hmk hn hml hgood hsm hkind hsk hW2
    obtain ⟨i0, hinf, hz0, hz1, hz2⟩ := info_parts infoE
    go_enter Try.func16, Try.ntmps16
    go_wp2_with (at_make; refine wpList_make_full _ rfl _ _ 22 rfl (w.heap.size + 2) 24 i0 _ 3 Try.underlying22 hinf hz0 hz1 _ _ _ _ n rfl rfl rfl rfl (by rw [hz2]; omega) (by unfold maxLen; omega) (Nat.le_of_eq hs0.symm) ?_)
    intro w1 hown1 hgrow1
    have HF1 := Lib.hid (show FillX W2 w1 (w.heap.size + 2) n [] from FillX.made (by rw [HW2.out, hs0]; exact (Below.refl _ _).grown hgrow1 (by simp) fun k e => by cases e) (by rw [hsz2]; exact hown1))
    clear hown1 hgrow1
    obtain ⟨p0, p1, p2⟩ := HBX2.out.keep HF1.out.bel
    go_wp2_with fail
    go_loopw [21] (fun vi wr => ∃ (i : Nat) (es : List Ex), i ≤ n ∧ vi = .int .i64 i ∧ es.length = i ∧ es.map Ex.t = (ks.take i).map nrmT ∧ FillX W2 wr (w.heap.size + 2) n es) (fun vi _ => n - (intOf vi).toNat)
    case atStart => exact ⟨0, [], Nat.zero_le _, rfl, rfl, by simp, HF1.out⟩
    case round =>
      rename World => wA
      obtain ⟨i, es, hi, rfl, hel, hmp, hF⟩ := hrel
      have HF := Lib.hid hF
      have HMP := Lib.hid hmp
      clear hF hmp p0 p1 p2
      obtain ⟨p0, p1, p2⟩ := HBX2.out.keep HF.out.bel
      by_cases hlt : i < n
      · have hlt' : i < ks.length := by rw [← HN.out]; exact hlt
        obtain ⟨ko, kl, kk, hk, hk2⟩ := kid_some hlt'
        obtain ⟨b, off, a', c', rfl, hbz, d0, d1, d2, hx⟩ := (HI.out.keep (HB2.out.trans (HF.out.bel.mono HB2.out.size))).kid hk
        have hi0 : (0 : Int) ≤ (i : Int) := by omega
        have hin2 : (i : Int) < (n : Int) := by omega
        have hwi : IntKind.i64.wrap (i : Int) = (i : Int) := IntWalk.i64_in _ (by omega)
        obtain ⟨ro', rl', rk', hr'⟩ : ∃ o l k, nrmT (.node ko kl kk) = .node o l k := by
          cases h : nrmT (.node ko kl kk) with
          | node o l k => exact ⟨o, l, k, rfl⟩
        have HC := Lib.hid (IH.out i ko kl kk hk a' c' _ hx)
        rw [hr'] at HC
        have HG' := Lib.hid (show wfT 6 (.node ro' rl' rk') = true by rw [← hr']; exact (nrm_all _ (HW.out _ (List.mem_of_getElem? hk))).1.1)
        have HM' := Lib.hid (show es.map Ex.t ++ [.node ro' rl' rk'] = (ks.take (i + 1)).map nrmT by rw [take_map_snoc hlt', HMP.out, hk2, hr'])
        obtain ⟨kn, hkn⟩ : ∃ n, n = kk.length := ⟨_, rfl⟩
        rw [← hkn] at HC d2
        clear hk hk2 hx hr' hkn
        go_wp2_with fail
        refine HC.out.mono ?_
        rintro e w5 hgv
        obtain ⟨a5, c5, rfl, hx5, hb5⟩ := give_node.1 hgv
        have HF5 := Lib.hid (HF.out.keep hb5 (Nat.le_refl _))
        have HX5 := Lib.hid hx5
        clear hgv hx5 hb5
        have hei : es.length < n := by omega
        obtain ⟨z0, z1, z2⟩ := HF5.out.zero es.length (Nat.le_refl _) hei
        have f0 := HF5.out.fr (es.length * 3)
        have f1 := HF5.out.fr (es.length * 3 + 1)
        have f2 := HF5.out.fr (es.length * 3 + 2)
        rw [hel] at z0 z1 z2 f0 f1 f2
        have HP := Lib.hid (HF5.out.put hei ⟨ro', rl', rk', a5, c5⟩ HX5.out HG'.out)
        rw [hel] at HP
        go_wp2_with fail
        exact ⟨⟨i + 1, es ++ [(⟨ro', rl', rk', a5, c5⟩ : Ex)], by omega, by go_num, by simp [hel], by rw [List.map_append]; exact HM'.out, by exact HP.out⟩, by simp [intOf]; omega⟩
      · obtain rfl : i = n := by omega
        have HK := Lib.hid (show InX wA 0 0 (ks.map nrmT) (some ⟨w.heap.size + 2, 0, none⟩) by
          have h1 := HF.out.kids (op := 0) (l := 0) (by unfold B64; omega) (by unfold B64; omega)
          rw [HMP.out, HN.out, List.take_length] at h1
          exact h1)
        have HC := Lib.hid (HCB.out (some ⟨w.heap.size + 2, 0, none⟩) i wA HK.out)
        have HZ := Lib.hid (HZ3.out.keep HF.out.bel)
        have HBP := Lib.hid (HB2.out.trans (HF.out.bel.mono HB2.out.size))
        go_wp2_with fail
        refine HC.out.mono ?_
        rintro e w3 hgv
        obtain ⟨a', c', rfl, hx', hb'⟩ := give_node.1 hgv
        clear hgv
        have HZz := Lib.hid (HZ.out.keep hb')
        obtain ⟨⟨z0, z1, z2⟩, f0, f1, f2⟩ := HZz.out
        have HBF := Lib.hid (below_ret (HBP.out.trans (hb'.mono HBP.out.size)) (b0 := w.heap.size + 1) (by omega) (.int .i64 ro) (.int .i64 rl) (.slice a' rk.length c'))
        have HXF := Lib.hid (inX_ret (x := ⟨ro, rl, rk, a', c'⟩) z0 z1 z2 hx' HGD.out (.int .i64 ro) (.int .i64 rl) (.slice a' rk.length c'))
        clear hx' hb'
        go_wp2_with fail
        refine bodyPost_ret (v := .agg #[.int .i64 ro, .int .i64 rl, .slice a' rk.length c']) (by simp [results, Try.results16, go_sem, z0, z1, z2]) rfl ⟨a', c', rfl, HXF.out, HBF.out⟩
end Go.Proofs.Ythmdndondlffeaa
