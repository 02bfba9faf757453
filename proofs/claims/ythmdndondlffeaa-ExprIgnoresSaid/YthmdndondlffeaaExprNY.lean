/- Contract: normal. -/
import Derived.Test.YthmdndondlffeaaExprNX
namespace Go.Proofs.Ythmdndondlffeaa
open Go Go.RowKit Go.Sort
set_option linter.unusedVariables false
def NrmOf (op l : Int) (ks : List T) : Prop := wfT 6 (.node op l ks) = true → sizeT (.node op l ks) ≤ 1000000000 → ∀ (a : Option Addr) (c : Nat) (w : World), InX w op l ks a →
    Calls Try.prog 16 #[.agg #[.int .i64 op, .int .i64 l, .slice a ks.length c]] w (GiveT w (nrmT (.node op l ks)))
theorem nrm_leaf {op l : Int} (ho : op = 1 ∨ op = 2 ∨ op = 3) : nrmT (.node op l []) = .node op l [] := by rw [nrmT_node, mkT_leaf ho]
theorem mkT_l {op : Int} (h : (op = 4 ∨ op = 5 ∨ op = 6) ∨ (op = 7 ∨ op = 8)) (l : Int) (ks : List T) : mkT op l ks = mkT op 0 ks := by
  unfold mkT
  rcases h with (rfl | rfl | rfl) | (rfl | rfl) <;> simp
theorem take_map_snoc {f : T → T} {ks : List T} {i : Nat} (h : i < ks.length) : (ks.take (i + 1)).map f = (ks.take i).map f ++ [f ks[i]] := by rw [take_snoc h, List.map_append]; rfl
set_option maxRecDepth 100000 in
set_option maxHeartbeats 4000000 in
theorem normal_any (op l : Int) (ks : List T) : NrmOf op l ks := by
  refine T.ind2 (P := fun op l ks => NrmOf op l ks) ?_ op l ks
  clear op l ks
  intro op l ks ih hw hs a c w hin
  have HI := Lib.hid hin
  have HB0 := Lib.hid (((Below.refl w.heap.size w).alloc (Nat.le_refl _) (.cells #[.int .i64 op, .int .i64 l, .slice a ks.length c] 24)).alloc (by simp) (.cells #[.int .i64 0, .int .i64 0, .slice none 0 0] 24))
  have HBX := Lib.hid ((Box.new w (.int .i64 op) (.int .i64 l) (.slice a ks.length c)).alloc (.cells #[.int .i64 0, .int .i64 0, .slice none 0 0] 24))
  by_cases hn0 : ks.length = 0
  · obtain rfl : ks = [] := List.eq_nil_of_length_eq_zero hn0
    have ho : op = 1 ∨ op = 2 ∨ op = 3 := by
      rcases kind_of hw with ⟨h, _⟩ | ⟨_, _, k, h⟩ | ⟨_, _, h⟩
      · exact h
      · cases h
      · simp at h
    rw [nrm_leaf ho]
    have HO := Lib.hid (show B64 op ∧ B64 l from ⟨hin.2.1, hin.2.2.1⟩)
    clear ih hw hs hin hn0 ho
    go_enter Try.func16, Try.ntmps16
    go_wp2_with fail
    refine bodyPost_ret (v := .agg #[.int .i64 op, .int .i64 l, .slice none 0 0]) (by simp [results, Try.results16, go_sem]) rfl ⟨none, 0, rfl, ⟨.zero _, HO.out.1, HO.out.2, Nat.zero_le _⟩, ?_⟩
    exact ((Below.refl w.heap.size w).alloc (Nat.le_refl _) _).alloc (by simp) _
  · have hkind : ((op = 4 ∨ op = 5 ∨ op = 6) ∨ ((op = 7 ∨ op = 8) ∧ ks.length = 1)) := by
      rcases kind_of hw with ⟨_, h⟩ | ⟨h, _, k, h1⟩ | ⟨h, _, _⟩
      · rw [h] at hn0; exact absurd rfl hn0
      · exact .inr ⟨h, by rw [h1]; rfl⟩
      · exact .inl h
    have hsk : sizeL ks < 1000000000 := by simp only [sizeT] at hs; omega
    have hlk : ks.length ≤ 1000000000 := by have := sizeL_len ks; omega
    have HW := Lib.hid (wfT_node.1 hw).2.2
    have IH := Lib.hid (fun (i : Nat) (o l : Int) (ls : List T) (h : ks[i]? = some (.node o l ls)) => ih i o l ls h ((wfT_node.1 hw).2.2 _ (List.mem_of_getElem? h)) (by have := sizeL_mem (List.mem_of_getElem? h); omega))
    have hgood : ∀ k, k ∈ ks.map nrmT → GoodT k := fun k hk => by
      obtain ⟨x, hx, rfl⟩ := List.mem_map.1 hk
      exact (nrm_all x ((wfT_node.1 hw).2.2 x hx)).1
    have hsm : sizeL (ks.map nrmT) ≤ 1000000000 := by
      have := sizeL_map fun k hk => (nrm_all k ((wfT_node.1 hw).2.2 k hk)).2.1
      omega
    have HCB := Lib.hid (fun a c W (h : InX W 0 0 (ks.map nrmT) a) => combine_any op (ks.map nrmT) (by simpa using hkind) hgood hsm a c W h)
    have hmk : nrmT (.node op l ks) = mkT op 0 (ks.map nrmT) := by rw [nrmT_node]; exact mkT_l (by omega) l _
    obtain ⟨ro, rl, rk, hr⟩ : ∃ o l k, mkT op 0 (ks.map nrmT) = .node o l k := by
      cases h : mkT op 0 (ks.map nrmT) with
      | node o l k => exact ⟨o, l, k, rfl⟩
    have HGD := Lib.hid (show wfT 6 (.node ro rl rk) = true by rw [← hr, ← hmk]; exact (nrm_all _ hw).1.1)
    rw [hr] at HCB
    rw [hmk, hr]
    have t0 : ((ks.length : Int) == 0) = false := ne_beq (by omega)
    obtain ⟨n, hn⟩ : ∃ n, n = ks.length := ⟨_, rfl⟩
    have hml : (ks.map nrmT).length = n := by rw [List.length_map, hn]
    rw [hml] at HCB
    rw [← hn] at HBX HB0 t0 hlk ⊢
    have HN := Lib.hid hn
    have HZ2 := Lib.hid (show Zero3 ((w.alloc (.cells #[.int .i64 op, .int .i64 l, .slice a n c] 24)).alloc (.cells #[.int .i64 0, .int .i64 0, .slice none 0 0] 24)) (w.heap.size + 1) by
      have := Zero3.new (w.alloc (.cells #[.int .i64 op, .int .i64 l, .slice a n c] 24)); simpa using this)
    obtain ⟨W2, hW2⟩ : ∃ W, W = (w.alloc (.cells #[.int .i64 op, .int .i64 l, .slice a n c] 24)).alloc (.cells #[.int .i64 0, .int .i64 0, .slice none 0 0] 24) := ⟨_, rfl⟩
    have HW2 := Lib.hid hW2
    have hsz2 : W2.heap.size = w.heap.size + 2 := by rw [hW2]; simp
    have hs0 : ((w.alloc (.cells #[.int .i64 op, .int .i64 l, .slice a n c] 24)).alloc (.cells #[.int .i64 0, .int .i64 0, .slice none 0 0] 24)).heap.size = w.heap.size + 2 := by simp
    have HBX2 := Lib.hid (show Box W2 w.heap.size (.int .i64 op) (.int .i64 l) (.slice a n c) by rw [hW2]; exact HBX.out)
    have HZ3 := Lib.hid (show Zero3 W2 (w.heap.size + 1) by rw [hW2]; exact HZ2.out)
    have HB2 := Lib.hid (show Below w.heap.size w W2 by rw [hW2]; exact HB0.out)
    clear ih hw hs hin hn0 hr hmk hn hml hgood hsm hkind hsk hW2
    obtain ⟨i0, hinf, hz0, hz1, hz2⟩ := info_parts infoE
    go_enter Try.func16, Try.ntmps16
    go_wp2_with (at_make; refine wpList_make_full _ rfl _ _ 22 rfl (w.heap.size + 2) 24 i0 _ 3 Try.underlying22 hinf hz0 hz1 _ _ _ _ n rfl rfl rfl rfl (by rw [hz2]; omega) (by unfold maxLen; omega) (Nat.le_of_eq hs0.symm) ?_)
    intro w1 hown1 hgrow1
    have HF1 := Lib.hid (show FillX W2 w1 (w.heap.size + 2) n [] from FillX.made (by rw [HW2.out, hs0]; exact (Below.refl _ _).grown hgrow1 (by simp) fun k e => by cases e) (by rw [hsz2]; exact hown1))
    clear hown1 hgrow1
    obtain ⟨p0, p1, p2⟩ := HBX2.out.keep HF1.out.bel
    go_wp2_with fail
    go_loopw [21] (fun vi wr => ∃ (i : Nat) (es : List Ex), i ≤ n ∧ vi = .int .i64 i ∧ es.length = i ∧ es.map Ex.t = (ks.take i).map nrmT ∧ FillX W2 wr (w.heap.size + 2) n es) (fun vi _ => n - (intOf vi).toNat)
    case atStart => exact ⟨0, [], Nat.zero_le _, rfl, rfl, by simp, HF1.out⟩
    case round =>
      rename World => wA
      obtain ⟨i, es, hi, rfl, hel, hmp, hF⟩ := hrel
      have HF := Lib.hid hF
      have HMP := Lib.hid hmp
      clear hF hmp p0 p1 p2
      obtain ⟨p0, p1, p2⟩ := HBX2.out.keep HF.out.bel
      by_cases hlt : i < n
      · have hlt' : i < ks.length := by rw [← HN.out]; exact hlt
        obtain ⟨ko, kl, kk, hk, hk2⟩ := kid_some hlt'
        obtain ⟨b, off, a', c', rfl, hbz, d0, d1, d2, hx⟩ := (HI.out.keep (HB2.out.trans (HF.out.bel.mono HB2.out.size))).kid hk
        have hi0 : (0 : Int) ≤ (i : Int) := by omega
        have hin2 : (i : Int) < (n : Int) := by omega
        have hwi : IntKind.i64.wrap (i : Int) = (i : Int) := IntWalk.i64_in _ (by omega)
        obtain ⟨ro', rl', rk', hr'⟩ : ∃ o l k, nrmT (.node ko kl kk) = .node o l k := by
          cases h : nrmT (.node ko kl kk) with
          | node o l k => exact ⟨o, l, k, rfl⟩
        have HC := Lib.hid (IH.out i ko kl kk hk a' c' _ hx)
        rw [hr'] at HC
        have HG' := Lib.hid (show wfT 6 (.node ro' rl' rk') = true by rw [← hr']; exact (nrm_all _ (HW.out _ (List.mem_of_getElem? hk))).1.1)
        have HM' := Lib.hid (show es.map Ex.t ++ [.node ro' rl' rk'] = (ks.take (i + 1)).map nrmT by rw [take_map_snoc hlt', HMP.out, hk2, hr'])
        obtain ⟨kn, hkn⟩ : ∃ n, n = kk.length := ⟨_, rfl⟩
        rw [← hkn] at HC d2
        clear hk hk2 hx hr' hkn
        go_wp2_with fail
        refine HC.out.mono ?_
        rintro e w5 hgv
        obtain ⟨a5, c5, rfl, hx5, hb5⟩ := give_node.1 hgv
        have HF5 := Lib.hid (HF.out.keep hb5 (Nat.le_refl _))
        have HX5 := Lib.hid hx5
        clear hgv hx5 hb5
        have hei : es.length < n := by omega
        obtain ⟨z0, z1, z2⟩ := HF5.out.zero es.length (Nat.le_refl _) hei
        have f0 := HF5.out.fr (es.length * 3)
        have f1 := HF5.out.fr (es.length * 3 + 1)
        have f2 := HF5.out.fr (es.length * 3 + 2)
        rw [hel] at z0 z1 z2 f0 f1 f2
        have HP := Lib.hid (HF5.out.put hei ⟨ro', rl', rk', a5, c5⟩ HX5.out HG'.out)
        rw [hel] at HP
        go_wp2_with fail
        exact ⟨⟨i + 1, es ++ [(⟨ro', rl', rk', a5, c5⟩ : Ex)], by omega, by go_num, by simp [hel], by rw [List.map_append]; exact HM'.out, by exact HP.out⟩, by simp [intOf]; omega⟩
      · obtain rfl : i = n := by omega
        have HK := Lib.hid (show InX wA 0 0 (ks.map nrmT) (some ⟨w.heap.size + 2, 0, none⟩) by
          have h1 := HF.out.kids (op := 0) (l := 0) (by unfold B64; omega) (by unfold B64; omega)
          rw [HMP.out, HN.out, List.take_length] at h1
          exact h1)
        have HC := Lib.hid (HCB.out (some ⟨w.heap.size + 2, 0, none⟩) i wA HK.out)
        have HZ := Lib.hid (HZ3.out.keep HF.out.bel)
        have HBP := Lib.hid (HB2.out.trans (HF.out.bel.mono HB2.out.size))
        go_wp2_with fail
        refine HC.out.mono ?_
        rintro e w3 hgv
        obtain ⟨a', c', rfl, hx', hb'⟩ := give_node.1 hgv
        clear hgv
        have HZz := Lib.hid (HZ.out.keep hb')
        obtain ⟨⟨z0, z1, z2⟩, f0, f1, f2⟩ := HZz.out
        have HBF := Lib.hid (below_ret (HBP.out.trans (hb'.mono HBP.out.size)) (b0 := w.heap.size + 1) (by omega) (.int .i64 ro) (.int .i64 rl) (.slice a' rk.length c'))
        have HXF := Lib.hid (inX_ret (x := ⟨ro, rl, rk, a', c'⟩) z0 z1 z2 hx' HGD.out (.int .i64 ro) (.int .i64 rl) (.slice a' rk.length c'))
        clear hx' hb'
        go_wp2_with fail
        refine bodyPost_ret (v := .agg #[.int .i64 ro, .int .i64 rl, .slice a' rk.length c']) (by simp [results, Try.results16, go_sem, z0, z1, z2]) rfl ⟨a', c', rfl, HXF.out, HBF.out⟩
end Go.Proofs.Ythmdndondlffeaa
