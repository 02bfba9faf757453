/- Contracts of the reference: flat (elements of an older world), Universal; a world that keeps all but one block. -/
import Derived.Test.YthmdndondlffeaaExprOA
import Derived.Lib.QuietBelow
import Derived.BigQuiet
import Derived.Deep.RegionHeld3
import Derived.Deep.AppendLies
namespace Go.Proofs.Ythmdndondlffeaa
open Go Go.RowKit Go.Sort
set_option linter.unusedVariables false
/-- a row that was made since w1 -/
structure AppX {W0 : World} (w1 W : World) (v : Value) (es : List (ExIn W0)) : Prop where
  own : W.ownsRow w1.heap.size 24 3 v es.length (cellsE es)
  bel : Below w1.heap.size w1 W
theorem AppX.alloc {W0 w1 W : World} {v : Value} {es : List (ExIn W0)} (h : AppX w1 W v es) (o : Obj) : AppX w1 (W.alloc o) v es := ⟨h.own.alloc o, h.bel.alloc h.bel.size o⟩
theorem AppX.drew {W0 w1 W : World} {v : Value} {es : List (ExIn W0)} (h : AppX w1 W v es) : AppX w1 W.drew v es := ⟨h.own.drew, h.bel.drew⟩
theorem AppX.made {W0 w1 W : World} {H : Nat} (hB : Below w1.heap.size w1 W) (hH : W.heap.size = H) : AppX (W0 := W0) w1 (W.alloc (.cells #[] 24)) (.slice (some ⟨H, 0, none⟩) 0 0) [] := by
  subst hH
  exact ⟨World.ownsRow_made (e := 24) (size := 3) W #[] 0 hB.size (by unfold maxLen; omega) (by simp), hB.alloc hB.size _⟩
theorem step_appX {W0 w1 W : World} {ops : Array Oper} {o : Oper} {a : Act} {K : Act → World → Prop} {Q : Exit → Act → World → Prop} {E : Prop} (hgd : o.guard = none) (s x : Operand)
    (ho : o.op = .call { callee := .builtin .append, args := #[s, x], argTypes := #[22, 22] })
    (v : Value) (es : List (ExIn W0)) (hs : a.eval s = v) (hA : AppX w1 W v es) (ao : Option Addr) (m c : Nat) (fs : List (ExIn W0)) (hx : a.eval x = .slice ao m c) (hm : fs.length = m) (hnone : ao = none → m = 0 ∧ c = 0) (hc : ∀ ad, ao = some ad → ∀ j u, (cellsE fs)[j]? = some u → W.cell? (ad.add j) = some u) (hlen : es.length + m ≤ 1000000000000)
    (h : ∀ v' W', AppX w1 W' v' (es ++ fs) → (∀ b o u, W.cell? ⟨b, o, none⟩ = some u → some b ≠ v.ownBlock → W'.cell? ⟨b, o, none⟩ = some u) → (v'.ownBlock = v.ownBlock ∨ v'.ownBlock = some W.heap.size) → W.heap.size ≤ W'.heap.size → K (a.put o.dst v') W') :
    if Region.wanted o (yielded ops a.tmps) = true then Oper.wp Try.prog o a W K Q else E := by
  obtain ⟨i0, hi, hz0, hz1, hz2⟩ := info_parts infoE
  have hw : Region.wanted o (yielded ops a.tmps) = true := by simp [Region.wanted, hgd]
  rw [if_pos hw]
  have key : ∃ v' W', (Builtin.append_ #[22, 22] o.type #[v, .slice ao m c]).run Try.prog W = .ok v' W' ∧ AppX w1 W' v' (es ++ fs) ∧ (∀ b o u, W.cell? ⟨b, o, none⟩ = some u → some b ≠ v.ownBlock → W'.cell? ⟨b, o, none⟩ = some u) ∧ (v'.ownBlock = v.ownBlock ∨ v'.ownBlock = some W.heap.size) ∧ W.heap.size ≤ W'.heap.size := by
    cases ao with
    | none =>
      obtain ⟨rfl, rfl⟩ := hnone rfl
      obtain rfl : fs = [] := List.eq_nil_of_length_eq_zero hm
      have hrun := run_append_owned_none (P := Try.prog) W w1.heap.size 22 o.type 24 i0 3 Try.underlying22 hi v es.length (cellsE es) hA.own
      exact ⟨v, W, hrun, by simpa using hA, fun b o u hu _ => hu, .inl rfl, Nat.le_refl _⟩
    | some ad =>
      obtain ⟨v', W', hrun, h2, h3, h4, h5⟩ := run_append_own_at (P := Try.prog) W w1.heap.size 22 o.type 24 i0 _ 3 40 Try.underlying22 hi hz0 hz1 hz2 rfl (by decide) v es.length (cellsE es) hA.own ad m c (cellsE fs) (by rw [cellsE_len, hm]) (hc ad rfl) (cellsE_one' fs) (by unfold maxLen; omega) (by omega) hA.bel.size
      refine ⟨v', W', hrun, ⟨by rw [cellsE_append, List.length_append, hm]; exact h2, hA.bel.grown h3 hA.bel.size fun k e => (hA.own.lt k e).1⟩, fun b o u hu hne => h3.cell (a := ⟨b, o, none⟩) hu hne, h5, h3.size⟩
  obtain ⟨v', W', hrun, k1, k2, k3, k4⟩ := key
  unfold Oper.wp execOp
  simp only [ho, resolve, invoke, builtin, Sem.run_bind, Sem.run_pure, Result.andThen_ok, List.map_toArray, List.map_cons, List.map_nil, hs, hx, hrun]
  exact h v' W' k1 k2 k3 k4
/-- Compare of two elements, at any later world -/
theorem cmpE {W0 w : World} (hB : Below W0.heap.size W0 w) (x y : ExIn W0) (r : Int) (hr : cmpT x.1.t y.1.t = r) (d : Nat) (os : Array Obj) :
    Calls Try.prog 18 #[.agg #[.int .i64 x.1.op, .int .i64 x.1.l, .slice x.1.a x.1.ks.length x.1.c], .agg #[.int .i64 y.1.op, .int .i64 y.1.l, .slice y.1.a y.1.ks.length y.1.c]] (grow (redrawn w d) os) fun e w' => e = .returned (.int .i64 r) ∧ Below (grow (redrawn w d) os).heap.size (grow (redrawn w d) os) w' := by
  have hb : Below W0.heap.size W0 (grow (redrawn w d) os) := hB.trans ((below_regrown w d os).mono hB.size)
  have h := compareR_any x.1.op x.1.l x.1.ks y.1.op y.1.l y.1.ks x.1.a y.1.a x.1.c y.1.c _ (x.2.keep hb) (y.2.keep hb)
  rw [show cmpT (.node x.1.op x.1.l x.1.ks) (.node y.1.op y.1.l y.1.ks) = r from hr] at h
  exact h
theorem cells_drop {W0 W : World} {g : Nat} {es : List (ExIn W0)} (h : ∀ j u, (cellsE es)[j]? = some u → W.cell? ⟨g, j, none⟩ = some u) (k : Nat) (hk : k ≤ es.length) : ∀ j u, (cellsE (es.drop k))[j]? = some u → W.cell? ⟨g, k * 3 + j, none⟩ = some u := by
  intro j u hu
  refine h _ u ?_
  have e : cellsE es = cellsE (es.take k) ++ cellsE (es.drop k) := by rw [← cellsE_append, List.take_append_drop]
  have hl : (cellsE (es.take k)).length = k * 3 := by rw [cellsE_len, List.length_take]; congr 1; omega
  rw [e, List.getElem?_append_right (by omega), hl, show k * 3 + j - k * 3 = j by omega]; exact hu
theorem cells_take {W0 W : World} {g : Nat} {es : List (ExIn W0)} (h : ∀ j u, (cellsE es)[j]? = some u → W.cell? ⟨g, j, none⟩ = some u) (k : Nat) : ∀ j u, (cellsE (es.take k))[j]? = some u → W.cell? ⟨g, j, none⟩ = some u := by
  intro j u hu
  refine h j u ?_
  have e : cellsE es = cellsE (es.take k) ++ cellsE (es.drop k) := by rw [← cellsE_append, List.take_append_drop]
  have hlt := (List.getElem?_eq_some_iff.1 hu).1
  rw [e, List.getElem?_append_left hlt]; exact hu
/-- the place of a tree in a strictly ascending list -/
theorem ins_found {W0 : World} {es : List (ExIn W0)} {x : ExIn W0} {m : Nat} (hst : StrictT (es.map (·.1.t))) (hm : m < es.length) (h : cmpT es[m].1.t x.1.t = 0) : insT (es.map (·.1.t)) x.1.t = es.map (·.1.t) := by
  refine insT_mem hst ?_
  rw [← cmpT_zero _ _ h]
  exact List.mem_map.2 ⟨es[m], List.getElem_mem hm, rfl⟩
theorem ins_at {W0 : World} {es : List (ExIn W0)} {x : ExIn W0} {k : Nat} (hst : StrictT (es.map (·.1.t))) (hk : k ≤ es.length) (hgt : ∀ j (h : j < es.length), k ≤ j → cmpT x.1.t es[j].1.t < 0) (hlt : ∀ j (h : j < es.length), j + 1 = k → cmpT es[j].1.t x.1.t < 0) : (es.take k ++ [x] ++ es.drop k).map (·.1.t) = insT (es.map (·.1.t)) x.1.t := by
  rw [insT_split (l := es.map (·.1.t)) (a := (es.take k).map (·.1.t)) (b := (es.drop k).map (·.1.t)) hst (by rw [← List.map_append, List.take_append_drop]) (fun y hy => ?_) (fun y hy => ?_)]
  · simp
  · obtain ⟨z, hz, rfl⟩ := List.mem_map.1 hy
    obtain ⟨i, hi, rfl⟩ := List.mem_iff_getElem.1 hz
    rw [List.getElem_drop]
    exact hgt _ _ (by omega)
  · obtain ⟨z, hz, rfl⟩ := List.mem_map.1 hy
    obtain ⟨i, hi, rfl⟩ := List.mem_iff_getElem.1 hz
    rw [List.getElem_take]
    have hi2 : i < k := by rw [List.length_take] at hi; omega
    have h1 := hlt (k - 1) (by omega) (by omega)
    by_cases e : i = k - 1
    · subst e; exact h1
    · refine cmpT_lt_trans ?_ h1
      have h2 := List.pairwise_iff_getElem.1 hst i (k - 1) (by simp; omega) (by simp; omega) (by omega)
      simpa using h2
theorem BlkX.ownB {W0 w : World} {g cap B : Nat} {es : List (ExIn W0)} (h : BlkX W0 w g cap es) (hB : B ≤ g) : w.ownsRow B 24 3 (.slice (some ⟨g, 0, none⟩) es.length cap) es.length (cellsE es) := by
  obtain ⟨h1, h2⟩ := h.own
  refine ⟨h1, ?_⟩
  rcases h2 with ⟨h, _⟩ | ⟨g', cap', cur, he, hb, h3⟩
  · cases h
  · injection he with e1 e2 e3
    injection e1 with e1
    injection e1 with e1
    subst e1 e3
    exact .inr ⟨g, cap, cur, rfl, hB, h3⟩
theorem below_al {a w : World} {o : Obj} (h : Below a.heap.size a w) : Below a.heap.size a (w.alloc o) := h.alloc h.size o
theorem box_cellsE {W0 W : World} {x : ExIn W0} {b xn : Nat} (hn : xn = x.1.ks.length) (h : Box W b (.int .i64 x.1.op) (.int .i64 x.1.l) (.slice x.1.a xn x.1.c)) : ∀ j u, (cellsE [x])[j]? = some u → W.cell? ((⟨b, 0, none⟩ : Addr).add j) = some u := by
  subst hn
  intro j u hu
  rw [Addr.add_lit, Nat.zero_add]
  match j, hu with
  | 0, hu => simp [cellsE, encX, Ex.enc] at hu; rw [← hu]; exact h.1
  | 1, hu => simp [cellsE, encX, Ex.enc] at hu; rw [← hu]; exact h.2.1
  | 2, hu => simp [cellsE, encX, Ex.enc] at hu; rw [← hu]; exact h.2.2
  | j + 3, hu => simp [cellsE, encX, Ex.enc] at hu
/-- what insert promises -/
def InsP {W0 : World} (B : Nat) (w : World) (es : List (ExIn W0)) (x : ExIn W0) (e : Ending) (w' : World) : Prop :=
  ∃ (v' : Value) (es' : List (ExIn W0)), e = .returned v' ∧ w'.ownsRow B 24 3 v' es'.length (cellsE es') ∧ es'.map (·.1.t) = insT (es.map (·.1.t)) x.1.t ∧ es'.length ≤ es.length + 1 ∧ Below w.heap.size w w'
theorem ownsRow_base {w : World} {B B' : Nat} {e : TypeId} {size n : Nat} {v : Value} {xs : List Value} (h : w.ownsRow B e size v n xs) (hB : B' ≤ B) : w.ownsRow B' e size v n xs := by
  refine ⟨h.1, ?_⟩
  rcases h.2 with h | ⟨g, cap, cur, h1, h2, h3⟩
  · exact .inl h
  · exact .inr ⟨g, cap, cur, h1, Nat.le_trans hB h2, h3⟩
set_option maxRecDepth 100000 in
set_option maxHeartbeats 8000000 in
theorem insert_row (W0 w : World) (hw0 : Below W0.heap.size W0 w) (B : Nat) (hBw : B ≤ w.heap.size) (g cap : Nat) (hBg : B ≤ g) (es : List (ExIn W0)) (hL : BlkX W0 w g cap es) (hst : StrictT (es.map (·.1.t))) (hlen : es.length ≤ 1000000000) (x : ExIn W0) :
    Calls Try.prog 23 #[.slice (some ⟨g, 0, none⟩) es.length cap, .agg #[.int .i64 x.1.op, .int .i64 x.1.l, .slice x.1.a x.1.ks.length x.1.c]] w (InsP B w es x) := by
  obtain ⟨xn, hxn⟩ : ∃ n, n = x.1.ks.length := ⟨_, rfl⟩
  rw [← hxn]
  have HXN := Lib.hid hxn
  have HW := Lib.hid hw0
  have HB0 := Lib.hid ((Below.refl w.heap.size w).alloc (Nat.le_refl _) (.cells #[.int .i64 x.1.op, .int .i64 x.1.l, .slice x.1.a xn x.1.c] 24))
  have HBX := Lib.hid (Box.new w (.int .i64 x.1.op) (.int .i64 x.1.l) (.slice x.1.a xn x.1.c))
  obtain ⟨w1, hw1⟩ : ∃ W, W = w.alloc (.cells #[.int .i64 x.1.op, .int .i64 x.1.l, .slice x.1.a xn x.1.c] 24) := ⟨_, rfl⟩
  have HW1 := Lib.hid hw1
  have HB1 := Lib.hid (show Below w.heap.size w w1 by rw [hw1]; exact HB0.out)
  have HBX1 := Lib.hid (show Box w1 w.heap.size (.int .i64 x.1.op) (.int .i64 x.1.l) (.slice x.1.a xn x.1.c) by rw [hw1]; exact HBX.out)
  have hsz1 : w1.heap.size = w.heap.size + 1 := by rw [hw1]; simp
  have HS1 := Lib.hid hsz1
  have hlt1 : w.heap.size < w1.heap.size := by omega
  have HWW := Lib.hid (hw0.trans (HB1.out.mono hw0.size))
  have HL := Lib.hid hL
  have HLC := Lib.hid hL.cells
  have HLT := Lib.hid hL.lt
  have hcap := hL.le
  have HST := Lib.hid hst
  have hcm : cap ≤ 9223372036854775807 := by have := hL.cm; unfold maxLen at this; omega
  have HSELF := Lib.hid (fun W (h : Below w.heap.size w W) (hi : insT (es.map (·.1.t)) x.1.t = es.map (·.1.t)) => show InsP B w es x (.returned (.slice (some ⟨g, 0, none⟩) es.length cap)) W from ⟨_, es, rfl, (hL.keep h hL.lt).ownB hBg, hi.symm, Nat.le_succ _, h⟩)
  clear hxn hw0 hL hst
  go_enter Try.func23, Try.ntmps23
  clear hw1
  go_wp2_with fail
  rw [← HW1.out]
  go_loopw [5] (fun vk wr => ∃ k : Nat, k ≤ es.length ∧ vk = .int .i64 k ∧ Below w1.heap.size w1 wr ∧ ∀ j (h : j < es.length), k ≤ j → cmpT x.1.t es[j].1.t < 0) (fun vk _ => (intOf vk).toNat)
  case atStart => exact ⟨es.length, Nat.le_refl _, rfl, Below.refl _ _, fun j h hj => by omega⟩
  case round =>
    rename World => wA
    obtain ⟨k, hk, rfl, hbel, hgt⟩ := hrel
    have HBA := Lib.hid hbel
    have HGT := Lib.hid hgt
    clear hbel hgt
    obtain ⟨b0, b1, b2⟩ := HBX1.out.keep HBA.out
    have p0 := fun d os => cell_regrown b0 d os
    have p1 := fun d os => cell_regrown b1 d os
    have p2 := fun d os => cell_regrown b2 d os
    by_cases hk0 : k = 0
    · subst hk0
      clear b0 b1 b2
      go_wp2_with fail
      refine wp_region_quiet_below (by kernel_rfl) (by kernel_rfl) ?_
      repeat (go_big_quiet_step (fail))
      refine wpQuiet_nil ?_
      intro _ hw'
      obtain ⟨⟨dq, osq⟩, hw''⟩ := hw'
      subst hw''
      have HBB := Lib.hid (HBA.out.trans ((below_regrown wA dq osq).mono HBA.out.size))
      generalize hW4 : grow (redrawn wA dq) osq = wB at HBB ⊢
      clear hW4 p0 p1 p2
      go_wp2_with fail
      refine wp_region_quiet_below (by kernel_rfl) (by kernel_rfl) ?_
      repeat (go_big_quiet_step (fail))
      refine wpQuiet_nil ?_
      intro _ hw'
      obtain ⟨⟨dq, osq⟩, hw''⟩ := hw'
      subst hw''
      have HBC := Lib.hid (HBB.out.trans ((below_regrown wB dq osq).mono HBB.out.size))
      generalize hW4 : grow (redrawn wB dq) osq = wC at HBC ⊢
      clear hW4
      go_wp2_with fail
      have HBWR := Lib.hid (HB1.out.trans (HBC.out.mono HB1.out.size))
      have hE0 := HBC.out.size
      obtain ⟨b0, b1, b2⟩ := HBX1.out.keep HBC.out
      go_region_held3 (fun w' => w'.cell? ⟨w.heap.size, 0, none⟩ = some (.int .i64 x.1.op) ∧ w'.cell? ⟨w.heap.size, 1, none⟩ = some (.int .i64 x.1.l) ∧ w'.cell? ⟨w.heap.size, 2, none⟩ = some (.slice x.1.a xn x.1.c))
        (go_keep)
        (first
          | (show if Region.wanted ⟨some 39, _, _, _, _, _⟩ _ = true then _ else _
             refine step_appX (W0 := W0) (w1 := w1) (o := ⟨some 39, _, _, _, _, _⟩) rfl (.tmp 35) (.tmp 38) (by rfl) (.slice (some ⟨_, 0, none⟩) 0 0) [] (by rfl) ?_ _ _ _ (es.take 0) (by rfl) ?_ ?_ ?_ ?_ ?_
             · repeat (first | (with_reducible refine AppX.made ?_ ?_) | with_reducible apply AppX.alloc | with_reducible apply AppX.drew)
               · repeat (first | with_reducible exact HBC.out | with_reducible exact HBWR.out | with_reducible apply below_al | with_reducible apply Below.drew)
               · first | rfl | simp
             · first | (simp; done) | (simp; omega)
             · intro h; cases h
             · intro ad had j u hu
               injection had with had
               subst had
               rw [Addr.add_lit, Nat.zero_add]
               refine (Below.cell (w := w) ?_ (p := ⟨g, j, none⟩) HLT.out).trans (cells_take HLC.out _ j u hu)
               repeat (first | with_reducible exact HBC.out | with_reducible exact HBWR.out | with_reducible apply below_al | with_reducible apply Below.drew)
             · first | (simp; done) | (simp; omega)
             intro v1 W1 hA1 hk1 ho1 hs1
             obtain ⟨k0, k1, k2⟩ := HBX1.out.keep hA1.bel)
          | (show if Region.wanted ⟨some 42, _, _, _, _, _⟩ _ = true then _ else _
             refine step_appX (W0 := W0) (w1 := w1) (o := ⟨some 42, _, _, _, _, _⟩) rfl (.tmp 39) (.tmp 41) (by rfl) v1 ([] ++ (es.take 0)) (by rfl) ?_ _ 1 1 [x] (by rfl) rfl ?_ ?_ ?_ ?_
             · repeat (first | with_reducible exact hA1 | with_reducible apply AppX.alloc | with_reducible apply AppX.drew)
             · intro h; cases h
             · intro ad had
               injection had with had
               subst had
               refine box_cellsE HXN.out ?_
               first
                 | exact Box.new W1 _ _ _
                 | exact ⟨hk1 _ _ _ (by simp [go_sem]) (by simp [Value.ownBlock]), hk1 _ _ _ (by simp [go_sem]) (by simp [Value.ownBlock]), hk1 _ _ _ (by simp [go_sem]) (by simp [Value.ownBlock])⟩
             · first | (simp; done) | (simp; omega)
             intro v2 W2 hA2 hk2 ho2 hs2
             have HB2W := HB1.out.trans (hA2.bel.mono HB1.out.size)
             obtain ⟨k0, k1, k2⟩ := HBX1.out.keep hA2.bel)
          | (show if Region.wanted ⟨some 46, _, _, _, _, _⟩ _ = true then _ else _
             refine step_appX (W0 := W0) (w1 := w1) (o := ⟨some 46, _, _, _, _, _⟩) rfl (.tmp 42) (.tmp 45) (by rfl) v2 ([] ++ (es.take 0) ++ [x]) (by rfl) ?_ _ _ _ (es.drop 0) (by rfl) ?_ ?_ ?_ ?_ ?_
             · repeat (first | with_reducible exact hA2 | with_reducible apply AppX.alloc | with_reducible apply AppX.drew)
             · first | (simp; done) | (simp; omega)
             · intro h; cases h
             · intro ad had j u hu
               injection had with had
               subst had
               rw [Addr.add_lit]
               refine (Below.cell (w := w) ?_ (p := ⟨g, _, none⟩) HLT.out).trans ?_
               · repeat (first | with_reducible exact HB2W | with_reducible apply Below.drew)
               · first | exact cells_drop HLC.out _ (by omega) j u hu | (rw [Nat.zero_add]; exact HLC.out j u hu)
             · first | (simp; done) | (simp; omega)
             intro v3 W3 hA3 hk3 ho3 hs3
             obtain ⟨k0, k1, k2⟩ := HBX1.out.keep hA3.bel))
      all_goals
        have HA3 := Lib.hid hA3
        clear hA1 hA2 hA3 hk1 hk2 hk3 ho1 ho2 ho3 hs1 hs2 hs3
        go_wp2_with fail
        go_ret
        refine ⟨v3, _, rfl, ownsRow_base HA3.out.own (Nat.le_trans hBw HB1.out.size), ?_, by first | (simp; done) | (simp; omega), HB1.out.trans (HA3.out.bel.mono HB1.out.size)⟩
        exact ins_at HST.out (Nat.zero_le _) HGT.out (fun j h e => by omega)
    · obtain ⟨m, hm⟩ : ∃ m, m + 1 = k := ⟨k - 1, by omega⟩
      have hml : m < es.length := by omega
      obtain ⟨c0, c1, c2⟩ := (HL.out.keep (HB1.out.trans (HBA.out.mono HB1.out.size)) HLT.out).get hml
      have q0 := fun d os => cell_regrown c0 d os
      have q1 := fun d os => cell_regrown c1 d os
      have q2 := fun d os => cell_regrown c2 d os
      have hk0I : (0 : Int) < (k : Int) := by omega
      have hk0N : 0 < k := by omega
      have hm0 : (0 : Int) ≤ (m : Int) := by omega
      have hmlI : (m : Int) < (es.length : Int) := by omega
      have hwm : IntKind.i64.wrap ((k : Int) - 1) = (m : Int) := by rw [IntWalk.i64_in _ (by omega)]; omega
      have hwk : IntKind.i64.wrap (k : Int) = (k : Int) := IntWalk.i64_in _ (by omega)
      obtain ⟨r, hr⟩ : ∃ r, r = cmpT x.1.t es[m].1.t := ⟨_, rfl⟩
      have hr2 : cmpT es[m].1.t x.1.t = -r := by rw [hr]; exact cmpT_neg _ _
      have EQ := Lib.hid (cmpE (HWW.out.trans (HBA.out.mono HWW.out.size)) x es[m] r hr.symm)
      have EQ2 := Lib.hid (fun W (h : Below W0.heap.size W0 W) => cmpE h es[m] x (-r) hr2)
      have HR := Lib.hid hr
      have HR2 := Lib.hid hr2
      have HM := Lib.hid hm
      obtain ⟨y, hy⟩ : ∃ x, x = es[m] := ⟨_, rfl⟩
      have HYY := Lib.hid hy.symm
      rw [← hy] at c0 c1 c2 EQ EQ2
      simp only [← hy] at q0 q1 q2
      rw [← HXN.out] at EQ EQ2
      clear hr hr2 hy hm
      by_cases hlt0 : r < 0
      · have HG2 := Lib.hid (show ∀ j (h : j < es.length), m ≤ j → cmpT x.1.t es[j].1.t < 0 from fun j h hj => by
          by_cases e : j = m
          · subst e; rw [← HR.out]; exact hlt0
          · exact HGT.out j h (by have := HM.out; omega))
        clear b0 b1 b2 c0 c1 c2
        go_wp2_with fail
        refine wp_region_quiet_below (by kernel_rfl) (by kernel_rfl) ?_
        repeat (go_big_quiet_step (first | (with_reducible exact Calls.regrown_of (EQ.out _ _))))
        refine wpQuiet_nil ?_
        intro _ hw'
        obtain ⟨⟨dq, osq⟩, hw''⟩ := hw'
        subst hw''
        have HBB := Lib.hid (HBA.out.trans ((below_regrown wA dq osq).mono HBA.out.size))
        go_wp2_with fail
        exact ⟨⟨m, by have := HM.out; omega, by rfl, HBB.out, HG2.out⟩, by have := HM.out; simp [intOf]; omega⟩
      · have hd0 : decide (r < 0) = false := by simp; omega
        clear b0 b1 b2 c0 c1 c2
        go_wp2_with fail
        refine wp_region_quiet_below (by kernel_rfl) (by kernel_rfl) ?_
        repeat (go_big_quiet_step (first | (with_reducible exact Calls.regrown_of (EQ.out _ _))))
        refine wpQuiet_nil ?_
        intro _ hw'
        obtain ⟨⟨dq, osq⟩, hw''⟩ := hw'
        subst hw''
        have HBB := Lib.hid (HBA.out.trans ((below_regrown wA dq osq).mono HBA.out.size))
        generalize hW4 : grow (redrawn wA dq) osq = wB at HBB ⊢
        clear hW4 p0 p1 p2 q0 q1 q2
        obtain ⟨b0, b1, b2⟩ := HBX1.out.keep HBB.out
        have p0 := fun d os => cell_regrown b0 d os
        have p1 := fun d os => cell_regrown b1 d os
        have p2 := fun d os => cell_regrown b2 d os
        obtain ⟨y', hy'⟩ : ∃ y', y' = y := ⟨_, rfl⟩
        obtain ⟨c0, c1, c2⟩ := (HL.out.keep (HB1.out.trans (HBB.out.mono HB1.out.size)) HLT.out).get hml
        rw [HYY.out] at c0 c1 c2
        have q0 := fun d os => cell_regrown c0 d os
        have q1 := fun d os => cell_regrown c1 d os
        have q2 := fun d os => cell_regrown c2 d os
        have EQB := Lib.hid (EQ2.out wB (HWW.out.trans (HBB.out.mono HWW.out.size)))
        clear b0 b1 b2 c0 c1 c2 hy'
        by_cases heq : -r = 0
        · have HF := Lib.hid (ins_found HST.out hml (HR2.out.trans heq))
          have t0 : (-r == 0) = true := by rw [heq]; rfl
          clear heq
          go_wp2_with fail
          refine wp_region_quiet_below (by kernel_rfl) (by kernel_rfl) ?_
          repeat (go_big_quiet_step (first | (with_reducible exact Calls.regrown_of (EQB.out _ _))))
          refine wpQuiet_nil ?_
          intro _ hw'
          obtain ⟨⟨dq, osq⟩, hw''⟩ := hw'
          subst hw''
          have HBC := Lib.hid (HBB.out.trans ((below_regrown wB dq osq).mono HBB.out.size))
          go_wp2_with fail
          go_ret
          exact HSELF.out _ (HB1.out.trans (HBC.out.mono HB1.out.size)) HF.out
        · have t0 : (-r == 0) = false := ne_beq heq
          have HLTX := Lib.hid (show ∀ j (h : j < es.length), j + 1 = k → cmpT es[j].1.t x.1.t < 0 from fun j h e => by
            obtain rfl : j = m := by have := HM.out; omega
            rw [HR2.out]; omega)
          have hkI : (k : Int) ≤ (es.length : Int) := by omega
          have hkC : (k : Int) ≤ (cap : Int) := by omega
          clear heq
          by_cases hck : cap = k
          · go_wp2_with fail
            refine wp_region_quiet_below (by kernel_rfl) (by kernel_rfl) ?_
            repeat (go_big_quiet_step (first | (with_reducible exact Calls.regrown_of (EQB.out _ _))))
            refine wpQuiet_nil ?_
            intro _ hw'
            obtain ⟨⟨dq, osq⟩, hw''⟩ := hw'
            subst hw''
            have HBC := Lib.hid (HBB.out.trans ((below_regrown wB dq osq).mono HBB.out.size))
            generalize hW4 : grow (redrawn wB dq) osq = wC at HBC ⊢
            clear hW4 p0 p1 p2 q0 q1 q2
            go_wp2_with fail
            have HBWR := Lib.hid (HB1.out.trans (HBC.out.mono HB1.out.size))
            have hE0 := HBC.out.size
            obtain ⟨b0, b1, b2⟩ := HBX1.out.keep HBC.out
            go_region_held3 (fun w' => w'.cell? ⟨w.heap.size, 0, none⟩ = some (.int .i64 x.1.op) ∧ w'.cell? ⟨w.heap.size, 1, none⟩ = some (.int .i64 x.1.l) ∧ w'.cell? ⟨w.heap.size, 2, none⟩ = some (.slice x.1.a xn x.1.c))
              (go_keep)
              (first
                | (show if Region.wanted ⟨some 39, _, _, _, _, _⟩ _ = true then _ else _
                   refine step_appX (W0 := W0) (w1 := w1) (o := ⟨some 39, _, _, _, _, _⟩) rfl (.tmp 35) (.tmp 38) (by rfl) (.slice (some ⟨_, 0, none⟩) 0 0) [] (by rfl) ?_ _ _ _ (es.take k) (by rfl) ?_ ?_ ?_ ?_ ?_
                   · repeat (first | (with_reducible refine AppX.made ?_ ?_) | with_reducible apply AppX.alloc | with_reducible apply AppX.drew)
                     · repeat (first | with_reducible exact HBC.out | with_reducible exact HBWR.out | with_reducible apply below_al | with_reducible apply Below.drew)
                     · first | rfl | simp
                   · first | (simp; done) | (simp; omega)
                   · intro h; cases h
                   · intro ad had j u hu
                     injection had with had
                     subst had
                     rw [Addr.add_lit, Nat.zero_add]
                     refine (Below.cell (w := w) ?_ (p := ⟨g, j, none⟩) HLT.out).trans (cells_take HLC.out _ j u hu)
                     repeat (first | with_reducible exact HBC.out | with_reducible exact HBWR.out | with_reducible apply below_al | with_reducible apply Below.drew)
                   · first | (simp; done) | (simp; omega)
                   intro v1 W1 hA1 hk1 ho1 hs1
                   obtain ⟨k0, k1, k2⟩ := HBX1.out.keep hA1.bel)
                | (show if Region.wanted ⟨some 42, _, _, _, _, _⟩ _ = true then _ else _
                   refine step_appX (W0 := W0) (w1 := w1) (o := ⟨some 42, _, _, _, _, _⟩) rfl (.tmp 39) (.tmp 41) (by rfl) v1 ([] ++ (es.take k)) (by rfl) ?_ _ 1 1 [x] (by rfl) rfl ?_ ?_ ?_ ?_
                   · repeat (first | with_reducible exact hA1 | with_reducible apply AppX.alloc | with_reducible apply AppX.drew)
                   · intro h; cases h
                   · intro ad had
                     injection had with had
                     subst had
                     refine box_cellsE HXN.out ?_
                     first
                       | exact Box.new W1 _ _ _
                       | exact ⟨hk1 _ _ _ (by simp [go_sem]) (by simp [Value.ownBlock]), hk1 _ _ _ (by simp [go_sem]) (by simp [Value.ownBlock]), hk1 _ _ _ (by simp [go_sem]) (by simp [Value.ownBlock])⟩
                   · first | (simp; done) | (simp; omega)
                   intro v2 W2 hA2 hk2 ho2 hs2
                   have HB2W := HB1.out.trans (hA2.bel.mono HB1.out.size)
                   obtain ⟨k0, k1, k2⟩ := HBX1.out.keep hA2.bel)
                | (show if Region.wanted ⟨some 46, _, _, _, _, _⟩ _ = true then _ else _
                   refine step_appX (W0 := W0) (w1 := w1) (o := ⟨some 46, _, _, _, _, _⟩) rfl (.tmp 42) (.tmp 45) (by rfl) v2 ([] ++ (es.take k) ++ [x]) (by rfl) ?_ _ _ _ (es.drop k) (by rfl) ?_ ?_ ?_ ?_ ?_
                   · repeat (first | with_reducible exact hA2 | with_reducible apply AppX.alloc | with_reducible apply AppX.drew)
                   · first | (simp; done) | (simp; omega)
                   · intro h; cases h
                   · intro ad had j u hu; rw [List.drop_eq_nil_of_le (by omega)] at hu; simp [cellsE] at hu
                   · first | (simp; done) | (simp; omega)
                   intro v3 W3 hA3 hk3 ho3 hs3
                   obtain ⟨k0, k1, k2⟩ := HBX1.out.keep hA3.bel))
            all_goals
              have HA3 := Lib.hid hA3
              clear hA1 hA2 hA3 hk1 hk2 hk3 ho1 ho2 ho3 hs1 hs2 hs3
              go_wp2_with fail
              go_ret
              refine ⟨v3, _, rfl, ownsRow_base HA3.out.own (Nat.le_trans hBw HB1.out.size), ?_, by first | (simp; done) | (simp; omega), HB1.out.trans (HA3.out.bel.mono HB1.out.size)⟩
              exact ins_at HST.out hk HGT.out HLTX.out
          · go_wp2_with fail
            refine wp_region_quiet_below (by kernel_rfl) (by kernel_rfl) ?_
            repeat (go_big_quiet_step (first | (with_reducible exact Calls.regrown_of (EQB.out _ _))))
            refine wpQuiet_nil ?_
            intro _ hw'
            obtain ⟨⟨dq, osq⟩, hw''⟩ := hw'
            subst hw''
            have HBC := Lib.hid (HBB.out.trans ((below_regrown wB dq osq).mono HBB.out.size))
            generalize hW4 : grow (redrawn wB dq) osq = wC at HBC ⊢
            clear hW4 p0 p1 p2 q0 q1 q2
            go_wp2_with fail
            have HBWR := Lib.hid (HB1.out.trans (HBC.out.mono HB1.out.size))
            have hE0 := HBC.out.size
            obtain ⟨b0, b1, b2⟩ := HBX1.out.keep HBC.out
            go_region_held3 (fun w' => w'.cell? ⟨w.heap.size, 0, none⟩ = some (.int .i64 x.1.op) ∧ w'.cell? ⟨w.heap.size, 1, none⟩ = some (.int .i64 x.1.l) ∧ w'.cell? ⟨w.heap.size, 2, none⟩ = some (.slice x.1.a xn x.1.c))
              (go_keep)
              (first
                | (show if Region.wanted ⟨some 39, _, _, _, _, _⟩ _ = true then _ else _
                   refine step_appX (W0 := W0) (w1 := w1) (o := ⟨some 39, _, _, _, _, _⟩) rfl (.tmp 35) (.tmp 38) (by rfl) (.slice (some ⟨_, 0, none⟩) 0 0) [] (by rfl) ?_ _ _ _ (es.take k) (by rfl) ?_ ?_ ?_ ?_ ?_
                   · repeat (first | (with_reducible refine AppX.made ?_ ?_) | with_reducible apply AppX.alloc | with_reducible apply AppX.drew)
                     · repeat (first | with_reducible exact HBC.out | with_reducible exact HBWR.out | with_reducible apply below_al | with_reducible apply Below.drew)
                     · first | rfl | simp
                   · first | (simp; done) | (simp; omega)
                   · intro h; cases h
                   · intro ad had j u hu
                     injection had with had
                     subst had
                     rw [Addr.add_lit, Nat.zero_add]
                     refine (Below.cell (w := w) ?_ (p := ⟨g, j, none⟩) HLT.out).trans (cells_take HLC.out _ j u hu)
                     repeat (first | with_reducible exact HBC.out | with_reducible exact HBWR.out | with_reducible apply below_al | with_reducible apply Below.drew)
                   · first | (simp; done) | (simp; omega)
                   intro v1 W1 hA1 hk1 ho1 hs1
                   obtain ⟨k0, k1, k2⟩ := HBX1.out.keep hA1.bel)
                | (show if Region.wanted ⟨some 42, _, _, _, _, _⟩ _ = true then _ else _
                   refine step_appX (W0 := W0) (w1 := w1) (o := ⟨some 42, _, _, _, _, _⟩) rfl (.tmp 39) (.tmp 41) (by rfl) v1 ([] ++ (es.take k)) (by rfl) ?_ _ 1 1 [x] (by rfl) rfl ?_ ?_ ?_ ?_
                   · repeat (first | with_reducible exact hA1 | with_reducible apply AppX.alloc | with_reducible apply AppX.drew)
                   · intro h; cases h
                   · intro ad had
                     injection had with had
                     subst had
                     refine box_cellsE HXN.out ?_
                     first
                       | exact Box.new W1 _ _ _
                       | exact ⟨hk1 _ _ _ (by simp [go_sem]) (by simp [Value.ownBlock]), hk1 _ _ _ (by simp [go_sem]) (by simp [Value.ownBlock]), hk1 _ _ _ (by simp [go_sem]) (by simp [Value.ownBlock])⟩
                   · first | (simp; done) | (simp; omega)
                   intro v2 W2 hA2 hk2 ho2 hs2
                   have HB2W := HB1.out.trans (hA2.bel.mono HB1.out.size)
                   obtain ⟨k0, k1, k2⟩ := HBX1.out.keep hA2.bel)
                | (show if Region.wanted ⟨some 46, _, _, _, _, _⟩ _ = true then _ else _
                   refine step_appX (W0 := W0) (w1 := w1) (o := ⟨some 46, _, _, _, _, _⟩) rfl (.tmp 42) (.tmp 45) (by rfl) v2 ([] ++ (es.take k) ++ [x]) (by rfl) ?_ _ _ _ (es.drop k) (by rfl) ?_ ?_ ?_ ?_ ?_
                   · repeat (first | with_reducible exact hA2 | with_reducible apply AppX.alloc | with_reducible apply AppX.drew)
                   · first | (simp; done) | (simp; omega)
                   · intro h; cases h
                   · intro ad had j u hu
                     injection had with had
                     subst had
                     rw [Addr.add_lit]
                     refine (Below.cell (w := w) ?_ (p := ⟨g, _, none⟩) HLT.out).trans ?_
                     · repeat (first | with_reducible exact HB2W | with_reducible apply Below.drew)
                     · first | exact cells_drop HLC.out _ (by omega) j u hu | (rw [Nat.zero_add]; exact HLC.out j u hu)
                   · first | (simp; done) | (simp; omega)
                   intro v3 W3 hA3 hk3 ho3 hs3
                   obtain ⟨k0, k1, k2⟩ := HBX1.out.keep hA3.bel))
            all_goals
              have HA3 := Lib.hid hA3
              clear hA1 hA2 hA3 hk1 hk2 hk3 ho1 ho2 ho3 hs1 hs2 hs3
              go_wp2_with fail
              go_ret
              refine ⟨v3, _, rfl, ownsRow_base HA3.out.own (Nat.le_trans hBw HB1.out.size), ?_, by first | (simp; done) | (simp; omega), HB1.out.trans (HA3.out.bel.mono HB1.out.size)⟩
              exact ins_at HST.out hk HGT.out HLTX.out
set_option maxRecDepth 100000 in
set_option maxHeartbeats 8000000 in
theorem insert_nil (W0 w : World) (hw0 : Below W0.heap.size W0 w) (B : Nat) (hBw : B ≤ w.heap.size) (x : ExIn W0) :
    Calls Try.prog 23 #[.slice none 0 0, .agg #[.int .i64 x.1.op, .int .i64 x.1.l, .slice x.1.a x.1.ks.length x.1.c]] w (InsP B w ([] : List (ExIn W0)) x) := by
  obtain ⟨xn, hxn⟩ : ∃ n, n = x.1.ks.length := ⟨_, rfl⟩
  rw [← hxn]
  have HXN := Lib.hid hxn
  have HW := Lib.hid hw0
  have HB0 := Lib.hid ((Below.refl w.heap.size w).alloc (Nat.le_refl _) (.cells #[.int .i64 x.1.op, .int .i64 x.1.l, .slice x.1.a xn x.1.c] 24))
  have HBX := Lib.hid (Box.new w (.int .i64 x.1.op) (.int .i64 x.1.l) (.slice x.1.a xn x.1.c))
  obtain ⟨w1, hw1⟩ : ∃ W, W = w.alloc (.cells #[.int .i64 x.1.op, .int .i64 x.1.l, .slice x.1.a xn x.1.c] 24) := ⟨_, rfl⟩
  have HW1 := Lib.hid hw1
  have HB1 := Lib.hid (show Below w.heap.size w w1 by rw [hw1]; exact HB0.out)
  have HBX1 := Lib.hid (show Box w1 w.heap.size (.int .i64 x.1.op) (.int .i64 x.1.l) (.slice x.1.a xn x.1.c) by rw [hw1]; exact HBX.out)
  have hsz1 : w1.heap.size = w.heap.size + 1 := by rw [hw1]; simp
  have HS1 := Lib.hid hsz1
  have hlt1 : w.heap.size < w1.heap.size := by omega
  have HWW := Lib.hid (hw0.trans (HB1.out.mono hw0.size))
  clear hxn hw0
  go_enter Try.func23, Try.ntmps23
  clear hw1
  go_wp2_with fail
  rw [← HW1.out]
  go_loopw [5] (fun vk wr => vk = .int .i64 0 ∧ Below w1.heap.size w1 wr) (fun _ _ => 0)
  case atStart => exact ⟨rfl, Below.refl _ _⟩
  case round =>
    rename World => wA
    obtain ⟨rfl, hbel⟩ := hrel
    have HBA := Lib.hid hbel
    clear hbel
    go_wp2_with fail
    refine wp_region_quiet_below (by kernel_rfl) (by kernel_rfl) ?_
    repeat (go_big_quiet_step (fail))
    refine wpQuiet_nil ?_
    intro _ hw'
    obtain ⟨⟨dq, osq⟩, hw''⟩ := hw'
    subst hw''
    have HBB := Lib.hid (HBA.out.trans ((below_regrown wA dq osq).mono HBA.out.size))
    generalize hW4 : grow (redrawn wA dq) osq = wB at HBB ⊢
    clear hW4
    go_wp2_with fail
    refine wp_region_quiet_below (by kernel_rfl) (by kernel_rfl) ?_
    repeat (go_big_quiet_step (fail))
    refine wpQuiet_nil ?_
    intro _ hw'
    obtain ⟨⟨dq, osq⟩, hw''⟩ := hw'
    subst hw''
    have HBC := Lib.hid (HBB.out.trans ((below_regrown wB dq osq).mono HBB.out.size))
    generalize hW4 : grow (redrawn wB dq) osq = wC at HBC ⊢
    clear hW4
    go_wp2_with fail
    have HBWR := Lib.hid (HB1.out.trans (HBC.out.mono HB1.out.size))
    have hE0 := HBC.out.size
    obtain ⟨b0, b1, b2⟩ := HBX1.out.keep HBC.out
    go_region_held3 (fun w' => w'.cell? ⟨w.heap.size, 0, none⟩ = some (.int .i64 x.1.op) ∧ w'.cell? ⟨w.heap.size, 1, none⟩ = some (.int .i64 x.1.l) ∧ w'.cell? ⟨w.heap.size, 2, none⟩ = some (.slice x.1.a xn x.1.c))
      (go_keep)
      (first
        | (show if Region.wanted ⟨some 39, _, _, _, _, _⟩ _ = true then _ else _
           refine step_appX (W0 := W0) (w1 := w1) (o := ⟨some 39, _, _, _, _, _⟩) rfl (.tmp 35) (.tmp 38) (by rfl) (.slice (some ⟨_, 0, none⟩) 0 0) [] (by rfl) ?_ _ _ _ ([] : List (ExIn W0)) (by rfl) ?_ ?_ ?_ ?_ ?_
           · repeat (first | (with_reducible refine AppX.made ?_ ?_) | with_reducible apply AppX.alloc | with_reducible apply AppX.drew)
             · repeat (first | with_reducible exact HBC.out | with_reducible exact HBWR.out | with_reducible apply below_al | with_reducible apply Below.drew)
             · first | rfl | simp
           · first | (simp; done) | (simp; omega)
           · intro _; exact ⟨rfl, rfl⟩
           · intro ad had; cases had
           · first | (simp; done) | (simp; omega)
           intro v1 W1 hA1 hk1 ho1 hs1
           obtain ⟨k0, k1, k2⟩ := HBX1.out.keep hA1.bel)
        | (show if Region.wanted ⟨some 42, _, _, _, _, _⟩ _ = true then _ else _
           refine step_appX (W0 := W0) (w1 := w1) (o := ⟨some 42, _, _, _, _, _⟩) rfl (.tmp 39) (.tmp 41) (by rfl) v1 ([] ++ ([] : List (ExIn W0))) (by rfl) ?_ _ 1 1 [x] (by rfl) rfl ?_ ?_ ?_ ?_
           · repeat (first | with_reducible exact hA1 | with_reducible apply AppX.alloc | with_reducible apply AppX.drew)
           · intro h; cases h
           · intro ad had
             injection had with had
             subst had
             refine box_cellsE HXN.out ?_
             first
               | exact Box.new W1 _ _ _
               | exact ⟨hk1 _ _ _ (by simp [go_sem]) (by simp [Value.ownBlock]), hk1 _ _ _ (by simp [go_sem]) (by simp [Value.ownBlock]), hk1 _ _ _ (by simp [go_sem]) (by simp [Value.ownBlock])⟩
           · first | (simp; done) | (simp; omega)
           intro v2 W2 hA2 hk2 ho2 hs2
           have HB2W := HB1.out.trans (hA2.bel.mono HB1.out.size)
           obtain ⟨k0, k1, k2⟩ := HBX1.out.keep hA2.bel)
        | (show if Region.wanted ⟨some 46, _, _, _, _, _⟩ _ = true then _ else _
           refine step_appX (W0 := W0) (w1 := w1) (o := ⟨some 46, _, _, _, _, _⟩) rfl (.tmp 42) (.tmp 45) (by rfl) v2 ([] ++ ([] : List (ExIn W0)) ++ [x]) (by rfl) ?_ _ _ _ ([] : List (ExIn W0)) (by rfl) ?_ ?_ ?_ ?_ ?_
           · repeat (first | with_reducible exact hA2 | with_reducible apply AppX.alloc | with_reducible apply AppX.drew)
           · first | (simp; done) | (simp; omega)
           · intro _; exact ⟨rfl, rfl⟩
           · intro ad had; cases had
           · first | (simp; done) | (simp; omega)
           intro v3 W3 hA3 hk3 ho3 hs3
           obtain ⟨k0, k1, k2⟩ := HBX1.out.keep hA3.bel))
    all_goals
      have HA3 := Lib.hid hA3
      clear hA1 hA2 hA3 hk1 hk2 hk3 ho1 ho2 ho3 hs1 hs2 hs3
      go_wp2_with fail
      go_ret
      refine ⟨v3, _, rfl, ownsRow_base HA3.out.own (Nat.le_trans hBw HB1.out.size), ?_, by first | (simp; done) | (simp; omega), HB1.out.trans (HA3.out.bel.mono HB1.out.size)⟩
      simp [insT]
theorem insert_any (W0 w : World) (hw0 : Below W0.heap.size W0 w) (B : Nat) (hB0 : W0.heap.size ≤ B) (hBw : B ≤ w.heap.size) (v : Value) (es : List (ExIn W0)) (ho : w.ownsRow B 24 3 v es.length (cellsE es)) (hst : StrictT (es.map (·.1.t))) (hlen : es.length ≤ 1000000000) (x : ExIn W0) :
    Calls Try.prog 23 #[v, .agg #[.int .i64 x.1.op, .int .i64 x.1.l, .slice x.1.a x.1.ks.length x.1.c]] w (InsP B w es x) := by
  rcases ho.2 with ⟨h, h0⟩ | ⟨g, cap, cur, h, hBg, _⟩
  · obtain rfl : es = [] := List.eq_nil_of_length_eq_zero h0
    rw [h]
    exact insert_nil W0 w hw0 B hBw x
  · subst h
    obtain ⟨_, hL⟩ := BlkX.of_own hw0 (ownsRow_base ho hB0)
    exact insert_row W0 w hw0 B hBw g cap hBg es hL hst hlen x
open Go Go.RowKit Go.Sort
set_option linter.unusedVariables false
/-- a row made since wb that holds expressions of W0 -/
structure OwnY (W0 wb w : World) (v : Value) (ts : List T) : Prop where
  own : ∃ es : List (ExIn W0), es.map (·.1.t) = ts ∧ w.ownsRow wb.heap.size 24 3 v es.length (cellsE es)
  bel : Below wb.heap.size wb w
theorem OwnY.nil {W0 wb w : World} (h : Below wb.heap.size wb w) : OwnY W0 wb w (.slice none 0 0) [] := ⟨⟨[], rfl, World.ownsRow_nil _ _ _ _⟩, h⟩
set_option maxRecDepth 100000 in
set_option maxHeartbeats 2000000 in
theorem flatY_any (op : Int) (hop : op = 4 ∨ op = 5 ∨ op = 6) (ks : List T) (hg : ∀ k, k ∈ ks → GoodT k) (hs : sizeL ks ≤ 1000000000) (a : Option Addr) (c : Nat) (W0 wb : World) (hw : Below W0.heap.size W0 wb) (hin : InX W0 0 0 ks a) :
    Calls Try.prog 22 #[.int .i64 op, .slice a ks.length c] wb fun e w' => ∃ v, e = .returned v ∧ OwnY W0 wb w' v (flatT op ks) := by
  have hlen := hin.2.2.2
  have HI := Lib.hid hin
  have HG := Lib.hid hg
  have HS := Lib.hid hs
  have HO := Lib.hid hop
  have HWB := Lib.hid hw
  clear hin hg hs hop hw
  go_enter Try.func22, Try.ntmps22
  go_wp2_with fail
  go_loopw [5, 10] (fun vp vi wr => ∃ (i : Nat), i ≤ ks.length ∧ vi = .int .i64 i ∧ OwnY W0 wb wr vp (flatT op (ks.take i))) (fun _ vi _ => ks.length - (intOf vi).toNat)
  case atStart => exact ⟨0, Nat.zero_le _, rfl, OwnY.nil (Below.refl _ _)⟩
  case round =>
    rename World => wA
    obtain ⟨i, hi, rfl, hown⟩ := hrel
    by_cases hlt : i < ks.length
    · obtain ⟨ko, kl, kk, hk, hk2⟩ := kid_some hlt
      obtain ⟨b, off, a', c', rfl, hbz, e1, e2, e3, hx⟩ := HI.out.kid hk
      have HB := Lib.hid (HWB.out.trans (hown.bel.mono HWB.out.size))
      have HBY := Lib.hid hown.bel
      have key : ∀ o, wA.cell? ⟨b, o, none⟩ = W0.cell? ⟨b, o, none⟩ := fun o => HB.out.cell (p := ⟨b, o, none⟩) hbz
      have c1 := (key _).trans e1
      have c2 := (key _).trans e2
      have c3 := (key _).trans e3
      have hi0 : (0 : Int) ≤ (i : Int) := by omega
      have hin2 : (i : Int) < (ks.length : Int) := by omega
      have hwi : IntKind.i64.wrap (i : Int) = (i : Int) := IntWalk.i64_in _ (by omega)
      obtain ⟨es, hes, ho⟩ := hown.own
      have hel : es.length ≤ 1000000000 := by
        have h1 := flat_len (op := op) HS.out i
        rw [← hes, List.length_map] at h1; exact h1
      have HOW := Lib.hid ho
      have HES := Lib.hid hes
      have HX := Lib.hid hx
      have HK2 := Lib.hid hk2
      have HK := Lib.hid hk
      obtain ⟨i0, hinf, hz0, hz1, hz2⟩ := info_parts infoE
      clear hown ho hes hx hk2 hk key e1 e2 e3
      have hso := HBY.out.size
      have hso0 := HWB.out.size
      by_cases heq : ko = op
      · subst heq
        have hgk := HG.out _ (List.mem_of_getElem? HK.out)
        have hkl : 2 ≤ kk.length := by
          rcases kind_of hgk.1 with ⟨h, _⟩ | ⟨h, _⟩ | ⟨_, _, h⟩
          · have := HO.out; omega
          · have := HO.out; omega
          · exact h
        have hkl2 : kk.length ≤ 1000000000 := by
          have h1 := sizeL_mem (List.mem_of_getElem? HK.out)
          have h2 := sizeL_len kk
          have h3 := HS.out
          simp only [sizeT] at h1
          omega
        obtain ⟨xo, xl, xk, hxk, _⟩ := kid_some (show 0 < kk.length by omega)
        obtain ⟨b2, off2, a2, d2, rfl, hb2, _⟩ := HX.out.kid hxk
        obtain ⟨es2, m1, m2, m3⟩ := kids_ex HX.out rfl
        have HM1 := Lib.hid m1
        have HM3 := Lib.hid m3
        have t : (ko == ko) = true := by simp
        obtain ⟨n2, hn2⟩ : ∃ n2, n2 = kk.length := ⟨_, rfl⟩
        rw [← hn2] at c3
        have HN2 := Lib.hid hn2
        clear hgk hxk m1 m3 hn2
        go_wp2_with (at_builtin; refine wpList_append_own_at _ rfl _ _ 22 rfl wb.heap.size 24 i0 _ 3 40 Try.underlying22 hinf hz0 hz1 hz2 rfl (by decide) _ _ _ rfl (HOW.out.alloc _) ⟨b2, off2, none⟩ n2 c' (cellsE es2) rfl ?c0 ?c1 ?c2 ?c3 ?c4 ?c5 ?_)
        case c0 => rw [cellsE_len, m2, ← HN2.out]
        case c1 =>
          intro j u hj
          rw [(HB.out.alloc (Nat.le_trans hso0 hso) _).cell (p := ⟨b2, off2 + j, none⟩) hb2]
          exact HM3.out j u hj
        case c2 => exact cellsE_one' es2
        case c3 => have := HN2.out; unfold maxLen; omega
        case c4 => have := HN2.out; omega
        case c5 => first | omega | (simp; omega)
        intro v' w4 h4 hg4 _ hat
        have HF := Lib.hid (show OwnY W0 wb w4 v' (flatT ko (ks.take (i + 1))) from ⟨⟨es ++ es2, by rw [List.map_append, HES.out, HM1.out, flatT_take hlt, HK2.out]; exact congrArg _ (if_pos rfl).symm, by rw [cellsE_append, List.length_append, m2, ← HN2.out]; exact h4⟩, (HBY.out.alloc hso _).grown hg4 (by simp; omega) fun k e => (HOW.out.lt k e).1⟩)
        clear h4 hg4 hat
        go_wp2_with fail
        exact ⟨⟨i + 1, by omega, by go_num, HF.out⟩, by simp [intOf]; omega⟩
      · have t : (ko == op) = false := ne_beq heq
        have HNE := Lib.hid heq
        obtain ⟨n2, hn2⟩ : ∃ n2, n2 = kk.length := ⟨_, rfl⟩
        rw [← hn2] at c3
        have HN2 := Lib.hid hn2
        clear heq hn2
        go_wp2_with (at_builtin; refine wpList_append_own_at _ rfl _ _ 22 rfl wb.heap.size 24 i0 _ 3 40 Try.underlying22 hinf hz0 hz1 hz2 rfl (by decide) _ _ _ rfl ((HOW.out.alloc _).alloc _) ⟨_, 0, none⟩ 1 1 [.int .i64 ko, .int .i64 kl, .slice a' n2 c'] rfl rfl ?c1 ?c2 ?c3 ?c4 ?c5 ?_)
        case c1 => exact World.news_of_block (cs := #[.int .i64 ko, .int .i64 kl, .slice a' n2 c']) (t := 24) (fr := (0, 0)) (by have h := heap_alloc_new (wA.alloc (.cells #[.int .i64 ko, .int .i64 kl, .slice a' n2 c'] 24)) (.cells #[.int .i64 ko, .int .i64 kl, .slice a' n2 c'] 24); simpa using h)
        case c2 => simp [Value.oneCell']
        case c3 => unfold maxLen; omega
        case c4 => omega
        case c5 => simp; omega
        intro v' w4 h4 hg4 _ hat
        have HF := Lib.hid (show OwnY W0 wb w4 v' (flatT op (ks.take (i + 1))) from ⟨⟨es ++ [⟨⟨ko, kl, kk, a', c'⟩, HX.out⟩], by rw [List.map_append, HES.out, flatT_take hlt, HK2.out]; exact congrArg _ (if_neg HNE.out).symm, by rw [cellsE_append, List.length_append]; rw [HN2.out] at h4; exact h4⟩, ((HBY.out.alloc hso _).alloc (by simp; omega) _).grown hg4 (by simp; omega) fun k e => (HOW.out.lt k e).1⟩)
        clear h4 hg4 hat
        go_wp2_with fail
        exact ⟨⟨i + 1, by omega, by go_num, HF.out⟩, by simp [intOf]; omega⟩
    · obtain rfl : i = ks.length := by omega
      rw [List.take_length] at hown
      have HF := Lib.hid hown
      clear hown
      go_wp2_with fail
      go_ret
      exact ⟨_, rfl, HF.out⟩
theorem beq_dec (x y : Int) : decide (x = y) = (x == y) := by by_cases h : x = y <;> simp [h]
/-- does it match all words, by its form -/
theorem univ_all {op l : Int} {ks : List T} (h : wfT 6 (.node op l ks) = true) : isT (.node op l ks) allT = (decide (op = 8) && decide (ks.length = 1) && decide ((ks.headD emptyT).op = 1)) := by
  rcases kind_of h with ⟨ho, rfl⟩ | ⟨ho, rfl, k, rfl⟩ | ⟨ho, rfl, h2⟩
  · rw [(isT_no _ _).2 (by intro e; injection e with e; omega)]; simp
  · obtain ⟨ko, kl, kk⟩ := k
    have hk := (wfT_node.1 h).2.2 (.node ko kl kk) (by simp)
    by_cases h8 : op = 8
    · subst h8
      by_cases h1 : ko = 1
      · subst h1
        have : T.node 1 kl kk = emptyT := by
          rcases kind_of hk with ⟨_, h'⟩ | ⟨h', _⟩ | ⟨h', _⟩
          · subst h'
            have hl := (wfT_node.1 hk).2.1
            rw [letOk_n (by omega)] at hl
            have hl0 : kl = 0 := by simpa using hl
            rw [hl0]; rfl
          · omega
          · omega
        rw [this]; show isT allT allT = _; rw [(isT_iff allT allT).2 rfl]; rfl
      · rw [(isT_no _ _).2 (by intro e; injection e with _ _ e; injection e with e; injection e with e; exact h1 e)]
        simp [T.op, h1]
    · rw [(isT_no _ _).2 (by intro e; injection e with e; exact h8 e)]; simp [h8]
  · rw [(isT_no _ _).2 (by intro e; injection e with e; omega)]
    have : decide (op = 8) = false := by simp; omega
    rw [this]; rfl
theorem is_empty {op l : Int} {ks : List T} (h : wfT 6 (.node op l ks) = true) : isT (.node op l ks) emptyT = decide (op = 1) := by
  by_cases h1 : op = 1
  · subst h1
    rcases kind_of h with ⟨_, rfl⟩ | ⟨ho, _⟩ | ⟨ho, _⟩
    · have hl := (wfT_node.1 h).2.1
      rw [letOk_n (by omega)] at hl
      have hl0 : l = 0 := by simpa using hl
      rw [hl0]; show isT emptyT emptyT = _; rw [(isT_iff emptyT emptyT).2 rfl]; rfl
    · omega
    · omega
  · rw [(isT_no _ _).2 (by intro e; injection e with e; exact h1 e)]; simp [h1]
theorem is_unit {op l : Int} {ks : List T} (h : wfT 6 (.node op l ks) = true) : isT (.node op l ks) unitT = decide (op = 2) := by
  by_cases h1 : op = 2
  · subst h1
    rcases kind_of h with ⟨_, rfl⟩ | ⟨ho, _⟩ | ⟨ho, _⟩
    · have hl := (wfT_node.1 h).2.1
      rw [letOk_n (by omega)] at hl
      have hl0 : l = 0 := by simpa using hl
      rw [hl0]; show isT unitT unitT = _; rw [(isT_iff unitT unitT).2 rfl]; rfl
    · omega
    · omega
  · rw [(isT_no _ _).2 (by intro e; injection e with e; exact h1 e)]; simp [h1]
set_option maxRecDepth 100000 in
set_option maxHeartbeats 2000000 in
theorem univ_any (op l : Int) (ks : List T) (a : Option Addr) (c : Nat) (w : World) (hin : InX w op l ks a) (hw : wfT 6 (.node op l ks) = true) :
    Calls Try.prog 21 #[.agg #[.int .i64 op, .int .i64 l, .slice a ks.length c]] w fun e w' => e = .returned (.bool (isT (.node op l ks) allT)) ∧ Below w.heap.size w w' := by
  rw [univ_all hw]
  have HB0 := Lib.hid ((Below.refl w.heap.size w).alloc (Nat.le_refl _) (.cells #[.int .i64 op, .int .i64 l, .slice a ks.length c] 24))
  have HI := Lib.hid hin
  by_cases h8 : op = 8
  · by_cases h1 : ks.length = 1
    · obtain ⟨k, rfl⟩ := List.length_eq_one_iff.1 h1
      obtain ⟨ko, kl, kk⟩ := k
      obtain ⟨b, off, a1, c1, rfl, hbz, d0, d1, d2, hx⟩ := (hin.keep HB0.out).kid (i := 0) rfl
      simp only [Nat.zero_mul, Nat.add_zero] at d0 d1 d2
      have hF : (decide (op = 8) && decide ([T.node ko kl kk].length = 1) && decide (([T.node ko kl kk].headD emptyT).op = 1)) = (ko == 1) := by subst h8; simp [T.op]; exact beq_dec ko 1
      rw [hF]
      have t8 : (op == 8) = true := by rw [h8]; rfl
      obtain ⟨n, hn⟩ : ∃ n, n = [T.node ko kl kk].length := ⟨_, rfl⟩
      rw [← hn] at HB0 d0 d1 d2 ⊢
      have hn1 : n = 1 := hn
      have t1 : ((n : Int) == 1) = true := by rw [hn1]; rfl
      have hl0 : (0 : Int) < (n : Int) := by omega
      subst h8
      clear hin hw hF hx h1 HI hn hn1
      go_enter Try.func21, Try.ntmps21
      go_wp2_with fail
      go_ret
      exact ⟨rfl, HB0.out⟩
    · have hF : (decide (op = 8) && decide (ks.length = 1) && decide ((ks.headD emptyT).op = 1)) = false := by simp [h1]
      rw [hF]
      have t1 : ((ks.length : Int) == 1) = false := ne_beq (by omega)
      subst h8
      clear hin hw hF
      go_enter Try.func21, Try.ntmps21
      go_wp2_with fail
      go_ret
      exact ⟨rfl, HB0.out⟩
  · have hF : (decide (op = 8) && decide (ks.length = 1) && decide ((ks.headD emptyT).op = 1)) = false := by simp [h8]
    rw [hF]
    have t8 : (op == 8) = false := ne_beq h8
    clear hin hw hF
    go_enter Try.func21, Try.ntmps21
    go_wp2_with fail
    go_ret
    exact ⟨rfl, HB0.out⟩
/-- below B nothing has turned but block b -/
structure ButX (B b : Nat) (a w : World) : Prop where
  os : w.os = a.os
  tape : w.tape = a.tape
  output : w.output = a.output
  size : a.heap.size ≤ w.heap.size
  block : ∀ k, k < B → k ≠ b → w.heap[k]? = a.heap[k]?
theorem ButX.refl (B b : Nat) (w : World) : ButX B b w w := ⟨rfl, rfl, rfl, Nat.le_refl _, fun _ _ _ => rfl⟩
theorem ButX.of {B b : Nat} {a w : World} (h : Below B a w) : ButX B b a w := ⟨h.os, h.tape, h.output, h.size, fun k hk _ => h.block k hk⟩
theorem ButX.trans {B b : Nat} {a w w' : World} (h : ButX B b a w) (k : ButX B b w w') : ButX B b a w' := ⟨k.os.trans h.os, k.tape.trans h.tape, k.output.trans h.output, Nat.le_trans h.size k.size, fun i hi hb => (k.block i hi hb).trans (h.block i hi hb)⟩
theorem ButX.on {B b : Nat} {a w w' : World} (h : ButX B b a w) (k : Below w.heap.size w w') (hB : B ≤ a.heap.size) : ButX B b a w' := h.trans (ButX.of (k.mono (Nat.le_trans hB h.size)))
theorem ButX.setCell {B b : Nat} {a w : World} (h : ButX B b a w) (o : Nat) (u : Value) : ButX B b a (w.setCell ⟨b, o, none⟩ u) := ⟨h.os, h.tape, h.output, by simpa using h.size, fun k hk hb => by rw [Below.heap_setCell _ _ _ _ hb]; exact h.block k hk hb⟩
theorem ButX.below {B B' b : Nat} {a w : World} (h : ButX B b a w) (hB : B' ≤ B) (hb : B' ≤ b) : Below B' a w := ⟨h.os, h.tape, h.output, h.size, fun k hk => h.block k (by omega) (by omega)⟩
theorem ButX.cell {B b : Nat} {a w : World} (h : ButX B b a w) {g o : Nat} (hg : g < B) (hb : g ≠ b) : w.cell? ⟨g, o, none⟩ = a.cell? ⟨g, o, none⟩ := World.cell?_of_block (w := a) (h.block g hg hb)
theorem ButX.frozen {B b : Nat} {a w : World} (h : ButX B b a w) {g o : Nat} (hg : g < B) (hb : g ≠ b) : w.frozen? ⟨g, o, none⟩ = a.frozen? ⟨g, o, none⟩ := World.frozen?_of_block (w := a) (h.block g hg hb)
theorem ButX.box {b g : Nat} {a w : World} {x y z : Value} (h : ButX a.heap.size b a w) (hb : g ≠ b) (k : Box a g x y z) : Box w g x y z := by
  have hg : g < a.heap.size := cell_lt (s := none) k.1
  exact ⟨(h.cell hg hb).trans k.1, (h.cell hg hb).trans k.2.1, (h.cell hg hb).trans k.2.2⟩
theorem ButX.zero {b g : Nat} {a w : World} (h : ButX a.heap.size b a w) (hb : g ≠ b) (k : Zero3 a g) : Zero3 w g := by
  have hg : g < a.heap.size := cell_lt (s := none) k.1.1
  exact ⟨h.box hb k.1, (h.frozen hg hb).trans k.2.1, (h.frozen hg hb).trans k.2.2.1, (h.frozen hg hb).trans k.2.2.2⟩
end Go.Proofs.Ythmdndondlffeaa
