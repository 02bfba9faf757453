/- Texts of the call's own; contracts: level, appendKid. -/
import Derived.Test.YthmdndondlffeaaExprD
import Derived.Test.YthmdndondlffeaaExprFM
import Derived.Lib.AppendStr
import Derived.Laws.BytesArg
import Derived.Deep.AppendLies
import Derived.Deep.RegionLaw
import Derived.Deep.RegionHeld3
import Derived.Deep.DrawnRows
namespace Go.Proofs.Ythmdndondlffeaa
open Go Go.RowKit Go.Lib
set_option linter.unusedVariables false
attribute [local go_sem ↓] Go.wp_at_zero Go.wp_at_succ

theorem infoB : (Try.prog.info? 5).map (fun i => (i.zero, i.size, i.bytes)) = some (some (.int .u8 0), 1, 1) := by kernel_rfl
/-- A byte's cell. -/
abbrev encB : Int → Value := fun x => Value.int .u8 x
/-- a text of the call's own -/
def OwnB (w : World) (base : Nat) (v : Value) (l : List Int) : Prop := w.ownsRow base 5 1 v l.length (l.map encB)
theorem OwnB.alloc {w : World} {base : Nat} {v : Value} {l : List Int} (h : OwnB w base v l) (o : Obj) : OwnB (w.alloc o) base v l := World.ownsRow.alloc h o
theorem OwnB.drew {w : World} {base : Nat} {v : Value} {l : List Int} (h : OwnB w base v l) : OwnB w.drew base v l := h
/-- from w, where the text is v, to w', where it is v' -/
structure TextS (base : Nat) (w w' : World) (v v' : Value) (l : List Int) : Prop where
  own : OwnB w' base v' l
  grow : w.grownBy w' v.ownBlock
  at' : v'.ownBlock = v.ownBlock ∨ ∃ g, v'.ownBlock = some g ∧ w.heap.size ≤ g
theorem grown_step {a b c : World} {r r' : Option Nat} (h : a.grownBy b r) (k : b.grownBy c r') (hat : r' = r ∨ ∃ g, r' = some g ∧ a.heap.size ≤ g) : a.grownBy c r := by
  refine ⟨k.os.trans h.os, k.tape.trans h.tape, k.output.trans h.output, Nat.le_trans h.size k.size, fun i hi hne => ?_⟩
  have hi2 : i < b.heap.size := Nat.lt_of_lt_of_le hi h.size
  refine (k.block i hi2 ?_).trans (h.block i hi hne)
  rcases hat with e | ⟨g, e, hg⟩
  · rw [e]; exact hne
  · rw [e]; intro e2; injection e2 with e2; omega
theorem TextS.trans {base : Nat} {w w1 w2 : World} {v v1 v2 : Value} {l1 l2 : List Int} (h : TextS base w w1 v v1 l1) (k : TextS base w1 w2 v1 v2 l2) : TextS base w w2 v v2 l2 := by
  refine ⟨k.own, grown_step h.grow k.grow h.at', ?_⟩
  rcases k.at' with e | ⟨g, e, hg⟩
  · rw [e]; exact h.at'
  · exact .inr ⟨g, e, Nat.le_trans h.grow.size hg⟩
theorem TextS.refl {base : Nat} {w : World} {v : Value} {l : List Int} (h : OwnB w base v l) : TextS base w w v v l := ⟨h, World.grownBy.refl _ _, .inl rfl⟩
theorem TextS.alloc {base : Nat} {w w1 : World} {v v1 : Value} {l : List Int} (h : TextS base w w1 v v1 l) (o : Obj) : TextS base w (w1.alloc o) v v1 l :=
  h.trans ⟨h.own.alloc o, World.grownBy_alloc _ _ _, .inl rfl⟩
theorem TextS.drew {base : Nat} {w w1 : World} {v v1 : Value} {l : List Int} (h : TextS base w w1 v v1 l) : TextS base w w1.drew v v1 l :=
  ⟨h.own, ⟨h.grow.os, h.grow.tape, h.grow.output, h.grow.size, h.grow.block⟩, h.at'⟩
theorem TextS.below {base : Nat} {w0 w w' : World} {v v' : Value} {l l0 : List Int} (h : TextS base w w' v v' l) (h0 : OwnB w base v l0) (hb : Below base w0 w) (hs : base ≤ w.heap.size) : Below base w0 w' :=
  hb.grown h.grow hs fun k hk => (h0.lt k hk).1
/-- the call returns the text v' -/
def TextP (base : Nat) (w : World) (v : Value) (l : List Int) (e : Ending) (w' : World) : Prop := ∃ v', e = .returned v' ∧ TextS base w w' v v' l
theorem map_snoc (l : List Int) (x : Int) : l.map encB ++ [Value.int .u8 x] = (l ++ [x]).map encB := by simp
theorem textS_push {base : Nat} {w w1 : World} {v v' : Value} {l : List Int} {x : Int} (h : w1.ownsRow base 5 1 v' (l.length + 1) (l.map encB ++ [.int .u8 x])) (hg : w.grownBy w1 v.ownBlock) (hat : v'.ownBlock = v.ownBlock ∨ v'.ownBlock = some w.heap.size) : TextS base w w1 v v' (l ++ [x]) :=
  ⟨by unfold OwnB; rw [← map_snoc, List.length_append]; exact h, hg, hat.imp id fun e => ⟨_, e, Nat.le_refl _⟩⟩

set_option maxHeartbeats 1000000 in
theorem level_any (op : Int) (w : World) : Calls Try.prog 59 #[.int .i64 op] w fun e w' => e = .returned (.int .i64 (lvl op)) ∧ w = w' := by
  rcases op_cases op with h | h | h | h | h | h | h | h | h
  case inr.inr.inr.inr.inr.inr.inr.inr =>
    obtain ⟨h1, h2, h3, h4, h5, h6, h7, h8⟩ := h
    have H := Lib.hid (show lvl op = 6 by unfold lvl; simp [h4, h5, h6, h7, h8])
    have t4 := ne_beq h4
    have t5 := ne_beq h5
    have t6 := ne_beq h6
    have t7 := ne_beq h7
    have t8 := ne_beq h8
    clear h1 h2 h3 h4 h5 h6 h7 h8
    go_enter Try.func59, Try.ntmps59
    go_wp2_with fail
    go_ret
    exact ⟨by rw [H.out]; rfl, rfl⟩
  all_goals
    subst h
    go_enter Try.func59, Try.ntmps59
    go_wp2_with fail
    go_ret
    exact ⟨rfl, rfl⟩

/-- append of one byte, laid into a block of its own, at a step of a region that draws its order -/
theorem step_push {ops : Array Oper} {o : Oper} {a : Act} {w : World} {K : Act → World → Prop} {Q : Exit → Act → World → Prop} {E : Prop} (hgd : o.guard = none) (s x : Operand)
    (ho : o.op = .call { callee := .builtin .append, args := #[s, x], argTypes := #[53, 53] })
    (base : Nat) (v : Value) (l : List Int) (hs : a.eval s = v) (hown : OwnB w base v l)
    (g c : Nat) (b : Int) (hx : a.eval x = .slice (some ⟨g, 0, none⟩) 1 c) (hc : w.cell? ⟨g, 0, none⟩ = some (.int .u8 b)) (hlen : l.length ≤ 200000) (w0 : World) (hbase : base ≤ w.heap.size) (hB : Below base w0 w)
    (h : ∀ v' w', TextS base w w' v v' (l ++ [b]) → (v'.ownBlock = v.ownBlock ∨ v'.ownBlock = some w.heap.size) → Below base w0 w' → K (a.put o.dst v') w') :
    if Region.wanted o (yielded ops a.tmps) = true then Oper.wp Try.prog o a w K Q else E := by
  obtain ⟨i0, hi, hz0, hz1, hz2⟩ := info_parts infoB
  refine step_append_lies (w := w) hgd s x 53 ho base 5 i0 (.int .u8 0) 1 1 Try.underlying53 hi hz0 hz1 hz2 rfl (by decide) v l.length (l.map encB) hs hown ⟨g, 0, none⟩ 1 c [.int .u8 b] hx rfl (fun j y hy => ?_) (by intro y hy; rw [List.mem_singleton] at hy; subst hy; rfl) (by decide) (by unfold maxLen; omega) (by omega) hbase _ rfl ?_
  · have h0 : j = 0 := by
      cases j with
      | zero => rfl
      | succ j => simp at hy
    subst h0
    simp at hy
    subst hy
    simpa [Addr.add] using hc
  · intro g' cap w1 h1 h2 h3 _
    have hat : (Value.slice (some (⟨g', 0, none⟩ : Addr)) (l.length + 1) cap).ownBlock = v.ownBlock ∨ (Value.slice (some (⟨g', 0, none⟩ : Addr)) (l.length + 1) cap).ownBlock = some w.heap.size := h3.elim (fun e => Or.inl e.symm) fun e => Or.inr (by rw [e]; rfl)
    have hS := textS_push h1 h2 hat
    exact h _ _ hS hat (hS.below hown hB hbase)
theorem TextS.cell {base : Nat} {w w' : World} {v v' : Value} {l : List Int} (h : TextS base w w' v v' l) {b o : Nat} {x : Value} (hc : w.cell? ⟨b, o, none⟩ = some x) (hne : some b ≠ v.ownBlock) : w'.cell? ⟨b, o, none⟩ = some x := by
  rw [World.cell?_of_block (w := w) (w' := w') (a := ⟨b, o, none⟩) (h.grow.block b (cell_lt (s := none) hc) hne)]
  exact hc
theorem cell_al {w : World} {b off : Nat} {x : Value} {ob : Obj} (h : w.cell? ⟨b, off, none⟩ = some x) : (w.alloc ob).cell? ⟨b, off, none⟩ = some x := by
  have hl := cell_lt (s := none) h
  rw [World.cell?_of_block (w := w) (w' := w.alloc ob) (a := ⟨b, off, none⟩) (Below.heap_alloc w ob b hl)]
  exact h
/-- what appendText promises of a tree -/
def TextOf (op l : Int) (ks : List T) : Prop := ∀ (base : Nat) (v : Value) (s : List Int) (a : Option Addr) (c : Nat) (w0 w : World), InX w0 op l ks a → base = w0.heap.size → Below base w0 w → OwnB w base v s → s.length + (fmtT (.node op l ks)).length ≤ 100000 →
    Calls Try.prog 37 #[v, .agg #[.int .i64 op, .int .i64 l, .slice a ks.length c]] w (TextP base w v (s ++ fmtT (.node op l ks)))
set_option maxRecDepth 100000 in
set_option maxHeartbeats 2000000 in
theorem appendKid_any (op l : Int) (ks : List T) (hT : TextOf op l ks) (least : Int) (base : Nat) (v : Value) (s : List Int) (a : Option Addr) (c : Nat) (w0 w : World) (hin : InX w0 op l ks a) (hbase : base = w0.heap.size) (hbel : Below base w0 w) (hown : OwnB w base v s) (hlen : s.length + (fmtK least (.node op l ks)).length ≤ 100000) :
    Calls Try.prog 50 #[v, .agg #[.int .i64 op, .int .i64 l, .slice a ks.length c], .int .i64 least] w (TextP base w v (s ++ fmtK least (.node op l ks))) := by
  obtain ⟨i0, hi, hz0, hz1, hz2⟩ := info_parts infoB
  have hbs : base ≤ w.heap.size := by rw [hbase]; exact hbel.size
  by_cases hlv : least ≤ lvl op
  · have HK := Lib.hid (show fmtK least (.node op l ks) = fmtT (.node op l ks) by unfold fmtK paren; simp [T.op, hlv])
    have HT := Lib.hid (hT base v s a c w0 (w.alloc (.cells #[.int .i64 op, .int .i64 l, .slice a ks.length c] 24)) hin hbase (hbel.alloc hbs _) (hown.alloc _) (by rw [← HK.out]; exact hlen))
    obtain ⟨lv, hlv2⟩ : ∃ lv, lv = lvl op := ⟨_, rfl⟩
    have HLV := Lib.hid hlv2
    obtain ⟨n, hn⟩ : ∃ n, n = ks.length := ⟨_, rfl⟩
    rw [← hlv2] at hlv
    rw [← hn] at HT ⊢
    have HO := Lib.hid hown
    clear hlv2 hn hT hin hbase hbel hown
    go_enter Try.func50, Try.ntmps50
    go_wp2_with (go_at_call 59; refine (level_any _ _).mono ?_; rintro e w' ⟨rfl, rfl⟩; rw [← HLV.out])
    refine HT.out.mono ?_
    rintro e w2 ⟨v', rfl, hS⟩
    have HS := Lib.hid hS
    clear hS
    go_wp2_with fail
    go_ret
    exact ⟨v', rfl, by rw [HK.out]; exact ((TextS.refl HO.out).alloc _).trans HS.out⟩
  · have HK := Lib.hid (show fmtK least (.node op l ks) = [40] ++ fmtT (.node op l ks) ++ [41] by unfold fmtK paren; simp [T.op, hlv])
    have hle2 : s.length + (fmtT (.node op l ks)).length + 2 ≤ 100000 := by rw [HK.out] at hlen; simp at hlen; omega
    have hle3 : s.length ≤ 100000 := by omega
    obtain ⟨m, hm⟩ : ∃ m, m = (fmtT (.node op l ks)).length := ⟨_, rfl⟩
    rw [← hm] at hle2
    have HT := Lib.hid (fun v1 W (h1 : Below base w0 W) (h2 : OwnB W base v1 (s ++ [40])) => show Calls Try.prog 37 #[v1, .agg #[.int .i64 op, .int .i64 l, .slice a ks.length c]] W (TextP base W v1 ((s ++ [40]) ++ fmtT (.node op l ks))) from hT base v1 (s ++ [40]) a c w0 W hin hbase h1 h2 (by rw [← hm, List.length_append]; simp only [List.length_singleton]; omega))
    have HM := Lib.hid hm
    clear hlen hm hin hT
    obtain ⟨lv, hlv2⟩ : ∃ lv, lv = lvl op := ⟨_, rfl⟩
    have HLV := Lib.hid hlv2
    rw [← hlv2] at hlv
    clear hlv2
    go_enter Try.func50, Try.ntmps50
    go_wp2_with (go_at_call 59; refine (level_any _ _).mono ?_; rintro e w' ⟨rfl, rfl⟩; rw [← HLV.out])
    have hne0 : ∀ b, w.heap.size ≤ b → some b ≠ v.ownBlock := fun b hb e => by have := (hown.lt b e.symm).2; omega
    go_region_held3 (fun w' => w'.cell? ⟨w.heap.size, 0, none⟩ = some (.int .i64 op) ∧ w'.cell? ⟨w.heap.size, 1, none⟩ = some (.int .i64 l) ∧ w'.cell? ⟨w.heap.size, 2, none⟩ = some (.slice a ks.length c))
      (go_keep)
      (first
        | (show if Region.wanted ⟨some 17, _, _, _, _, _⟩ _ = true then _ else _
           refine step_push (o := ⟨some 17, _, _, _, _, _⟩) rfl (.tmp 15) (.tmp 16) (by rfl) base v s (by rfl) (by repeat (first | with_reducible exact hown | with_reducible apply OwnB.alloc | with_reducible apply OwnB.drew)) _ _ 40 (by rfl) (by simp [go_sem]) (by omega) w0 (by simp; omega) (by repeat (first | with_reducible exact hbel | (with_reducible refine Below.alloc ?_ (by first | omega | (simp; omega)) _) | with_reducible apply Below.drew)) ?_
           intro v1 w1 hS1 hat1 hB1
           have k0 := hS1.cell (b := w.heap.size) (o := 0) (x := .int .i64 op) (by simp [go_sem]) (hne0 _ (Nat.le_refl _))
           have k1 := hS1.cell (b := w.heap.size) (o := 1) (x := .int .i64 l) (by simp [go_sem]) (hne0 _ (Nat.le_refl _))
           have k2 := hS1.cell (b := w.heap.size) (o := 2) (x := .slice a ks.length c) (by simp [go_sem]) (hne0 _ (Nat.le_refl _)))
        | (go_at_call 37
           refine (HT.out v1 _ ?_ ?_).mono ?_
           · repeat (first | with_reducible exact hB1 | (with_reducible refine Below.alloc ?_ (by first | (have := hS1.grow.size; simp at this; omega) | (simp; have := hS1.grow.size; simp at this; omega)) _) | with_reducible apply Below.drew)
           · repeat (first | with_reducible exact hS1.own | with_reducible apply OwnB.alloc | with_reducible apply OwnB.drew)
           rintro e w3 ⟨v3, rfl, hS3⟩
           have hne1 : some w.heap.size ≠ v1.ownBlock := by
             rcases hat1 with e | e
             · rw [e]; exact hne0 _ (Nat.le_refl _)
             · rw [e]; intro e2; injection e2 with e2; simp at e2; omega
           have hB3 : Below base w0 w3 := hS3.below (l0 := s ++ [40]) (by repeat (first | with_reducible exact hS1.own | with_reducible apply OwnB.alloc | with_reducible apply OwnB.drew)) (by repeat (first | with_reducible exact hB1 | (with_reducible refine Below.alloc ?_ (by first | (have := hS1.grow.size; simp at this; omega) | (simp; have := hS1.grow.size; simp at this; omega)) _) | with_reducible apply Below.drew)) (by first | (have := hS1.grow.size; simp at this; omega) | (simp; have := hS1.grow.size; simp at this; omega))
           have hne3 : some w.heap.size ≠ v3.ownBlock := by
             rcases hS3.at' with e | ⟨g, e, hg⟩
             · rw [e]; exact hne1
             · rw [e]; intro e2; injection e2 with e2; have := hS1.grow.size; simp at this hg; omega
           have k0 := hS3.cell (b := w.heap.size) (o := 0) (x := .int .i64 op) (by first | exact k0 | exact cell_al k0 | exact cell_al (cell_al k0)) hne1
           have k1 := hS3.cell (b := w.heap.size) (o := 1) (x := .int .i64 l) (by first | exact k1 | exact cell_al k1 | exact cell_al (cell_al k1)) hne1
           have k2 := hS3.cell (b := w.heap.size) (o := 2) (x := .slice a ks.length c) (by first | exact k2 | exact cell_al k2 | exact cell_al (cell_al k2)) hne1)
        | (show if Region.wanted ⟨some 21, _, _, _, _, _⟩ _ = true then _ else _
           refine step_push (o := ⟨some 21, _, _, _, _, _⟩) rfl (.tmp 19) (.tmp 20) (by rfl) base v3 (s ++ [40] ++ fmtT (.node op l ks)) (by rfl) (by repeat (first | with_reducible exact hS3.own | with_reducible apply OwnB.alloc | with_reducible apply OwnB.drew)) _ _ 41 (by rfl)
             (by first
               | (simp [go_sem]; done)
               | exact hS3.cell (b := w1.heap.size) (by simp [go_sem]) (fun e => by have := (World.ownsRow.lt hS1.own _ e.symm).2; omega)
               | exact hS3.cell (hS1.cell (by simp [go_sem]) (hne0 _ (by omega))) (by rcases hat1 with e | e <;> rw [e] <;> first | exact hne0 _ (by omega) | (intro e2; injection e2 with e2; first | omega | (simp at e2; done) | (simp at e2; omega))))
             (by rw [List.length_append, ← HM.out, List.length_append]; simp only [List.length_singleton]; omega) w0
             (by first | (have := hS1.grow.size; have := hS3.grow.size; first | omega | (simp at *; omega) | (simp at *; done)) | (simp; have := hS1.grow.size; have := hS3.grow.size; first | omega | (simp at *; omega) | (simp at *; done)))
             (by repeat (first | with_reducible exact hB3 | (with_reducible refine Below.alloc ?_ (by have := hS1.grow.size; have := hS3.grow.size; first | omega | (simp at *; omega) | (simp at *; done)) _) | with_reducible apply Below.drew)) ?_
           intro v5 w5 hS5 hat5 hB5
           have k0 := hS5.cell (b := w.heap.size) (o := 0) (x := .int .i64 op) (by first | exact k0 | exact cell_al k0 | exact cell_al (cell_al k0)) hne3
           have k1 := hS5.cell (b := w.heap.size) (o := 1) (x := .int .i64 l) (by first | exact k1 | exact cell_al k1 | exact cell_al (cell_al k1)) hne3
           have k2 := hS5.cell (b := w.heap.size) (o := 2) (x := .slice a ks.length c) (by first | exact k2 | exact cell_al k2 | exact cell_al (cell_al k2)) hne3))
    all_goals
      have hfin : TextS base w w5 v v5 (s ++ ([40] ++ fmtT (.node op l ks) ++ [41])) := by
        rw [show s ++ ([40] ++ fmtT (.node op l ks) ++ [41]) = s ++ [40] ++ fmtT (.node op l ks) ++ [41] by simp [List.append_assoc]]
        refine TextS.trans (l1 := s ++ [40] ++ fmtT (.node op l ks)) ?_ hS5
        repeat (with_reducible apply TextS.alloc)
        refine TextS.trans (l1 := s ++ [40]) ?_ hS3
        repeat (with_reducible apply TextS.alloc)
        refine TextS.trans (l1 := s) ?_ hS1
        repeat (first | with_reducible exact TextS.refl hown | with_reducible apply TextS.alloc | with_reducible apply TextS.drew)
      have HF := Lib.hid hfin
      clear hfin hS1 hS3 hS5
      go_wp2_with fail
      go_ret
      exact ⟨v5, rfl, by rw [HK.out]; exact HF.out⟩
end Go.Proofs.Ythmdndondlffeaa
