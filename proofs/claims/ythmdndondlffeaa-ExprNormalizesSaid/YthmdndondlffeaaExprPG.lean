/- Contracts: bar, ampersand, union, and, cat. -/
import Derived.Test.YthmdndondlffeaaExprPM
namespace Go.Proofs.Ythmdndondlffeaa
open Go Go.RowKit Go.Lib
set_option linter.unusedVariables false
set_option maxHeartbeats 400000 in
theorem bar_yes (p : Nat) (s : ByteArray) (L : Int) (i : Nat) (r : List Int) (w : World) (hp : PSt w p s L i) (hd : (bytesI s).drop i = 124 :: r) (hbl : noBl r) :
    Calls Try.prog 58 #[.pointer (some ⟨p, 0, none⟩)] w (PEnd p s L w (.bool true) (i + 1)) := by
  have HQ := Lib.hid (accept_yes p s L i 124 r w hp hd hbl)
  clear hp hd hbl
  go_enter Try.func58, Try.ntmps58
  go_wp2_with fail
  refine HQ.out.mono ?_
  rintro e w2 ⟨rfl, hg, hP⟩
  have HG := Lib.hid hg
  have HP := Lib.hid hP
  clear hg hP
  go_wp2_with fail
  go_ret
  exact ⟨rfl, HG.out, HP.out⟩
set_option maxHeartbeats 400000 in
theorem bar_no (p : Nat) (s : ByteArray) (L : Int) (i : Nat) (w : World) (hp : PSt w p s L i) (hd : ∀ r, (bytesI s).drop i ≠ 124 :: r) :
    Calls Try.prog 58 #[.pointer (some ⟨p, 0, none⟩)] w (PEnd p s L w (.bool false) i) := by
  have HQ := Lib.hid (accept_no p s L i 124 w hp hd)
  clear hp hd
  go_enter Try.func58, Try.ntmps58
  go_wp2_with fail
  refine HQ.out.mono ?_
  rintro e w2 ⟨rfl, hg, hP⟩
  have HG := Lib.hid hg
  have HP := Lib.hid hP
  clear hg hP
  go_wp2_with fail
  go_ret
  exact ⟨rfl, HG.out, HP.out⟩
set_option maxHeartbeats 400000 in
theorem ampersand_yes (p : Nat) (s : ByteArray) (L : Int) (i : Nat) (r : List Int) (w : World) (hp : PSt w p s L i) (hd : (bytesI s).drop i = 38 :: r) (hbl : noBl r) :
    Calls Try.prog 65 #[.pointer (some ⟨p, 0, none⟩)] w (PEnd p s L w (.bool true) (i + 1)) := by
  have HQ := Lib.hid (accept_yes p s L i 38 r w hp hd hbl)
  clear hp hd hbl
  go_enter Try.func65, Try.ntmps65
  go_wp2_with fail
  refine HQ.out.mono ?_
  rintro e w2 ⟨rfl, hg, hP⟩
  have HG := Lib.hid hg
  have HP := Lib.hid hP
  clear hg hP
  go_wp2_with fail
  go_ret
  exact ⟨rfl, HG.out, HP.out⟩
set_option maxHeartbeats 400000 in
theorem ampersand_no (p : Nat) (s : ByteArray) (L : Int) (i : Nat) (w : World) (hp : PSt w p s L i) (hd : ∀ r, (bytesI s).drop i ≠ 38 :: r) :
    Calls Try.prog 65 #[.pointer (some ⟨p, 0, none⟩)] w (PEnd p s L w (.bool false) i) := by
  have HQ := Lib.hid (accept_no p s L i 38 w hp hd)
  clear hp hd
  go_enter Try.func65, Try.ntmps65
  go_wp2_with fail
  refine HQ.out.mono ?_
  rintro e w2 ⟨rfl, hg, hP⟩
  have HG := Lib.hid hg
  have HP := Lib.hid hP
  clear hg hP
  go_wp2_with fail
  go_ret
  exact ⟨rfl, HG.out, HP.out⟩
set_option maxRecDepth 100000 in
set_option maxHeartbeats 1000000 in
theorem union_of (p : Nat) (s : ByteArray) (L : Int) (i j : Nat) (op l : Int) (ks : List T) (w : World) (hp : PSt w p s L i)
    (hl : ∀ W, PSt W p s L i → Calls Try.prog 56 #[.int .i64 4, .func (.func 57) #[.pointer (some ⟨p, 0, none⟩)] #[], .func (.func 58) #[.pointer (some ⟨p, 0, none⟩)] #[]] W (PTree p s L W op l ks j)) :
    Calls Try.prog 47 #[.pointer (some ⟨p, 0, none⟩)] w (PTree p s L w op l ks j) := by
  have hmf : ∀ (fn : Fn) (first cap : Array Value) (w : World), (Instr.makeFunc fn first cap).run Try.prog w = .ok (.func fn first cap) w := fun _ _ _ _ => rfl
  have HL := Lib.hid (hl _ (hp.alloc (.cells #[.int .i64 0, .int .i64 0, .slice none 0 0] 24)))
  have hplt := hp.lt
  clear hp hl
  go_enter Try.func47, Try.ntmps47
  go_wp2_with fail
  refine HL.out.mono ?_
  rintro e w2 ⟨a, c, rfl, hY, hg, hP⟩
  obtain ⟨⟨r0, r1, r2⟩, f0, f1, f2⟩ := res_cells hg hplt
  have HG := Lib.hid hg
  have HP := Lib.hid hP
  have HY := Lib.hid (show InY w2 (fun b => w.heap.size + 1 ≤ b) op l ks a from hY.keep (Nat.le_refl _) fun b _ hq => ⟨rfl, by simp at hq; omega⟩)
  clear hg hP hY
  go_wp2_with fail
  have hst := stored3 HG.out HP.out HY.out hplt (.int .i64 op) (.int .i64 l) (.slice a ks.length c)
  exact bodyPost_ret (v := .agg #[.int .i64 op, .int .i64 l, .slice a ks.length c]) (by simp [results, Try.results47, go_sem, r0, r1, r2]) rfl ⟨a, c, rfl, hst.1, hst.2.1, hst.2.2⟩
set_option maxRecDepth 100000 in
set_option maxHeartbeats 1000000 in
theorem and_of (p : Nat) (s : ByteArray) (L : Int) (i j : Nat) (op l : Int) (ks : List T) (w : World) (hp : PSt w p s L i)
    (hl : ∀ W, PSt W p s L i → Calls Try.prog 56 #[.int .i64 6, .func (.func 64) #[.pointer (some ⟨p, 0, none⟩)] #[], .func (.func 65) #[.pointer (some ⟨p, 0, none⟩)] #[]] W (PTree p s L W op l ks j)) :
    Calls Try.prog 57 #[.pointer (some ⟨p, 0, none⟩)] w (PTree p s L w op l ks j) := by
  have hmf : ∀ (fn : Fn) (first cap : Array Value) (w : World), (Instr.makeFunc fn first cap).run Try.prog w = .ok (.func fn first cap) w := fun _ _ _ _ => rfl
  have HL := Lib.hid (hl _ (hp.alloc (.cells #[.int .i64 0, .int .i64 0, .slice none 0 0] 24)))
  have hplt := hp.lt
  clear hp hl
  go_enter Try.func57, Try.ntmps57
  go_wp2_with fail
  refine HL.out.mono ?_
  rintro e w2 ⟨a, c, rfl, hY, hg, hP⟩
  obtain ⟨⟨r0, r1, r2⟩, f0, f1, f2⟩ := res_cells hg hplt
  have HG := Lib.hid hg
  have HP := Lib.hid hP
  have HY := Lib.hid (show InY w2 (fun b => w.heap.size + 1 ≤ b) op l ks a from hY.keep (Nat.le_refl _) fun b _ hq => ⟨rfl, by simp at hq; omega⟩)
  clear hg hP hY
  go_wp2_with fail
  have hst := stored3 HG.out HP.out HY.out hplt (.int .i64 op) (.int .i64 l) (.slice a ks.length c)
  exact bodyPost_ret (v := .agg #[.int .i64 op, .int .i64 l, .slice a ks.length c]) (by simp [results, Try.results57, go_sem, r0, r1, r2]) rfl ⟨a, c, rfl, hst.1, hst.2.1, hst.2.2⟩
set_option maxRecDepth 100000 in
set_option maxHeartbeats 1000000 in
theorem cat_of (p : Nat) (s : ByteArray) (L : Int) (i j : Nat) (op l : Int) (ks : List T) (w : World) (hp : PSt w p s L i)
    (hl : ∀ W, PSt W p s L i → Calls Try.prog 56 #[.int .i64 5, .func (.func 78) #[.pointer (some ⟨p, 0, none⟩)] #[], .func (.func 79) #[.pointer (some ⟨p, 0, none⟩)] #[]] W (PTree p s L W op l ks j)) :
    Calls Try.prog 64 #[.pointer (some ⟨p, 0, none⟩)] w (PTree p s L w op l ks j) := by
  have hmf : ∀ (fn : Fn) (first cap : Array Value) (w : World), (Instr.makeFunc fn first cap).run Try.prog w = .ok (.func fn first cap) w := fun _ _ _ _ => rfl
  have HL := Lib.hid (hl _ (hp.alloc (.cells #[.int .i64 0, .int .i64 0, .slice none 0 0] 24)))
  have hplt := hp.lt
  clear hp hl
  go_enter Try.func64, Try.ntmps64
  go_wp2_with fail
  refine HL.out.mono ?_
  rintro e w2 ⟨a, c, rfl, hY, hg, hP⟩
  obtain ⟨⟨r0, r1, r2⟩, f0, f1, f2⟩ := res_cells hg hplt
  have HG := Lib.hid hg
  have HP := Lib.hid hP
  have HY := Lib.hid (show InY w2 (fun b => w.heap.size + 1 ≤ b) op l ks a from hY.keep (Nat.le_refl _) fun b _ hq => ⟨rfl, by simp at hq; omega⟩)
  clear hg hP hY
  go_wp2_with fail
  have hst := stored3 HG.out HP.out HY.out hplt (.int .i64 op) (.int .i64 l) (.slice a ks.length c)
  exact bodyPost_ret (v := .agg #[.int .i64 op, .int .i64 l, .slice a ks.length c]) (by simp [results, Try.results64, go_sem, r0, r1, r2]) rfl ⟨a, c, rfl, hst.1, hst.2.1, hst.2.2⟩
end Go.Proofs.Ythmdndondlffeaa
