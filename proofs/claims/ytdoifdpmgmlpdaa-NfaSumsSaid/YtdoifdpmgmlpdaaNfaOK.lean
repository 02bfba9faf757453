/- Contract: Position, the automaton. -/
import Derived.Test.YtdoifdpmgmlpdaaNfaO
namespace Go.Proofs.Ytdoifdpmgmlpdaa
open Go Go.RowKit
set_option linter.unusedVariables false
theorem good_of {op l L : Int} {ks : List T} (he : errP (.node op l ks) L = 0) : (1 ≤ L ∧ L ≤ 6) ∧ sizeT (.node op l ks) ≤ 400 ∧ GoodT L (.node op l ks) := by
  obtain ⟨h1, h2⟩ := errP_ok.1 he
  unfold errT at h1
  cases hm : mayB L
  · rw [if_pos hm] at h1; cases h1
  rw [if_neg (by rw [hm]; decide)] at h1
  cases hw : withinB (.node op l ks)
  · rw [if_pos hw] at h1; cases h1
  rw [if_neg (by rw [hw]; decide)] at h1
  cases hf : wfT L (.node op l ks)
  · rw [if_pos hf] at h1; cases h1
  rw [mayB, decide_eq_true_iff] at hm
  rw [withinB, decide_eq_true_iff] at hw
  exact ⟨hm, hw.1, hf, h2⟩
theorem make_run (w : World) {i : TypeInfo} (h2 : Try.prog.info? 22 = some i) (h3 : i.zero = some (.int .u64 0)) (h4 : i.size = 1) (n m : Nat) (hnm : n ≤ m) (b2 : i.bytes * m ≤ 281474976710656) (b3 : m ≤ 9223372036854775807) :
    (Instr.makeSlice 58 (.int .i64 (n : Int)) (.int .i64 (m : Int))).run Try.prog w = .ok (.slice (some ⟨w.heap.size, 0, none⟩) n m) (w.alloc (.cells (madeCells #[.int .u64 0] m) 22)) := by
  have hb' : (i.bytes : Int) * (m : Int) ≤ 281474976710656 := by
    have h : ((i.bytes * m : Nat) : Int) ≤ 281474976710656 := by omega
    rwa [Int.natCast_mul] at h
  have hrun := run_make (P := Try.prog) w 58 22 i (.int .u64 0) Try.underlying58 h2 h3 .i64 .i64 n m (by omega) (by omega) hb' (by omega)
  rw [show (Value.int .u64 0).cells = #[Value.int .u64 0] from rfl] at hrun
  simpa only [Int.toNat_natCast, h4, Nat.mul_one] using hrun
theorem heap_new' {w : World} {o : Obj} {n : Nat} (h : w.heap.size = n) : (w.alloc o).heap[n]? = some o := by subst h; exact heap_new w o
theorem InE.set {w : World} {a : Option Addr} {es : List Ed} (h : InE w a es) (p : Addr) (v : Value) (hne : ∀ q, a = some q → q.block ≠ p.block) : InE (w.setCell p v) a es := by
  rcases h with h | ⟨b, off, rfl, hl, hc⟩
  · exact .inl h
  · have hb := Below.heap_setCell w p v b (hne _ rfl)
    refine .inr ⟨b, off, rfl, by simpa [World.setCell] using hl, fun i e hi => ?_⟩
    obtain ⟨⟨h1, h2, h3⟩, h4⟩ := hc i e hi
    exact ⟨⟨by rw [World.cell?_of_block (w := w) (a := ⟨b, _, none⟩) hb]; exact h1, by rw [World.cell?_of_block (w := w) (a := ⟨b, _, none⟩) hb]; exact h2, by rw [World.cell?_of_block (w := w) (a := ⟨b, _, none⟩) hb]; exact h3⟩, h4⟩
/-- what Position returns when all is well -/
def PosOk (op l : Int) (ks : List T) (Ln : Nat) (w : World) (e : Ending) (w' : World) : Prop :=
  ∃ a' c', e = .returned (.tuple #[.agg #[.int .i64 Ln, .int .i64 (1 + letT (.node op l ks) : Nat), .int .u64 1, .int .u64 (posV (.node op l ks) Ln).2.la, .slice a' (posE (.node op l ks) Ln).length c'], .int .i64 0]) ∧ InE w' a' (posE (.node op l ks) Ln) ∧ Below w.heap.size w w'
set_option maxRecDepth 100000 in
set_option maxHeartbeats 8000000 in
theorem position_ok (op l : Int) (ks : List T) (Ln : Nat) (a : Option Addr) (c : Nat) (w : World) (hin : InX w op l ks a) (he : errP (.node op l ks) Ln = 0) (hlim : 1 + letT (.node op l ks) ≤ 64) :
    Calls Try.prog 33 #[.agg #[.int .i64 op, .int .i64 l, .slice a ks.length c], .int .i64 Ln] w (PosOk op l ks Ln w) := by
  obtain ⟨hL, hsz, hg⟩ := good_of he
  obtain ⟨i0, hi0, hz0, hz1, hz2⟩ := info_parts infoU
  have HQ := Lib.hid (fun W (h : InX W op l ks a) => validateP_any op l ks Ln a c W h)
  have HQ2 := Lib.hid (fun W (h : InX W op l ks a) => letterNodes_any op l ks a c W h hsz)
  have hle : letT (.node op l ks) ≤ 400 := Nat.le_trans (letT_size _) hsz
  have HI := Lib.hid hin
  have HVIS := Lib.hid (visit_of op l ks)
  unfold VisOf at HVIS
  have HGD := Lib.hid hg
  have HOK0 := Lib.hid (posS0_ok Ln)
  have HVOK := Lib.hid (visT_ok Ln (.node op l ks) hg (posS0 Ln) (posS0_ok Ln))
  have HPV := Lib.hid (show posV (.node op l ks) Ln = (conS (visT (.node op l ks) (posS0 Ln)).1 1 (visT (.node op l ks) (posS0 Ln)).2.fi, catP ⟨0, 1, false⟩ (visT (.node op l ks) (posS0 Ln)).2) from rfl)
  have HPK := Lib.hid (posV_ok hg)
  have HPF := Lib.hid (posV_F hg)
  have HPE := Lib.hid (show posE (.node op l ks) Ln = tabE Ln (tabG (posV (.node op l ks) Ln).1) (1 + letT (.node op l ks)) from rfl)
  unfold PosOk
  obtain ⟨t, ht⟩ : ∃ t, t = T.node op l ks := ⟨_, rfl⟩
  rw [← ht] at HQ HQ2 HVIS HGD HVOK HPV HPK HPF HPE hlim hle he ⊢
  obtain ⟨n, hn⟩ : ∃ n, n = ks.length := ⟨_, rfl⟩
  obtain ⟨k, hk⟩ : ∃ k, k = letT t := ⟨_, rfl⟩
  rw [he] at HQ
  rw [← hk] at HQ2 hlim hle HVOK HPK HPF HPE HVIS ⊢
  rw [← hn] at HQ HQ2 HVIS ⊢
  obtain ⟨E, hE⟩ : ∃ E, E = posE t Ln := ⟨_, rfl⟩
  rw [← hE] at HPE ⊢
  obtain ⟨q, hq⟩ : ∃ q, q = E.length := ⟨_, rfl⟩
  have HQE := Lib.hid hq
  rw [← hq]
  obtain ⟨PV, hPV⟩ : ∃ PV, PV = posV t Ln := ⟨_, rfl⟩
  rw [← hPV] at HPV HPK HPF HPE ⊢
  obtain ⟨V0, hV0⟩ : ∃ V0, V0 = visT t (posS0 Ln) := ⟨_, rfl⟩
  rw [← hV0] at HPV HVOK
  obtain ⟨S1, p1⟩ := V0
  obtain ⟨S2, p2⟩ := PV
  dsimp only at HPV HVOK HPK HPF HPE ⊢
  have HVIS2 := Lib.hid (fun w0 bp gN cN gF cF W h1 h2 h3 h4 h5 h6 => HVIS.out a c w0 bp gN cN gF cF (posS0 Ln) W h1 h2 h3 h4 h5 h6)
  rw [← hV0] at HVIS2
  obtain ⟨f1, l1, n1⟩ := p1
  obtain ⟨f2, l2, n2⟩ := p2
  unfold partV at HVIS2
  dsimp only at HVIS2 ⊢
  have HI0 := Lib.hid ((HI.out.box (.cells #[.int .i64 op, .int .i64 l, .slice a n c] 49)).box (.cells #[.int .i64 0, .int .i64 0, .int .u64 0, .int .u64 0, .slice none 0 0] 25))
  have HB0 := Lib.hid (((Below.refl w.heap.size w).alloc (Nat.le_refl _) (.cells #[.int .i64 op, .int .i64 l, .slice a n c] 49)).alloc (by simp) (.cells #[.int .i64 0, .int .i64 0, .int .u64 0, .int .u64 0, .slice none 0 0] 25))
  have hr2 : ((w.alloc (.cells #[.int .i64 op, .int .i64 l, .slice a n c] 49)).alloc (.cells #[.int .i64 0, .int .i64 0, .int .u64 0, .int .u64 0, .slice none 0 0] 25)).heap[w.heap.size + 1]? = some (.cells #[.int .i64 0, .int .i64 0, .int .u64 0, .int .u64 0, .slice none 0 0] 25) := by
    have := heap_new (w.alloc (.cells #[.int .i64 op, .int .i64 l, .slice a n c] 49)) (.cells #[.int .i64 0, .int .i64 0, .int .u64 0, .int .u64 0, .slice none 0 0] 25)
    simpa using this
  have HR2 := Lib.hid hr2
  have hx2 := heap_old (o' := .cells #[.int .i64 0, .int .i64 0, .int .u64 0, .int .u64 0, .slice none 0 0] 25) (heap_new w (.cells #[.int .i64 op, .int .i64 l, .slice a n c] 49))
  have HX2 := Lib.hid hx2
  obtain ⟨x0, x1, x2⟩ := (cells_of hx2).1
  have hLn : 1 ≤ Ln ∧ Ln ≤ 6 := by omega
  clear hin hn hk he hr2 hx2 hsz hL hg ht hq hE hPV hV0 HVIS
  go_enter Try.func33, Try.ntmps33
  go_wp2_with fail
  refine (HQ.out _ HI0.out).mono ?_
  rintro e v ⟨rfl, hB⟩
  have HB1 := Lib.hid (HB0.out.trans (hB.mono (by simp; omega)))
  have HI1 := Lib.hid (HI0.out.keep hB)
  have HR3 := Lib.hid ((hB.block (w.heap.size + 1) (by simp)).trans HR2.out)
  have hx3 := (hB.block w.heap.size (by simp; omega)).trans HX2.out
  have HX3 := Lib.hid hx3
  have HSV := Lib.hid (show w.heap.size + 2 ≤ v.heap.size by have := hB.size; simp at this; omega)
  clear x0 x1 x2
  obtain ⟨x0, x1, x2⟩ := (cells_of hx3).1
  clear hB hx3
  go_wp2_with fail
  refine (HQ2.out _ HI1.out).mono ?_
  rintro e v2 ⟨rfl, hB⟩
  have HB2 := Lib.hid (HB1.out.trans (hB.mono (by have := HSV.out; omega)))
  have HI2 := Lib.hid (HI1.out.keep hB)
  have HR4 := Lib.hid ((hB.block (w.heap.size + 1) (by have := HSV.out; omega)).trans HR3.out)
  have HX4 := Lib.hid ((hB.block w.heap.size (by have := HSV.out; omega)).trans HX3.out)
  have HSV2 := Lib.hid (show w.heap.size + 2 ≤ v2.heap.size by have := HSV.out; have := hB.size; omega)
  obtain ⟨s, hs⟩ : ∃ s : Nat, s = 1 + k := ⟨_, rfl⟩
  have hs1 : (1 : Int) + (k : Int) = (s : Int) := by omega
  have hs64 : s ≤ 64 := by omega
  have hs0 : 1 ≤ s := by omega
  have HSS := Lib.hid hs
  have M1 := Lib.hid (show i0.bytes * Ln ≤ 281474976710656 by rw [hz2]; omega)
  have M2 := Lib.hid (show i0.bytes * s ≤ 281474976710656 by rw [hz2]; omega)
  have M3 := Lib.hid (show Ln ≤ 9223372036854775807 by omega)
  have M4 := Lib.hid (show s ≤ 9223372036854775807 by omega)
  have hw1 : IntKind.i64.wrap (s : Int) = (s : Int) := IntWalk.i64_in _ (by omega)
  have hmk1 : ∀ W : World, (Instr.makeSlice 58 (.int .i64 (Ln : Int)) (.int .i64 (Ln : Int))).run Try.prog W = .ok (.slice (some ⟨W.heap.size, 0, none⟩) Ln Ln) (W.alloc (.cells (madeCells #[.int .u64 0] Ln) 22)) := fun W => make_run W hi0 hz0 hz1 Ln Ln (Nat.le_refl _) M1.out M3.out
  have hmk2 : ∀ W : World, (Instr.makeSlice 58 (.int .i64 1) (.int .i64 (s : Int))).run Try.prog W = .ok (.slice (some ⟨W.heap.size, 0, none⟩) 1 s) (W.alloc (.cells (madeCells #[.int .u64 0] s) 22)) := fun W => make_run W hi0 hz0 hz1 1 s hs0 M2.out M4.out
  clear hB hs x0 x1 x2
  go_wp2_with fail
  go_region
  · have HBU := Lib.hid (show Below v2.heap.size v2 (World.drew ((((v2.alloc (.cells (madeCells #[.int .u64 0] Ln) 22)).alloc (.cells (madeCells #[.int .u64 0] s) 22)).alloc (.cells #[.slice (some ⟨v2.heap.size, 0, none⟩) Ln Ln, .slice (some ⟨v2.heap.size + 1, 0, none⟩) 1 s] 71)))) from ((((Below.refl _ v2).alloc (Nat.le_refl _) _).alloc (by simp) _).alloc (by simp; omega) _).drew)
    have HPU := Lib.hid (show PosW (World.drew ((((v2.alloc (.cells (madeCells #[.int .u64 0] Ln) 22)).alloc (.cells (madeCells #[.int .u64 0] s) 22)).alloc (.cells #[.slice (some ⟨v2.heap.size, 0, none⟩) Ln Ln, .slice (some ⟨v2.heap.size + 1, 0, none⟩) 1 s] 71)))) v2.heap.size (v2.heap.size + 1 + 1) (v2.heap.size) Ln (v2.heap.size + 1) s (posS0 Ln) from PosW.new (v := v2) (heap_new' (by simp)) (by
        have := heap_old (o' := (.cells #[.slice (some ⟨v2.heap.size, 0, none⟩) Ln Ln, .slice (some ⟨v2.heap.size + 1, 0, none⟩) 1 s] 71)) (heap_old (o' := (.cells (madeCells #[.int .u64 0] s) 22)) (heap_new v2 (.cells (madeCells #[.int .u64 0] Ln) 22)))
        exact this) (heap_old (heap_new' (by simp))) (by omega) (by omega) (by omega) (by omega) ⟨hs0, hs64⟩)
    generalize World.drew ((((v2.alloc (.cells (madeCells #[.int .u64 0] Ln) 22)).alloc (.cells (madeCells #[.int .u64 0] s) 22)).alloc (.cells #[.slice (some ⟨v2.heap.size, 0, none⟩) Ln Ln, .slice (some ⟨v2.heap.size + 1, 0, none⟩) 1 s] 71))) = U at *
    obtain ⟨x0, x1, x2⟩ := (cells_of ((HBU.out.block w.heap.size (by have := HSV2.out; omega)).trans HX4.out)).1
    have HR5 := Lib.hid ((HBU.out.block (w.heap.size + 1) (by have := HSV2.out; omega)).trans HR4.out)
    have HSU := Lib.hid HBU.out.size
    clear hmk1 hmk2
    go_wp2_with fail
    refine (HVIS2.out v2 (v2.heap.size + 1 + 1) _ _ _ _ U HI2.out HBU.out HPU.out HOK0.out (by simp [posS0]; omega) (by simpa [posS0] using HGD.out) (by simp [posS0]; omega)).mono ?_
    rintro e v3 ⟨rfl, hk3, gF3, cF3, hp3, hg3⟩
    have hlen1 := HVOK.out.2.1
    have hok1 := HVOK.out.2.2.1
    have hokp1 := HVOK.out.2.2.2
    dsimp only at hlen1 hok1 hokp1
    have hl1 : S1.F.length = 1 + k := by rw [hlen1]; simp [posS0]
    have HCC := Lib.hid (concat_any v2.heap.size (v2.heap.size + 1 + 1) _ _ gF3 cF3 S1 ⟨0, 1, false⟩ ⟨f1, l1, n1⟩ v3 hp3 hok1 (by omega) ⟨Nat.two_pow_pos _, Nat.lt_of_lt_of_le (by decide) (pow_le (a := 1) (by omega))⟩ hokp1)
    rw [← (Prod.mk.inj HPV.out).1, ← (Prod.mk.inj HPV.out).2] at HCC
    unfold partV at HCC
    dsimp only at HCC
    have hne : w.heap.size + 1 ≠ v2.heap.size + 1 + 1 ∧ w.heap.size + 1 ≠ (v2.heap.size) ∧ w.heap.size + 1 ≠ (v2.heap.size + 1) := by have := HSV2.out; omega
    have HR6 := Lib.hid ((hk3.block (w.heap.size + 1) (by have := HSV2.out; have := HSU.out; omega) hne.1 hne.2.1 hne.2.2).trans HR5.out)
    have HB6 := Lib.hid (hk3.old HBU.out (by omega) (by omega) (by omega))
    have HG3 := Lib.hid (show v2.heap.size ≤ gF3 from hp3.gFlt.1)
    have HSU3 := Lib.hid (show v2.heap.size ≤ v3.heap.size by have := hk3.size; have := HSU.out; omega)
    clear hk3 hp3 hg3 hlen1 hok1 hokp1 hl1 x0 x1 x2 hne
    go_wp2_with fail
    refine HCC.out.mono ?_
    rintro e v4 ⟨rfl, hk4, gF4, cF4, hp4, hg4⟩
    have hne : w.heap.size + 1 ≠ v2.heap.size + 1 + 1 ∧ w.heap.size + 1 ≠ (v2.heap.size) ∧ w.heap.size + 1 ≠ gF3 := by have := HSV2.out; have := HG3.out; omega
    have HR7 := Lib.hid ((hk4.block (w.heap.size + 1) (by have := HSV2.out; have := HSU3.out; omega) hne.1 hne.2.1 hne.2.2).trans HR6.out)
    have HB7 := Lib.hid (hk4.old HB6.out (by omega) (by omega) HG3.out)
    have HSU4 := Lib.hid (show v2.heap.size ≤ v4.heap.size from Nat.le_trans HSU3.out hk4.size)
    have HP4 := Lib.hid hp4
    have hok2 := HPK.out.2.2.1
    dsimp only at hok2
    have HTB := Lib.hid (fun W (h : PosW W v2.heap.size (v2.heap.size + 1 + 1) (v2.heap.size) Ln gF4 cF4 S2) => table_any v2.heap.size (v2.heap.size + 1 + 1) (v2.heap.size) Ln gF4 cF4 S2 W h hok2 (by rw [HPF.out.1]; omega) (by rw [HPF.out.2]; omega) (by rw [HPF.out.2]; omega))
    rw [HPF.out.1, HPF.out.2, ← HSS.out] at HTB
    have HBT := Lib.hid (fun g W (h : TabM W (some ⟨g, 0, none⟩) s Ln (tabG S2)) => build_any g 0 s s Ln l2 (tabG S2) W h hs0 hs64 hLn.2 (fun i j => Nat.lt_of_le_of_lt Nat.and_le_left (Nat.lt_of_lt_of_le (getD_lt' hok2.2) (Nat.le_trans (pow_le (show S2.F.length ≤ 64 by rw [HPF.out.1]; omega)) (by decide)))))
    have hEE := HPE.out
    rw [← HSS.out] at hEE
    rw [← hEE, ← HQE.out] at HBT
    clear hk4 hp4 hg4 hne hok2 hEE
    go_wp2_with fail
    have HR8 := Lib.hid (show (World.drew (v4.alloc (.cells #[.int .u64 (f2 : Nat), .int .u64 (l2 : Nat), .bool n2] 73))).heap[w.heap.size + 1]? = _ from heap_old HR7.out)
    have HX8 := Lib.hid (show (World.drew (v4.alloc (.cells #[.int .u64 (f2 : Nat), .int .u64 (l2 : Nat), .bool n2] 73))).heap[v4.heap.size]? = _ from heap_new v4 (.cells #[.int .u64 (f2 : Nat), .int .u64 (l2 : Nat), .bool n2] 73))
    obtain ⟨y0, y1, y2⟩ := (cells_of (heap_new v4 (.cells #[.int .u64 (f2 : Nat), .int .u64 (l2 : Nat), .bool n2] 73))).1
    obtain ⟨y0', y1', y2'⟩ := (cells_of HX8.out).1
    go_region_with (first
      | (go_at_call 56
         refine (HTB.out _ ?_).mono ?_
         · exact (HP4.out.alloc _).drew
         rintro e v6 ⟨g, rfl, ht, hB⟩
         have HT6 := Lib.hid ht
         have HR9 := Lib.hid ((hB.block (w.heap.size + 1) (by have := HSV2.out; have := HSU4.out; simp; omega)).trans HR8.out)
         have HB9 := Lib.hid (((HB7.out.alloc HSU4.out (.cells #[.int .u64 (f2 : Nat), .int .u64 (l2 : Nat), .bool n2] 73)).drew).trans (hB.mono (by have := HSU4.out; simp; omega)))
         obtain ⟨q0, q1, q2⟩ := (cells_of ((hB.block v4.heap.size (by simp)).trans HX8.out)).1
         have HS6 := Lib.hid (show w.heap.size + 1 < v6.heap.size by have := HSV2.out; have := HSU4.out; have := hB.size; simp at this; omega)
         clear ht hB)
      | (go_at_call 55
         refine (HBT.out g _ HT6.out).mono ?_
         rintro e v7 ⟨a', c', rfl, hE, hB, hnw⟩
         have HE7 := Lib.hid hE
         have HNW := Lib.hid (show ∀ p, a' = some p → p.block ≠ w.heap.size + 1 from fun p hp e => by have := hnw p hp; have := HS6.out; omega)
         obtain ⟨⟨r0, r1, r2, r3, r4⟩, z0, z1, z2, z3, z4⟩ := cells5_of ((hB.block (w.heap.size + 1) HS6.out).trans HR9.out)
         have HB10 := Lib.hid (HB2.out.trans ((HB9.out.trans (hB.mono HB9.out.size)).mono (by have := HSV2.out; omega)))
         have HS7 := Lib.hid (show v2.heap.size ≤ v7.heap.size from Nat.le_trans HB9.out.size hB.size)
         clear hE hB hnw))
    all_goals
      go_wp2_with fail
      refine bodyPost_ret (v := .tuple #[.agg #[.int .i64 Ln, .int .i64 s, .int .u64 1, .int .u64 l2, .slice a' q c'], .int .i64 0]) (by simp [results, Try.results33, go_sem, r0, r1, r2, r3, r4]) rfl ⟨a', c', by rw [HSS.out], ?_, ?_⟩
      · exact ((((HE7.out.set _ _ HNW.out).set _ _ HNW.out).set _ _ HNW.out).set _ _ HNW.out).set _ _ HNW.out
      · exact ((((HB10.out.setCell (by simp) _).setCell (by simp) _).setCell (by simp) _).setCell (by simp) _).setCell (by simp) _
  · have HBU := Lib.hid (show Below v2.heap.size v2 (World.drew ((((v2.alloc (.cells (madeCells #[.int .u64 0] s) 22)).alloc (.cells (madeCells #[.int .u64 0] Ln) 22)).alloc (.cells #[.slice (some ⟨v2.heap.size + 1, 0, none⟩) Ln Ln, .slice (some ⟨v2.heap.size, 0, none⟩) 1 s] 71)))) from ((((Below.refl _ v2).alloc (Nat.le_refl _) _).alloc (by simp) _).alloc (by simp; omega) _).drew)
    have HPU := Lib.hid (show PosW (World.drew ((((v2.alloc (.cells (madeCells #[.int .u64 0] s) 22)).alloc (.cells (madeCells #[.int .u64 0] Ln) 22)).alloc (.cells #[.slice (some ⟨v2.heap.size + 1, 0, none⟩) Ln Ln, .slice (some ⟨v2.heap.size, 0, none⟩) 1 s] 71)))) v2.heap.size (v2.heap.size + 1 + 1) (v2.heap.size + 1) Ln (v2.heap.size) s (posS0 Ln) from PosW.new (v := v2) (heap_new' (by simp)) (heap_old (heap_new' (by simp))) (by
        have := heap_old (o' := (.cells #[.slice (some ⟨v2.heap.size + 1, 0, none⟩) Ln Ln, .slice (some ⟨v2.heap.size, 0, none⟩) 1 s] 71)) (heap_old (o' := (.cells (madeCells #[.int .u64 0] Ln) 22)) (heap_new v2 (.cells (madeCells #[.int .u64 0] s) 22)))
        exact this) (by omega) (by omega) (by omega) (by omega) ⟨hs0, hs64⟩)
    generalize World.drew ((((v2.alloc (.cells (madeCells #[.int .u64 0] s) 22)).alloc (.cells (madeCells #[.int .u64 0] Ln) 22)).alloc (.cells #[.slice (some ⟨v2.heap.size + 1, 0, none⟩) Ln Ln, .slice (some ⟨v2.heap.size, 0, none⟩) 1 s] 71))) = U at *
    obtain ⟨x0, x1, x2⟩ := (cells_of ((HBU.out.block w.heap.size (by have := HSV2.out; omega)).trans HX4.out)).1
    have HR5 := Lib.hid ((HBU.out.block (w.heap.size + 1) (by have := HSV2.out; omega)).trans HR4.out)
    have HSU := Lib.hid HBU.out.size
    clear hmk1 hmk2
    go_wp2_with fail
    refine (HVIS2.out v2 (v2.heap.size + 1 + 1) _ _ _ _ U HI2.out HBU.out HPU.out HOK0.out (by simp [posS0]; omega) (by simpa [posS0] using HGD.out) (by simp [posS0]; omega)).mono ?_
    rintro e v3 ⟨rfl, hk3, gF3, cF3, hp3, hg3⟩
    have hlen1 := HVOK.out.2.1
    have hok1 := HVOK.out.2.2.1
    have hokp1 := HVOK.out.2.2.2
    dsimp only at hlen1 hok1 hokp1
    have hl1 : S1.F.length = 1 + k := by rw [hlen1]; simp [posS0]
    have HCC := Lib.hid (concat_any v2.heap.size (v2.heap.size + 1 + 1) _ _ gF3 cF3 S1 ⟨0, 1, false⟩ ⟨f1, l1, n1⟩ v3 hp3 hok1 (by omega) ⟨Nat.two_pow_pos _, Nat.lt_of_lt_of_le (by decide) (pow_le (a := 1) (by omega))⟩ hokp1)
    rw [← (Prod.mk.inj HPV.out).1, ← (Prod.mk.inj HPV.out).2] at HCC
    unfold partV at HCC
    dsimp only at HCC
    have hne : w.heap.size + 1 ≠ v2.heap.size + 1 + 1 ∧ w.heap.size + 1 ≠ (v2.heap.size + 1) ∧ w.heap.size + 1 ≠ (v2.heap.size) := by have := HSV2.out; omega
    have HR6 := Lib.hid ((hk3.block (w.heap.size + 1) (by have := HSV2.out; have := HSU.out; omega) hne.1 hne.2.1 hne.2.2).trans HR5.out)
    have HB6 := Lib.hid (hk3.old HBU.out (by omega) (by omega) (by omega))
    have HG3 := Lib.hid (show v2.heap.size ≤ gF3 from hp3.gFlt.1)
    have HSU3 := Lib.hid (show v2.heap.size ≤ v3.heap.size by have := hk3.size; have := HSU.out; omega)
    clear hk3 hp3 hg3 hlen1 hok1 hokp1 hl1 x0 x1 x2 hne
    go_wp2_with fail
    refine HCC.out.mono ?_
    rintro e v4 ⟨rfl, hk4, gF4, cF4, hp4, hg4⟩
    have hne : w.heap.size + 1 ≠ v2.heap.size + 1 + 1 ∧ w.heap.size + 1 ≠ (v2.heap.size + 1) ∧ w.heap.size + 1 ≠ gF3 := by have := HSV2.out; have := HG3.out; omega
    have HR7 := Lib.hid ((hk4.block (w.heap.size + 1) (by have := HSV2.out; have := HSU3.out; omega) hne.1 hne.2.1 hne.2.2).trans HR6.out)
    have HB7 := Lib.hid (hk4.old HB6.out (by omega) (by omega) HG3.out)
    have HSU4 := Lib.hid (show v2.heap.size ≤ v4.heap.size from Nat.le_trans HSU3.out hk4.size)
    have HP4 := Lib.hid hp4
    have hok2 := HPK.out.2.2.1
    dsimp only at hok2
    have HTB := Lib.hid (fun W (h : PosW W v2.heap.size (v2.heap.size + 1 + 1) (v2.heap.size + 1) Ln gF4 cF4 S2) => table_any v2.heap.size (v2.heap.size + 1 + 1) (v2.heap.size + 1) Ln gF4 cF4 S2 W h hok2 (by rw [HPF.out.1]; omega) (by rw [HPF.out.2]; omega) (by rw [HPF.out.2]; omega))
    rw [HPF.out.1, HPF.out.2, ← HSS.out] at HTB
    have HBT := Lib.hid (fun g W (h : TabM W (some ⟨g, 0, none⟩) s Ln (tabG S2)) => build_any g 0 s s Ln l2 (tabG S2) W h hs0 hs64 hLn.2 (fun i j => Nat.lt_of_le_of_lt Nat.and_le_left (Nat.lt_of_lt_of_le (getD_lt' hok2.2) (Nat.le_trans (pow_le (show S2.F.length ≤ 64 by rw [HPF.out.1]; omega)) (by decide)))))
    have hEE := HPE.out
    rw [← HSS.out] at hEE
    rw [← hEE, ← HQE.out] at HBT
    clear hk4 hp4 hg4 hne hok2 hEE
    go_wp2_with fail
    have HR8 := Lib.hid (show (World.drew (v4.alloc (.cells #[.int .u64 (f2 : Nat), .int .u64 (l2 : Nat), .bool n2] 73))).heap[w.heap.size + 1]? = _ from heap_old HR7.out)
    have HX8 := Lib.hid (show (World.drew (v4.alloc (.cells #[.int .u64 (f2 : Nat), .int .u64 (l2 : Nat), .bool n2] 73))).heap[v4.heap.size]? = _ from heap_new v4 (.cells #[.int .u64 (f2 : Nat), .int .u64 (l2 : Nat), .bool n2] 73))
    obtain ⟨y0, y1, y2⟩ := (cells_of (heap_new v4 (.cells #[.int .u64 (f2 : Nat), .int .u64 (l2 : Nat), .bool n2] 73))).1
    obtain ⟨y0', y1', y2'⟩ := (cells_of HX8.out).1
    go_region_with (first
      | (go_at_call 56
         refine (HTB.out _ ?_).mono ?_
         · exact (HP4.out.alloc _).drew
         rintro e v6 ⟨g, rfl, ht, hB⟩
         have HT6 := Lib.hid ht
         have HR9 := Lib.hid ((hB.block (w.heap.size + 1) (by have := HSV2.out; have := HSU4.out; simp; omega)).trans HR8.out)
         have HB9 := Lib.hid (((HB7.out.alloc HSU4.out (.cells #[.int .u64 (f2 : Nat), .int .u64 (l2 : Nat), .bool n2] 73)).drew).trans (hB.mono (by have := HSU4.out; simp; omega)))
         obtain ⟨q0, q1, q2⟩ := (cells_of ((hB.block v4.heap.size (by simp)).trans HX8.out)).1
         have HS6 := Lib.hid (show w.heap.size + 1 < v6.heap.size by have := HSV2.out; have := HSU4.out; have := hB.size; simp at this; omega)
         clear ht hB)
      | (go_at_call 55
         refine (HBT.out g _ HT6.out).mono ?_
         rintro e v7 ⟨a', c', rfl, hE, hB, hnw⟩
         have HE7 := Lib.hid hE
         have HNW := Lib.hid (show ∀ p, a' = some p → p.block ≠ w.heap.size + 1 from fun p hp e => by have := hnw p hp; have := HS6.out; omega)
         obtain ⟨⟨r0, r1, r2, r3, r4⟩, z0, z1, z2, z3, z4⟩ := cells5_of ((hB.block (w.heap.size + 1) HS6.out).trans HR9.out)
         have HB10 := Lib.hid (HB2.out.trans ((HB9.out.trans (hB.mono HB9.out.size)).mono (by have := HSV2.out; omega)))
         have HS7 := Lib.hid (show v2.heap.size ≤ v7.heap.size from Nat.le_trans HB9.out.size hB.size)
         clear hE hB hnw))
    all_goals
      go_wp2_with fail
      refine bodyPost_ret (v := .tuple #[.agg #[.int .i64 Ln, .int .i64 s, .int .u64 1, .int .u64 l2, .slice a' q c'], .int .i64 0]) (by simp [results, Try.results33, go_sem, r0, r1, r2, r3, r4]) rfl ⟨a', c', by rw [HSS.out], ?_, ?_⟩
      · exact ((((HE7.out.set _ _ HNW.out).set _ _ HNW.out).set _ _ HNW.out).set _ _ HNW.out).set _ _ HNW.out
      · exact ((((HB10.out.setCell (by simp) _).setCell (by simp) _).setCell (by simp) _).setCell (by simp) _).setCell (by simp) _
end Go.Proofs.Ytdoifdpmgmlpdaa
