/-
  GeomParts: ranks and pages part a geometry's indices: there are as many as ranks, and pages, times what each has.
-/
import Derived.Test.YtjinbhggimbcbaaGeM3
namespace Go.Proofs.Ytjinbhggimbcbaa
open Go.RowKit
open Ge (pw rt hd ix)
attribute [local go_sem] Oper.semAt_some

/-- ahead of the ranges -/
structure PtH (w : World) (B : Nat) (r s b o c : Int) (W : World) : Prop where
  gm : Gm W B r s b o c
  bt : Box W (B + 1) (.bool false)
  below : Below B w W
theorem PtH.next {w W W' : World} {B : Nat} {r s b o c : Int} (h : PtH w B r s b o c W) (q : Below W.heap.size W W') : PtH w B r s b o c W' :=
  ⟨h.gm.next q, h.bt.below q h.bt.lt, h.below.trans (q.mono (Nat.le_of_lt h.gm.lt))⟩
theorem and63 (y : Nat) (hy : y < 9223372036854775808) : bits .and .i64 (y : Int) 63 = ((y % 64 : Nat) : Int) := by
  show IntKind.i64.wrap ((BitVec.ofInt 64 (y : Int) &&& BitVec.ofInt 64 ((63 : Nat) : Int)).toNat : Int) = _
  rw [BitVec.toNat_and, ofInt_u64 y (by omega), ofInt_u64 63 (by decide), IntKind.wrap_i64, show y &&& 63 = y % 64 from Nat.and_two_pow_sub_one_eq_mod y 6]
  omega
theorem loop_kept {W : World} {l S : Nat} {v u : Value} (h : ∃ r, W.heap[l]? = some (.loop r)) (hb : Box W S v) : ∃ r, (W.setCell ⟨S, 0, none⟩ u).heap[l]? = some (.loop r) := by
  obtain ⟨q, hq⟩ := h
  refine ⟨q, (Below.heap_setCell W _ _ l (fun e => ?_)).trans hq⟩
  obtain ⟨ob, h1, h2⟩ := hb.cells
  simp at e
  subst e
  rw [h1] at hq
  cases hq
  cases h2
theorem loop_next {W W' : World} {l : Nat} (h : ∃ r, W.heap[l]? = some (.loop r)) (q : Below W.heap.size W W') : ∃ r, W'.heap[l]? = some (.loop r) := by
  obtain ⟨r, hr⟩ := h
  exact ⟨r, ((stay_below q).low l (Array.getElem?_eq_some_iff.1 hr).1).trans hr⟩

/-- slots that nothing is known of -/
structure Sl5 where
  (u6 u7 u8 u9 u10 u11 u12 u13 u14 u15 u16 u17 u18 u19 u20 u21 u22 u23 u24 u25 u26 u27 u28 u29 u30 u31 u32 u33 u34 u35 u37 u38 u39 u40 u41 u42 u43 u44 u45 u46 u47 u48 u49 u50 u51 u52 u53 u54 u55 u56 u57 u58 u59 u60 u61 u62 u63 u64 u65 u66 u67 u68 u69 u70 u71 u72 u73 u74 u75 u76 u77 u78 u79 u80 u81 u82 u83 : Value)
/-- between two ranks -/
def PtL (w : World) (B A P : Nat) (r s b o c : Int) (N m L : Nat) (act : Act) (W : World) : Prop :=
  ∃ (i k : Nat) (ds : List Nat) (u : Sl5), act = { tmps := #[.agg #[.int .i64 r, .int .i64 s, .int .i64 b, .int .i64 o, .int .i64 c], .pointer (some ⟨B, 0, none⟩), .pointer (some ⟨B + 1, 0, none⟩), .pointer (some ⟨A, 0, none⟩), .int .i64 (k : Int), .pointer (some ⟨P, 0, none⟩), u.u6, u.u7, u.u8, u.u9, u.u10, u.u11, u.u12, u.u13, u.u14, u.u15, u.u16, u.u17, u.u18, u.u19, u.u20, u.u21, u.u22, u.u23, u.u24, u.u25, u.u26, u.u27, u.u28, u.u29, u.u30, u.u31, u.u32, u.u33, u.u34, u.u35, .int .i64 (i : Int), u.u37, u.u38, u.u39, u.u40, u.u41, u.u42, u.u43, u.u44, u.u45, u.u46, u.u47, u.u48, u.u49, u.u50, u.u51, u.u52, u.u53, u.u54, u.u55, u.u56, u.u57, u.u58, u.u59, u.u60, u.u61, u.u62, u.u63, u.u64, u.u65, u.u66, u.u67, u.u68, u.u69, u.u70, u.u71, u.u72, u.u73, u.u74, u.u75, u.u76, u.u77, u.u78, u.u79, u.u80, u.u81, u.u82, u.u83], defers := (ds.map fun D => { target := .collected D, args := #[] }) } ∧ i ≤ 8 ∧ Hid (k = min i m * L) ∧ PtP w B A P r s b o c N k ds W

set_option maxRecDepth 100000 in
set_option maxHeartbeats 8000000 in
theorem geomParts_core (r s b o c : Int) (hr : I64 r) (hb : I64 b) (ho : I64 o) (hc : I64 c) (w : World) :
    Calls Try.prog 7 #[.agg #[.int .i64 r, .int .i64 s, .int .i64 b, .int .i64 o, .int .i64 c]] w fun e w' => e = .returned (.bool true) ∧ Below w.heap.size w w' := by
  obtain ⟨z, Z⟩ : ∃ z, Hid (rt r s b o c = z) := ⟨_, rfl⟩
  have HH : Hid (∀ w, Calls Try.prog 11 #[.agg #[.int .i64 r, .int .i64 s, .int .i64 b, .int .i64 o, .int .i64 c]] w fun e w' => e = .returned (.bool z) ∧ Below w.heap.size w w') := fun w => by rw [← Z.out]; exact refRight_any r s b o c hr hb ho hc w
  obtain ⟨m, L, nc, hm8, hmL, hnc, hcnt, hper, hrk⟩ := rank_told r s b o c
  obtain ⟨N, hN⟩ : ∃ N, m * L = N := ⟨_, rfl⟩
  rw [hN] at hmL hcnt
  obtain ⟨Fa, HFa⟩ : ∃ F, Hid (aix o.toNat c.toNat (b.toNat * o.toNat * c.toNat) = F) := ⟨_, rfl⟩
  obtain ⟨F, HF⟩ : ∃ F : Nat → Nat → Nat, Hid (F = fun i x => rix o.toNat c.toNat i x) := ⟨_, rfl⟩
  have HAl : Hid (∀ w, Calls Try.prog 20 #[.agg #[.int .i64 r, .int .i64 s, .int .i64 b, .int .i64 o, .int .i64 c]] w fun e w' => ∃ v, e = .returned v ∧ Below w.heap.size w w' ∧ Tells w.heap.size v w' (fun x => #[.int .i64 (Fa x : Int)]) N) := fun w => by rw [← hcnt, ← HFa.out]; exact all_any r s b o c w
  have HRk : Hid (∀ (i : Nat) w, Calls Try.prog 18 #[.agg #[.int .i64 r, .int .i64 s, .int .i64 b, .int .i64 o, .int .i64 c], .int .i64 (i : Int)] w fun e w' => ∃ v, e = .returned v ∧ Below w.heap.size w w' ∧ Tells w.heap.size v w' (fun x => #[.int .i64 (F i x : Int)]) (if i < m then L else 0)) := fun i w => by
    have := rank_any r s b o c i w
    rw [(hrk i).1] at this
    rw [HF.out]
    exact this
  have HPg : Hid (∀ (i x : Nat), i < m → x < L → F i x % 64 = 0 → ∀ w, Calls Try.prog 19 #[.agg #[.int .i64 r, .int .i64 s, .int .i64 b, .int .i64 o, .int .i64 c], .int .i64 ((F i x / 64 : Nat) : Int)] w fun e w' => ∃ v, e = .returned v ∧ Below w.heap.size w w' ∧ Tells w.heap.size v w' (fun y => #[.int .i64 ((F i x / 64 * 64 + y : Nat) : Int)]) nc) := fun i x hi hx h w => by
    have := page_any r s b o c ((F i x / 64 : Nat) : Int) w
    rw [show (((F i x / 64 : Nat) : Int) * 64).toNat = F i x / 64 * 64 by omega] at this
    rw [HF.out] at this h ⊢
    rw [((((hrk i).2 hi).2.2 x hx).2.2.1 h).2] at this
    exact this
  have HRt : Hid (∀ i x, i < m → x < L → F i x / 1048576 = i ∧ F i x < 8388608 ∧ (F i x % 64 = 0 → U nc (x + 1) = U nc x + nc) ∧ (¬ F i x % 64 = 0 → U nc (x + 1) = U nc x)) := fun i x hi hx => by
    have := ((hrk i).2 hi).2.2 x hx
    rw [HF.out]
    exact ⟨this.1, this.2.1, fun h => (this.2.2.1 h).1, this.2.2.2⟩
  have HPr : Hid (0 < m → ∀ w, Calls Try.prog 22 #[.agg #[.int .i64 r, .int .i64 s, .int .i64 b, .int .i64 o, .int .i64 c]] w fun e w' => e = .returned (.int .i64 (L : Int)) ∧ Below w.heap.size w w') := fun h w => by
    rw [← hper h]
    exact perRank_any r s b o c w
  have hL0 : 0 < m → 0 < L := fun h => ((hrk 0).2 h).1
  have hUL : 0 < m → U nc L = L := fun h => ((hrk 0).2 h).2.1
  have HUx : Hid (0 < m → L ≤ 4096 ∧ ∀ x, x ≤ L → U nc x ≤ 262144) := fun h => by
    have h1 : L ≤ 4096 := by
      have := Nat.le_mul_of_pos_left L h
      omega
    refine ⟨h1, fun x hx => Nat.le_trans (U_le nc x) ?_⟩
    exact Nat.le_trans (Nat.mul_le_mul (Nat.le_trans hx h1) hnc) (by decide)
  have HZR : Hid (z = true → (0 ≤ r ∧ r ≤ 8) ∧ (0 ≤ s ∧ s ≤ 8) ∧ (0 ≤ b ∧ b ≤ 16) ∧ (0 ≤ o ∧ o ≤ 1024) ∧ (0 ≤ c ∧ c ≤ 64)) := fun h => by
    have ha := Ge.rt_all (Z.out.trans h)
    omega
  clear hcnt hper hrk HFa HF Z hr hb ho hc
  refine (callsIn_wide (n := 10)).1 ?_
  refine callsIn_of_wp_marks Try.func7 rfl trivial ?_ rfl
  simp only [Try.ntmps7, List.size_toArray, List.length_cons, List.length_nil, Nat.reduceAdd, Nat.reduceSub, Array.replicate_succ, Array.replicate_zero, List.push_toArray, List.append_toArray, List.nil_append, List.cons_append]
  refine wpIn_wide.2 ?_
  go_wp2_with fail
  obtain ⟨B, hB⟩ : ∃ B, w.heap.size = B := ⟨_, rfl⟩
  obtain ⟨V, hV⟩ : ∃ V, (w.alloc (.cells #[.int .i64 r, .int .i64 s, .int .i64 b, .int .i64 o, .int .i64 c] 23)).alloc (.cells #[.bool false] 4) = V := ⟨_, rfl⟩
  have H0 : Hid (PtH w B r s b o c V) := by
    rw [← hV, ← hB]
    obtain ⟨w1, h1⟩ : ∃ w1, w.alloc (.cells #[.int .i64 r, .int .i64 s, .int .i64 b, .int .i64 o, .int .i64 c] 23) = w1 := ⟨_, rfl⟩
    have z1 : w1.heap.size = w.heap.size + 1 := by rw [← h1]; simp
    have g1 : Gm w1 w.heap.size r s b o c := by rw [← h1]; exact Gm.new w r s b o c _
    have l1 : Below w.heap.size w w1 := by rw [← h1]; exact (Below.refl _ w).alloc (Nat.le_refl _) _
    rw [h1]
    have b5 := Box.new w1 4 (.bool false)
    rw [z1] at b5
    have l5 : Below w1.heap.size w1 (w1.alloc (.cells #[.bool false] 4)) := (Below.refl _ w1).alloc (Nat.le_refl _) _
    exact ⟨g1.next l5, b5, l1.trans (l5.mono (by omega))⟩
  rw [hV, hB]
  clear hV
  refine (anchor7_any _).mono ?_
  rintro e W1 ⟨rfl, bW⟩
  replace H0 : Hid (PtH w B r s b o c W1) := H0.out.next bW
  clear bW
  have g0 := H0.out.gm.c0; have g1 := H0.out.gm.c1; have g2 := H0.out.gm.c2; have g3 := H0.out.gm.c3; have g4 := H0.out.gm.c4
  go_wp2_with fail
  refine (HH.out _).mono ?_
  rintro e W2 ⟨rfl, bW⟩
  clear g0 g1 g2 g3 g4
  replace H0 : Hid (PtH w B r s b o c W2) := H0.out.next bW
  clear bW HH
  have g0 := H0.out.gm.c0; have g1 := H0.out.gm.c1; have g2 := H0.out.gm.c2; have g3 := H0.out.gm.c3; have g4 := H0.out.gm.c4
  cases z with
  | false =>
    go_upto_region 6 with (fail)
    obtain ⟨A, hA⟩ : ∃ A, W2.heap.size = A := ⟨_, rfl⟩
    obtain ⟨V4, hV4⟩ : ∃ V, W2.alloc (.cells #[.int .i64 0] 3) = V := ⟨_, rfl⟩
    have H4 : Hid (PtS w B A r s b o c 0 [] V4) := by
      rw [← hV4, ← hA]
      have b1 := (Below.refl _ W2).alloc (Nat.le_refl _) (.cells #[.int .i64 0] 3)
      have h1 := H0.out.next b1
      exact ⟨h1.gm, h1.bt, Box.new _ _ _, H0.out.bt.lt, h1.below, List.nodup_nil, fun _ h => by cases h⟩
    rw [hV4, hA]
    have lBA : B + 2 ≤ A := H4.out.hA
    clear hV4 hA H0 g0 g1 g2 g3 g4 HZR
    have g0 := H4.out.gm.c0; have g1 := H4.out.gm.c1; have g2 := H4.out.gm.c2; have g3 := H4.out.gm.c3; have g4 := H4.out.gm.c4
    go_wp2_with fail
    clear g0 g1 g2 g3 g4
    refine (HAl.out _).mono ?_
    rintro e V5 ⟨v, rfl, bV, gf, lb, T, rfl, heg, hseq, hT⟩
    have H5 : Hid (PtS w B A r s b o c 0 [] V5) := H4.out.next bV
    have l4 : A < V4.heap.size := H4.out.ba.lt
    have lz := bV.size
    have hT' : ∀ b, T b → b < V5.heap.size ∧ ¬ (b = A) := fun b hb => ⟨(hT b hb).2, by have := (hT b hb).1; omega⟩
    clear bV H4 HAl
    go_wp2
    refine (wpIn_wide (n := 10)).1 (rangeD rfl heg hseq (fun _ => rfl) (fun _ b => b = A) hT' (fun x W => PtS w B A r s b o c x [] W) (fun _ _ _ => False)
      ⟨fun x W h => ok_fix (by rintro b rfl; exact h.ba.lt), fun _ _ _ h => h.elim⟩ (fun x X Y h hs => h.stay hs (by omega) (fun _ h => by cases h)) (fun _ _ _ _ h _ => h.elim) H5.out ?round1 ?done1 (fun _ _ _ _ _ _ h _ => h.elim))
    case round1 =>
      intro l2 x Wz hx hIz _
      have HIz : Hid (∀ W2, Stay V5.heap.size Wz W2 → PtS w B A r s b o c x [] W2) := fun W2 hs => hIz.stay hs (by omega) (fun _ h => by cases h)
      have HOz : Hid (Ok (fun _ b => b = A) Wz) := ok_fix (by rintro b rfl; exact hIz.ba.lt)
      clear hIz
      gi_wp2
      refine ⟨KeepD.refl _ _, HOz.out, fun W2 hs2 hz2 hr2 => ?_⟩
      have h := HIz.out W2 hs2
      have ca := h.ba.1; have fa := h.ba.2
      have HG : Hid (KeepD (fun _ b => b = A) W2 (W2.setCell ⟨A, 0, none⟩ (.int .i64 ((x : Int) + 1))) ∧ PtS w B A r s b o c (x + 1) [] (W2.setCell ⟨A, 0, none⟩ (.int .i64 ((x : Int) + 1)))) := by
        refine ⟨keep_set (M := fun b => b = A) (KeepD.refl _ _) rfl _, ?_⟩
        have := h.putA (x + 1)
        simp only [Int.natCast_add, Int.natCast_one] at this
        exact this
      clear hs2 hz2 hr2 HIz HOz h hm8 hnc hN hL0 hUL
      gi_wp2
      exact HG.out
    case done1 =>
      rintro D1 W6 hD hI hK
      have H6 : Hid (PtS w B A r s b o c N [D1] W6) := hI.mark (by omega) (fun _ h => by cases h) hK.1
      have lD1 : A < D1 := by omega
      clear hI hK hD H5 hT' hseq heg hT l4 lz
      go_upto_region 9 with (fail)
      obtain ⟨P, hP⟩ : ∃ P, W6.heap.size = P := ⟨_, rfl⟩
      obtain ⟨V7, hV7⟩ : ∃ V, W6.alloc (.cells #[.int .i64 0] 3) = V := ⟨_, rfl⟩
      have H7 : Hid (PtP w B A P r s b o c N 0 [D1] V7) := by
        rw [← hV7, ← hP]
        have b1 := (Below.refl _ W6).alloc (Nat.le_refl _) (.cells #[.int .i64 0] 3)
        exact ⟨H6.out.next b1, Box.new _ _ _, H6.out.ba.lt⟩
      rw [hV7, hP]
      clear hV7 hP H6
      go_wp2
      refine wp_loop (PtL w B A P r s b o c N m L) (fun act _ => 8 - (intOf (act.tmps.getD 36 undef)).toNat) ⟨0, 0, [D1], ⟨_, _, _, _, _, _, _, _, _, _, _, _, _, _, _, _, _, _, _, _, _, _, _, _, _, _, _, _, _, _, _, _, _, _, _, _, _, _, _, _, _, _, _, _, _, _, _, _, _, _, _, _, _, _, _, _, _, _, _, _, _, _, _, _, _, _, _, _, _, _, _, _, _, _, _, _, _⟩, rfl, by omega, (by show 0 = min 0 m * L; simp), H7.out⟩ ?_
      rintro act wr ⟨i, k, ds, u, rfl, hi8, Hk, hP⟩
      clear H7 lD1
      have hkN : k ≤ N := by rw [Hk.out, ← hN]; exact Nat.mul_le_mul_right _ (Nat.min_le_right _ _)
      by_cases hlt : i < 8
      · have HP : Hid (PtP w B A P r s b o c N k ds wr) := hP
        clear hP
        go_upto_region 13 with (fail)
        obtain ⟨E, hE⟩ : ∃ E, wr.heap.size = E := ⟨_, rfl⟩
        obtain ⟨V8, hV8⟩ : ∃ V, (wr.alloc (.cells #[.int .i64 (i : Int)] 3)).alloc (.cells #[.int .i64 0] 3) = V := ⟨_, rfl⟩
        have H8 : Hid (PtR w B A P E r s b o c N i k 0 ds V8) := by
          rw [← hV8, ← hE]
          obtain ⟨w1, h1, z1, b1, l1⟩ := lay_box wr 3 (.int .i64 (i : Int))
          rw [h1]
          have b2 := Box.new w1 3 (.int .i64 0)
          rw [z1] at b2
          have l2 := (Below.refl _ w1).alloc (Nat.le_refl _) (.cells #[.int .i64 0] 3)
          exact ⟨(HP.out.next l1).next l2, b1.below l2 b1.lt, b2, HP.out.bp.lt⟩
        rw [hV8, hE]
        clear hV8 hE HP
        have g0 := H8.out.pp.pt.gm.c0; have g1 := H8.out.pp.pt.gm.c1; have g2 := H8.out.pp.pt.gm.c2; have g3 := H8.out.pp.pt.gm.c3; have g4 := H8.out.pp.pt.gm.c4; have g5 := H8.out.be.1
        go_wp2_with fail
        clear g0 g1 g2 g3 g4 g5
        refine (HRk.out i _).mono ?_
        rintro e V9 ⟨v, rfl, bV, gf, lb, T, rfl, heg, hseq, hT⟩
        have H9 : Hid (PtR w B A P E r s b o c N i k 0 ds V9) := H8.out.next bV
        have l8 : E + 1 < V8.heap.size := H8.out.bn.lt
        have lPE : P < E := H8.out.hE
        have lAP : A < P := H8.out.pp.hP
        have lz9 := bV.size
        have hds : ∀ D ∈ ds, D < V8.heap.size := H8.out.pp.pt.ds_lt
        have hT' : ∀ b, T b → b < V9.heap.size ∧ ¬ (b = P ∨ b = E + 1) := fun b hb => ⟨(hT b hb).2, by have := (hT b hb).1; omega⟩
        clear bV H8
        go_wp2
        refine (wpIn_wide (n := 10)).1 (rangeD rfl heg hseq (fun _ => rfl) (fun _ b => b = P ∨ b = E + 1) hT' (fun x W => PtR w B A P E r s b o c N i (k + U nc x) x ds W) (fun _ _ _ => False)
          ⟨fun x W h => h.m2, fun _ _ _ h => h.elim⟩ (fun x X Y h hs => h.stay hs (by omega) (fun D hD => by have := hds D hD; omega)) (fun _ _ _ _ h _ => h.elim) (show PtR w B A P E r s b o c N i (k + U nc 0) 0 ds V9 from H9.out) ?round2 ?done2 (fun _ _ _ _ _ _ h _ => h.elim))
        case round2 =>
          intro l2 x Wz hx hIz _
          have him : i < m := by
            by_cases h : i < m
            · exact h
            · rw [if_neg h] at hx; omega
          rw [if_pos him] at hx
          obtain ⟨f1, f2, f3, f4⟩ := HRt.out i x him hx
          obtain ⟨hL4, hUb⟩ := HUx.out (by omega)
          have hUx := hUb x (by omega)
          clear hUb
          have CP := HPg.out i x him hx
          obtain ⟨y, hy⟩ : ∃ y, F i x = y := ⟨_, rfl⟩
          rw [hy] at f1 f2 f3 f4 CP
          obtain ⟨Z, hZ⟩ : ∃ Z, Wz.heap.size = Z := ⟨_, rfl⟩
          have HIz : Hid (∀ W2, Stay V9.heap.size (Wz.alloc (.cells #[.int .i64 (y : Int)] 3)) W2 → PtR w B A P E r s b o c N i (k + U nc x) x ds W2 ∧ Box W2 Z (.int .i64 (y : Int)) ∧ E + 1 < Z) := fun W2 hs => by
            have b1 := (Below.refl _ Wz).alloc (Nat.le_refl _) (.cells #[.int .i64 (y : Int)] 3)
            refine ⟨(PtR.next hIz b1).stay hs (by omega) (fun D hD => by have := hds D hD; omega), ?_, ?_⟩
            · rw [← hZ]; exact (Box.new Wz _ _).stay hs
            · rw [← hZ]; exact PtR.bn hIz |>.lt
          have HOz : Hid (Ok (fun _ b => b = P ∨ b = E + 1) (Wz.alloc (.cells #[.int .i64 (y : Int)] 3))) := ok_fix fun b hb => by have := (PtR.bn hIz).lt; simp; omega
          clear hIz H9 hT' hseq heg hT
          simp only [hy]
          gi_wp2
          refine ⟨keep_alloc _ _, HOz.out, fun W2 hs2 hz2 hr2 => ?_⟩
          obtain ⟨h, bz, lZ⟩ := HIz.out W2 hs2
          clear hs2 hz2 HIz HOz hZ
          obtain ⟨g, hg⟩ : ∃ g, k + U nc x = g := ⟨_, rfl⟩
          rw [hg] at h
          have g0 := h.pp.pt.gm.c0; have g1 := h.pp.pt.gm.c1; have g2 := h.pp.pt.gm.c2; have g3 := h.pp.pt.gm.c3; have g4 := h.pp.pt.gm.c4
          have ce := h.be.1; have cn := h.bn.1; have fn := h.bn.2; have cz := bz.1
          obtain ⟨W3, hW3⟩ : ∃ W3, W3 = W2.setCell ⟨E + 1, 0, none⟩ (.int .i64 ((x : Int) + 1)) := ⟨_, rfl⟩
          have H3 : Hid (PtR w B A P E r s b o c N i g (x + 1) ds W3 ∧ Box W3 Z (.int .i64 (y : Int)) ∧ KeepD (fun _ b => b = P ∨ b = E + 1) W2 W3 ∧ ∃ q, W3.heap[l2]? = some (.loop q)) := by
            refine ⟨?_, ?_, ?_, ?_⟩
            · have := h.putN (x + 1)
              simp only [Int.natCast_add, Int.natCast_one] at this
              rw [hW3]; exact this
            · rw [hW3]; exact bz.of (Below.heap_setCell W2 _ _ _ (fun e => by simp at e; omega))
            · rw [hW3]; exact keep_set (M := fun b => b = P ∨ b = E + 1) (KeepD.refl _ _) (.inr rfl) _
            · rw [hW3]; exact loop_kept hr2 h.bn
          clear hr2 h bz
          by_cases h64 : y % 64 = 0
          · have hU := f3 h64
            have hand : bits .and .i64 (y : Int) 63 = 0 := by rw [and63 y (by omega), h64]; rfl
            have HC : Hid (∀ w, Calls Try.prog 19 #[.agg #[.int .i64 r, .int .i64 s, .int .i64 b, .int .i64 o, .int .i64 c], .int .i64 ((y : Int) / 64)] w fun e w' => ∃ v, e = .returned v ∧ Below w.heap.size w w' ∧ Tells w.heap.size v w' (fun j => #[.int .i64 ((y / 64 * 64 + j : Nat) : Int)]) nc) := fun w => by
              have := CP h64 w
              rw [show ((y / 64 : Nat) : Int) = (y : Int) / 64 from by omega] at this
              exact this
            clear CP f3 f4 hds hN hL0 hUL h64
            gi_wp2_with (first | (refine ⟨trivial, ?_⟩; gi_at_call 19; refine (callsIn_wide.2 (HC.out _)).mono ?_; rintro e V10 ⟨v, rfl, bV, gf, lb, T, rfl, heg, hseq, hT⟩))
            clear g0 g1 g2 g3 g4 ce cn fn cz hand HC
            rw [← hW3] at bV hT
            have H10 : Hid (PtY w B A P E Z r s b o c N i g (x + 1) y ds W2 0 V10) := ⟨H3.out.1.next bV, H3.out.2.1.below bV H3.out.2.1.lt, lZ, keep_stay7 H3.out.1.m2 H3.out.2.2.1 (stay_below bV) H3.out.2.2.1.1⟩
            have hr10 : ∃ q, V10.heap[l2]? = some (.loop q) := loop_next H3.out.2.2.2 bV
            have l3 : E + 1 < W3.heap.size := H3.out.1.bn.lt
            have lz10 := bV.size
            have hW2s : W2.heap.size ≤ W3.heap.size := H3.out.2.2.1.1
            have hds3 : ∀ D ∈ ds, D < W3.heap.size := H3.out.1.pp.pt.ds_lt
            have hT' : ∀ b, T b → b < V10.heap.size ∧ ¬ (b = P) := fun b hb => ⟨(hT b hb).2, by have := (hT b hb).1; omega⟩
            clear bV H3 hW3
            refine rangeN hr10 rfl heg hseq (fun _ => rfl) (fun _ b => b = P) hT' (PtY w B A P E Z r s b o c N i g (x + 1) y ds W2) (fun _ _ _ => False)
              ⟨fun q W h => h.pr.m1, fun _ _ _ h => h.elim⟩
              (fun q X Y h hs => ⟨h.pr.stay hs (by omega) (fun D hD => by have := hds3 D hD; omega), h.bz.stay hs, h.hZ, keep_stay7 h.pr.m2 h.kp hs (by omega)⟩)
              (fun _ _ _ _ h _ => h.elim) H10.out ?round3 ?done3 (fun _ _ _ _ h => h.elim)
            case round3 =>
              intro l3 j Wq hj hIq _
              have HIq : Hid (∀ W4, Stay V10.heap.size Wq W4 → PtY w B A P E Z r s b o c N i g (x + 1) y ds W2 j W4) := fun W4 hs => ⟨hIq.pr.stay hs (by omega) (fun D hD => by have := hds3 D hD; omega), hIq.bz.stay hs, hIq.hZ, keep_stay7 hIq.pr.m2 hIq.kp hs (by omega)⟩
              have HOq : Hid (Ok (fun _ b => b = P) Wq) := hIq.pr.m1
              clear hIq H10 hT' hseq heg hT hr10
              obtain ⟨q, hq⟩ : ∃ q, y / 64 * 64 + j = q := ⟨_, rfl⟩
              have hqd : (q : Int) / 64 = (y : Int) / 64 := by omega
              have hqb : q < 16777216 := by omega
              simp only [hq]
              clear hq
              gi_wp2
              refine ⟨KeepD.refl _ _, HOq.out, fun W4 hs4 hz4 hr4 => ?_⟩
              have h := HIq.out W4 hs4
              clear hs4 hz4 hr4 HIq HOq
              obtain ⟨G, hG⟩ : ∃ G, g + j = G := ⟨_, rfl⟩
              have hp := h.pr
              rw [hG] at hp
              have hGb : G ≤ 300000 := by omega
              have cp := hp.pp.bp.1; have fp := hp.pp.bp.2; have cz := h.bz.1
              have HG : Hid (KeepD (fun _ b => b = P) W4 (W4.setCell ⟨P, 0, none⟩ (.int .i64 ((G : Int) + 1))) ∧ PtY w B A P E Z r s b o c N i g (x + 1) y ds W2 (j + 1) (W4.setCell ⟨P, 0, none⟩ (.int .i64 ((G : Int) + 1)))) := by
                refine ⟨keep_set (M := fun b => b = P) (KeepD.refl _ _) rfl _, ?_, h.bz.of (Below.heap_setCell W4 _ _ _ (fun e => by simp at e; omega)), h.hZ, keep_set (M := fun b => b = P ∨ b = E + 1) h.kp (.inl rfl) _⟩
                have := hp.putP (G + 1)
                simp only [Int.natCast_add, Int.natCast_one] at this
                rw [show g + (j + 1) = G + 1 by omega]
                exact this
              clear h hp hG hg hU hUx
              gi_wp2
              exact HG.out
            case done3 =>
              rintro W5 hI
              have HG : Hid (KeepD (fun _ b => b = P ∨ b = E + 1) W2 W5 ∧ PtR w B A P E r s b o c N i (k + U nc (x + 1)) (x + 1) ds W5) := ⟨hI.kp, by rw [hU, ← Nat.add_assoc, hg]; exact hI.pr⟩
              clear hI H10 hT' hseq heg hT hr10
              gi_wp2
              exact HG.out
          · have hU := f4 h64
            obtain ⟨q, hq⟩ : ∃ q, y % 64 = q := ⟨_, rfl⟩
            have hand : bits .and .i64 (y : Int) 63 = (q : Int) := by rw [and63 y (by omega), hq]
            have hq0 : ((q : Int) == 0) = false := by simp; omega
            have HG : Hid (KeepD (fun _ b => b = P ∨ b = E + 1) W2 W3 ∧ PtR w B A P E r s b o c N i (k + U nc (x + 1)) (x + 1) ds W3) := ⟨H3.out.2.2.1, by rw [hU, hg]; exact H3.out.1⟩
            rw [hW3] at HG
            clear CP f3 f4 hnc hds hN hL0 hUL hq h64 H3 hW3
            gi_wp2
            exact HG.out
        case done2 =>
          rintro D2 W10 hD hI hK
          obtain ⟨n, hn⟩ : ∃ n, (if i < m then L else 0) = n := ⟨_, rfl⟩
          have hI' : PtR w B A P E r s b o c N i (k + U nc n) n ds W10 := by rw [← hn]; exact hI
          have hUn : U nc n = n := by
            rw [← hn]
            split
            · exact hUL (by omega)
            · rfl
          rw [hUn] at hI'
          have Hk' : Hid (k + n = min (i + 1) m * L) := by
            have := cum_step i m L
            rw [hn, ← Hk.out] at this
            exact this.symm
          have hkn : k + n ≤ 4096 := by
            rw [Hk'.out]
            exact Nat.le_trans (Nat.mul_le_mul_right _ (Nat.min_le_right _ _)) (by omega)
          have H10 : Hid (PtP w B A P r s b o c N (k + n) (D2 :: ds) W10 ∧ Box W10 (E + 1) (.int .i64 (n : Int))) := ⟨⟨hI'.pp.pt.mark (by omega) (fun E' h => by have := hds E' h; omega) hK.1, hI'.pp.bp, hI'.pp.hP⟩, hI'.bn⟩
          clear hI hI' hK H9 hT' hseq heg hT hUn hds
          by_cases him : i < m
          · rw [if_pos him] at hn
            subst hn
            have hL1 := hL0 (by omega)
            have HC : Hid (∀ w, Calls Try.prog 22 #[.agg #[.int .i64 r, .int .i64 s, .int .i64 b, .int .i64 o, .int .i64 c]] w fun e w' => e = .returned (.int .i64 (L : Int)) ∧ Below w.heap.size w w') := HPr.out (by omega)
            have hb1 : ((L : Int) != 0) = true := by simp; omega
            clear hN hL0 hUL
            go_wp2
            refine region_calm (by kernel_rfl) (by kernel_rfl) (fun W => Below W10.heap.size W10 W) (below_drew1 W10) ?_
            intro U9 hU9 fw hf hof
            have HN9 : Hid (∀ x W, Below (fw x).heap.size (fw x) W → ∃ y, W = fw y) := fun x W h => hof W ((hf x).trans (h.mono (hf x).size))
            have HF9 : Hid (∀ x, PtP w B A P r s b o c N (k + L) (D2 :: ds) (fw x) ∧ Box (fw x) (E + 1) (.int .i64 (L : Int))) := fun x => ⟨H10.out.1.next (hf x), H10.out.2.below (hf x) H10.out.2.lt⟩
            have x0 : ∀ x, (fw x).cell? ⟨B, 0, none⟩ = some (.int .i64 r) := fun x => (HF9.out x).1.pt.gm.c0
            have x1 : ∀ x, (fw x).cell? ⟨B, 1, none⟩ = some (.int .i64 s) := fun x => (HF9.out x).1.pt.gm.c1
            have x2 : ∀ x, (fw x).cell? ⟨B, 2, none⟩ = some (.int .i64 b) := fun x => (HF9.out x).1.pt.gm.c2
            have x3 : ∀ x, (fw x).cell? ⟨B, 3, none⟩ = some (.int .i64 o) := fun x => (HF9.out x).1.pt.gm.c3
            have x4 : ∀ x, (fw x).cell? ⟨B, 4, none⟩ = some (.int .i64 c) := fun x => (HF9.out x).1.pt.gm.c4
            have x5 : ∀ x, (fw x).cell? ⟨E + 1, 0, none⟩ = some (.int .i64 (L : Int)) := fun x => (HF9.out x).2.1
            clear hf hof
            repeat (go_big_quiet_step ((go_at_call 22; exact calm_next HN9.out (HC.out _))))
            refine wpQuiet_nil ?_
            rintro _ ⟨x9, rfl⟩
            clear x0 x1 x2 x3 x4
            have x6 := x5 x9
            clear x5
            go_wp2
            refine ⟨⟨i + 1, k + L, D2 :: ds, ⟨_, _, _, _, _, _, _, _, _, _, _, _, _, _, _, _, _, _, _, _, _, _, _, _, _, _, _, _, _, _, _, _, _, _, _, _, _, _, _, _, _, _, _, _, _, _, _, _, _, _, _, _, _, _, _, _, _, _, _, _, _, _, _, _, _, _, _, _, _, _, _, _, _, _, _, _, _⟩, rfl, by omega, Hk', (HF9.out x9).1⟩, ?_⟩
            simp [intOf]
            omega
          · rw [if_neg him] at hn
            subst hn
            clear hN hL0 hUL
            go_wp2
            refine region_calm (by kernel_rfl) (by kernel_rfl) (fun W => Below W10.heap.size W10 W) (below_drew1 W10) ?_
            intro U9 hU9 fw hf hof
            have HN9 : Hid (∀ x W, Below (fw x).heap.size (fw x) W → ∃ y, W = fw y) := fun x W h => hof W ((hf x).trans (h.mono (hf x).size))
            have HF9 : Hid (∀ x, PtP w B A P r s b o c N (k + 0) (D2 :: ds) (fw x) ∧ Box (fw x) (E + 1) (.int .i64 0)) := fun x => ⟨H10.out.1.next (hf x), H10.out.2.below (hf x) H10.out.2.lt⟩
            have x0 : ∀ x, (fw x).cell? ⟨B, 0, none⟩ = some (.int .i64 r) := fun x => (HF9.out x).1.pt.gm.c0
            have x1 : ∀ x, (fw x).cell? ⟨B, 1, none⟩ = some (.int .i64 s) := fun x => (HF9.out x).1.pt.gm.c1
            have x2 : ∀ x, (fw x).cell? ⟨B, 2, none⟩ = some (.int .i64 b) := fun x => (HF9.out x).1.pt.gm.c2
            have x3 : ∀ x, (fw x).cell? ⟨B, 3, none⟩ = some (.int .i64 o) := fun x => (HF9.out x).1.pt.gm.c3
            have x4 : ∀ x, (fw x).cell? ⟨B, 4, none⟩ = some (.int .i64 c) := fun x => (HF9.out x).1.pt.gm.c4
            have x5 : ∀ x, (fw x).cell? ⟨E + 1, 0, none⟩ = some (.int .i64 0) := fun x => (HF9.out x).2.1
            clear hf hof
            repeat (go_big_quiet_step (fail))
            refine wpQuiet_nil ?_
            rintro _ ⟨x9, rfl⟩
            clear x0 x1 x2 x3 x4
            have x6 := x5 x9
            clear x5
            go_wp2
            refine ⟨⟨i + 1, k + 0, D2 :: ds, ⟨_, _, _, _, _, _, _, _, _, _, _, _, _, _, _, _, _, _, _, _, _, _, _, _, _, _, _, _, _, _, _, _, _, _, _, _, _, _, _, _, _, _, _, _, _, _, _, _, _, _, _, _, _, _, _, _, _, _, _, _, _, _, _, _, _, _, _, _, _, _, _, _, _, _, _, _, _⟩, rfl, by omega, Hk', (HF9.out x9).1⟩, ?_⟩
            simp [intOf]
            omega
      · obtain rfl : i = 8 := by omega
        have hkN' : k = N := by rw [Hk.out, ← hN, Nat.min_eq_right hm8]
        clear hkN Hk hN
        subst hkN'
        have ca := hP.pt.ba.1; have cp := hP.bp.1; have ft := hP.pt.bt.2; have ct := hP.pt.bt.1
        have hPA := hP.hP
        have HF : Hid _ := hP.pt.fin
        clear hP
        go_wp2
        exact ends7 hB (T := B + 1) (fun W1 h1 => by simp [results, Try.f7, asAddr, go_sem, h1]) ds _ HF.out.1 HF.out.2.1 HF.out.2.2.1 HF.out.2.2.2
  | true =>
    obtain ⟨⟨y1, y2⟩, ⟨y3, y4⟩, ⟨y5, y6⟩, ⟨y7, y8⟩, ⟨y9, y10⟩⟩ := HZR.out rfl
    obtain ⟨m1a, m1b⟩ := low_prod (r + s) b 16 16 (by omega) (by omega) (by omega) (by omega)
    obtain ⟨m2a, m2b⟩ := low_prod ((r + s) * b) o 256 1024 m1a (by omega) (by omega) (by omega)
    obtain ⟨m3a, m3b⟩ := low_prod ((r + s) * b * o) c 262144 64 m2a (by omega) (by omega) (by omega)
    by_cases hbig : 600 < (r + s) * b * o * c
    · have bt := H0.out.bt
      have bt1 := bt.1; have bt2 := bt.2
      go_wp2
      exact ends7 (ds := []) hB (T := B + 1) (fun W1 h1 => by simp [results, Try.f7, asAddr, go_sem, h1]) _ List.nodup_nil (fun _ h => by cases h) (bt.set _) (H0.out.below.setCell (p := ⟨B + 1, 0, none⟩) (by simp) _)
    · go_upto_region 6 with (fail)
      clear y1 y2 y3 y4 y5 y6 y7 y8 y9 y10 hbig m1a m1b m2a m2b m3a m3b
      obtain ⟨A, hA⟩ : ∃ A, W2.heap.size = A := ⟨_, rfl⟩
      obtain ⟨V4, hV4⟩ : ∃ V, W2.alloc (.cells #[.int .i64 0] 3) = V := ⟨_, rfl⟩
      have H4 : Hid (PtS w B A r s b o c 0 [] V4) := by
        rw [← hV4, ← hA]
        have b1 := (Below.refl _ W2).alloc (Nat.le_refl _) (.cells #[.int .i64 0] 3)
        have h1 := H0.out.next b1
        exact ⟨h1.gm, h1.bt, Box.new _ _ _, H0.out.bt.lt, h1.below, List.nodup_nil, fun _ h => by cases h⟩
      rw [hV4, hA]
      have lBA : B + 2 ≤ A := H4.out.hA
      clear hV4 hA H0 g0 g1 g2 g3 g4 HZR
      have g0 := H4.out.gm.c0; have g1 := H4.out.gm.c1; have g2 := H4.out.gm.c2; have g3 := H4.out.gm.c3; have g4 := H4.out.gm.c4
      go_wp2_with fail
      clear g0 g1 g2 g3 g4
      refine (HAl.out _).mono ?_
      rintro e V5 ⟨v, rfl, bV, gf, lb, T, rfl, heg, hseq, hT⟩
      have H5 : Hid (PtS w B A r s b o c 0 [] V5) := H4.out.next bV
      have l4 : A < V4.heap.size := H4.out.ba.lt
      have lz := bV.size
      have hT' : ∀ b, T b → b < V5.heap.size ∧ ¬ (b = A) := fun b hb => ⟨(hT b hb).2, by have := (hT b hb).1; omega⟩
      clear bV H4 HAl
      go_wp2
      refine (wpIn_wide (n := 10)).1 (rangeD rfl heg hseq (fun _ => rfl) (fun _ b => b = A) hT' (fun x W => PtS w B A r s b o c x [] W) (fun _ _ _ => False)
        ⟨fun x W h => ok_fix (by rintro b rfl; exact h.ba.lt), fun _ _ _ h => h.elim⟩ (fun x X Y h hs => h.stay hs (by omega) (fun _ h => by cases h)) (fun _ _ _ _ h _ => h.elim) H5.out ?round1 ?done1 (fun _ _ _ _ _ _ h _ => h.elim))
      case round1 =>
        intro l2 x Wz hx hIz _
        have HIz : Hid (∀ W2, Stay V5.heap.size Wz W2 → PtS w B A r s b o c x [] W2) := fun W2 hs => hIz.stay hs (by omega) (fun _ h => by cases h)
        have HOz : Hid (Ok (fun _ b => b = A) Wz) := ok_fix (by rintro b rfl; exact hIz.ba.lt)
        clear hIz
        gi_wp2
        refine ⟨KeepD.refl _ _, HOz.out, fun W2 hs2 hz2 hr2 => ?_⟩
        have h := HIz.out W2 hs2
        have ca := h.ba.1; have fa := h.ba.2
        have HG : Hid (KeepD (fun _ b => b = A) W2 (W2.setCell ⟨A, 0, none⟩ (.int .i64 ((x : Int) + 1))) ∧ PtS w B A r s b o c (x + 1) [] (W2.setCell ⟨A, 0, none⟩ (.int .i64 ((x : Int) + 1)))) := by
          refine ⟨keep_set (M := fun b => b = A) (KeepD.refl _ _) rfl _, ?_⟩
          have := h.putA (x + 1)
          simp only [Int.natCast_add, Int.natCast_one] at this
          exact this
        clear hs2 hz2 hr2 HIz HOz h hm8 hnc hN hL0 hUL
        gi_wp2
        exact HG.out
      case done1 =>
        rintro D1 W6 hD hI hK
        have H6 : Hid (PtS w B A r s b o c N [D1] W6) := hI.mark (by omega) (fun _ h => by cases h) hK.1
        have lD1 : A < D1 := by omega
        clear hI hK hD H5 hT' hseq heg hT l4 lz
        go_upto_region 9 with (fail)
        obtain ⟨P, hP⟩ : ∃ P, W6.heap.size = P := ⟨_, rfl⟩
        obtain ⟨V7, hV7⟩ : ∃ V, W6.alloc (.cells #[.int .i64 0] 3) = V := ⟨_, rfl⟩
        have H7 : Hid (PtP w B A P r s b o c N 0 [D1] V7) := by
          rw [← hV7, ← hP]
          have b1 := (Below.refl _ W6).alloc (Nat.le_refl _) (.cells #[.int .i64 0] 3)
          exact ⟨H6.out.next b1, Box.new _ _ _, H6.out.ba.lt⟩
        rw [hV7, hP]
        clear hV7 hP H6
        go_wp2
        refine wp_loop (PtL w B A P r s b o c N m L) (fun act _ => 8 - (intOf (act.tmps.getD 36 undef)).toNat) ⟨0, 0, [D1], ⟨_, _, _, _, _, _, _, _, _, _, _, _, _, _, _, _, _, _, _, _, _, _, _, _, _, _, _, _, _, _, _, _, _, _, _, _, _, _, _, _, _, _, _, _, _, _, _, _, _, _, _, _, _, _, _, _, _, _, _, _, _, _, _, _, _, _, _, _, _, _, _, _, _, _, _, _, _⟩, rfl, by omega, (by show 0 = min 0 m * L; simp), H7.out⟩ ?_
        rintro act wr ⟨i, k, ds, u, rfl, hi8, Hk, hP⟩
        clear H7 lD1
        have hkN : k ≤ N := by rw [Hk.out, ← hN]; exact Nat.mul_le_mul_right _ (Nat.min_le_right _ _)
        by_cases hlt : i < 8
        · have HP : Hid (PtP w B A P r s b o c N k ds wr) := hP
          clear hP
          go_upto_region 13 with (fail)
          obtain ⟨E, hE⟩ : ∃ E, wr.heap.size = E := ⟨_, rfl⟩
          obtain ⟨V8, hV8⟩ : ∃ V, (wr.alloc (.cells #[.int .i64 (i : Int)] 3)).alloc (.cells #[.int .i64 0] 3) = V := ⟨_, rfl⟩
          have H8 : Hid (PtR w B A P E r s b o c N i k 0 ds V8) := by
            rw [← hV8, ← hE]
            obtain ⟨w1, h1, z1, b1, l1⟩ := lay_box wr 3 (.int .i64 (i : Int))
            rw [h1]
            have b2 := Box.new w1 3 (.int .i64 0)
            rw [z1] at b2
            have l2 := (Below.refl _ w1).alloc (Nat.le_refl _) (.cells #[.int .i64 0] 3)
            exact ⟨(HP.out.next l1).next l2, b1.below l2 b1.lt, b2, HP.out.bp.lt⟩
          rw [hV8, hE]
          clear hV8 hE HP
          have g0 := H8.out.pp.pt.gm.c0; have g1 := H8.out.pp.pt.gm.c1; have g2 := H8.out.pp.pt.gm.c2; have g3 := H8.out.pp.pt.gm.c3; have g4 := H8.out.pp.pt.gm.c4; have g5 := H8.out.be.1
          go_wp2_with fail
          clear g0 g1 g2 g3 g4 g5
          refine (HRk.out i _).mono ?_
          rintro e V9 ⟨v, rfl, bV, gf, lb, T, rfl, heg, hseq, hT⟩
          have H9 : Hid (PtR w B A P E r s b o c N i k 0 ds V9) := H8.out.next bV
          have l8 : E + 1 < V8.heap.size := H8.out.bn.lt
          have lPE : P < E := H8.out.hE
          have lAP : A < P := H8.out.pp.hP
          have lz9 := bV.size
          have hds : ∀ D ∈ ds, D < V8.heap.size := H8.out.pp.pt.ds_lt
          have hT' : ∀ b, T b → b < V9.heap.size ∧ ¬ (b = P ∨ b = E + 1) := fun b hb => ⟨(hT b hb).2, by have := (hT b hb).1; omega⟩
          clear bV H8
          go_wp2
          refine (wpIn_wide (n := 10)).1 (rangeD rfl heg hseq (fun _ => rfl) (fun _ b => b = P ∨ b = E + 1) hT' (fun x W => PtR w B A P E r s b o c N i (k + U nc x) x ds W) (fun _ _ _ => False)
            ⟨fun x W h => h.m2, fun _ _ _ h => h.elim⟩ (fun x X Y h hs => h.stay hs (by omega) (fun D hD => by have := hds D hD; omega)) (fun _ _ _ _ h _ => h.elim) (show PtR w B A P E r s b o c N i (k + U nc 0) 0 ds V9 from H9.out) ?round2 ?done2 (fun _ _ _ _ _ _ h _ => h.elim))
          case round2 =>
            intro l2 x Wz hx hIz _
            have him : i < m := by
              by_cases h : i < m
              · exact h
              · rw [if_neg h] at hx; omega
            rw [if_pos him] at hx
            obtain ⟨f1, f2, f3, f4⟩ := HRt.out i x him hx
            obtain ⟨hL4, hUb⟩ := HUx.out (by omega)
            have hUx := hUb x (by omega)
            clear hUb
            have CP := HPg.out i x him hx
            obtain ⟨y, hy⟩ : ∃ y, F i x = y := ⟨_, rfl⟩
            rw [hy] at f1 f2 f3 f4 CP
            obtain ⟨Z, hZ⟩ : ∃ Z, Wz.heap.size = Z := ⟨_, rfl⟩
            have HIz : Hid (∀ W2, Stay V9.heap.size (Wz.alloc (.cells #[.int .i64 (y : Int)] 3)) W2 → PtR w B A P E r s b o c N i (k + U nc x) x ds W2 ∧ Box W2 Z (.int .i64 (y : Int)) ∧ E + 1 < Z) := fun W2 hs => by
              have b1 := (Below.refl _ Wz).alloc (Nat.le_refl _) (.cells #[.int .i64 (y : Int)] 3)
              refine ⟨(PtR.next hIz b1).stay hs (by omega) (fun D hD => by have := hds D hD; omega), ?_, ?_⟩
              · rw [← hZ]; exact (Box.new Wz _ _).stay hs
              · rw [← hZ]; exact PtR.bn hIz |>.lt
            have HOz : Hid (Ok (fun _ b => b = P ∨ b = E + 1) (Wz.alloc (.cells #[.int .i64 (y : Int)] 3))) := ok_fix fun b hb => by have := (PtR.bn hIz).lt; simp; omega
            clear hIz H9 hT' hseq heg hT
            simp only [hy]
            gi_wp2
            refine ⟨keep_alloc _ _, HOz.out, fun W2 hs2 hz2 hr2 => ?_⟩
            obtain ⟨h, bz, lZ⟩ := HIz.out W2 hs2
            clear hs2 hz2 HIz HOz hZ
            obtain ⟨g, hg⟩ : ∃ g, k + U nc x = g := ⟨_, rfl⟩
            rw [hg] at h
            have g0 := h.pp.pt.gm.c0; have g1 := h.pp.pt.gm.c1; have g2 := h.pp.pt.gm.c2; have g3 := h.pp.pt.gm.c3; have g4 := h.pp.pt.gm.c4
            have ce := h.be.1; have cn := h.bn.1; have fn := h.bn.2; have cz := bz.1
            obtain ⟨W3, hW3⟩ : ∃ W3, W3 = W2.setCell ⟨E + 1, 0, none⟩ (.int .i64 ((x : Int) + 1)) := ⟨_, rfl⟩
            have H3 : Hid (PtR w B A P E r s b o c N i g (x + 1) ds W3 ∧ Box W3 Z (.int .i64 (y : Int)) ∧ KeepD (fun _ b => b = P ∨ b = E + 1) W2 W3 ∧ ∃ q, W3.heap[l2]? = some (.loop q)) := by
              refine ⟨?_, ?_, ?_, ?_⟩
              · have := h.putN (x + 1)
                simp only [Int.natCast_add, Int.natCast_one] at this
                rw [hW3]; exact this
              · rw [hW3]; exact bz.of (Below.heap_setCell W2 _ _ _ (fun e => by simp at e; omega))
              · rw [hW3]; exact keep_set (M := fun b => b = P ∨ b = E + 1) (KeepD.refl _ _) (.inr rfl) _
              · rw [hW3]; exact loop_kept hr2 h.bn
            clear hr2 h bz
            by_cases h64 : y % 64 = 0
            · have hU := f3 h64
              have hand : bits .and .i64 (y : Int) 63 = 0 := by rw [and63 y (by omega), h64]; rfl
              have HC : Hid (∀ w, Calls Try.prog 19 #[.agg #[.int .i64 r, .int .i64 s, .int .i64 b, .int .i64 o, .int .i64 c], .int .i64 ((y : Int) / 64)] w fun e w' => ∃ v, e = .returned v ∧ Below w.heap.size w w' ∧ Tells w.heap.size v w' (fun j => #[.int .i64 ((y / 64 * 64 + j : Nat) : Int)]) nc) := fun w => by
                have := CP h64 w
                rw [show ((y / 64 : Nat) : Int) = (y : Int) / 64 from by omega] at this
                exact this
              clear CP f3 f4 hds hN hL0 hUL h64
              gi_wp2_with (first | (refine ⟨trivial, ?_⟩; gi_at_call 19; refine (callsIn_wide.2 (HC.out _)).mono ?_; rintro e V10 ⟨v, rfl, bV, gf, lb, T, rfl, heg, hseq, hT⟩))
              clear g0 g1 g2 g3 g4 ce cn fn cz hand HC
              rw [← hW3] at bV hT
              have H10 : Hid (PtY w B A P E Z r s b o c N i g (x + 1) y ds W2 0 V10) := ⟨H3.out.1.next bV, H3.out.2.1.below bV H3.out.2.1.lt, lZ, keep_stay7 H3.out.1.m2 H3.out.2.2.1 (stay_below bV) H3.out.2.2.1.1⟩
              have hr10 : ∃ q, V10.heap[l2]? = some (.loop q) := loop_next H3.out.2.2.2 bV
              have l3 : E + 1 < W3.heap.size := H3.out.1.bn.lt
              have lz10 := bV.size
              have hW2s : W2.heap.size ≤ W3.heap.size := H3.out.2.2.1.1
              have hds3 : ∀ D ∈ ds, D < W3.heap.size := H3.out.1.pp.pt.ds_lt
              have hT' : ∀ b, T b → b < V10.heap.size ∧ ¬ (b = P) := fun b hb => ⟨(hT b hb).2, by have := (hT b hb).1; omega⟩
              clear bV H3 hW3
              refine rangeN hr10 rfl heg hseq (fun _ => rfl) (fun _ b => b = P) hT' (PtY w B A P E Z r s b o c N i g (x + 1) y ds W2) (fun _ _ _ => False)
                ⟨fun q W h => h.pr.m1, fun _ _ _ h => h.elim⟩
                (fun q X Y h hs => ⟨h.pr.stay hs (by omega) (fun D hD => by have := hds3 D hD; omega), h.bz.stay hs, h.hZ, keep_stay7 h.pr.m2 h.kp hs (by omega)⟩)
                (fun _ _ _ _ h _ => h.elim) H10.out ?round3 ?done3 (fun _ _ _ _ h => h.elim)
              case round3 =>
                intro l3 j Wq hj hIq _
                have HIq : Hid (∀ W4, Stay V10.heap.size Wq W4 → PtY w B A P E Z r s b o c N i g (x + 1) y ds W2 j W4) := fun W4 hs => ⟨hIq.pr.stay hs (by omega) (fun D hD => by have := hds3 D hD; omega), hIq.bz.stay hs, hIq.hZ, keep_stay7 hIq.pr.m2 hIq.kp hs (by omega)⟩
                have HOq : Hid (Ok (fun _ b => b = P) Wq) := hIq.pr.m1
                clear hIq H10 hT' hseq heg hT hr10
                obtain ⟨q, hq⟩ : ∃ q, y / 64 * 64 + j = q := ⟨_, rfl⟩
                have hqd : (q : Int) / 64 = (y : Int) / 64 := by omega
                have hqb : q < 16777216 := by omega
                simp only [hq]
                clear hq
                gi_wp2
                refine ⟨KeepD.refl _ _, HOq.out, fun W4 hs4 hz4 hr4 => ?_⟩
                have h := HIq.out W4 hs4
                clear hs4 hz4 hr4 HIq HOq
                obtain ⟨G, hG⟩ : ∃ G, g + j = G := ⟨_, rfl⟩
                have hp := h.pr
                rw [hG] at hp
                have hGb : G ≤ 300000 := by omega
                have cp := hp.pp.bp.1; have fp := hp.pp.bp.2; have cz := h.bz.1
                have HG : Hid (KeepD (fun _ b => b = P) W4 (W4.setCell ⟨P, 0, none⟩ (.int .i64 ((G : Int) + 1))) ∧ PtY w B A P E Z r s b o c N i g (x + 1) y ds W2 (j + 1) (W4.setCell ⟨P, 0, none⟩ (.int .i64 ((G : Int) + 1)))) := by
                  refine ⟨keep_set (M := fun b => b = P) (KeepD.refl _ _) rfl _, ?_, h.bz.of (Below.heap_setCell W4 _ _ _ (fun e => by simp at e; omega)), h.hZ, keep_set (M := fun b => b = P ∨ b = E + 1) h.kp (.inl rfl) _⟩
                  have := hp.putP (G + 1)
                  simp only [Int.natCast_add, Int.natCast_one] at this
                  rw [show g + (j + 1) = G + 1 by omega]
                  exact this
                clear h hp hG hg hU hUx
                gi_wp2
                exact HG.out
              case done3 =>
                rintro W5 hI
                have HG : Hid (KeepD (fun _ b => b = P ∨ b = E + 1) W2 W5 ∧ PtR w B A P E r s b o c N i (k + U nc (x + 1)) (x + 1) ds W5) := ⟨hI.kp, by rw [hU, ← Nat.add_assoc, hg]; exact hI.pr⟩
                clear hI H10 hT' hseq heg hT hr10
                gi_wp2
                exact HG.out
            · have hU := f4 h64
              obtain ⟨q, hq⟩ : ∃ q, y % 64 = q := ⟨_, rfl⟩
              have hand : bits .and .i64 (y : Int) 63 = (q : Int) := by rw [and63 y (by omega), hq]
              have hq0 : ((q : Int) == 0) = false := by simp; omega
              have HG : Hid (KeepD (fun _ b => b = P ∨ b = E + 1) W2 W3 ∧ PtR w B A P E r s b o c N i (k + U nc (x + 1)) (x + 1) ds W3) := ⟨H3.out.2.2.1, by rw [hU, hg]; exact H3.out.1⟩
              rw [hW3] at HG
              clear CP f3 f4 hnc hds hN hL0 hUL hq h64 H3 hW3
              gi_wp2
              exact HG.out
          case done2 =>
            rintro D2 W10 hD hI hK
            obtain ⟨n, hn⟩ : ∃ n, (if i < m then L else 0) = n := ⟨_, rfl⟩
            have hI' : PtR w B A P E r s b o c N i (k + U nc n) n ds W10 := by rw [← hn]; exact hI
            have hUn : U nc n = n := by
              rw [← hn]
              split
              · exact hUL (by omega)
              · rfl
            rw [hUn] at hI'
            have Hk' : Hid (k + n = min (i + 1) m * L) := by
              have := cum_step i m L
              rw [hn, ← Hk.out] at this
              exact this.symm
            have hkn : k + n ≤ 4096 := by
              rw [Hk'.out]
              exact Nat.le_trans (Nat.mul_le_mul_right _ (Nat.min_le_right _ _)) (by omega)
            have H10 : Hid (PtP w B A P r s b o c N (k + n) (D2 :: ds) W10 ∧ Box W10 (E + 1) (.int .i64 (n : Int))) := ⟨⟨hI'.pp.pt.mark (by omega) (fun E' h => by have := hds E' h; omega) hK.1, hI'.pp.bp, hI'.pp.hP⟩, hI'.bn⟩
            clear hI hI' hK H9 hT' hseq heg hT hUn hds
            by_cases him : i < m
            · rw [if_pos him] at hn
              subst hn
              have hL1 := hL0 (by omega)
              have HC : Hid (∀ w, Calls Try.prog 22 #[.agg #[.int .i64 r, .int .i64 s, .int .i64 b, .int .i64 o, .int .i64 c]] w fun e w' => e = .returned (.int .i64 (L : Int)) ∧ Below w.heap.size w w') := HPr.out (by omega)
              have hb1 : ((L : Int) != 0) = true := by simp; omega
              clear hN hL0 hUL
              go_wp2
              refine region_calm (by kernel_rfl) (by kernel_rfl) (fun W => Below W10.heap.size W10 W) (below_drew1 W10) ?_
              intro U9 hU9 fw hf hof
              have HN9 : Hid (∀ x W, Below (fw x).heap.size (fw x) W → ∃ y, W = fw y) := fun x W h => hof W ((hf x).trans (h.mono (hf x).size))
              have HF9 : Hid (∀ x, PtP w B A P r s b o c N (k + L) (D2 :: ds) (fw x) ∧ Box (fw x) (E + 1) (.int .i64 (L : Int))) := fun x => ⟨H10.out.1.next (hf x), H10.out.2.below (hf x) H10.out.2.lt⟩
              have x0 : ∀ x, (fw x).cell? ⟨B, 0, none⟩ = some (.int .i64 r) := fun x => (HF9.out x).1.pt.gm.c0
              have x1 : ∀ x, (fw x).cell? ⟨B, 1, none⟩ = some (.int .i64 s) := fun x => (HF9.out x).1.pt.gm.c1
              have x2 : ∀ x, (fw x).cell? ⟨B, 2, none⟩ = some (.int .i64 b) := fun x => (HF9.out x).1.pt.gm.c2
              have x3 : ∀ x, (fw x).cell? ⟨B, 3, none⟩ = some (.int .i64 o) := fun x => (HF9.out x).1.pt.gm.c3
              have x4 : ∀ x, (fw x).cell? ⟨B, 4, none⟩ = some (.int .i64 c) := fun x => (HF9.out x).1.pt.gm.c4
              have x5 : ∀ x, (fw x).cell? ⟨E + 1, 0, none⟩ = some (.int .i64 (L : Int)) := fun x => (HF9.out x).2.1
              clear hf hof
              repeat (go_big_quiet_step ((go_at_call 22; exact calm_next HN9.out (HC.out _))))
              refine wpQuiet_nil ?_
              rintro _ ⟨x9, rfl⟩
              clear x0 x1 x2 x3 x4
              have x6 := x5 x9
              clear x5
              go_wp2
              refine ⟨⟨i + 1, k + L, D2 :: ds, ⟨_, _, _, _, _, _, _, _, _, _, _, _, _, _, _, _, _, _, _, _, _, _, _, _, _, _, _, _, _, _, _, _, _, _, _, _, _, _, _, _, _, _, _, _, _, _, _, _, _, _, _, _, _, _, _, _, _, _, _, _, _, _, _, _, _, _, _, _, _, _, _, _, _, _, _, _, _⟩, rfl, by omega, Hk', (HF9.out x9).1⟩, ?_⟩
              simp [intOf]
              omega
            · rw [if_neg him] at hn
              subst hn
              clear hN hL0 hUL
              go_wp2
              refine region_calm (by kernel_rfl) (by kernel_rfl) (fun W => Below W10.heap.size W10 W) (below_drew1 W10) ?_
              intro U9 hU9 fw hf hof
              have HN9 : Hid (∀ x W, Below (fw x).heap.size (fw x) W → ∃ y, W = fw y) := fun x W h => hof W ((hf x).trans (h.mono (hf x).size))
              have HF9 : Hid (∀ x, PtP w B A P r s b o c N (k + 0) (D2 :: ds) (fw x) ∧ Box (fw x) (E + 1) (.int .i64 0)) := fun x => ⟨H10.out.1.next (hf x), H10.out.2.below (hf x) H10.out.2.lt⟩
              have x0 : ∀ x, (fw x).cell? ⟨B, 0, none⟩ = some (.int .i64 r) := fun x => (HF9.out x).1.pt.gm.c0
              have x1 : ∀ x, (fw x).cell? ⟨B, 1, none⟩ = some (.int .i64 s) := fun x => (HF9.out x).1.pt.gm.c1
              have x2 : ∀ x, (fw x).cell? ⟨B, 2, none⟩ = some (.int .i64 b) := fun x => (HF9.out x).1.pt.gm.c2
              have x3 : ∀ x, (fw x).cell? ⟨B, 3, none⟩ = some (.int .i64 o) := fun x => (HF9.out x).1.pt.gm.c3
              have x4 : ∀ x, (fw x).cell? ⟨B, 4, none⟩ = some (.int .i64 c) := fun x => (HF9.out x).1.pt.gm.c4
              have x5 : ∀ x, (fw x).cell? ⟨E + 1, 0, none⟩ = some (.int .i64 0) := fun x => (HF9.out x).2.1
              clear hf hof
              repeat (go_big_quiet_step (fail))
              refine wpQuiet_nil ?_
              rintro _ ⟨x9, rfl⟩
              clear x0 x1 x2 x3 x4
              have x6 := x5 x9
              clear x5
              go_wp2
              refine ⟨⟨i + 1, k + 0, D2 :: ds, ⟨_, _, _, _, _, _, _, _, _, _, _, _, _, _, _, _, _, _, _, _, _, _, _, _, _, _, _, _, _, _, _, _, _, _, _, _, _, _, _, _, _, _, _, _, _, _, _, _, _, _, _, _, _, _, _, _, _, _, _, _, _, _, _, _, _, _, _, _, _, _, _, _, _, _, _, _, _⟩, rfl, by omega, Hk', (HF9.out x9).1⟩, ?_⟩
              simp [intOf]
              omega
        · obtain rfl : i = 8 := by omega
          have hkN' : k = N := by rw [Hk.out, ← hN, Nat.min_eq_right hm8]
          clear hkN Hk hN
          subst hkN'
          have ca := hP.pt.ba.1; have cp := hP.bp.1; have ft := hP.pt.bt.2; have ct := hP.pt.bt.1
          have hPA := hP.hP
          have HF : Hid _ := hP.pt.fin
          clear hP
          go_wp2
          exact ends7 hB (T := B + 1) (fun W1 h1 => by simp [results, Try.f7, asAddr, go_sem, h1]) ds _ HF.out.1 HF.out.2.1 HF.out.2.2.1 HF.out.2.2.2

theorem geomParts_walk (a0 : Nat → Int) (w0 : ∀ i, i < 5 → (Lit.int .i64 (a0 i)).wf = true) (w : World) :
    Calls Try.prog 7 #[.agg (ints .i64 5 a0).toArray] w fun e w' => e = .returned (.bool true) ∧ Below w.heap.size w w' := by
  have hi : ∀ i, i < 5 → I64 (a0 i) := fun i hi => by have := bounds_i64 (w0 i hi); exact ⟨this.1, by omega⟩
  exact geomParts_core (a0 0) (a0 1) (a0 2) (a0 3) (a0 4) (hi 0 (by omega)) (hi 2 (by omega)) (hi 3 (by omega)) (hi 4 (by omega)) w
end Go.Proofs.Ytjinbhggimbcbaa
