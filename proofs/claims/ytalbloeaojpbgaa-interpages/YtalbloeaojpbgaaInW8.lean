/-
  The document's own list of where all pages are laid: a loop, and a slice that grows.
-/
import Derived.Test.YtalbloeaojpbgaaInW7
import Derived.Test.YtalbloeaojpbgaaOw
namespace Go.Proofs.Ytalbloeaojpbgaa
open Go.RowKit
open Ge (pw rt hd ix)
open In (mx plR plQ plU plB pgn bk bkn okp)
attribute [local go_sem] Oper.semAt_some

/-- the place behind one, in each way; no bank is mixed -/
theorem next8_any (r s b o c way i : Int) (h : rw8 r s b o c way = true) (hi : 0 ≤ i ∧ i < r * b * o) (w : World) :
    Calls Try.prog 25 #[.agg #[.int .i64 r, .int .i64 s, .int .i64 b, .int .i64 o, .int .i64 c], .int .i64 way, .agg #[.int .i64 (plR way r b o i), .int .i64 (plQ way r b o i), .int .i64 (plU way r b o i), .int .i64 0]] w fun e w' => e = .returned (.agg #[.int .i64 (plR way r b o (i + 1)), .int .i64 (plQ way r b o (i + 1)), .int .i64 (plU way r b o (i + 1)), .int .i64 0]) ∧ Below w.heap.size w w' := by
  obtain ⟨h1, hw, hw2⟩ := rw8_all h
  obtain ⟨a1, a2, a3, a4⟩ := rt_pows h1
  have b1 := Ge.pw_pos a1; have b2 := Ge.pw_pos a2; have b3 := Ge.pw_pos a3
  obtain ⟨hp, hq, hu⟩ := In.plQ_in (way := way) b1.1 b2.1 b3.1 hi.1 hi.2
  by_cases w0 : way = 0
  · subst w0
    simp only [plR, plQ, plU, if_pos] at hp hq hu ⊢
    rcases In.dg_succ b3.1 b2.1 hi.1 with ⟨e0, e1, e2, e3, e4⟩ | ⟨e0, e1, e2, e3, e4⟩ | ⟨e0, e1, e2, e3, e4⟩
    · rw [e2, e3, e4]
      exact next_0A r s b o c _ _ _ 0 (by omega) (by omega) (by omega) (beq_eq_false_iff_ne.2 e0) (beq_eq_false_iff_ne.2 e1) w
    · rw [e2, e3, e4]
      exact next_0B r s b o c _ _ _ 0 (by omega) (by omega) (by omega) (beq_iff_eq.2 e0) (beq_eq_false_iff_ne.2 e1) w
    · rw [e2, e3, e4]
      exact next_0C r s b o c _ _ _ 0 (by omega) (by omega) (by omega) (beq_iff_eq.2 e0) (beq_iff_eq.2 e1) w
  by_cases w1 : way = 1
  · subst w1
    simp only [plR, plQ, plU, if_pos, if_neg (show ¬ (1 : Int) = 0 by omega)] at hp hq hu ⊢
    rcases In.dg_succ b2.1 b3.1 hi.1 with ⟨e0, e1, e2, e3, e4⟩ | ⟨e0, e1, e2, e3, e4⟩ | ⟨e0, e1, e2, e3, e4⟩
    · rw [e2, e3, e4]
      exact next_1A r s b o c _ _ _ 0 (by omega) (by omega) (by omega) (beq_eq_false_iff_ne.2 e0) (beq_eq_false_iff_ne.2 e1) w
    · rw [e2, e3, e4]
      exact next_1B r s b o c _ _ _ 0 (by omega) (by omega) (by omega) (beq_iff_eq.2 e0) (beq_eq_false_iff_ne.2 e1) w
    · rw [e2, e3, e4]
      exact next_1C r s b o c _ _ _ 0 (by omega) (by omega) (by omega) (beq_iff_eq.2 e0) (beq_iff_eq.2 e1) w
  · simp only [plR, plQ, plU, if_neg w0, if_neg w1] at hp hq hu ⊢
    rcases In.dg_succ b1.1 b2.1 hi.1 with ⟨e0, e1, e2, e3, e4⟩ | ⟨e0, e1, e2, e3, e4⟩ | ⟨e0, e1, e2, e3, e4⟩
    · rw [e2, e3, e4]
      exact next_2A r s b o c way _ _ _ 0 (by omega) (by omega) (by omega) (by omega) (beq_eq_false_iff_ne.2 e0) (beq_eq_false_iff_ne.2 e1) w
    · rw [e2, e3, e4]
      exact next_2B r s b o c way _ _ _ 0 (by omega) (by omega) (by omega) (by omega) (beq_iff_eq.2 e0) (beq_eq_false_iff_ne.2 e1) w
    · rw [e2, e3, e4]
      exact next_2C r s b o c way _ _ _ 0 (by omega) (by omega) (by omega) (by omega) (beq_iff_eq.2 e0) (beq_iff_eq.2 e1) w

/-- between two rounds: x pages are listed, the place of the page x is at hand -/
structure LyS (w : World) (B : Nat) (r s b o c : Int) (F : Nat → Nat) (x : Nat) (v : Value) (P Q T : Int) (W : World) : Prop where
  own : Ow W (B + 1 + 1) v x F
  gm : Gm W B r s b o c
  pl : Pl W (B + 1) P Q T 0
  below : Below B w W
section
variable {w W W' : World} {B : Nat} {r s b o c : Int} {F : Nat → Nat} {x : Nat} {v : Value} {P Q T : Int}
theorem LyS.next (h : LyS w B r s b o c F x v P Q T W) (k : Below W.heap.size W W') : LyS w B r s b o c F x v P Q T W' :=
  ⟨h.own.next k, h.gm.next k, h.pl.next k, h.below.trans (k.mono (Nat.le_of_lt h.gm.lt))⟩
theorem LyS.set (h : LyS w B r s b o c F x v P Q T W) {D : Nat} (hD : B + 1 < D) (hv : ∀ g, v.ownBlock = some g → g ≠ D) (i : Nat) (y : Value) : LyS w B r s b o c F x v P Q T (W.setCell ⟨D, i, none⟩ y) :=
  ⟨h.own.of fun g hg => Below.heap_setCell W ⟨D, i, none⟩ y g (hv g hg), Bk.other h.gm (by omega) i y, Bk.other h.pl (by omega) i y, h.below.setCell (p := ⟨D, i, none⟩) (by show B ≤ D; omega) y⟩
theorem LyS.grow {W3 : World} {v' : Value} (h : LyS w B r s b o c F x v P Q T W) (ob : Obj) (own : W3.ownsRow (B + 1 + 1) 3 1 v' (x + 1) (lst F x ++ [.int .i64 (F x : Int)])) (gr : (W.alloc ob).grownBy W3 v.ownBlock) : LyS w B r s b o c F (x + 1) v' P Q T W3 := by
  have hlt := h.pl.lt
  have hne : ∀ g, v.ownBlock = some g → B + 1 + 1 ≤ g := fun g hg => (h.own.lt g hg).1
  refine ⟨by rw [lst_snoc] at own; exact own, Bk.of (h.gm.alloc ob) (gr.block B (by simp; omega) fun e => by have := hne B e.symm; omega), Bk.of (h.pl.alloc ob) (gr.block (B + 1) (by simp; omega) fun e => by have := hne (B + 1) e.symm; omega), ?_⟩
  exact below_grown7 (h.below.alloc (by omega) ob) gr (fun g hg => by have := hne g hg; omega) (by simp; omega)
theorem LyS.put (h : LyS w B r s b o c F x v P Q T W) (P' Q' T' : Int) : LyS w B r s b o c F x v P' Q' T' ((((W.setCell ⟨B + 1, 0, none⟩ (.int .i64 P')).setCell ⟨B + 1, 1, none⟩ (.int .i64 Q')).setCell ⟨B + 1, 2, none⟩ (.int .i64 T')).setCell ⟨B + 1, 3, none⟩ (.int .i64 0)) := by
  have hne : ∀ g, v.ownBlock = some g → g ≠ B + 1 := fun g hg => by have := (h.own.lt g hg).1; omega
  refine ⟨h.own.of fun g hg => ?_, ?_, h.pl.sets' P' Q' T' 0, below_sets' (by omega) h.below⟩
  · rw [Below.heap_setCell _ ⟨B + 1, 3, none⟩ _ g (hne g hg), Below.heap_setCell _ ⟨B + 1, 2, none⟩ _ g (hne g hg), Below.heap_setCell _ ⟨B + 1, 1, none⟩ _ g (hne g hg), Below.heap_setCell _ ⟨B + 1, 0, none⟩ _ g (hne g hg)]
  · exact (((Bk.other h.gm (by omega) 0 _).other (by omega) 1 _).other (by omega) 2 _).other (by omega) 3 _
end
set_option maxRecDepth 100000 in
set_option maxHeartbeats 4000000 in
theorem layout_any (r s b o c way : Int) (h : rw8 r s b o c way = true) (w : World) :
    Calls Try.prog 13 #[.agg #[.int .i64 r, .int .i64 s, .int .i64 b, .int .i64 o, .int .i64 c], .int .i64 way] w fun e w' => ∃ v, e = .returned v ∧ Ow w' w.heap.size v (r * b * o).toNat (fun x => (pgn way r b o x).toNat) ∧ Below w.heap.size w w' := by
  obtain ⟨h1, hw, hw2⟩ := rw8_all h
  obtain ⟨a1, a2, a3, a4⟩ := rt_pows h1
  have b1 := Ge.pw_pos a1; have b2 := Ge.pw_pos a2; have b3 := Ge.pw_pos a3
  obtain ⟨n0, n1, _, _⟩ := rt_lines h1
  obtain ⟨_, _, ⟨p1, p2⟩, _⟩ := rt_prods h1
  obtain ⟨F, HF⟩ : ∃ F : Nat → Nat, Hid ((fun x : Nat => (pgn way r b o x).toNat) = F) := ⟨_, rfl⟩
  rw [HF.out]
  obtain ⟨N, HN⟩ : ∃ N, Hid ((r * b * o).toNat = N) := ⟨_, rfl⟩
  rw [HN.out]
  have hNe : r * b * o = (N : Int) := by have := HN.out; omega
  have hN4 : N ≤ 4096 := by omega
  obtain ⟨B, HB⟩ : ∃ B, Hid (w.heap.size = B) := ⟨_, rfl⟩
  rw [HB.out]
  have Hh : Hid (rw8 r s b o c way = true) := h
  have HNX : Hid (∀ (x : Nat) (w : World), x < N → Calls Try.prog 25 #[.agg #[.int .i64 r, .int .i64 s, .int .i64 b, .int .i64 o, .int .i64 c], .int .i64 way, .agg #[.int .i64 (plR way r b o x), .int .i64 (plQ way r b o x), .int .i64 (plU way r b o x), .int .i64 0]] w fun e w' => e = .returned (.agg #[.int .i64 (plR way r b o ((x + 1 : Nat) : Int)), .int .i64 (plQ way r b o ((x + 1 : Nat) : Int)), .int .i64 (plU way r b o ((x + 1 : Nat) : Int)), .int .i64 0]) ∧ Below w.heap.size w w') := fun x w hx => by
    have := next8_any r s b o c way (x : Int) h ⟨by omega, by omega⟩ w
    exact this
  have HIX : Hid (∀ (x : Nat) (w : World), x < N → Calls Try.prog 24 #[.agg #[.int .i64 (plR way r b o x), .int .i64 (plB way r b o x), .int .i64 (plU way r b o x), .int .i64 0]] w fun e w' => e = .returned (.int .i64 ((F x : Int) * 64)) ∧ Below w.heap.size w w') := fun x w hx => by
    have q1 := In.plQ_in (way := way) (p := (x : Int)) b1.1 b2.1 b3.1 (by omega) (by omega)
    have q2 := In.plB_in (way := way) (p := (x : Int)) a2 b1.1 b3.1 (by omega) (by omega)
    have := refIndex_any (plR way r b o x) (plB way r b o x) (plU way r b o x) 0 (by omega) (by omega) (by omega) (by omega) w
    rw [show ix (plR way r b o x) (plB way r b o x) (plU way r b o x) 0 = (F x : Int) * 64 from by
      rw [← HF.out]
      show _ = ((pgn way r b o x).toNat : Int) * 64
      have : 0 ≤ pgn way r b o x := by unfold pgn; omega
      rw [Int.toNat_of_nonneg this]
      unfold pgn ix
      omega] at this
    exact this
  have HFB : Hid (∀ x : Nat, x < N → F x < 131072) := fun x hx => by
    have q1 := In.plQ_in (way := way) (p := (x : Int)) b1.1 b2.1 b3.1 (by omega) (by omega)
    have q2 := In.plB_in (way := way) (p := (x : Int)) a2 b1.1 b3.1 (by omega) (by omega)
    rw [← HF.out]
    show (pgn way r b o x).toNat < 131072
    unfold pgn
    omega
  have HXR : Hid (∀ (x : Nat) (w : World), x < N → Calls Try.prog 23 #[.int .i64 (plQ way r b o x), .int .i64 (plU way r b o x), .int .i64 b] w fun e w' => e = .returned (.int .i64 (mx b (plQ way r b o x) (plU way r b o x))) ∧ Below w.heap.size w w') := fun x w hx => by
    have q1 := In.plQ_in (way := way) (p := (x : Int)) b1.1 b2.1 b3.1 (by omega) (by omega)
    exact refXor_any _ _ _ a2 q1.2.1 (by omega) w
  have H0 : Hid (plR way r b o ((0 : Nat) : Int) = 0 ∧ plQ way r b o ((0 : Nat) : Int) = 0 ∧ plU way r b o ((0 : Nat) : Int) = 0) := by
    show _ ∧ _
    unfold plR plQ plU
    simp
  clear h h1 a1 a2 a3 a4 hw hw2 HN HF
  obtain ⟨i3, hi3, hz0, hz1, hz2⟩ := info_three i64_info
  have HL : Hid (LyS w B r s b o c F 0 (.slice none 0 0) (plR way r b o ((0 : Nat) : Int)) (plQ way r b o ((0 : Nat) : Int)) (plU way r b o ((0 : Nat) : Int)) ((w.alloc (.cells #[.int .i64 r, .int .i64 s, .int .i64 b, .int .i64 o, .int .i64 c] 25)).alloc (.cells #[.int .i64 0, .int .i64 0, .int .i64 0, .int .i64 0] 46))) := by
    have := PlS.start w r s b o c 25 46
    rw [H0.out.1, H0.out.2.1, H0.out.2.2]
    rw [HB.out] at this
    exact ⟨Ow.nil _ _ _, this.one, this.two, this.below⟩
  go_enter Try.func13, Try.ntmps13
  go_wp2
  rw [HB.out]
  go_loopw [5, 8] (fun v i wr => ∃ x : Nat, x ≤ N ∧ i = .int .i64 (x : Int) ∧ Hid (LyS w B r s b o c F x v (plR way r b o (x : Int)) (plQ way r b o (x : Int)) (plU way r b o (x : Int)) wr)) (fun _ i _ => (N - (intOf i).toNat))
  case atStart => exact ⟨0, by omega, rfl, HL⟩
  case round =>
    clear HL H0
    obtain ⟨x, hx, rfl, H1⟩ := hrel
    by_cases hlt : x < N
    · have HI : Hid _ := fun w => HIX.out x w hlt
      have HT : Hid _ := fun w => HNX.out x w hlt
      have HR : Hid _ := fun w => HXR.out x w hlt
      have hF := HFB.out x hlt
      have hE : Hid (plB way r b o (x : Int) = if way = 3 then mx b (plQ way r b o (x : Int)) (plU way r b o (x : Int)) else plQ way r b o (x : Int)) := rfl
      obtain ⟨P, HP⟩ : ∃ P, Hid (plR way r b o (x : Int) = P) := ⟨_, rfl⟩
      obtain ⟨Q, HQ⟩ : ∃ P, Hid (plQ way r b o (x : Int) = P) := ⟨_, rfl⟩
      obtain ⟨T, HU⟩ : ∃ P, Hid (plU way r b o (x : Int) = P) := ⟨_, rfl⟩
      obtain ⟨M, HM⟩ : ∃ P, Hid (plB way r b o (x : Int) = P) := ⟨_, rfl⟩
      obtain ⟨P', HP'⟩ : ∃ P, Hid (plR way r b o ((x + 1 : Nat) : Int) = P) := ⟨_, rfl⟩
      obtain ⟨Q', HQ'⟩ : ∃ P, Hid (plQ way r b o ((x + 1 : Nat) : Int) = P) := ⟨_, rfl⟩
      obtain ⟨T', HT'⟩ : ∃ P, Hid (plU way r b o ((x + 1 : Nat) : Int) = P) := ⟨_, rfl⟩
      rw [HP.out, HM.out, HU.out] at HI
      rw [HP.out, HQ.out, HU.out, HP'.out, HQ'.out, HT'.out] at HT
      rw [HQ.out, HU.out] at HR
      rw [HM.out, HQ.out, HU.out] at hE
      rw [HP.out, HQ.out, HU.out] at H1
      clear HIX HNX HXR HFB HP HQ HU HM
      obtain ⟨D, hD⟩ : ∃ D, wr.heap.size = D := ⟨_, rfl⟩
      have hBD : B + 1 < D := by rw [← hD]; exact H1.out.pl.lt
      have hOD : Hid (∀ g, Value.ownBlock u5 = some g → g ≠ D) := fun g hg => by have := (H1.out.own.lt g hg).2; omega
      have HD : Hid (Pl (wr.alloc (.cells #[.int .i64 P, .int .i64 Q, .int .i64 T, .int .i64 0] 46)) D P Q T 0) := by rw [← hD]; exact Pl.new wr P Q T 0 _
      have H2 : Hid (LyS w B r s b o c F x u5 P Q T (wr.alloc (.cells #[.int .i64 P, .int .i64 Q, .int .i64 T, .int .i64 0] 46))) := H1.out.next ((Below.refl _ wr).alloc (Nat.le_refl _) _)
      have hDl : B + 1 < wr.heap.size := H1.out.pl.lt
      have j0 := H1.out.pl.c0; have j1 := H1.out.pl.c1; have j2 := H1.out.pl.c2; have j3 := H1.out.pl.c3
      by_cases hw3 : way = 3
      · rw [if_pos hw3] at hE
        have hw3' : (way == 3) = true := beq_iff_eq.2 hw3
        clear hw3
        go_upto_region 8 with (fail)
        obtain ⟨V, hV⟩ : ∃ V, wr.alloc (.cells #[.int .i64 P, .int .i64 Q, .int .i64 T, .int .i64 0] 46) = V := ⟨_, rfl⟩
        rw [hV] at HD H2 ⊢
        clear hV hD H1 j0 j1 j2 j3 hDl
        have g2 := H2.out.gm.c2
        have j1 := H2.out.pl.c1; have j2 := H2.out.pl.c2
        go_wp2_with fail
        refine (HR.out _).mono ?_
        rintro e V2 ⟨rfl, b2⟩
        replace H2 : Hid (LyS w B r s b o c F x u5 P Q T V2) := H2.out.next b2
        replace HD : Hid (Pl V2 D P Q T 0) := HD.out.next b2
        clear b2 g2 j1 j2
        have d1 := HD.out.c1
        have f1 := Bk.free HD.out 1
        rw [← hE.out]
        go_upto_region 10 with (fail)
        obtain ⟨V3, hV3⟩ : ∃ V, V2.setCell ⟨D, 1, none⟩ (.int .i64 M) = V := ⟨_, rfl⟩
        have H1 : Hid (LyS w B r s b o c F x u5 P Q T V3) := by rw [← hV3]; exact H2.out.set hBD hOD.out 1 _
        replace HD : Hid (Pl V3 D P M T 0) := by
          rw [← hV3]
          refine Bk.congr (Bk.set HD.out 1 M) fun i hi => ?_
          match i, hi with
          | 0, _ => rfl
          | 1, _ => rfl
          | 2, _ => rfl
          | 3, _ => rfl
        rw [hV3]
        clear hV3 d1 f1 H2
        have g0 := H1.out.gm.c0; have g1 := H1.out.gm.c1; have g2 := H1.out.gm.c2; have g3 := H1.out.gm.c3; have g4 := H1.out.gm.c4
        have d0 := HD.out.c0; have d1 := HD.out.c1; have d2 := HD.out.c2; have d3 := HD.out.c3
        clear g0 g1 g2 g3 g4
        go_wp2_with fail
        refine (HI.out _).mono ?_
        rintro e W2 ⟨rfl, b2⟩
        replace H1 : Hid (LyS w B r s b o c F x u5 P Q T W2) := H1.out.next b2
        have HO : Hid (∀ ob, (W2.alloc ob).ownsRow (B + 1 + 1) 3 1 u5 x (lst F x)) := fun ob => H1.out.own.alloc ob
        have hBW : B + 1 < W2.heap.size := H1.out.pl.lt
        clear d0 d1 d2 d3 HD b2
        go_wp2_with (at_builtin; refine wpList_append_own _ rfl _ _ 31 rfl (B + 1 + 1) 3 i3 (.int .i64 0) 1 8 Try.underlying31 hi3 hz0 hz1 hz2 rfl (by decide) u5 x (lst F x) rfl (HO.out _) ⟨W2.heap.size, 0, none⟩ 1 1 [.int .i64 (F x : Int)] rfl rfl (one_new7 W2 _ _) (one_one7 _) (by unfold maxLen; omega) (by omega) (by simp; omega) ?_; intro v3 W3 own3 gr3 _; have H3 : Hid (LyS w B r s b o c F (x + 1) v3 P Q T W3) := H1.out.grow _ own3 gr3; clear own3 gr3; have g0 := H3.out.gm.c0; have g1 := H3.out.gm.c1; have g2 := H3.out.gm.c2; have g3 := H3.out.gm.c3; have g4 := H3.out.gm.c4; have y0 := H3.out.pl.c0; have y1 := H3.out.pl.c1; have y2 := H3.out.pl.c2; have y3 := H3.out.pl.c3)
        refine (HT.out _).mono ?_
        rintro e W4 ⟨rfl, b4⟩
        replace H3 : Hid (LyS w B r s b o c F (x + 1) v3 P Q T W4) := H3.out.next b4
        clear b4 g0 g1 g2 g3 g4 y0 y1 y2 y3
        have y0 := H3.out.pl.c0; have y1 := H3.out.pl.c1; have y2 := H3.out.pl.c2; have y3 := H3.out.pl.c3
        have f0 := Bk.free H3.out.pl 0; have f1 := Bk.free H3.out.pl 1; have f2 := Bk.free H3.out.pl 2; have f3 := Bk.free H3.out.pl 3
        have H5 := H3.out.put P' Q' T'
        rw [← HP'.out, ← HQ'.out, ← HT'.out] at H5
        replace H5 : Hid _ := H5
        go_wp2
        go_roundw
        case rel => exact ⟨x + 1, by omega, by go_num, by rw [HP'.out, HQ'.out, HT'.out] at H5 ⊢; exact H5⟩
        case measure => simp [intOf]; omega
      · rw [if_neg hw3] at hE
        have hw3' : (way == 3) = false := beq_eq_false_iff_ne.2 hw3
        go_upto_region 10 with (fail)
        obtain ⟨V, hV⟩ : ∃ V, wr.alloc (.cells #[.int .i64 P, .int .i64 Q, .int .i64 T, .int .i64 0] 46) = V := ⟨_, rfl⟩
        rw [hV] at HD H2 ⊢
        clear hV hD H1 j0 j1 j2 j3 hDl
        have H1 : Hid _ := H2.out
        rw [← hE.out] at HD
        have g0 := H1.out.gm.c0; have g1 := H1.out.gm.c1; have g2 := H1.out.gm.c2; have g3 := H1.out.gm.c3; have g4 := H1.out.gm.c4
        have d0 := HD.out.c0; have d1 := HD.out.c1; have d2 := HD.out.c2; have d3 := HD.out.c3
        clear g0 g1 g2 g3 g4
        go_wp2_with fail
        refine (HI.out _).mono ?_
        rintro e W2 ⟨rfl, b2⟩
        replace H1 : Hid (LyS w B r s b o c F x u5 P Q T W2) := H1.out.next b2
        have HO : Hid (∀ ob, (W2.alloc ob).ownsRow (B + 1 + 1) 3 1 u5 x (lst F x)) := fun ob => H1.out.own.alloc ob
        have hBW : B + 1 < W2.heap.size := H1.out.pl.lt
        clear d0 d1 d2 d3 HD b2
        go_wp2_with (at_builtin; refine wpList_append_own _ rfl _ _ 31 rfl (B + 1 + 1) 3 i3 (.int .i64 0) 1 8 Try.underlying31 hi3 hz0 hz1 hz2 rfl (by decide) u5 x (lst F x) rfl (HO.out _) ⟨W2.heap.size, 0, none⟩ 1 1 [.int .i64 (F x : Int)] rfl rfl (one_new7 W2 _ _) (one_one7 _) (by unfold maxLen; omega) (by omega) (by simp; omega) ?_; intro v3 W3 own3 gr3 _; have H3 : Hid (LyS w B r s b o c F (x + 1) v3 P Q T W3) := H1.out.grow _ own3 gr3; clear own3 gr3; have g0 := H3.out.gm.c0; have g1 := H3.out.gm.c1; have g2 := H3.out.gm.c2; have g3 := H3.out.gm.c3; have g4 := H3.out.gm.c4; have y0 := H3.out.pl.c0; have y1 := H3.out.pl.c1; have y2 := H3.out.pl.c2; have y3 := H3.out.pl.c3)
        refine (HT.out _).mono ?_
        rintro e W4 ⟨rfl, b4⟩
        replace H3 : Hid (LyS w B r s b o c F (x + 1) v3 P Q T W4) := H3.out.next b4
        clear b4 g0 g1 g2 g3 g4 y0 y1 y2 y3
        have y0 := H3.out.pl.c0; have y1 := H3.out.pl.c1; have y2 := H3.out.pl.c2; have y3 := H3.out.pl.c3
        have f0 := Bk.free H3.out.pl 0; have f1 := Bk.free H3.out.pl 1; have f2 := Bk.free H3.out.pl 2; have f3 := Bk.free H3.out.pl 3
        have H5 := H3.out.put P' Q' T'
        rw [← HP'.out, ← HQ'.out, ← HT'.out] at H5
        replace H5 : Hid _ := H5
        go_wp2
        go_roundw
        case rel => exact ⟨x + 1, by omega, by go_num, by rw [HP'.out, HQ'.out, HT'.out] at H5 ⊢; exact H5⟩
        case measure => simp [intOf]; omega
    · obtain rfl : x = N := by omega
      go_wp2
      go_ret
      exact ⟨_, rfl, World.ownsRow.mono H1.out.own (by omega), H1.out.below⟩
end Go.Proofs.Ytalbloeaojpbgaa
