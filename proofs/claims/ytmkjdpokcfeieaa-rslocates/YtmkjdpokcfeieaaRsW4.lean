/-
  Whose place four syndromes tell: the verdict as a function, and the document's Locate.
-/
import Derived.Test.YtmkjdpokcfeieaaRsW3
import Derived.Deep.DeepCutAuto
namespace Go.Proofs.Ytmkjdpokcfeieaa
open Go.RowKit
open Gf (gI)
open Po (El mu pwr ev S)
open Rm (al sy At)

/-- the first place from i on, of n, whose syndromes they are; -1 if none -/
def plc (s : Nat → El) : Nat → Nat → Int
  | 0, _ => -1
  | n + 1, i => if At s i then i else plc s n (i + 1)
theorem plc_none (s : Nat → El) (n i : Nat) (h : ∀ j, i ≤ j → j < i + n → ¬ At s j) : plc s n i = -1 := by
  induction n generalizing i with
  | zero => rfl
  | succ n ih =>
    unfold plc
    rw [if_neg (h i (by omega) (by omega))]
    exact ih (i + 1) fun j h1 h2 => h j (by omega) (by omega)
theorem plc_some (s : Nat → El) (n i j : Nat) (h1 : i ≤ j) (h2 : j < i + n) (hj : At s j) (hb : ∀ l, i ≤ l → l < j → ¬ At s l) : plc s n i = j := by
  induction n generalizing i with
  | zero => omega
  | succ n ih =>
    unfold plc
    by_cases e : i = j
    · subst e; rw [if_pos hj]
    · rw [if_neg (hb i (by omega) (by omega))]
      exact ih (i + 1) (by omega) (by omega) fun l a b => hb l (by omega) b
theorem plc_lt (s : Nat → El) : ∀ n i, -1 ≤ plc s n i ∧ plc s n i < (i + n : Nat)
  | 0, i => by unfold plc; omega
  | n + 1, i => by
    unfold plc
    have := plc_lt s n (i + 1)
    split <;> omega
/-- no syndrome but 0 -/
abbrev Nought (s : Nat → El) : Prop := s 0 = 0 ∧ s 1 = 0 ∧ s 2 = 0 ∧ s 3 = 0
/-- the verdict: kind, place, value -/
def vk (s : Nat → El) : Int := if Nought s then 0 else if plc s 39 0 = -1 then 3 else if 35 < plc s 39 0 then 2 else 1
def vp (s : Nat → El) : Int := if Nought s then -1 else plc s 39 0
def vv (s : Nat → El) : El := if Nought s then 0 else if plc s 39 0 = -1 then 0 else s 0
/-- the ways of a verdict -/
theorem vways (s : Nat → El) : (Nought s ∧ vk s = 0 ∧ vp s = -1 ∧ vv s = 0) ∨ (¬ Nought s ∧ (∀ j, j < 39 → ¬ At s j) ∧ vk s = 3 ∧ vp s = -1 ∧ vv s = 0) ∨
    (¬ Nought s ∧ ∃ i : Nat, i < 39 ∧ At s i ∧ (∀ l, l < i → ¬ At s l) ∧ vk s = (if i < 36 then 1 else 2) ∧ vp s = (i : Int) ∧ vv s = s 0) := by
  unfold vk vp vv
  by_cases h0 : Nought s
  · exact .inl ⟨h0, by rw [if_pos h0], by rw [if_pos h0], by rw [if_pos h0]⟩
  · by_cases h1 : ∃ i, i < 39 ∧ At s i
    · obtain ⟨i, hi, ha, hm⟩ : ∃ i, i < 39 ∧ At s i ∧ ∀ l, l < i → ¬ At s l := by
        obtain ⟨i, hi, ha⟩ := h1
        exact ⟨i, hi, ha, fun l hl hal => by have := Rm.at_only (by omega) hi hal ha; omega⟩
      have hp := plc_some s 39 0 i (by omega) (by omega) ha (fun l _ hl => hm l hl)
      refine .inr (.inr ⟨h0, i, hi, ha, hm, ?_, by rw [if_neg h0, hp], by rw [if_neg h0, hp, if_neg (by omega)]⟩)
      rw [if_neg h0, hp, if_neg (by omega)]
      by_cases h36 : i < 36
      · rw [if_neg (by omega), if_pos h36]
      · rw [if_pos (by omega), if_neg h36]
    · have hn : ∀ j, j < 39 → ¬ At s j := fun j hj ha => h1 ⟨j, hj, ha⟩
      have hp := plc_none s 39 0 (fun j _ hj => hn j (by omega))
      exact .inr (.inl ⟨h0, hn, by rw [if_neg h0, hp]; rfl, by rw [if_neg h0, hp], by rw [if_neg h0, hp]; rfl⟩)

theorem zeroV (w : World) : (zeroValue 38).run Try.prog w = .ok (.agg #[.int .i64 0, .int .i64 0, .int .u8 0]) w := by kernel_rfl

/-- while Locate works -/
structure LcS (B C : Nat) (s : Nat → El) (w W : World) : Prop where
  a : Arr W B 4 s
  c0 : W.cell? ⟨C, 0, none⟩ = some (.int .i64 0) ∧ W.frozen? ⟨C, 0, none⟩ = false
  c1 : W.cell? ⟨C, 1, none⟩ = some (.int .i64 0) ∧ W.frozen? ⟨C, 1, none⟩ = false
  c2 : W.cell? ⟨C, 2, none⟩ = some (.int .u8 0) ∧ W.frozen? ⟨C, 2, none⟩ = false
  below : Below B w W

theorem oe_ne0 {a : El} (h : a ≠ 0) : (oe a == 0) = false := by
  rw [oe_eq0]; exact decide_eq_false h
theorem oe_ne {a b : El} (h : a ≠ b) : (oe a == oe b) = false := by
  rw [oe_eq]; exact decide_eq_false h
theorem infoV : (Try.prog.info? 38).map (·.size) = some 3 := by kernel_rfl
/-- three cells that were stored one by one are read as a struct -/
theorem three_out {V : World} {C : Nat} (ht : V.there C 0 3) (a b c : Value) :
    (loadVar 38 ⟨C, 0, none⟩).run Try.prog (((V.setCell ⟨C, 0, none⟩ a).setCell ⟨C, 1, none⟩ b).setCell ⟨C, 2, none⟩ c) = .ok (.agg #[a, b, c]) (((V.setCell ⟨C, 0, none⟩ a).setCell ⟨C, 1, none⟩ b).setCell ⟨C, 2, none⟩ c) :=
  run_loadVar_mid (P := Try.prog) _ C 0 38 [a, b, c] _ (World.rangeAt_setCells_same V C 0 [a, b, c] ht) Try.underlying38 rfl infoV
theorem three_below {V w : World} {B C : Nat} (h : Below B w V) (hBC : B < C) (a b c : Value) : Below B w (((V.setCell ⟨C, 0, none⟩ a).setCell ⟨C, 1, none⟩ b).setCell ⟨C, 2, none⟩ c) :=
  below_put (Nat.le_of_lt hBC) [a, b, c] 0 h

set_option maxRecDepth 100000 in
set_option maxHeartbeats 1000000 in
theorem refLocate_any (s : Nat → El) (w : World) :
    Calls Try.prog 17 #[.agg (arr 4 s).toArray] w fun e w' => e = .returned (.agg #[.int .i64 (vk s), .int .i64 (vp s), .int .u8 (oe (vv s))]) ∧ Below w.heap.size w w' := by
  have hz := zeroV
  have hw := vways s
  obtain ⟨A, hA⟩ : ∃ A, (arr 4 s).toArray = A := ⟨_, rfl⟩
  obtain ⟨K, hK⟩ : ∃ K, vk s = K := ⟨_, rfl⟩
  obtain ⟨L, hL⟩ : ∃ L, vp s = L := ⟨_, rfl⟩
  obtain ⟨U, hU⟩ : ∃ U, vv s = U := ⟨_, rfl⟩
  rw [hK, hL, hU] at hw
  rw [hA, hK, hL, hU]
  have HW : Hid ((Nought s ∧ K = 0 ∧ L = -1 ∧ U = 0) ∨ (¬ Nought s ∧ (∀ j, j < 39 → ¬ At s j) ∧ K = 3 ∧ L = -1 ∧ U = 0) ∨ (¬ Nought s ∧ ∃ i : Nat, i < 39 ∧ At s i ∧ (∀ l, l < i → ¬ At s l) ∧ K = (if i < 36 then 1 else 2) ∧ L = (i : Int) ∧ U = s 0)) := hw
  clear hw hK hL hU
  go_enter Try.func17, Try.ntmps17
  go_upto_region 1 with (fail)
  obtain ⟨V, hV⟩ : ∃ V, (w.alloc (.cells A 27)).alloc (.cells #[.int .i64 0, .int .i64 0, .int .u8 0] 38) = V := ⟨_, rfl⟩
  have hS : LcS w.heap.size (w.heap.size + 1) s w V := by
    rw [← hV, ← hA]
    have h0 := Arr.new w 4 s 27
    refine ⟨h0.alloc (by simp) _, ?_, ?_, ?_, ((Below.refl _ w).alloc (Nat.le_refl _) _).alloc (by simp) _⟩ <;> constructor <;> simp [go_sem]
  obtain ⟨B, hB⟩ : ∃ B, w.heap.size = B := ⟨_, rfl⟩
  obtain ⟨C, hC⟩ : ∃ C, B + 1 = C := ⟨_, rfl⟩
  have hBC : B < C := by omega
  rw [hV]
  rw [hB, hC] at hS ⊢
  have q0 := hS.a 0 (by omega)
  have q1 := hS.a 1 (by omega)
  have q2 := hS.a 2 (by omega)
  have q3 := hS.a 3 (by omega)
  have r0 := hS.c0.1; have r1 := hS.c1.1; have r2 := hS.c2.1
  have f0 := hS.c0.2; have f1 := hS.c1.2; have f2 := hS.c2.2
  have HB : Hid (Below B w V) := hS.below
  have HT : Hid (V.there C 0 3) := fun j hj => by
    rcases (show j = 0 ∨ j = 1 ∨ j = 2 by omega) with rfl | rfl | rfl
    · exact ⟨by rw [Nat.zero_add, r0]; rfl, f0⟩
    · exact ⟨by rw [Nat.zero_add, r1]; rfl, f1⟩
    · exact ⟨by rw [Nat.zero_add, r2]; rfl, f2⟩
  obtain ⟨e0, E0⟩ : ∃ e, s 0 = e := ⟨_, rfl⟩
  obtain ⟨e1, E1⟩ : ∃ e, s 1 = e := ⟨_, rfl⟩
  obtain ⟨e2, E2⟩ : ∃ e, s 2 = e := ⟨_, rfl⟩
  obtain ⟨e3, E3⟩ : ∃ e, s 3 = e := ⟨_, rfl⟩
  rw [E0] at q0
  rw [E1] at q1
  rw [E2] at q2
  rw [E3] at q3
  clear hV hA hz hC hS
  by_cases hN : Nought s
  · rcases HW.out with ⟨_, rfl, rfl, rfl⟩ | ⟨h, _⟩ | ⟨h, _⟩
    · obtain ⟨n0, n1, n2, n3⟩ := hN
      rw [E0] at n0
      rw [E1] at n1
      rw [E2] at n2
      rw [E3] at n3
      subst n0 n1 n2 n3
      rw [oe_zero] at q0 q1 q2 q3
      clear HW E0 E1 E2 E3
      go_wp2
      have hld := three_out HT.out (.int .i64 0) (.int .i64 (-1)) (.int .u8 0)
      refine bodyPost_ret (v := .agg #[.int .i64 0, .int .i64 (-1), .int .u8 0]) ?_ rfl ⟨rfl, by rw [hB]; exact three_below HB.out hBC _ _ _⟩
      simp [results, Try.f17, asAddr, hld]
    · exact absurd hN h
    · exact absurd hN h
  · have SE : Hid (s 0 = e0 ∧ s 1 = e1 ∧ s 2 = e2 ∧ s 3 = e3) := ⟨E0, E1, E2, E3⟩
    have HN : Hid (¬ Nought s) := hN
    have hne : e0 ≠ 0 ∨ (e0 = 0 ∧ e1 ≠ 0) ∨ (e0 = 0 ∧ e1 = 0 ∧ e2 ≠ 0) ∨ (e0 = 0 ∧ e1 = 0 ∧ e2 = 0 ∧ e3 ≠ 0) := by
      by_cases h0 : e0 = 0
      · by_cases h1 : e1 = 0
        · by_cases h2 : e2 = 0
          · by_cases h3 : e3 = 0
            · exact absurd ⟨by rw [E0, h0], by rw [E1, h1], by rw [E2, h2], by rw [E3, h3]⟩ hN
            · exact .inr (.inr (.inr ⟨h0, h1, h2, h3⟩))
          · exact .inr (.inr (.inl ⟨h0, h1, h2⟩))
        · exact .inr (.inl ⟨h0, h1⟩)
      · exact .inl h0
    clear E0 E1 E2 E3
    replace hN := HN
    rcases hne with h0 | ⟨rfl, h1⟩ | ⟨rfl, rfl, h2⟩ | ⟨rfl, rfl, rfl, h3⟩
    · have t0 := oe_ne0 h0
      go_wp2
      go_loop [3, 4] (fun a b => ∃ (k : Nat) (p : El), k ≤ 39 ∧ Hid (p = al k) ∧ Hid (∀ l, l < k → ¬ At s l) ∧ a = .int .u8 (oe p) ∧ b = .int .i64 (k : Int)) (fun _ b => 39 - (intOf b).toNat)
      case atStart => exact ⟨0, 1, by omega, rfl, fun l hl => by omega, rfl, rfl⟩
      case round =>
        obtain ⟨k, p, hk, Hp, Hb, rfl, rfl⟩ := hrel
        by_cases hlt : k < 39
        · obtain ⟨a, Ha⟩ : ∃ a, Hid (mu e0 p = a) := ⟨_, rfl⟩
          obtain ⟨b, HbB⟩ : ∃ b, Hid (mu a p = b) := ⟨_, rfl⟩
          obtain ⟨c, Hc⟩ : ∃ c, Hid (mu b p = c) := ⟨_, rfl⟩
          obtain ⟨q, Hq⟩ : ∃ q, Hid (mu p 2 = q) := ⟨_, rfl⟩
          have m1 : Hid (∀ w, Calls Try.prog 16 #[.int .u8 (oe e0), .int .u8 (oe p)] w fun e w' => e = .returned (.int .u8 (oe a)) ∧ w' = w) := fun w => by rw [← Ha.out]; exact mulE_any e0 p w
          have m2 : Hid (∀ w, Calls Try.prog 16 #[.int .u8 (oe a), .int .u8 (oe p)] w fun e w' => e = .returned (.int .u8 (oe b)) ∧ w' = w) := fun w => by rw [← HbB.out]; exact mulE_any a p w
          have m3 : Hid (∀ w, Calls Try.prog 16 #[.int .u8 (oe b), .int .u8 (oe p)] w fun e w' => e = .returned (.int .u8 (oe c)) ∧ w' = w) := fun w => by rw [← Hc.out]; exact mulE_any b p w
          have m4 : Hid (∀ w, Calls Try.prog 16 #[.int .u8 (oe p), .int .u8 2] w fun e w' => e = .returned (.int .u8 (oe q)) ∧ w' = w) := fun w => by rw [← Hq.out]; exact mulE_any p 2 w
          have Hq' : Hid (q = al (k + 1)) := by show _ = _; rw [← Hq.out, Hp.out]; rfl
          have hAt : Hid (At s k ↔ e0 ≠ 0 ∧ e1 = a ∧ e2 = b ∧ e3 = c) := by
            show _ ↔ _
            unfold At
            rw [SE.out.1, SE.out.2.1, SE.out.2.2.1, SE.out.2.2.2, ← Hp.out]
            constructor
            · rintro ⟨h0, h1, h2, h3⟩
              have h1' : e1 = a := by rw [h1]; exact Ha.out
              have h2' : e2 = b := by rw [h2, h1']; exact HbB.out
              exact ⟨h0, h1', h2', by rw [h3, h2']; exact Hc.out⟩
            · rintro ⟨h0, h1, h2, h3⟩
              exact ⟨h0, by rw [h1, ← Ha.out], by rw [h2, h1, ← HbB.out], by rw [h3, h2, ← Hc.out]⟩
          by_cases hat : At s k
          · rcases HW.out with ⟨h, _⟩ | ⟨_, hno, _⟩ | ⟨hn1, i, hi, hia, hmin, hK, hL, hU⟩
            · exact absurd h hN.out
            · exact absurd hat (hno k hlt)
            · obtain rfl : i = k := Rm.at_only hi hlt hia hat
              obtain ⟨g0, g1, g2, g3⟩ := hAt.out.1 hat
              rw [g1] at q1
              rw [g2] at q2
              rw [g3] at q3
              have HU : Hid (U = e0) := by show _ = _; rw [hU]; exact SE.out.1
              subst hL
              have d0' : (oe e0 != 0) = true := by simp [bne, t0]
              clear HW hAt hat Hb g0 g1 g2 g3 hU hia hn1 hmin SE Ha HbB Hc Hp Hq
              by_cases h36 : i < 36
              · rw [if_pos h36] at hK
                subst hK
                go_wp2_with fail
                refine (m1.out _).mono ?_
                rintro e w' ⟨rfl, rfl⟩
                go_wp2_with fail
                refine (m2.out _).mono ?_
                rintro e w' ⟨rfl, rfl⟩
                go_wp2_with fail
                refine (m3.out _).mono ?_
                rintro e w' ⟨rfl, rfl⟩
                go_wp2
                have hld := three_out HT.out (.int .i64 1) (.int .i64 (i : Int)) (.int .u8 (oe e0))
                refine bodyPost_ret (v := .agg #[.int .i64 1, .int .i64 (i : Int), .int .u8 (oe e0)]) ?_ rfl ⟨by rw [HU.out], by rw [hB]; exact three_below HB.out hBC _ _ _⟩
                simp [results, Try.f17, asAddr, hld]
              · rw [if_neg h36] at hK
                subst hK
                go_wp2_with fail
                refine (m1.out _).mono ?_
                rintro e w' ⟨rfl, rfl⟩
                go_wp2_with fail
                refine (m2.out _).mono ?_
                rintro e w' ⟨rfl, rfl⟩
                go_wp2_with fail
                refine (m3.out _).mono ?_
                rintro e w' ⟨rfl, rfl⟩
                go_wp2
                have hld := three_out HT.out (.int .i64 2) (.int .i64 (i : Int)) (.int .u8 (oe e0))
                refine bodyPost_ret (v := .agg #[.int .i64 2, .int .i64 (i : Int), .int .u8 (oe e0)]) ?_ rfl ⟨by rw [HU.out], by rw [hB]; exact three_below HB.out hBC _ _ _⟩
                simp [results, Try.f17, asAddr, hld]
          · have hnot : e1 ≠ a ∨ (e1 = a ∧ e2 ≠ b) ∨ (e1 = a ∧ e2 = b ∧ e3 ≠ c) := by
              by_cases x1 : e1 = a
              · by_cases x2 : e2 = b
                · by_cases x3 : e3 = c
                  · exact absurd (hAt.out.2 ⟨h0, x1, x2, x3⟩) hat
                  · exact .inr (.inr ⟨x1, x2, x3⟩)
                · exact .inr (.inl ⟨x1, x2⟩)
              · exact .inl x1
            have Hb' : Hid (∀ l, l < k + 1 → ¬ At s l) := fun l hl => by
              by_cases e : l = k
              · rw [e]; exact hat
              · exact Hb.out l (by omega)
            have d0' : (oe e0 != 0) = true := by simp [bne, t0]
            clear HW hAt hat Hb SE Ha HbB Hc Hp Hq
            rcases hnot with x1 | ⟨x1, x2⟩ | ⟨x1, x2, x3⟩
            · have y1 := oe_ne x1
              clear x1
              go_wp2_with fail
              refine (m1.out _).mono ?_
              rintro e w' ⟨rfl, rfl⟩
              go_wp2_with fail
              refine (m2.out _).mono ?_
              rintro e w' ⟨rfl, rfl⟩
              go_wp2_with fail
              refine (m3.out _).mono ?_
              rintro e w' ⟨rfl, rfl⟩
              go_wp2_with fail
              refine (m4.out _).mono ?_
              rintro e w' ⟨rfl, rfl⟩
              go_wp2
              go_round
              case rel => exact ⟨k + 1, q, by omega, Hq', Hb', rfl, by go_num⟩
              case measure => simp [intOf]; omega
            · have y2 := oe_ne x2
              rw [x1] at q1
              clear x1 x2
              go_wp2_with fail
              refine (m1.out _).mono ?_
              rintro e w' ⟨rfl, rfl⟩
              go_wp2_with fail
              refine (m2.out _).mono ?_
              rintro e w' ⟨rfl, rfl⟩
              go_wp2_with fail
              refine (m3.out _).mono ?_
              rintro e w' ⟨rfl, rfl⟩
              go_wp2_with fail
              refine (m4.out _).mono ?_
              rintro e w' ⟨rfl, rfl⟩
              go_wp2
              go_round
              case rel => exact ⟨k + 1, q, by omega, Hq', Hb', rfl, by go_num⟩
              case measure => simp [intOf]; omega
            · have y3 := oe_ne x3
              rw [x1] at q1
              rw [x2] at q2
              clear x1 x2 x3
              go_wp2_with fail
              refine (m1.out _).mono ?_
              rintro e w' ⟨rfl, rfl⟩
              go_wp2_with fail
              refine (m2.out _).mono ?_
              rintro e w' ⟨rfl, rfl⟩
              go_wp2_with fail
              refine (m3.out _).mono ?_
              rintro e w' ⟨rfl, rfl⟩
              go_wp2_with fail
              refine (m4.out _).mono ?_
              rintro e w' ⟨rfl, rfl⟩
              go_wp2
              go_round
              case rel => exact ⟨k + 1, q, by omega, Hq', Hb', rfl, by go_num⟩
              case measure => simp [intOf]; omega
        · obtain rfl : k = 39 := by omega
          rcases HW.out with ⟨h, _⟩ | ⟨hn1, hno, hK, hL, hU⟩ | ⟨hn1, i, hi, hia, _⟩
          · exact absurd h hN.out
          · subst hK hL hU
            clear hno hn1 HW Hb
            go_wp2
            have hld := three_out HT.out (.int .i64 3) (.int .i64 (-1)) (.int .u8 0)
            refine bodyPost_ret (v := .agg #[.int .i64 3, .int .i64 (-1), .int .u8 0]) ?_ rfl ⟨rfl, by first | exact three_below HB.out hBC _ _ _ | (rw [hB]; exact three_below HB.out hBC _ _ _)⟩
            simp [results, Try.f17, asAddr, hld]
          · exact absurd hia (Hb.out i hi)
    · have t1 := oe_ne0 h1
      rw [oe_zero] at q0
      clear h1
      go_wp2
      go_loop [3, 4] (fun a b => ∃ (k : Nat) (p : El), k ≤ 39 ∧ Hid (p = al k) ∧ Hid (∀ l, l < k → ¬ At s l) ∧ a = .int .u8 (oe p) ∧ b = .int .i64 (k : Int)) (fun _ b => 39 - (intOf b).toNat)
      case atStart => exact ⟨0, 1, by omega, rfl, fun l hl => by omega, rfl, rfl⟩
      case round =>
        obtain ⟨k, p, hk, Hp, Hb, rfl, rfl⟩ := hrel
        by_cases hlt : k < 39
        · obtain ⟨a, Ha⟩ : ∃ a, Hid (mu (0 : El) p = a) := ⟨_, rfl⟩
          obtain ⟨b, HbB⟩ : ∃ b, Hid (mu a p = b) := ⟨_, rfl⟩
          obtain ⟨c, Hc⟩ : ∃ c, Hid (mu b p = c) := ⟨_, rfl⟩
          obtain ⟨q, Hq⟩ : ∃ q, Hid (mu p 2 = q) := ⟨_, rfl⟩
          have m1 : Hid (∀ w, Calls Try.prog 16 #[.int .u8 0, .int .u8 (oe p)] w fun e w' => e = .returned (.int .u8 (oe a)) ∧ w' = w) := fun w => by rw [← Ha.out]; exact mulE_any (0 : El) p w
          have m2 : Hid (∀ w, Calls Try.prog 16 #[.int .u8 (oe a), .int .u8 (oe p)] w fun e w' => e = .returned (.int .u8 (oe b)) ∧ w' = w) := fun w => by rw [← HbB.out]; exact mulE_any a p w
          have m3 : Hid (∀ w, Calls Try.prog 16 #[.int .u8 (oe b), .int .u8 (oe p)] w fun e w' => e = .returned (.int .u8 (oe c)) ∧ w' = w) := fun w => by rw [← Hc.out]; exact mulE_any b p w
          have m4 : Hid (∀ w, Calls Try.prog 16 #[.int .u8 (oe p), .int .u8 2] w fun e w' => e = .returned (.int .u8 (oe q)) ∧ w' = w) := fun w => by rw [← Hq.out]; exact mulE_any p 2 w
          have Hq' : Hid (q = al (k + 1)) := by show _ = _; rw [← Hq.out, Hp.out]; rfl
          have hat : ¬ At s k := fun h => h.1 SE.out.1
          have Hb' : Hid (∀ l, l < k + 1 → ¬ At s l) := fun l hl => by
            by_cases e : l = k
            · rw [e]; exact hat
            · exact Hb.out l (by omega)
          clear HW hat Hb Ha HbB Hc Hp Hq
          go_wp2_with fail
          refine (m1.out _).mono ?_
          rintro e w' ⟨rfl, rfl⟩
          go_wp2_with fail
          refine (m2.out _).mono ?_
          rintro e w' ⟨rfl, rfl⟩
          go_wp2_with fail
          refine (m3.out _).mono ?_
          rintro e w' ⟨rfl, rfl⟩
          go_wp2_with fail
          refine (m4.out _).mono ?_
          rintro e w' ⟨rfl, rfl⟩
          go_wp2
          go_round
          case rel => exact ⟨k + 1, q, by omega, Hq', Hb', rfl, by go_num⟩
          case measure => simp [intOf]; omega
        · obtain rfl : k = 39 := by omega
          rcases HW.out with ⟨h, _⟩ | ⟨hn1, hno, hK, hL, hU⟩ | ⟨hn1, i, hi, hia, _⟩
          · exact absurd h hN.out
          · subst hK hL hU
            clear hno hn1 HW Hb
            go_wp2
            have hld := three_out HT.out (.int .i64 3) (.int .i64 (-1)) (.int .u8 0)
            refine bodyPost_ret (v := .agg #[.int .i64 3, .int .i64 (-1), .int .u8 0]) ?_ rfl ⟨rfl, by first | exact three_below HB.out hBC _ _ _ | (rw [hB]; exact three_below HB.out hBC _ _ _)⟩
            simp [results, Try.f17, asAddr, hld]
          · exact absurd hia (Hb.out i hi)
    · have t2 := oe_ne0 h2
      rw [oe_zero] at q0 q1
      clear h2
      go_wp2
      go_loop [3, 4] (fun a b => ∃ (k : Nat) (p : El), k ≤ 39 ∧ Hid (p = al k) ∧ Hid (∀ l, l < k → ¬ At s l) ∧ a = .int .u8 (oe p) ∧ b = .int .i64 (k : Int)) (fun _ b => 39 - (intOf b).toNat)
      case atStart => exact ⟨0, 1, by omega, rfl, fun l hl => by omega, rfl, rfl⟩
      case round =>
        obtain ⟨k, p, hk, Hp, Hb, rfl, rfl⟩ := hrel
        by_cases hlt : k < 39
        · obtain ⟨a, Ha⟩ : ∃ a, Hid (mu (0 : El) p = a) := ⟨_, rfl⟩
          obtain ⟨b, HbB⟩ : ∃ b, Hid (mu a p = b) := ⟨_, rfl⟩
          obtain ⟨c, Hc⟩ : ∃ c, Hid (mu b p = c) := ⟨_, rfl⟩
          obtain ⟨q, Hq⟩ : ∃ q, Hid (mu p 2 = q) := ⟨_, rfl⟩
          have m1 : Hid (∀ w, Calls Try.prog 16 #[.int .u8 0, .int .u8 (oe p)] w fun e w' => e = .returned (.int .u8 (oe a)) ∧ w' = w) := fun w => by rw [← Ha.out]; exact mulE_any (0 : El) p w
          have m2 : Hid (∀ w, Calls Try.prog 16 #[.int .u8 (oe a), .int .u8 (oe p)] w fun e w' => e = .returned (.int .u8 (oe b)) ∧ w' = w) := fun w => by rw [← HbB.out]; exact mulE_any a p w
          have m3 : Hid (∀ w, Calls Try.prog 16 #[.int .u8 (oe b), .int .u8 (oe p)] w fun e w' => e = .returned (.int .u8 (oe c)) ∧ w' = w) := fun w => by rw [← Hc.out]; exact mulE_any b p w
          have m4 : Hid (∀ w, Calls Try.prog 16 #[.int .u8 (oe p), .int .u8 2] w fun e w' => e = .returned (.int .u8 (oe q)) ∧ w' = w) := fun w => by rw [← Hq.out]; exact mulE_any p 2 w
          have Hq' : Hid (q = al (k + 1)) := by show _ = _; rw [← Hq.out, Hp.out]; rfl
          have hat : ¬ At s k := fun h => h.1 SE.out.1
          have Hb' : Hid (∀ l, l < k + 1 → ¬ At s l) := fun l hl => by
            by_cases e : l = k
            · rw [e]; exact hat
            · exact Hb.out l (by omega)
          clear HW hat Hb Ha HbB Hc Hp Hq
          go_wp2_with fail
          refine (m1.out _).mono ?_
          rintro e w' ⟨rfl, rfl⟩
          go_wp2_with fail
          refine (m2.out _).mono ?_
          rintro e w' ⟨rfl, rfl⟩
          go_wp2_with fail
          refine (m3.out _).mono ?_
          rintro e w' ⟨rfl, rfl⟩
          go_wp2_with fail
          refine (m4.out _).mono ?_
          rintro e w' ⟨rfl, rfl⟩
          go_wp2
          go_round
          case rel => exact ⟨k + 1, q, by omega, Hq', Hb', rfl, by go_num⟩
          case measure => simp [intOf]; omega
        · obtain rfl : k = 39 := by omega
          rcases HW.out with ⟨h, _⟩ | ⟨hn1, hno, hK, hL, hU⟩ | ⟨hn1, i, hi, hia, _⟩
          · exact absurd h hN.out
          · subst hK hL hU
            clear hno hn1 HW Hb
            go_wp2
            have hld := three_out HT.out (.int .i64 3) (.int .i64 (-1)) (.int .u8 0)
            refine bodyPost_ret (v := .agg #[.int .i64 3, .int .i64 (-1), .int .u8 0]) ?_ rfl ⟨rfl, by first | exact three_below HB.out hBC _ _ _ | (rw [hB]; exact three_below HB.out hBC _ _ _)⟩
            simp [results, Try.f17, asAddr, hld]
          · exact absurd hia (Hb.out i hi)
    · have t3 := oe_ne0 h3
      rw [oe_zero] at q0 q1 q2
      clear h3
      go_wp2
      go_loop [3, 4] (fun a b => ∃ (k : Nat) (p : El), k ≤ 39 ∧ Hid (p = al k) ∧ Hid (∀ l, l < k → ¬ At s l) ∧ a = .int .u8 (oe p) ∧ b = .int .i64 (k : Int)) (fun _ b => 39 - (intOf b).toNat)
      case atStart => exact ⟨0, 1, by omega, rfl, fun l hl => by omega, rfl, rfl⟩
      case round =>
        obtain ⟨k, p, hk, Hp, Hb, rfl, rfl⟩ := hrel
        by_cases hlt : k < 39
        · obtain ⟨a, Ha⟩ : ∃ a, Hid (mu (0 : El) p = a) := ⟨_, rfl⟩
          obtain ⟨b, HbB⟩ : ∃ b, Hid (mu a p = b) := ⟨_, rfl⟩
          obtain ⟨c, Hc⟩ : ∃ c, Hid (mu b p = c) := ⟨_, rfl⟩
          obtain ⟨q, Hq⟩ : ∃ q, Hid (mu p 2 = q) := ⟨_, rfl⟩
          have m1 : Hid (∀ w, Calls Try.prog 16 #[.int .u8 0, .int .u8 (oe p)] w fun e w' => e = .returned (.int .u8 (oe a)) ∧ w' = w) := fun w => by rw [← Ha.out]; exact mulE_any (0 : El) p w
          have m2 : Hid (∀ w, Calls Try.prog 16 #[.int .u8 (oe a), .int .u8 (oe p)] w fun e w' => e = .returned (.int .u8 (oe b)) ∧ w' = w) := fun w => by rw [← HbB.out]; exact mulE_any a p w
          have m3 : Hid (∀ w, Calls Try.prog 16 #[.int .u8 (oe b), .int .u8 (oe p)] w fun e w' => e = .returned (.int .u8 (oe c)) ∧ w' = w) := fun w => by rw [← Hc.out]; exact mulE_any b p w
          have m4 : Hid (∀ w, Calls Try.prog 16 #[.int .u8 (oe p), .int .u8 2] w fun e w' => e = .returned (.int .u8 (oe q)) ∧ w' = w) := fun w => by rw [← Hq.out]; exact mulE_any p 2 w
          have Hq' : Hid (q = al (k + 1)) := by show _ = _; rw [← Hq.out, Hp.out]; rfl
          have hat : ¬ At s k := fun h => h.1 SE.out.1
          have Hb' : Hid (∀ l, l < k + 1 → ¬ At s l) := fun l hl => by
            by_cases e : l = k
            · rw [e]; exact hat
            · exact Hb.out l (by omega)
          clear HW hat Hb Ha HbB Hc Hp Hq
          go_wp2_with fail
          refine (m1.out _).mono ?_
          rintro e w' ⟨rfl, rfl⟩
          go_wp2_with fail
          refine (m2.out _).mono ?_
          rintro e w' ⟨rfl, rfl⟩
          go_wp2_with fail
          refine (m3.out _).mono ?_
          rintro e w' ⟨rfl, rfl⟩
          go_wp2_with fail
          refine (m4.out _).mono ?_
          rintro e w' ⟨rfl, rfl⟩
          go_wp2
          go_round
          case rel => exact ⟨k + 1, q, by omega, Hq', Hb', rfl, by go_num⟩
          case measure => simp [intOf]; omega
        · obtain rfl : k = 39 := by omega
          rcases HW.out with ⟨h, _⟩ | ⟨hn1, hno, hK, hL, hU⟩ | ⟨hn1, i, hi, hia, _⟩
          · exact absurd h hN.out
          · subst hK hL hU
            clear hno hn1 HW Hb
            go_wp2
            have hld := three_out HT.out (.int .i64 3) (.int .i64 (-1)) (.int .u8 0)
            refine bodyPost_ret (v := .agg #[.int .i64 3, .int .i64 (-1), .int .u8 0]) ?_ rfl ⟨rfl, by first | exact three_below HB.out hBC _ _ _ | (rw [hB]; exact three_below HB.out hBC _ _ _)⟩
            simp [results, Try.f17, asAddr, hld]
          · exact absurd hia (Hb.out i hi)
end Go.Proofs.Ytmkjdpokcfeieaa
