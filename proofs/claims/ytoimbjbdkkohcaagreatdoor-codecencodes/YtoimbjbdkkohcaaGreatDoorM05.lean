/-
  Texts of one family, one behind another: RsW3, RsW4, RsW5, GfLaws, GfW4, Bytes, GfW5, GfW6, PolyW1, PolyW2.
-/
import Derived.Test.YtoimbjbdkkohcaaGreatDoorM04
import Derived.Deep.DeepCutAuto
import Derived.Shelf.Abstract
import Derived.OpenShut
import Derived.Test.YtoimbjbdkkohcaaGreatDoorRows
import Derived.WalkKit
import Derived.WalkSpells
import Derived.WalkLawsBesides
import Derived.Below
import Derived.Deep.OwnRows
import Derived.BigRegion
import Derived.Deep.RegionWith

/-
  The document's values at the four roots.
-/
namespace Go.Proofs.YtoimbjbdkkohcaaGreatDoor
open Go.RowKit
open Gf (gI)
open Po (El mu pwr ev S)
open Rm (al sy)

theorem al_nums : al 0 = 1 ∧ al 1 = 2 ∧ al 2 = 4 ∧ al 3 = 8 := by
  refine ⟨?_, ?_, ?_, ?_⟩ <;> refine Po.el_ext ?_ <;> rw [Rm.al_toNat] <;> decide +kernel
theorem arr4 (F : Nat → El) : arr 4 F = [.int .u8 (oe (F 0)), .int .u8 (oe (F 1)), .int .u8 (oe (F 2)), .int .u8 (oe (F 3))] := rfl
/-- while Values works: the word lies in B, the result's block C may be written -/
structure VsS (B C : Nat) (L : List Value) (w W : World) : Prop where
  at_ : W.rangeAt B 0 L
  free : W.there C 0 4
  lt : B < W.heap.size ∧ C < W.heap.size
  below : Below B w W
theorem range_of {W W' : World} {b o : Nat} {cs : List Value} (h : W.rangeAt b o cs) (k : W'.heap[b]? = W.heap[b]?) : W'.rangeAt b o cs := fun j v hv => (World.cell?_of_block (w := W) (a := ⟨b, o + j, none⟩) k).trans (h j v hv)
theorem there_of {W W' : World} {b o n : Nat} (h : W.there b o n) (k : W'.heap[b]? = W.heap[b]?) : W'.there b o n := fun j hj => by
  have := h j hj
  rw [World.cell?_of_block (w := W) (a := ⟨b, o + j, none⟩) k, World.frozen?_of_block (w := W) (a := ⟨b, o + j, none⟩) k]; exact this
theorem VsS.next {B C : Nat} {L : List Value} {w W W' : World} (h : VsS B C L w W) (k : Below W.heap.size W W') : VsS B C L w W' :=
  ⟨range_of h.at_ (k.block B h.lt.1), there_of h.free (k.block C h.lt.2), ⟨Nat.lt_of_lt_of_le h.lt.1 k.size, Nat.lt_of_lt_of_le h.lt.2 k.size⟩, h.below.trans (k.mono (Nat.le_of_lt h.lt.1))⟩
theorem VsS.drew {B C : Nat} {L : List Value} {w W : World} (h : VsS B C L w W) : VsS B C L w W.drew := h.next (below_stay (Below.refl _ W) (Stay.drewN _ W 1) (Nat.le_refl _))
theorem VsS.put {B C : Nat} {L : List Value} {w W : World} (h : VsS B C L w W) (hBC : B < C) (vs : List Value) : VsS B C L w (W.setCells C 0 vs) :=
  ⟨World.rangeAt_setCells_apart h.at_ C 0 vs (.inl (by omega)), World.there_setCells h.free C 0 vs, by
    have := (below_put5 (B := C) (b := C) (Nat.le_refl _) vs 0 (Below.refl C W)).size
    exact ⟨Nat.lt_of_lt_of_le h.lt.1 this, Nat.lt_of_lt_of_le h.lt.2 this⟩, below_put5 (Nat.le_of_lt hBC) vs 0 h.below⟩
theorem VsS.all {B C : Nat} {L : List Value} {w W : World} (h : VsS B C L w W) : W.rangeAt B 0 L ∧ W.there C 0 4 ∧ VsS B C L w W := ⟨h.at_, h.free, h⟩
theorem zero4 (w : World) : (zeroValue 50).run Tryz.prog w = .ok (.agg (arr 4 fun _ => 0).toArray) w := by kernel_rfl
theorem info4 : (Tryz.prog.info? 50).map (·.size) = some 4 := by kernel_rfl
end Go.Proofs.YtoimbjbdkkohcaaGreatDoor

/-
  Whose place four syndromes tell: the verdict as a function, and the document's Locate.
-/
namespace Go.Proofs.YtoimbjbdkkohcaaGreatDoor
open Go.RowKit
open Gf (gI)
open Po (El mu pwr ev S)
open Rm (al sy At)

/-- the first place from i on, of n, whose syndromes they are; -1 if none -/
def plc (s : Nat → El) : Nat → Nat → Int
  | 0, _ => -1
  | n + 1, i => if At s i then i else plc s n (i + 1)
theorem plc_none (s : Nat → El) (n i : Nat) (h : ∀ j, i ≤ j → j < i + n → ¬ At s j) : plc s n i = -1 := by
  induction n generalizing i with
  | zero => rfl
  | succ n ih =>
    unfold plc
    rw [if_neg (h i (by omega) (by omega))]
    exact ih (i + 1) fun j h1 h2 => h j (by omega) (by omega)
theorem plc_some (s : Nat → El) (n i j : Nat) (h1 : i ≤ j) (h2 : j < i + n) (hj : At s j) (hb : ∀ l, i ≤ l → l < j → ¬ At s l) : plc s n i = j := by
  induction n generalizing i with
  | zero => omega
  | succ n ih =>
    unfold plc
    by_cases e : i = j
    · subst e; rw [if_pos hj]
    · rw [if_neg (hb i (by omega) (by omega))]
      exact ih (i + 1) (by omega) (by omega) fun l a b => hb l (by omega) b
theorem plc_lt (s : Nat → El) : ∀ n i, -1 ≤ plc s n i ∧ plc s n i < (i + n : Nat)
  | 0, i => by unfold plc; omega
  | n + 1, i => by
    unfold plc
    have := plc_lt s n (i + 1)
    split <;> omega
/-- no syndrome but 0 -/
abbrev Nought (s : Nat → El) : Prop := s 0 = 0 ∧ s 1 = 0 ∧ s 2 = 0 ∧ s 3 = 0
/-- the verdict: kind, place, value -/
def vk (s : Nat → El) : Int := if Nought s then 0 else if plc s 39 0 = -1 then 3 else if 35 < plc s 39 0 then 2 else 1
def vp (s : Nat → El) : Int := if Nought s then -1 else plc s 39 0
def vv (s : Nat → El) : El := if Nought s then 0 else if plc s 39 0 = -1 then 0 else s 0
/-- the ways of a verdict -/
theorem vways (s : Nat → El) : (Nought s ∧ vk s = 0 ∧ vp s = -1 ∧ vv s = 0) ∨ (¬ Nought s ∧ (∀ j, j < 39 → ¬ At s j) ∧ vk s = 3 ∧ vp s = -1 ∧ vv s = 0) ∨
    (¬ Nought s ∧ ∃ i : Nat, i < 39 ∧ At s i ∧ (∀ l, l < i → ¬ At s l) ∧ vk s = (if i < 36 then 1 else 2) ∧ vp s = (i : Int) ∧ vv s = s 0) := by
  unfold vk vp vv
  by_cases h0 : Nought s
  · exact .inl ⟨h0, by rw [if_pos h0], by rw [if_pos h0], by rw [if_pos h0]⟩
  · by_cases h1 : ∃ i, i < 39 ∧ At s i
    · obtain ⟨i, hi, ha, hm⟩ : ∃ i, i < 39 ∧ At s i ∧ ∀ l, l < i → ¬ At s l := by
        obtain ⟨i, hi, ha⟩ := h1
        exact ⟨i, hi, ha, fun l hl hal => by have := Rm.at_only (by omega) hi hal ha; omega⟩
      have hp := plc_some s 39 0 i (by omega) (by omega) ha (fun l _ hl => hm l hl)
      refine .inr (.inr ⟨h0, i, hi, ha, hm, ?_, by rw [if_neg h0, hp], by rw [if_neg h0, hp, if_neg (by omega)]⟩)
      rw [if_neg h0, hp, if_neg (by omega)]
      by_cases h36 : i < 36
      · rw [if_neg (by omega), if_pos h36]
      · rw [if_pos (by omega), if_neg h36]
    · have hn : ∀ j, j < 39 → ¬ At s j := fun j hj ha => h1 ⟨j, hj, ha⟩
      have hp := plc_none s 39 0 (fun j _ hj => hn j (by omega))
      exact .inr (.inl ⟨h0, hn, by rw [if_neg h0, hp]; rfl, by rw [if_neg h0, hp], by rw [if_neg h0, hp]; rfl⟩)

theorem zeroV (w : World) : (zeroValue 110).run Tryz.prog w = .ok (.agg #[.int .i64 0, .int .i64 0, .int .u8 0]) w := by kernel_rfl

/-- while Locate works -/
structure LcS (B C : Nat) (s : Nat → El) (w W : World) : Prop where
  a : Arr W B 4 s
  c0 : W.cell? ⟨C, 0, none⟩ = some (.int .i64 0) ∧ W.frozen? ⟨C, 0, none⟩ = false
  c1 : W.cell? ⟨C, 1, none⟩ = some (.int .i64 0) ∧ W.frozen? ⟨C, 1, none⟩ = false
  c2 : W.cell? ⟨C, 2, none⟩ = some (.int .u8 0) ∧ W.frozen? ⟨C, 2, none⟩ = false
  below : Below B w W

theorem oe_ne0 {a : El} (h : a ≠ 0) : (oe a == 0) = false := by
  rw [oe_eq0]; exact decide_eq_false h
theorem oe_ne {a b : El} (h : a ≠ b) : (oe a == oe b) = false := by
  rw [oe_eq]; exact decide_eq_false h
theorem infoV : (Tryz.prog.info? 110).map (·.size) = some 3 := by kernel_rfl
/-- three cells that were stored one by one are read as a struct -/
theorem three_out {V : World} {C : Nat} (ht : V.there C 0 3) (a b c : Value) :
    (loadVar 110 ⟨C, 0, none⟩).run Tryz.prog (((V.setCell ⟨C, 0, none⟩ a).setCell ⟨C, 1, none⟩ b).setCell ⟨C, 2, none⟩ c) = .ok (.agg #[a, b, c]) (((V.setCell ⟨C, 0, none⟩ a).setCell ⟨C, 1, none⟩ b).setCell ⟨C, 2, none⟩ c) :=
  run_loadVar_mid (P := Tryz.prog) _ C 0 110 [a, b, c] _ (World.rangeAt_setCells_same V C 0 [a, b, c] ht) Tryz.underlying110 rfl infoV
theorem three_below {V w : World} {B C : Nat} (h : Below B w V) (hBC : B < C) (a b c : Value) : Below B w (((V.setCell ⟨C, 0, none⟩ a).setCell ⟨C, 1, none⟩ b).setCell ⟨C, 2, none⟩ c) :=
  below_put5 (Nat.le_of_lt hBC) [a, b, c] 0 h

set_option maxRecDepth 100000 in
set_option maxHeartbeats 1000000 in
theorem refLocate_any (s : Nat → El) (w : World) :
    Calls Tryz.prog 55 #[.agg (arr 4 s).toArray] w fun e w' => e = .returned (.agg #[.int .i64 (vk s), .int .i64 (vp s), .int .u8 (oe (vv s))]) ∧ Below w.heap.size w w' := by
  have hz := zeroV
  have hw := vways s
  obtain ⟨A, hA⟩ : ∃ A, (arr 4 s).toArray = A := ⟨_, rfl⟩
  obtain ⟨K, hK⟩ : ∃ K, vk s = K := ⟨_, rfl⟩
  obtain ⟨L, hL⟩ : ∃ L, vp s = L := ⟨_, rfl⟩
  obtain ⟨U, hU⟩ : ∃ U, vv s = U := ⟨_, rfl⟩
  rw [hK, hL, hU] at hw
  rw [hA, hK, hL, hU]
  have HW : Hid ((Nought s ∧ K = 0 ∧ L = -1 ∧ U = 0) ∨ (¬ Nought s ∧ (∀ j, j < 39 → ¬ At s j) ∧ K = 3 ∧ L = -1 ∧ U = 0) ∨ (¬ Nought s ∧ ∃ i : Nat, i < 39 ∧ At s i ∧ (∀ l, l < i → ¬ At s l) ∧ K = (if i < 36 then 1 else 2) ∧ L = (i : Int) ∧ U = s 0)) := hw
  clear hw hK hL hU
  go_enter Tryz.func55, Tryz.ntmps55
  go_upto_region 1 with (fail)
  obtain ⟨V, hV⟩ : ∃ V, (w.alloc (.cells A 50)).alloc (.cells #[.int .i64 0, .int .i64 0, .int .u8 0] 110) = V := ⟨_, rfl⟩
  have hS : LcS w.heap.size (w.heap.size + 1) s w V := by
    rw [← hV, ← hA]
    have h0 := Arr.new w 4 s 50
    refine ⟨h0.alloc (by simp) _, ?_, ?_, ?_, ((Below.refl _ w).alloc (Nat.le_refl _) _).alloc (by simp) _⟩ <;> constructor <;> simp [go_sem]
  obtain ⟨B, hB⟩ : ∃ B, w.heap.size = B := ⟨_, rfl⟩
  obtain ⟨C, hC⟩ : ∃ C, B + 1 = C := ⟨_, rfl⟩
  have hBC : B < C := by omega
  rw [hV]
  rw [hB, hC] at hS ⊢
  have q0 := hS.a 0 (by omega)
  have q1 := hS.a 1 (by omega)
  have q2 := hS.a 2 (by omega)
  have q3 := hS.a 3 (by omega)
  have r0 := hS.c0.1; have r1 := hS.c1.1; have r2 := hS.c2.1
  have f0 := hS.c0.2; have f1 := hS.c1.2; have f2 := hS.c2.2
  have HB : Hid (Below B w V) := hS.below
  have HT : Hid (V.there C 0 3) := fun j hj => by
    rcases (show j = 0 ∨ j = 1 ∨ j = 2 by omega) with rfl | rfl | rfl
    · exact ⟨by rw [Nat.zero_add, r0]; rfl, f0⟩
    · exact ⟨by rw [Nat.zero_add, r1]; rfl, f1⟩
    · exact ⟨by rw [Nat.zero_add, r2]; rfl, f2⟩
  obtain ⟨e0, E0⟩ : ∃ e, s 0 = e := ⟨_, rfl⟩
  obtain ⟨e1, E1⟩ : ∃ e, s 1 = e := ⟨_, rfl⟩
  obtain ⟨e2, E2⟩ : ∃ e, s 2 = e := ⟨_, rfl⟩
  obtain ⟨e3, E3⟩ : ∃ e, s 3 = e := ⟨_, rfl⟩
  rw [E0] at q0
  rw [E1] at q1
  rw [E2] at q2
  rw [E3] at q3
  clear hV hA hz hC hS
  by_cases hN : Nought s
  · rcases HW.out with ⟨_, rfl, rfl, rfl⟩ | ⟨h, _⟩ | ⟨h, _⟩
    · obtain ⟨n0, n1, n2, n3⟩ := hN
      rw [E0] at n0
      rw [E1] at n1
      rw [E2] at n2
      rw [E3] at n3
      subst n0 n1 n2 n3
      rw [oe_zero] at q0 q1 q2 q3
      clear HW E0 E1 E2 E3
      go_wp2
      have hld := three_out HT.out (.int .i64 0) (.int .i64 (-1)) (.int .u8 0)
      refine bodyPost_ret (v := .agg #[.int .i64 0, .int .i64 (-1), .int .u8 0]) ?_ rfl ⟨rfl, by rw [hB]; exact three_below HB.out hBC _ _ _⟩
      simp [results, Tryz.f55, asAddr, hld]
    · exact absurd hN h
    · exact absurd hN h
  · have SE : Hid (s 0 = e0 ∧ s 1 = e1 ∧ s 2 = e2 ∧ s 3 = e3) := ⟨E0, E1, E2, E3⟩
    have HN : Hid (¬ Nought s) := hN
    have hne : e0 ≠ 0 ∨ (e0 = 0 ∧ e1 ≠ 0) ∨ (e0 = 0 ∧ e1 = 0 ∧ e2 ≠ 0) ∨ (e0 = 0 ∧ e1 = 0 ∧ e2 = 0 ∧ e3 ≠ 0) := by
      by_cases h0 : e0 = 0
      · by_cases h1 : e1 = 0
        · by_cases h2 : e2 = 0
          · by_cases h3 : e3 = 0
            · exact absurd ⟨by rw [E0, h0], by rw [E1, h1], by rw [E2, h2], by rw [E3, h3]⟩ hN
            · exact .inr (.inr (.inr ⟨h0, h1, h2, h3⟩))
          · exact .inr (.inr (.inl ⟨h0, h1, h2⟩))
        · exact .inr (.inl ⟨h0, h1⟩)
      · exact .inl h0
    clear E0 E1 E2 E3
    replace hN := HN
    rcases hne with h0 | ⟨rfl, h1⟩ | ⟨rfl, rfl, h2⟩ | ⟨rfl, rfl, rfl, h3⟩
    · have t0 := oe_ne0 h0
      go_wp2
      go_loop [3, 4] (fun a b => ∃ (k : Nat) (p : El), k ≤ 39 ∧ Hid (p = al k) ∧ Hid (∀ l, l < k → ¬ At s l) ∧ a = .int .u8 (oe p) ∧ b = .int .i64 (k : Int)) (fun _ b => 39 - (intOf b).toNat)
      case atStart => exact ⟨0, 1, by omega, rfl, fun l hl => by omega, rfl, rfl⟩
      case round =>
        obtain ⟨k, p, hk, Hp, Hb, rfl, rfl⟩ := hrel
        by_cases hlt : k < 39
        · obtain ⟨a, Ha⟩ : ∃ a, Hid (mu e0 p = a) := ⟨_, rfl⟩
          obtain ⟨b, HbB⟩ : ∃ b, Hid (mu a p = b) := ⟨_, rfl⟩
          obtain ⟨c, Hc⟩ : ∃ c, Hid (mu b p = c) := ⟨_, rfl⟩
          obtain ⟨q, Hq⟩ : ∃ q, Hid (mu p 2 = q) := ⟨_, rfl⟩
          have m1 : Hid (∀ w, Calls Tryz.prog 53 #[.int .u8 (oe e0), .int .u8 (oe p)] w fun e w' => e = .returned (.int .u8 (oe a)) ∧ w' = w) := fun w => by rw [← Ha.out]; exact mulE_any e0 p w
          have m2 : Hid (∀ w, Calls Tryz.prog 53 #[.int .u8 (oe a), .int .u8 (oe p)] w fun e w' => e = .returned (.int .u8 (oe b)) ∧ w' = w) := fun w => by rw [← HbB.out]; exact mulE_any a p w
          have m3 : Hid (∀ w, Calls Tryz.prog 53 #[.int .u8 (oe b), .int .u8 (oe p)] w fun e w' => e = .returned (.int .u8 (oe c)) ∧ w' = w) := fun w => by rw [← Hc.out]; exact mulE_any b p w
          have m4 : Hid (∀ w, Calls Tryz.prog 53 #[.int .u8 (oe p), .int .u8 2] w fun e w' => e = .returned (.int .u8 (oe q)) ∧ w' = w) := fun w => by rw [← Hq.out]; exact mulE_any p 2 w
          have Hq' : Hid (q = al (k + 1)) := by show _ = _; rw [← Hq.out, Hp.out]; rfl
          have hAt : Hid (At s k ↔ e0 ≠ 0 ∧ e1 = a ∧ e2 = b ∧ e3 = c) := by
            show _ ↔ _
            unfold At
            rw [SE.out.1, SE.out.2.1, SE.out.2.2.1, SE.out.2.2.2, ← Hp.out]
            constructor
            · rintro ⟨h0, h1, h2, h3⟩
              have h1' : e1 = a := by rw [h1]; exact Ha.out
              have h2' : e2 = b := by rw [h2, h1']; exact HbB.out
              exact ⟨h0, h1', h2', by rw [h3, h2']; exact Hc.out⟩
            · rintro ⟨h0, h1, h2, h3⟩
              exact ⟨h0, by rw [h1, ← Ha.out], by rw [h2, h1, ← HbB.out], by rw [h3, h2, ← Hc.out]⟩
          by_cases hat : At s k
          · rcases HW.out with ⟨h, _⟩ | ⟨_, hno, _⟩ | ⟨hn1, i, hi, hia, hmin, hK, hL, hU⟩
            · exact absurd h hN.out
            · exact absurd hat (hno k hlt)
            · obtain rfl : i = k := Rm.at_only hi hlt hia hat
              obtain ⟨g0, g1, g2, g3⟩ := hAt.out.1 hat
              rw [g1] at q1
              rw [g2] at q2
              rw [g3] at q3
              have HU : Hid (U = e0) := by show _ = _; rw [hU]; exact SE.out.1
              subst hL
              have d0' : (oe e0 != 0) = true := by simp [bne, t0]
              clear HW hAt hat Hb g0 g1 g2 g3 hU hia hn1 hmin SE Ha HbB Hc Hp Hq
              by_cases h36 : i < 36
              · rw [if_pos h36] at hK
                subst hK
                go_wp2_with fail
                refine (m1.out _).mono ?_
                rintro e w' ⟨rfl, rfl⟩
                go_wp2_with fail
                refine (m2.out _).mono ?_
                rintro e w' ⟨rfl, rfl⟩
                go_wp2_with fail
                refine (m3.out _).mono ?_
                rintro e w' ⟨rfl, rfl⟩
                go_wp2
                have hld := three_out HT.out (.int .i64 1) (.int .i64 (i : Int)) (.int .u8 (oe e0))
                refine bodyPost_ret (v := .agg #[.int .i64 1, .int .i64 (i : Int), .int .u8 (oe e0)]) ?_ rfl ⟨by rw [HU.out], by rw [hB]; exact three_below HB.out hBC _ _ _⟩
                simp [results, Tryz.f55, asAddr, hld]
              · rw [if_neg h36] at hK
                subst hK
                go_wp2_with fail
                refine (m1.out _).mono ?_
                rintro e w' ⟨rfl, rfl⟩
                go_wp2_with fail
                refine (m2.out _).mono ?_
                rintro e w' ⟨rfl, rfl⟩
                go_wp2_with fail
                refine (m3.out _).mono ?_
                rintro e w' ⟨rfl, rfl⟩
                go_wp2
                have hld := three_out HT.out (.int .i64 2) (.int .i64 (i : Int)) (.int .u8 (oe e0))
                refine bodyPost_ret (v := .agg #[.int .i64 2, .int .i64 (i : Int), .int .u8 (oe e0)]) ?_ rfl ⟨by rw [HU.out], by rw [hB]; exact three_below HB.out hBC _ _ _⟩
                simp [results, Tryz.f55, asAddr, hld]
          · have hnot : e1 ≠ a ∨ (e1 = a ∧ e2 ≠ b) ∨ (e1 = a ∧ e2 = b ∧ e3 ≠ c) := by
              by_cases x1 : e1 = a
              · by_cases x2 : e2 = b
                · by_cases x3 : e3 = c
                  · exact absurd (hAt.out.2 ⟨h0, x1, x2, x3⟩) hat
                  · exact .inr (.inr ⟨x1, x2, x3⟩)
                · exact .inr (.inl ⟨x1, x2⟩)
              · exact .inl x1
            have Hb' : Hid (∀ l, l < k + 1 → ¬ At s l) := fun l hl => by
              by_cases e : l = k
              · rw [e]; exact hat
              · exact Hb.out l (by omega)
            have d0' : (oe e0 != 0) = true := by simp [bne, t0]
            clear HW hAt hat Hb SE Ha HbB Hc Hp Hq
            rcases hnot with x1 | ⟨x1, x2⟩ | ⟨x1, x2, x3⟩
            · have y1 := oe_ne x1
              clear x1
              go_wp2_with fail
              refine (m1.out _).mono ?_
              rintro e w' ⟨rfl, rfl⟩
              go_wp2_with fail
              refine (m2.out _).mono ?_
              rintro e w' ⟨rfl, rfl⟩
              go_wp2_with fail
              refine (m3.out _).mono ?_
              rintro e w' ⟨rfl, rfl⟩
              go_wp2_with fail
              refine (m4.out _).mono ?_
              rintro e w' ⟨rfl, rfl⟩
              go_wp2
              go_round
              case rel => exact ⟨k + 1, q, by omega, Hq', Hb', rfl, by go_num⟩
              case measure => simp [intOf]; omega
            · have y2 := oe_ne x2
              rw [x1] at q1
              clear x1 x2
              go_wp2_with fail
              refine (m1.out _).mono ?_
              rintro e w' ⟨rfl, rfl⟩
              go_wp2_with fail
              refine (m2.out _).mono ?_
              rintro e w' ⟨rfl, rfl⟩
              go_wp2_with fail
              refine (m3.out _).mono ?_
              rintro e w' ⟨rfl, rfl⟩
              go_wp2_with fail
              refine (m4.out _).mono ?_
              rintro e w' ⟨rfl, rfl⟩
              go_wp2
              go_round
              case rel => exact ⟨k + 1, q, by omega, Hq', Hb', rfl, by go_num⟩
              case measure => simp [intOf]; omega
            · have y3 := oe_ne x3
              rw [x1] at q1
              rw [x2] at q2
              clear x1 x2 x3
              go_wp2_with fail
              refine (m1.out _).mono ?_
              rintro e w' ⟨rfl, rfl⟩
              go_wp2_with fail
              refine (m2.out _).mono ?_
              rintro e w' ⟨rfl, rfl⟩
              go_wp2_with fail
              refine (m3.out _).mono ?_
              rintro e w' ⟨rfl, rfl⟩
              go_wp2_with fail
              refine (m4.out _).mono ?_
              rintro e w' ⟨rfl, rfl⟩
              go_wp2
              go_round
              case rel => exact ⟨k + 1, q, by omega, Hq', Hb', rfl, by go_num⟩
              case measure => simp [intOf]; omega
        · obtain rfl : k = 39 := by omega
          rcases HW.out with ⟨h, _⟩ | ⟨hn1, hno, hK, hL, hU⟩ | ⟨hn1, i, hi, hia, _⟩
          · exact absurd h hN.out
          · subst hK hL hU
            clear hno hn1 HW Hb
            go_wp2
            have hld := three_out HT.out (.int .i64 3) (.int .i64 (-1)) (.int .u8 0)
            refine bodyPost_ret (v := .agg #[.int .i64 3, .int .i64 (-1), .int .u8 0]) ?_ rfl ⟨rfl, by first | exact three_below HB.out hBC _ _ _ | (rw [hB]; exact three_below HB.out hBC _ _ _)⟩
            simp [results, Tryz.f55, asAddr, hld]
          · exact absurd hia (Hb.out i hi)
    · have t1 := oe_ne0 h1
      rw [oe_zero] at q0
      clear h1
      go_wp2
      go_loop [3, 4] (fun a b => ∃ (k : Nat) (p : El), k ≤ 39 ∧ Hid (p = al k) ∧ Hid (∀ l, l < k → ¬ At s l) ∧ a = .int .u8 (oe p) ∧ b = .int .i64 (k : Int)) (fun _ b => 39 - (intOf b).toNat)
      case atStart => exact ⟨0, 1, by omega, rfl, fun l hl => by omega, rfl, rfl⟩
      case round =>
        obtain ⟨k, p, hk, Hp, Hb, rfl, rfl⟩ := hrel
        by_cases hlt : k < 39
        · obtain ⟨a, Ha⟩ : ∃ a, Hid (mu (0 : El) p = a) := ⟨_, rfl⟩
          obtain ⟨b, HbB⟩ : ∃ b, Hid (mu a p = b) := ⟨_, rfl⟩
          obtain ⟨c, Hc⟩ : ∃ c, Hid (mu b p = c) := ⟨_, rfl⟩
          obtain ⟨q, Hq⟩ : ∃ q, Hid (mu p 2 = q) := ⟨_, rfl⟩
          have m1 : Hid (∀ w, Calls Tryz.prog 53 #[.int .u8 0, .int .u8 (oe p)] w fun e w' => e = .returned (.int .u8 (oe a)) ∧ w' = w) := fun w => by rw [← Ha.out]; exact mulE_any (0 : El) p w
          have m2 : Hid (∀ w, Calls Tryz.prog 53 #[.int .u8 (oe a), .int .u8 (oe p)] w fun e w' => e = .returned (.int .u8 (oe b)) ∧ w' = w) := fun w => by rw [← HbB.out]; exact mulE_any a p w
          have m3 : Hid (∀ w, Calls Tryz.prog 53 #[.int .u8 (oe b), .int .u8 (oe p)] w fun e w' => e = .returned (.int .u8 (oe c)) ∧ w' = w) := fun w => by rw [← Hc.out]; exact mulE_any b p w
          have m4 : Hid (∀ w, Calls Tryz.prog 53 #[.int .u8 (oe p), .int .u8 2] w fun e w' => e = .returned (.int .u8 (oe q)) ∧ w' = w) := fun w => by rw [← Hq.out]; exact mulE_any p 2 w
          have Hq' : Hid (q = al (k + 1)) := by show _ = _; rw [← Hq.out, Hp.out]; rfl
          have hat : ¬ At s k := fun h => h.1 SE.out.1
          have Hb' : Hid (∀ l, l < k + 1 → ¬ At s l) := fun l hl => by
            by_cases e : l = k
            · rw [e]; exact hat
            · exact Hb.out l (by omega)
          clear HW hat Hb Ha HbB Hc Hp Hq
          go_wp2_with fail
          refine (m1.out _).mono ?_
          rintro e w' ⟨rfl, rfl⟩
          go_wp2_with fail
          refine (m2.out _).mono ?_
          rintro e w' ⟨rfl, rfl⟩
          go_wp2_with fail
          refine (m3.out _).mono ?_
          rintro e w' ⟨rfl, rfl⟩
          go_wp2_with fail
          refine (m4.out _).mono ?_
          rintro e w' ⟨rfl, rfl⟩
          go_wp2
          go_round
          case rel => exact ⟨k + 1, q, by omega, Hq', Hb', rfl, by go_num⟩
          case measure => simp [intOf]; omega
        · obtain rfl : k = 39 := by omega
          rcases HW.out with ⟨h, _⟩ | ⟨hn1, hno, hK, hL, hU⟩ | ⟨hn1, i, hi, hia, _⟩
          · exact absurd h hN.out
          · subst hK hL hU
            clear hno hn1 HW Hb
            go_wp2
            have hld := three_out HT.out (.int .i64 3) (.int .i64 (-1)) (.int .u8 0)
            refine bodyPost_ret (v := .agg #[.int .i64 3, .int .i64 (-1), .int .u8 0]) ?_ rfl ⟨rfl, by first | exact three_below HB.out hBC _ _ _ | (rw [hB]; exact three_below HB.out hBC _ _ _)⟩
            simp [results, Tryz.f55, asAddr, hld]
          · exact absurd hia (Hb.out i hi)
    · have t2 := oe_ne0 h2
      rw [oe_zero] at q0 q1
      clear h2
      go_wp2
      go_loop [3, 4] (fun a b => ∃ (k : Nat) (p : El), k ≤ 39 ∧ Hid (p = al k) ∧ Hid (∀ l, l < k → ¬ At s l) ∧ a = .int .u8 (oe p) ∧ b = .int .i64 (k : Int)) (fun _ b => 39 - (intOf b).toNat)
      case atStart => exact ⟨0, 1, by omega, rfl, fun l hl => by omega, rfl, rfl⟩
      case round =>
        obtain ⟨k, p, hk, Hp, Hb, rfl, rfl⟩ := hrel
        by_cases hlt : k < 39
        · obtain ⟨a, Ha⟩ : ∃ a, Hid (mu (0 : El) p = a) := ⟨_, rfl⟩
          obtain ⟨b, HbB⟩ : ∃ b, Hid (mu a p = b) := ⟨_, rfl⟩
          obtain ⟨c, Hc⟩ : ∃ c, Hid (mu b p = c) := ⟨_, rfl⟩
          obtain ⟨q, Hq⟩ : ∃ q, Hid (mu p 2 = q) := ⟨_, rfl⟩
          have m1 : Hid (∀ w, Calls Tryz.prog 53 #[.int .u8 0, .int .u8 (oe p)] w fun e w' => e = .returned (.int .u8 (oe a)) ∧ w' = w) := fun w => by rw [← Ha.out]; exact mulE_any (0 : El) p w
          have m2 : Hid (∀ w, Calls Tryz.prog 53 #[.int .u8 (oe a), .int .u8 (oe p)] w fun e w' => e = .returned (.int .u8 (oe b)) ∧ w' = w) := fun w => by rw [← HbB.out]; exact mulE_any a p w
          have m3 : Hid (∀ w, Calls Tryz.prog 53 #[.int .u8 (oe b), .int .u8 (oe p)] w fun e w' => e = .returned (.int .u8 (oe c)) ∧ w' = w) := fun w => by rw [← Hc.out]; exact mulE_any b p w
          have m4 : Hid (∀ w, Calls Tryz.prog 53 #[.int .u8 (oe p), .int .u8 2] w fun e w' => e = .returned (.int .u8 (oe q)) ∧ w' = w) := fun w => by rw [← Hq.out]; exact mulE_any p 2 w
          have Hq' : Hid (q = al (k + 1)) := by show _ = _; rw [← Hq.out, Hp.out]; rfl
          have hat : ¬ At s k := fun h => h.1 SE.out.1
          have Hb' : Hid (∀ l, l < k + 1 → ¬ At s l) := fun l hl => by
            by_cases e : l = k
            · rw [e]; exact hat
            · exact Hb.out l (by omega)
          clear HW hat Hb Ha HbB Hc Hp Hq
          go_wp2_with fail
          refine (m1.out _).mono ?_
          rintro e w' ⟨rfl, rfl⟩
          go_wp2_with fail
          refine (m2.out _).mono ?_
          rintro e w' ⟨rfl, rfl⟩
          go_wp2_with fail
          refine (m3.out _).mono ?_
          rintro e w' ⟨rfl, rfl⟩
          go_wp2_with fail
          refine (m4.out _).mono ?_
          rintro e w' ⟨rfl, rfl⟩
          go_wp2
          go_round
          case rel => exact ⟨k + 1, q, by omega, Hq', Hb', rfl, by go_num⟩
          case measure => simp [intOf]; omega
        · obtain rfl : k = 39 := by omega
          rcases HW.out with ⟨h, _⟩ | ⟨hn1, hno, hK, hL, hU⟩ | ⟨hn1, i, hi, hia, _⟩
          · exact absurd h hN.out
          · subst hK hL hU
            clear hno hn1 HW Hb
            go_wp2
            have hld := three_out HT.out (.int .i64 3) (.int .i64 (-1)) (.int .u8 0)
            refine bodyPost_ret (v := .agg #[.int .i64 3, .int .i64 (-1), .int .u8 0]) ?_ rfl ⟨rfl, by first | exact three_below HB.out hBC _ _ _ | (rw [hB]; exact three_below HB.out hBC _ _ _)⟩
            simp [results, Tryz.f55, asAddr, hld]
          · exact absurd hia (Hb.out i hi)
    · have t3 := oe_ne0 h3
      rw [oe_zero] at q0 q1 q2
      clear h3
      go_wp2
      go_loop [3, 4] (fun a b => ∃ (k : Nat) (p : El), k ≤ 39 ∧ Hid (p = al k) ∧ Hid (∀ l, l < k → ¬ At s l) ∧ a = .int .u8 (oe p) ∧ b = .int .i64 (k : Int)) (fun _ b => 39 - (intOf b).toNat)
      case atStart => exact ⟨0, 1, by omega, rfl, fun l hl => by omega, rfl, rfl⟩
      case round =>
        obtain ⟨k, p, hk, Hp, Hb, rfl, rfl⟩ := hrel
        by_cases hlt : k < 39
        · obtain ⟨a, Ha⟩ : ∃ a, Hid (mu (0 : El) p = a) := ⟨_, rfl⟩
          obtain ⟨b, HbB⟩ : ∃ b, Hid (mu a p = b) := ⟨_, rfl⟩
          obtain ⟨c, Hc⟩ : ∃ c, Hid (mu b p = c) := ⟨_, rfl⟩
          obtain ⟨q, Hq⟩ : ∃ q, Hid (mu p 2 = q) := ⟨_, rfl⟩
          have m1 : Hid (∀ w, Calls Tryz.prog 53 #[.int .u8 0, .int .u8 (oe p)] w fun e w' => e = .returned (.int .u8 (oe a)) ∧ w' = w) := fun w => by rw [← Ha.out]; exact mulE_any (0 : El) p w
          have m2 : Hid (∀ w, Calls Tryz.prog 53 #[.int .u8 (oe a), .int .u8 (oe p)] w fun e w' => e = .returned (.int .u8 (oe b)) ∧ w' = w) := fun w => by rw [← HbB.out]; exact mulE_any a p w
          have m3 : Hid (∀ w, Calls Tryz.prog 53 #[.int .u8 (oe b), .int .u8 (oe p)] w fun e w' => e = .returned (.int .u8 (oe c)) ∧ w' = w) := fun w => by rw [← Hc.out]; exact mulE_any b p w
          have m4 : Hid (∀ w, Calls Tryz.prog 53 #[.int .u8 (oe p), .int .u8 2] w fun e w' => e = .returned (.int .u8 (oe q)) ∧ w' = w) := fun w => by rw [← Hq.out]; exact mulE_any p 2 w
          have Hq' : Hid (q = al (k + 1)) := by show _ = _; rw [← Hq.out, Hp.out]; rfl
          have hat : ¬ At s k := fun h => h.1 SE.out.1
          have Hb' : Hid (∀ l, l < k + 1 → ¬ At s l) := fun l hl => by
            by_cases e : l = k
            · rw [e]; exact hat
            · exact Hb.out l (by omega)
          clear HW hat Hb Ha HbB Hc Hp Hq
          go_wp2_with fail
          refine (m1.out _).mono ?_
          rintro e w' ⟨rfl, rfl⟩
          go_wp2_with fail
          refine (m2.out _).mono ?_
          rintro e w' ⟨rfl, rfl⟩
          go_wp2_with fail
          refine (m3.out _).mono ?_
          rintro e w' ⟨rfl, rfl⟩
          go_wp2_with fail
          refine (m4.out _).mono ?_
          rintro e w' ⟨rfl, rfl⟩
          go_wp2
          go_round
          case rel => exact ⟨k + 1, q, by omega, Hq', Hb', rfl, by go_num⟩
          case measure => simp [intOf]; omega
        · obtain rfl : k = 39 := by omega
          rcases HW.out with ⟨h, _⟩ | ⟨hn1, hno, hK, hL, hU⟩ | ⟨hn1, i, hi, hia, _⟩
          · exact absurd h hN.out
          · subst hK hL hU
            clear hno hn1 HW Hb
            go_wp2
            have hld := three_out HT.out (.int .i64 3) (.int .i64 (-1)) (.int .u8 0)
            refine bodyPost_ret (v := .agg #[.int .i64 3, .int .i64 (-1), .int .u8 0]) ?_ rfl ⟨rfl, by first | exact three_below HB.out hBC _ _ _ | (rw [hB]; exact three_below HB.out hBC _ _ _)⟩
            simp [results, Tryz.f55, asAddr, hld]
          · exact absurd hia (Hb.out i hi)
end Go.Proofs.YtoimbjbdkkohcaaGreatDoor

/-
  The document's values at the four roots: a region that draws its order, with four loads of a long array, four calls and a store, taken by hand.
-/
namespace Go.Proofs.YtoimbjbdkkohcaaGreatDoor
open Go.RowKit Go.Shelf
open Gf (gI)
open Po (El mu pwr ev S)
open Rm (al sy)

/-- a call of a Go function of two arguments by its contract, as one step of a region that draws its order -/
theorem step_call2 {P : Program} {ops : Array Oper} {o : Oper} {a : Act} {w : World} {K : Act → World → Prop} {Q : Exit → Act → World → Prop} {E : Prop} (hgd : o.guard = none) (f : FuncId) (s x : Operand) (ts : Array TypeId)
    (ho : o.op = .call { callee := .value (.func f), args := #[s, x], argTypes := ts }) (eg : ∀ args w, (callFunc f args).run P w = .ok (.enter f args) w) (vs vx v : Value) (hs : a.eval s = vs) (hx : a.eval x = vx)
    (h : Calls P f #[vs, vx] w fun e w' => e = .returned v ∧ K (a.put o.dst v) w') :
    if Region.wanted o (yielded ops a.tmps) = true then Oper.wp P o a w K Q else E := by
  have hw : Region.wanted o (yielded ops a.tmps) = true := by simp [Region.wanted, hgd]
  have hf : a.eval (.func f) = .func (.func f) #[] #[] := rfl
  rw [if_pos hw]
  unfold Oper.wp
  simp only [execOp, ho, resolve, hf, List.map_toArray, List.map_cons, List.map_nil, hs, hx]
  simp [invoke, eg, Oper.upon, go_sem]
  refine Calls.mono h ?_
  rintro e w' ⟨rfl, hk⟩
  exact hk

theorem step_plain {P : Program} {ops : Array Oper} {o : Oper} {a : Act} {w : World} {K : Act → World → Prop} {Q : Exit → Act → World → Prop} {E : Prop} (hgd : o.guard = none) (h : Oper.wp P o a w K Q) :
    if Region.wanted o (yielded ops a.tmps) = true then Oper.wp P o a w K Q else E := by
  have hw : Region.wanted o (yielded ops a.tmps) = true := by simp [Region.wanted, hgd]
  rw [if_pos hw]; exact h

set_option maxRecDepth 100000 in
set_option maxHeartbeats 800000 in
theorem refValues_any (W : Nat → El) (w : World) :
    Calls Tryz.prog 22 #[.agg (arr 39 W).toArray] w fun e w' => e = .returned (.agg (arr 4 (sy W)).toArray) ∧ Below w.heap.size w w' := by
  have hz := zero4
  obtain ⟨A2, hA2⟩ : ∃ A, (arr 4 fun _ => 0).toArray = A := ⟨_, rfl⟩
  rw [hA2] at hz
  have cV : Hid (∀ (x : El) w, Calls Tryz.prog 52 #[.agg (arr 39 W).toArray, .int .u8 (oe x)] w fun e w' => e = .returned (.int .u8 (oe (ev 39 W x))) ∧ Below w.heap.size w w') := fun x w => refValue_any W x w
  obtain ⟨h0, h1, h2, h3⟩ := al_nums
  have hres : Hid (arr 4 (sy W) = [.int .u8 (oe (ev 39 W 1)), .int .u8 (oe (ev 39 W 2)), .int .u8 (oe (ev 39 W 4)), .int .u8 (oe (ev 39 W 8))]) := by
    show _ = _
    rw [arr4]; unfold sy; rw [h0, h1, h2, h3]
  obtain ⟨L, hL⟩ : ∃ L, arr 39 W = L := ⟨_, rfl⟩
  have hi9 : (Tryz.prog.info? 52).map (·.size) = some L.length := by rw [← hL, arr_len]; exact info39
  obtain ⟨e1, E1⟩ : ∃ e, ev 39 W 1 = e := ⟨_, rfl⟩
  obtain ⟨e2, E2⟩ : ∃ e, ev 39 W 2 = e := ⟨_, rfl⟩
  obtain ⟨e3, E3⟩ : ∃ e, ev 39 W 4 = e := ⟨_, rfl⟩
  obtain ⟨e4, E4⟩ : ∃ e, ev 39 W 8 = e := ⟨_, rfl⟩
  have c1 : Hid (∀ w, Calls Tryz.prog 52 #[.agg L.toArray, .int .u8 1] w fun e w' => e = .returned (.int .u8 (oe e1)) ∧ Below w.heap.size w w') := fun w => by rw [← hL, ← E1]; exact cV.out 1 w
  have c2 : Hid (∀ w, Calls Tryz.prog 52 #[.agg L.toArray, .int .u8 2] w fun e w' => e = .returned (.int .u8 (oe e2)) ∧ Below w.heap.size w w') := fun w => by rw [← hL, ← E2]; exact cV.out 2 w
  have c3 : Hid (∀ w, Calls Tryz.prog 52 #[.agg L.toArray, .int .u8 4] w fun e w' => e = .returned (.int .u8 (oe e3)) ∧ Below w.heap.size w w') := fun w => by rw [← hL, ← E3]; exact cV.out 4 w
  have c4 : Hid (∀ w, Calls Tryz.prog 52 #[.agg L.toArray, .int .u8 8] w fun e w' => e = .returned (.int .u8 (oe e4)) ∧ Below w.heap.size w w') := fun w => by rw [← hL, ← E4]; exact cV.out 8 w
  rw [E1, E2, E3, E4] at hres
  obtain ⟨N, hN⟩ : ∃ N, arr 4 (sy W) = N := ⟨_, rfl⟩
  rw [hN] at hres
  have h40 : Hid (Arr (w.alloc (.cells L.toArray 52)) w.heap.size 39 W) := by rw [← hL]; exact Arr.new w 39 W _
  have h4l : Hid (∀ W1 b, Arr W1 b 39 W → W1.rangeAt b 0 L) := by rw [← hL]; exact fun W1 b h => h.range
  rw [hL, hN]
  clear cV h0 h1 h2 h3 hL E1 E2 E3 E4 hN
  go_enter Tryz.func22, Tryz.ntmps22
  go_wp2
  obtain ⟨V, hV⟩ : ∃ V, (w.alloc (.cells L.toArray 52)).alloc (.cells A2 50) = V := ⟨_, rfl⟩
  have hSt : VsS w.heap.size (w.heap.size + 1) L w V := by
    rw [← hV, ← hA2]
    have hw := ArrW.new (w.alloc (.cells L.toArray 52)) 4 (fun _ => 0) 50
    rw [World.size_alloc] at hw
    exact ⟨h4l.out _ _ (h40.out.alloc (by simp) _), hw.there, by simp; omega, ((Below.refl _ w).alloc (Nat.le_refl _) _).alloc (by simp) _⟩
  obtain ⟨B, hB⟩ : ∃ B, w.heap.size = B := ⟨_, rfl⟩
  obtain ⟨C, hC⟩ : ∃ C, B + 1 = C := ⟨_, rfl⟩
  have hBC : B < C := by omega
  rw [hV]
  rw [hB, hC] at hSt ⊢
  clear hV hA2 hz h40 h4l hC
  have hu9 := Tryz.underlying52
  have eg := enters_of Tryz.func52 (by kernel_rfl) rfl
  refine wp_region_held_drew (S := fun w' => VsS B C L w w') (by kernel_rfl) hSt.drew (fun hHeld => ?_)
  refine wpAnyH_take (i := 0) (oi := _) (v := .agg L.toArray) rfl (by kernel_rfl) (by kernel_rfl) (by kernel_rfl) (fun _ _ _ h => h) (yieldsIf_load_mid (by rfl) _ _ rfl B 0 rfl L _ (fun w h => h.at_) hu9 rfl hi9) hHeld ?_
  refine wpAnyH_take (i := 2) (oi := _) (v := .agg L.toArray) rfl (by kernel_rfl) (by kernel_rfl) (by kernel_rfl) (fun _ _ _ h => h) (yieldsIf_load_mid (by rfl) _ _ rfl B 0 rfl L _ (fun w h => h.at_) hu9 rfl hi9) hHeld ?_
  refine wpAnyH_take (i := 4) (oi := _) (v := .agg L.toArray) rfl (by kernel_rfl) (by kernel_rfl) (by kernel_rfl) (fun _ _ _ h => h) (yieldsIf_load_mid (by rfl) _ _ rfl B 0 rfl L _ (fun w h => h.at_) hu9 rfl hi9) hHeld ?_
  refine wpAnyH_take (i := 6) (oi := _) (v := .agg L.toArray) rfl (by kernel_rfl) (by kernel_rfl) (by kernel_rfl) (fun _ _ _ h => h) (yieldsIf_load_mid (by rfl) _ _ rfl B 0 rfl L _ (fun w h => h.at_) hu9 rfl hi9) hHeld ?_
  show wpAnyH _ _ _ _ _ _ _ ({ tmps := #[.agg L.toArray, .pointer (some ⟨B, 0, none⟩), .pointer (some ⟨C, 0, none⟩), .agg L.toArray, undef, .agg L.toArray, undef, .agg L.toArray, undef, .agg L.toArray, undef, undef], defers := [] } : Act) _
  refine wpAnyH_ready (rs := [1]) (by kernel_rfl) (by simp) ?_
  refine AllReadyH.cons (o := _) rfl (fun K hK => ?_) AllReadyH.nil
  refine step_call2 rfl _ (.tmp 3) (.const (.int .u8 1)) _ rfl eg (.agg L.toArray) (.int .u8 1) (.int .u8 (oe e1)) rfl rfl ((c1.out _).mono ?_)
  rintro e W1 ⟨rfl, hbn⟩
  refine ⟨rfl, hK.out _ _ (hHeld.next hbn) fun hH1 => ?_⟩
  clear hHeld hK hbn
  show wpAnyH _ _ _ _ _ _ _ ({ tmps := #[.agg L.toArray, .pointer (some ⟨B, 0, none⟩), .pointer (some ⟨C, 0, none⟩), .agg L.toArray, .int .u8 (oe e1), .agg L.toArray, undef, .agg L.toArray, undef, .agg L.toArray, undef, undef], defers := [] } : Act) _
  refine wpAnyH_ready (rs := [3]) (by kernel_rfl) (by simp) ?_
  refine AllReadyH.cons (o := _) rfl (fun K hK => ?_) AllReadyH.nil
  refine step_call2 rfl _ (.tmp 5) (.const (.int .u8 2)) _ rfl eg (.agg L.toArray) (.int .u8 2) (.int .u8 (oe e2)) rfl rfl ((c2.out _).mono ?_)
  rintro e W3 ⟨rfl, hbn⟩
  refine ⟨rfl, hK.out _ _ (hH1.next hbn) fun hH3 => ?_⟩
  clear hH1 hK hbn
  show wpAnyH _ _ _ _ _ _ _ ({ tmps := #[.agg L.toArray, .pointer (some ⟨B, 0, none⟩), .pointer (some ⟨C, 0, none⟩), .agg L.toArray, .int .u8 (oe e1), .agg L.toArray, .int .u8 (oe e2), .agg L.toArray, undef, .agg L.toArray, undef, undef], defers := [] } : Act) _
  refine wpAnyH_ready (rs := [5]) (by kernel_rfl) (by simp) ?_
  refine AllReadyH.cons (o := _) rfl (fun K hK => ?_) AllReadyH.nil
  refine step_call2 rfl _ (.tmp 7) (.const (.int .u8 4)) _ rfl eg (.agg L.toArray) (.int .u8 4) (.int .u8 (oe e3)) rfl rfl ((c3.out _).mono ?_)
  rintro e W5 ⟨rfl, hbn⟩
  refine ⟨rfl, hK.out _ _ (hH3.next hbn) fun hH5 => ?_⟩
  clear hH3 hK hbn
  show wpAnyH _ _ _ _ _ _ _ ({ tmps := #[.agg L.toArray, .pointer (some ⟨B, 0, none⟩), .pointer (some ⟨C, 0, none⟩), .agg L.toArray, .int .u8 (oe e1), .agg L.toArray, .int .u8 (oe e2), .agg L.toArray, .int .u8 (oe e3), .agg L.toArray, undef, undef], defers := [] } : Act) _
  refine wpAnyH_ready (rs := [7]) (by kernel_rfl) (by simp) ?_
  refine AllReadyH.cons (o := _) rfl (fun K hK => ?_) AllReadyH.nil
  refine step_call2 rfl _ (.tmp 9) (.const (.int .u8 8)) _ rfl eg (.agg L.toArray) (.int .u8 8) (.int .u8 (oe e4)) rfl rfl ((c4.out _).mono ?_)
  rintro e W7 ⟨rfl, hbn⟩
  refine ⟨rfl, hK.out _ _ (hH5.next hbn) fun hH7 => ?_⟩
  clear hH5 hK hbn
  show wpAnyH _ _ _ _ _ _ _ ({ tmps := #[.agg L.toArray, .pointer (some ⟨B, 0, none⟩), .pointer (some ⟨C, 0, none⟩), .agg L.toArray, .int .u8 (oe e1), .agg L.toArray, .int .u8 (oe e2), .agg L.toArray, .int .u8 (oe e3), .agg L.toArray, .int .u8 (oe e4), undef], defers := [] } : Act) _
  refine wpAnyH_take (i := 8) (oi := _) (v := .agg #[.int .u8 (oe e1), .int .u8 (oe e2), .int .u8 (oe e3), .int .u8 (oe e4)]) rfl (by kernel_rfl) (by kernel_rfl) (by kernel_rfl) (fun _ _ _ h => h) (.inl ⟨by rfl, fun w _ => ?bld⟩) hH7 ?_
  case bld => simp [execOp, go_sem]
  show wpAnyH _ _ _ _ _ _ _ ({ tmps := #[.agg L.toArray, .pointer (some ⟨B, 0, none⟩), .pointer (some ⟨C, 0, none⟩), .agg L.toArray, .int .u8 (oe e1), .agg L.toArray, .int .u8 (oe e2), .agg L.toArray, .int .u8 (oe e3), .agg L.toArray, .int .u8 (oe e4), .agg #[.int .u8 (oe e1), .int .u8 (oe e2), .int .u8 (oe e3), .int .u8 (oe e4)]], defers := [] } : Act) _
  refine wpAnyH_ready (rs := [9]) (by kernel_rfl) (by simp) ?_
  refine AllReadyH.cons (o := _) rfl (fun K hK => ?_) AllReadyH.nil
  refine step_plain rfl ?_
  refine wp_store_mid 50 _ _ rfl C 0 #[.int .u8 (oe e1), .int .u8 (oe e2), .int .u8 (oe e3), .int .u8 (oe e4)] rfl rfl hH7.free info4 (by simp [Value.oneCell']) ?_
  refine hK.out _ _ (hH7.put hBC _) fun hH9 => ?_
  refine wpAnyH_done (by kernel_rfl) ?_ _
  have hrg : (W7.setCells C 0 [.int .u8 (oe e1), .int .u8 (oe e2), .int .u8 (oe e3), .int .u8 (oe e4)]).rangeAt C 0 [.int .u8 (oe e1), .int .u8 (oe e2), .int .u8 (oe e3), .int .u8 (oe e4)] := World.rangeAt_setCells_same W7 C 0 _ hH7.free
  have hld := run_loadVar_mid (P := Tryz.prog) _ C 0 50 _ _ hrg Tryz.underlying50 rfl info4
  have HB9 : Hid (Below B w (W7.setCells C 0 [.int .u8 (oe e1), .int .u8 (oe e2), .int .u8 (oe e3), .int .u8 (oe e4)])) := hH9.below
  clear hH7 hH9 hrg hK hi9 hu9 eg c1 c2 c3 c4
  show Exit.then _ _ Exit.normal ({ tmps := #[.agg L.toArray, .pointer (some ⟨B, 0, none⟩), .pointer (some ⟨C, 0, none⟩), .agg L.toArray, .int .u8 (oe e1), .agg L.toArray, .int .u8 (oe e2), .agg L.toArray, .int .u8 (oe e3), .agg L.toArray, .int .u8 (oe e4), .agg #[.int .u8 (oe e1), .int .u8 (oe e2), .int .u8 (oe e3), .int .u8 (oe e4)]], defers := [] } : Act) _
  go_wp2
  refine bodyPost_ret (v := .agg #[.int .u8 (oe e1), .int .u8 (oe e2), .int .u8 (oe e3), .int .u8 (oe e4)]) ?_ rfl ⟨by rw [hres.out], by rw [hB]; exact HB9.out⟩
  simp [results, Tryz.f22, asAddr, hld]
end Go.Proofs.YtoimbjbdkkohcaaGreatDoor

/-
  The walks of the laws GfMuls and GfField, out of the contracts.
-/
namespace Go.Proofs.YtoimbjbdkkohcaaGreatDoor
open Go.RowKit
open Gf (eI lI gI dI pI)

theorem Grown.drewN {W w' : World} (h : Grown W w') (k : Nat) : Grown W (w'.drewN k) := h
theorem grown_new (w : World) (c : Array Value) (t : TypeId) : Grown w (w.alloc (.cells c t)) := (Grown.refl w).alloc _ _






end Go.Proofs.YtoimbjbdkkohcaaGreatDoor

/-
  The walks of Pow, and of the document's powers; the law GfLogs.
-/
namespace Go.Proofs.YtoimbjbdkkohcaaGreatDoor
open Go.RowKit
open Gf (eI lI gI dI pI)








end Go.Proofs.YtoimbjbdkkohcaaGreatDoor

/-
  Slices of bytes as the walks see them: an address, and the list of what lies there.
-/
namespace Go.Proofs.YtoimbjbdkkohcaaGreatDoor
open Go.RowKit

/-- what the walk is told of a slice of integers that came in (as the row's frame has it) -/
def IsRow (k : IntKind) (w : World) (a : Option Addr) (len cap : Nat) (zs : List Int) : Prop :=
  (a = none ∧ len = 0 ∧ cap = 0 ∧ zs = []) ∨
  ∃ x, a = some x ∧ len ≤ cap ∧ cap ≤ maxLen ∧ zs.length = cap ∧ (∀ i, i < zs.length → w.cell? (x.add i) = some (.int k (zs.getD i 0))) ∧ ∀ n ∈ zs, (Lit.int k n).wf = true

/-- a list of bytes lies at an address (an empty one anywhere) -/
def SlAt (w : World) (a : Option Addr) (l : List Int) : Prop :=
  (l = [] ∨ ∃ b off, a = some ⟨b, off, none⟩ ∧ b < w.heap.size ∧ ∀ i, i < l.length → w.cell? ⟨b, off + i, none⟩ = some (.int .u8 (l[i]?.getD 0)))
/-- each is a byte -/
def Byt (l : List Int) : Prop := ∀ i, i < l.length → 0 ≤ l[i]?.getD 0 ∧ l[i]?.getD 0 < 256
theorem SlAt.kept {w w' : World} {a : Option Addr} {l : List Int} (h : SlAt w a l) (hs : w.heap.size ≤ w'.heap.size) (hc : ∀ b o, b < w.heap.size → w'.cell? ⟨b, o, none⟩ = w.cell? ⟨b, o, none⟩) : SlAt w' a l := by
  rcases h with h | ⟨b, off, ha, hb, hl⟩
  · exact .inl h
  · exact .inr ⟨b, off, ha, by omega, fun i hi => (hc b _ hb).trans (hl i hi)⟩
theorem SlAt.drewN {w : World} {a : Option Addr} {l : List Int} (h : SlAt w a l) (k : Nat) : SlAt (w.drewN k) a l := h.kept (Nat.le_refl _) (fun _ _ _ => rfl)
theorem SlAt.alloc {w : World} {a : Option Addr} {l : List Int} (h : SlAt w a l) (o : Obj) : SlAt (w.alloc o) a l :=
  h.kept (by simp) (fun b o' hb => World.cell?_alloc_past _ _ _ hb)
theorem SlAt.below {w w' : World} {a : Option Addr} {l : List Int} (h : SlAt w a l) (hb : Below w.heap.size w w') : SlAt w' a l :=
  h.kept hb.size (fun b o hlt => hb.cell (p := ⟨b, o, none⟩) hlt)
theorem cell_lt {w : World} {a : Addr} {v : Value} (h : w.cell? a = some v) : a.block < w.heap.size := by
  by_cases hb : a.block < w.heap.size
  · exact hb
  · have : w.heap[a.block]? = none := Array.getElem?_eq_none (by omega)
    simp [World.cell?, this] at h
theorem IsRow.slAt {w : World} {a : Option Addr} {len cap : Nat} {zs : List Int} (h : IsRow .u8 w a len cap zs) :
    SlAt w a (zs.take len) ∧ Byt (zs.take len) ∧ (zs.take len).length = len ∧ len ≤ cap ∧ len ≤ maxLen := by
  rcases h with ⟨rfl, rfl, rfl, rfl⟩ | ⟨x, rfl, hl, hm, hz, hcell, hwz⟩
  · exact ⟨.inl rfl, fun i hi => by simp at hi, rfl, Nat.le_refl _, Nat.zero_le _⟩
  · have hlen : (zs.take len).length = len := by simp; omega
    refine ⟨?_, ?_, hlen, hl, by omega⟩
    · by_cases h0 : len = 0
      · subst h0; exact .inl rfl
      · right
        obtain ⟨b, off, spot⟩ := x
        have hc := hcell 0 (by omega)
        have hspot : spot = none := by simpa [Addr.add] using World.cell?_spot hc
        subst hspot
        refine ⟨b, off, rfl, by have := cell_lt hc; simpa [Addr.add] using this, fun i hi => ?_⟩
        rw [hlen] at hi
        have := hcell i (by omega)
        simp only [Addr.add, List.getD_eq_getElem?_getD] at this
        rw [List.getElem?_take_of_lt hi]
        by_cases h00 : i = 0
        · subst h00; simpa using this
        · rw [if_neg h00] at this; exact this
    · intro i hi
      rw [hlen] at hi
      rw [List.getElem?_take_of_lt hi]
      have := range_u8 hwz i
      omega

end Go.Proofs.YtoimbjbdkkohcaaGreatDoor

/-
  The walks of Dot, and of the document's sum of products.
-/
namespace Go.Proofs.YtoimbjbdkkohcaaGreatDoor
open Go.RowKit
open Gf (eI lI gI dI pI)

/-- the sum of the first k products -/
def dotN (la lb : List Int) : Nat → Int
  | 0 => 0
  | k + 1 => bits .xor .u8 (dotN la lb k) (gI (la[k]?.getD 0) (lb[k]?.getD 0))
theorem dotN_bd (la lb : List Int) (k : Nat) : 0 ≤ dotN la lb k ∧ dotN la lb k < 256 := by
  induction k with
  | zero => simp [dotN]
  | succ k ih =>
    have h := Gf.gI_bd (la[k]?.getD 0) (lb[k]?.getD 0)
    exact Gf.xor8_bd _ _ ih.1 ih.2 h.1 h.2
def dotI (la lb : List Int) : Int := dotN la lb (min la.length lb.length)



end Go.Proofs.YtoimbjbdkkohcaaGreatDoor

/-
  The walk of the law GfLinear: two lists are made, filled, and summed.
-/
namespace Go.Proofs.YtoimbjbdkkohcaaGreatDoor
open Go.RowKit Go.Deep
open Gf (eI lI gI dI pI)

theorem xor8_nat (P Q : Nat) (hP : P < 256) (hQ : Q < 256) : P ^^^ Q < 256 := by
  have : P ^^^ Q < 2 ^ 8 := Nat.xor_lt_two_pow (by simpa using hP) (by simpa using hQ)
  simpa using this
theorem xor8_swap (p q r t : Int) (hp : 0 ≤ p ∧ p < 256) (hq : 0 ≤ q ∧ q < 256) (hr : 0 ≤ r ∧ r < 256) (ht : 0 ≤ t ∧ t < 256) :
    bits .xor .u8 (bits .xor .u8 p q) (bits .xor .u8 r t) = bits .xor .u8 (bits .xor .u8 p r) (bits .xor .u8 q t) := by
  obtain ⟨P, rfl⟩ := Int.eq_ofNat_of_zero_le hp.1
  obtain ⟨Q, rfl⟩ := Int.eq_ofNat_of_zero_le hq.1
  obtain ⟨R, rfl⟩ := Int.eq_ofNat_of_zero_le hr.1
  obtain ⟨T, rfl⟩ := Int.eq_ofNat_of_zero_le ht.1
  have hP : P < 256 := by omega
  have hQ : Q < 256 := by omega
  have hR : R < 256 := by omega
  have hT : T < 256 := by omega
  rw [u8_xor_nat P Q hP hQ, u8_xor_nat R T hR hT, u8_xor_nat P R hP hR, u8_xor_nat Q T hQ hT, u8_xor_nat _ _ (xor8_nat P Q hP hQ) (xor8_nat R T hR hT), u8_xor_nat _ _ (xor8_nat P R hP hR) (xor8_nat Q T hQ hT), Gf.xor4]
def sumL (la lb : List Int) (N : Nat) : List Int := (List.range N).map fun j => bits .xor .u8 (la[j]?.getD 0) (lb[j]?.getD 0)
def timL (la : List Int) (x : Int) (N : Nat) : List Int := (List.range N).map fun j => gI (la[j]?.getD 0) x
theorem sumL_get (la lb : List Int) (N j : Nat) (h : j < N) : (sumL la lb N)[j]?.getD 0 = bits .xor .u8 (la[j]?.getD 0) (lb[j]?.getD 0) := by
  simp [sumL, h]
theorem timL_get (la : List Int) (x : Int) (N j : Nat) (h : j < N) : (timL la x N)[j]?.getD 0 = gI (la[j]?.getD 0) x := by
  simp [timL, h]
theorem dotN_sum (la lb lc : List Int) (N k : Nat) (hk : k ≤ N) (ha : ∀ j, j < N → 0 ≤ la[j]?.getD 0 ∧ la[j]?.getD 0 < 256) (hb : ∀ j, j < N → 0 ≤ lb[j]?.getD 0 ∧ lb[j]?.getD 0 < 256) (hc : ∀ j, j < N → 0 ≤ lc[j]?.getD 0 ∧ lc[j]?.getD 0 < 256) :
    dotN (sumL la lb N) lc k = bits .xor .u8 (dotN la lc k) (dotN lb lc k) := by
  induction k with
  | zero => simp only [dotN]; decide +kernel
  | succ k ih =>
    have h1 := ha k (by omega)
    have h2 := hb k (by omega)
    have h3 := hc k (by omega)
    have h4 := dotN_bd la lc k
    have h5 := dotN_bd lb lc k
    have h6 := Gf.gI_bd (la[k]?.getD 0) (lc[k]?.getD 0)
    have h7 := Gf.gI_bd (lb[k]?.getD 0) (lc[k]?.getD 0)
    simp only [dotN]
    rw [ih (by omega), sumL_get la lb N k (by omega), Gf.gI_comm _ (lc[k]?.getD 0), Gf.gI_xor _ _ _ h3.1 h3.2 h1.1 h1.2 h2.1 h2.2, Gf.gI_comm (lc[k]?.getD 0) (la[k]?.getD 0), Gf.gI_comm (lc[k]?.getD 0) (lb[k]?.getD 0)]
    exact xor8_swap _ _ _ _ h4 h5 h6 h7
theorem dotN_tim (la lc : List Int) (x : Int) (hx : 0 ≤ x ∧ x < 256) (N k : Nat) (hk : k ≤ N) (ha : ∀ j, j < N → 0 ≤ la[j]?.getD 0 ∧ la[j]?.getD 0 < 256) (hc : ∀ j, j < N → 0 ≤ lc[j]?.getD 0 ∧ lc[j]?.getD 0 < 256) :
    dotN (timL la x N) lc k = gI (dotN la lc k) x := by
  induction k with
  | zero => simp only [dotN]; rw [Gf.gI_zero_left]
  | succ k ih =>
    have h1 := ha k (by omega)
    have h3 := hc k (by omega)
    have h4 := dotN_bd la lc k
    have h6 := Gf.gI_bd (la[k]?.getD 0) (lc[k]?.getD 0)
    simp only [dotN]
    rw [ih (by omega), timL_get la x N k (by omega), Gf.gI_comm (bits .xor .u8 _ _) x, Gf.gI_xor _ _ _ hx.1 hx.2 h4.1 h4.2 h6.1 h6.2, Gf.gI_comm x (dotN la lc k)]
    congr 1
    rw [Gf.gI_assoc _ _ _ h1.1 h1.2 hx.1 hx.2 h3.1 h3.2, Gf.gI_comm x (lc[k]?.getD 0), ← Gf.gI_assoc _ _ _ h1.1 h1.2 h3.1 h3.2 hx.1 hx.2, Gf.gI_comm x]
theorem dotN_comm (la lb : List Int) (k : Nat) : dotN la lb k = dotN lb la k := by
  induction k with
  | zero => rfl
  | succ k ih => simp only [dotN]; rw [ih, Gf.gI_comm]
theorem dotN_take (la lb : List Int) (N k : Nat) (hk : k ≤ N) : dotN (la.take N) lb k = dotN la lb k := by
  induction k with
  | zero => rfl
  | succ k ih => simp only [dotN]; rw [ih (by omega), List.getElem?_take_of_lt (by omega)]


theorem SlAt.take {w : World} {a : Option Addr} {l : List Int} (h : SlAt w a l) (n : Nat) : SlAt w a (l.take n) := by
  rcases h with h | ⟨b, off, ha, hb, hl⟩
  · left; simp [h]
  · right
    refine ⟨b, off, ha, hb, fun i hi => ?_⟩
    have hi' : i < n ∧ i < l.length := by simp at hi; omega
    rw [List.getElem?_take_of_lt hi'.1]
    exact hl i hi'.2
theorem Byt.take {l : List Int} (h : Byt l) (n : Nat) : Byt (l.take n) := by
  intro i hi
  have hi' : i < n ∧ i < l.length := by simp at hi; omega
  rw [List.getElem?_take_of_lt hi'.1]
  exact h i hi'.2
theorem dotI_bd (la lb : List Int) : 0 ≤ dotI la lb ∧ dotI la lb < 256 := dotN_bd _ _ _
theorem info_u8 : (Tryz.prog.info? 5).map (fun i => (i.zero, i.size, i.bytes)) = some (some (.int .u8 0), 1, 1) := by kernel_rfl

theorem run_min4 {P : Program} (a b c N : Nat) (h : N = min (min (min a b) c) 200) (ts : Array TypeId) (t : TypeId) (w : World) :
    (Builtin.min_ ts t #[.int .i64 (a : Int), .int .i64 (b : Int), .int .i64 (c : Int), .int .i64 200]).run P w = .ok (.int .i64 (N : Int)) w := by
  have e : (if (200 : Int) < (if (c : Int) < (if (b : Int) < (a : Int) then (b : Int) else a) then (c : Int) else (if (b : Int) < (a : Int) then (b : Int) else a)) then (200 : Int) else (if (c : Int) < (if (b : Int) < (a : Int) then (b : Int) else a) then (c : Int) else (if (b : Int) < (a : Int) then (b : Int) else a))) = (N : Int) := by
    repeat' split
    all_goals omega
  rw [← e]
  simp [Builtin.min_, Builtin.min2]

theorem below_two (B : Nat) (w : World) (k : Nat) (o1 o2 : Obj) (h : B ≤ w.heap.size) : Below B w (((w.drewN k).alloc o1).alloc o2) := by
  have h0 : Below B w (w.drewN k) := ⟨rfl, rfl, rfl, Nat.le_refl _, fun _ _ => rfl⟩
  exact (h0.alloc h o1).alloc (by simp; omega) o2
theorem made_rows (w : World) (k n : Nat) (t : TypeId) (z : Value) (m : Nat) (hm : m = w.heap.size) :
    (((w.drewN k).alloc (.cells (madeCells #[z] n) t)).alloc (.cells (madeCells #[z] n) t)).rowIs m t n (fun _ => z) ∧
    (((w.drewN k).alloc (.cells (madeCells #[z] n) t)).alloc (.cells (madeCells #[z] n) t)).rowIs (m + 1) t n (fun _ => z) := by
  subst hm
  constructor
  · exact World.rowIs.alloc (World.rowIs_made (w.drewN k) z n t) _
  · have h := World.rowIs_made ((w.drewN k).alloc (.cells (madeCells #[z] n) t)) z n t
    have e : ((w.drewN k).alloc (.cells (madeCells #[z] n) t)).heap.size = w.heap.size + 1 := by simp
    rw [e] at h
    exact h
theorem below_drewN {B : Nat} {w w' : World} (h : Below B w w') (k : Nat) : Below B w (w'.drewN k) := ⟨h.os, h.tape, h.output, h.size, h.block⟩
theorem below_of_new {w wr : World} {o : Obj} (h : Below (w.heap.size + 1) (w.alloc o) wr) : Below w.heap.size w wr :=
  ((Below.refl _ w).alloc (Nat.le_refl _) o).trans (h.mono (by omega))
def fs (la lb : List Int) (k : Nat) : Nat → Value := fun j => .int .u8 (if j < k then bits .xor .u8 (la[j]?.getD 0) (lb[j]?.getD 0) else 0)
def ft (la : List Int) (x : Int) (k : Nat) : Nat → Value := fun j => .int .u8 (if j < k then gI (la[j]?.getD 0) x else 0)
theorem fs_step (la lb : List Int) (k N : Nat) (y z : Int) (Hy : Hid (y = la[k]?.getD 0)) (Hz : Hid (z = lb[k]?.getD 0)) (j : Nat) (_ : j < N) : (if j = k then Value.int .u8 (bits .xor .u8 y z) else fs la lb k j) = fs la lb (k + 1) j := by
  unfold fs
  by_cases e : j = k
  · subst e; rw [if_pos rfl, if_pos (by omega), ← Hy.out, ← Hz.out]
  · rw [if_neg e]
    by_cases h : j < k
    · rw [if_pos h, if_pos (by omega)]
    · rw [if_neg h, if_neg (by omega)]
theorem ft_step (la : List Int) (x : Int) (k N : Nat) (y : Int) (Hy : Hid (y = la[k]?.getD 0)) (j : Nat) (_ : j < N) : (if j = k then Value.int .u8 (gI y x) else ft la x k j) = ft la x (k + 1) j := by
  unfold ft
  by_cases e : j = k
  · subst e; rw [if_pos rfl, if_pos (by omega), ← Hy.out]
  · rw [if_neg e]
    by_cases h : j < k
    · rw [if_pos h, if_pos (by omega)]
    · rw [if_neg h, if_neg (by omega)]



end Go.Proofs.YtoimbjbdkkohcaaGreatDoor

/-
  The walks of the calls of poly that only read: Degree, trimmed, Eval; and the document's own: At, Degree, Same, Product, Eval.
-/
namespace Go.Proofs.YtoimbjbdkkohcaaGreatDoor
open Go.RowKit
open Gf (eI lI gI dI pI)

/-- how long a list's first n elements are without noughts at the end -/
def tN (l : List Int) : Nat → Nat
  | 0 => 0
  | n + 1 => if l[n]?.getD 0 = 0 then tN l n else n + 1
/-- how long a list is without noughts at the end: its degree and one -/
def tl (l : List Int) : Nat := tN l l.length
theorem tN_le (l : List Int) (n : Nat) : tN l n ≤ n := by
  induction n with
  | zero => simp [tN]
  | succ n ih => simp only [tN]; split <;> omega
theorem tN_top (l : List Int) (n : Nat) (h : 0 < tN l n) : l[tN l n - 1]?.getD 0 ≠ 0 := by
  induction n with
  | zero => simp [tN] at h
  | succ n ih =>
    by_cases e : l[n]?.getD 0 = 0
    · have : tN l (n + 1) = tN l n := by simp [tN, e]
      rw [this] at h ⊢; exact ih h
    · have : tN l (n + 1) = n + 1 := by simp [tN, e]
      rw [this]; simpa using e
theorem tN_past (l : List Int) (n i : Nat) (h : tN l n ≤ i) (hi : i < n) : l[i]?.getD 0 = 0 := by
  induction n with
  | zero => omega
  | succ n ih =>
    by_cases e : l[n]?.getD 0 = 0
    · have : tN l (n + 1) = tN l n := by simp [tN, e]
      rw [this] at h
      by_cases e2 : i = n
      · subst e2; exact e
      · exact ih h (by omega)
    · have : tN l (n + 1) = n + 1 := by simp [tN, e]
      omega
theorem tl_le (l : List Int) : tl l ≤ l.length := tN_le l _
theorem tl_top (l : List Int) (h : 0 < tl l) : l[tl l - 1]?.getD 0 ≠ 0 := tN_top l _ h
theorem tl_past (l : List Int) (i : Nat) (h : tl l ≤ i) : l[i]?.getD 0 = 0 := by
  by_cases hi : i < l.length
  · exact tN_past l _ i h hi
  · rw [List.getElem?_eq_none (by omega)]; rfl
theorem tl_unique (l : List Int) (n : Nat) (h1 : 0 < n → l[n - 1]?.getD 0 ≠ 0) (h2 : ∀ i, n ≤ i → l[i]?.getD 0 = 0) : tl l = n := by
  by_cases ha : tl l < n
  · exact absurd (tl_past l (n - 1) (by omega)) (h1 (by omega))
  · by_cases hb : n < tl l
    · exact absurd (h2 (tl l - 1) (by omega)) (tl_top l (by omega))
    · omega

set_option maxHeartbeats 400000 in
theorem degree_any (a : Option Addr) (c : Nat) (l : List Int) (w : World) (sa : SlAt w a l) (ba : Byt l) (ma : l.length ≤ maxLen) :
    Calls Tryz.prog 88 #[.slice a l.length c] w fun e w' => e = .returned (.int .i64 ((tl l : Int) - 1)) ∧ w' = w := by
  unfold maxLen at ma
  go_enter Tryz.func88, Tryz.ntmps88
  go_wp2
  go_loop [3] (fun i => ∃ k : Nat, k ≤ l.length ∧ i = .int .i64 ((k : Int) - 1) ∧ Hid (tl l = tN l k)) (fun i => (intOf i + 1).toNat)
  case atStart => exact ⟨l.length, by omega, rfl, rfl⟩
  case round =>
    obtain ⟨k, hk, rfl, Hk⟩ := hrel
    cases k with
    | zero =>
      go_wp2
      go_ret
      refine ⟨ret_int ?_, rfl⟩
      rw [Hk.out]; rfl
    | succ k =>
      obtain ⟨x, h1, Hx⟩ : ∃ x, (0 ≤ x ∧ x < 256) ∧ Hid (x = l[k]?.getD 0) := ⟨_, ba k (by omega), rfl⟩
      rcases sa with sa | ⟨b1, o1, rfl, hb1, hc1⟩
      · rw [sa] at hk; simp at hk
      have c1 : w.cell? ⟨b1, o1 + k, none⟩ = some (.int .u8 x) := by rw [Hx.out]; exact hc1 k (by omega)
      clear hc1
      have e1 : (((k + 1 : Nat) : Int) - 1) = (k : Int) := by omega
      rw [e1]
      by_cases hz : x = 0
      · have hz' : (x != 0) = false := by simp [hz]
        have HZ : Hid (x = 0) := hz
        clear hz
        go_wp2
        go_round
        case rel => exact ⟨k, by omega, by go_num, by show _ = _; rw [Hk.out]; simp only [tN]; rw [← Hx.out, if_pos HZ.out]⟩
        case measure => simp [intOf]
      · have hz' : (x != 0) = true := by simp [hz]
        go_wp2
        go_ret
        refine ⟨ret_int ?_, rfl⟩
        rw [Hk.out]
        simp only [tN]
        rw [← Hx.out, if_neg hz]; omega

theorem trimmed_any (a : Option Addr) (c : Nat) (l : List Int) (w : World) (sa : SlAt w a l) (ba : Byt l) (ma : l.length ≤ maxLen) (hc : l.length ≤ c) :
    Calls Tryz.prog 93 #[.slice a l.length c] w fun e w' => e = .returned (.slice a (tl l) c) ∧ w' = w := by
  have ht := tl_le l
  have ma' := ma
  unfold maxLen at ma'
  go_enter Tryz.func93, Tryz.ntmps93
  go_wp2_with (go_at_call 88; refine (degree_any a c l _ sa ba ma).mono ?_; rintro e w' ⟨rfl, rfl⟩)
  go_ret
  exact ⟨rfl, rfl⟩




end Go.Proofs.YtoimbjbdkkohcaaGreatDoor

/-
  The walks of Eval and of the document's Product and Eval: values as elements.
-/
namespace Go.Proofs.YtoimbjbdkkohcaaGreatDoor
open Go.RowKit
open Gf (eI lI gI dI pI)
open Po (toE cf mu S pwr ev cv Low)

/-- an element as the program's byte -/
def ofE (e : Po.El) : Int := ((e.toNat : Nat) : Int)
theorem ofE_bd (e : Po.El) : 0 ≤ ofE e ∧ ofE e < 256 := by
  have := e.isLt; unfold ofE; omega
theorem toE_ofE (e : Po.El) : toE (ofE e) = e := Po.el_ext (Po.toE_nat _ (by have := e.isLt; omega))
theorem ofE_toE (a : Int) (h0 : 0 ≤ a) (h1 : a < 256) : ofE (toE a) = a := Po.toE_toNat a h0 h1
theorem ofE_inj {a b : Po.El} (h : ofE a = ofE b) : a = b := by rw [← toE_ofE a, ← toE_ofE b, h]
theorem gI_ofE (a b : Po.El) : gI (ofE a) (ofE b) = ofE (mu a b) := by
  have h1 := ofE_bd a
  have h2 := ofE_bd b
  have h3 := Gf.gI_bd (ofE a) (ofE b)
  rw [← ofE_toE _ h3.1 h3.2, Po.toE_gI _ _ h1.1 h1.2 h2.1 h2.2, toE_ofE, toE_ofE]
theorem xor_ofE (a b : Po.El) : bits .xor .u8 (ofE a) (ofE b) = ofE (a ^^^ b) := by
  have h1 := ofE_bd a
  have h2 := ofE_bd b
  have h3 := Gf.xor8_bd _ _ h1.1 h1.2 h2.1 h2.2
  rw [← ofE_toE _ h3.1 h3.2, Po.toE_xor _ _ h1.1 h1.2 h2.1 h2.2, toE_ofE, toE_ofE]
theorem ofE_cf (l : List Int) (hb : Byt l) (i : Nat) : ofE (cf l i) = l[i]?.getD 0 := by
  by_cases h : i < l.length
  · exact ofE_toE _ (hb i h).1 (hb i h).2
  · unfold cf; rw [List.getElem?_eq_none (by omega)]; rfl
theorem ofE_zero : ofE 0 = 0 := rfl
theorem ofE_eq_zero (e : Po.El) : ofE e = 0 ↔ e = 0 := ⟨fun h => ofE_inj (h.trans ofE_zero.symm), fun h => by rw [h]; rfl⟩



/-- what the value is, when all from k on was taken in -/
def hor (l : List Int) (X : Po.El) (k : Nat) : Po.El := S (l.length - k) (fun i => mu (cf l (k + i)) (pwr X i))
theorem hor_end (l : List Int) (X : Po.El) : hor l X l.length = 0 := by unfold hor; rw [Nat.sub_self]; rfl
theorem hor_zero (l : List Int) (X : Po.El) : hor l X 0 = ev l.length (cf l) X := by
  unfold hor ev; simp
theorem hor_step (l : List Int) (X : Po.El) (k : Nat) (h : k < l.length) : mu (hor l X (k + 1)) X ^^^ cf l k = hor l X k := by
  unfold hor
  obtain ⟨m, hm⟩ : ∃ m, l.length - k = m + 1 := ⟨l.length - k - 1, by omega⟩
  rw [hm, Po.S_first, show l.length - (k + 1) = m from by omega, Po.S_mu, BitVec.xor_comm]
  congr 1
  · show _ = mu (cf l k) 1; rw [Po.mu_one]
  · refine Po.S_congr _ _ _ (fun i _ => ?_)
    rw [Po.mu_assoc, show k + 1 + i = k + (i + 1) from by omega]; rfl

set_option maxRecDepth 100000 in
set_option maxHeartbeats 400000 in
theorem eval_any (b : Nat) (a : Option Addr) (c n : Nat) (l : List Int) (x : Int) (w : World) (hf : FldAt w b) (sa : SlAt w a l) (ba : Byt l) (ma : n ≤ maxLen) (en : l.length = n) (hx : 0 ≤ x ∧ x < 256) :
    Calls Tryz.prog 96 #[.pointer (some ⟨b, 0, none⟩), .slice a n c, .int .u8 x] w fun e w' => e = .returned (.int .u8 (ofE (ev l.length (cf l) (toE x)))) ∧ ∃ k, w' = w.drewN k := by
  subst en
  unfold maxLen at ma
  go_enter Tryz.func96, Tryz.ntmps96
  go_wp2
  go_loopw [7, 8] (fun v i wr => ∃ k : Nat, k ≤ l.length ∧ i = .int .i64 ((k : Int) - 1) ∧ v = .int .u8 (ofE (hor l (toE x) k)) ∧ Hid (∃ q, wr = w.drewN q)) (fun _ i _ => (intOf i + 1).toNat)
  case atStart => exact ⟨l.length, by omega, rfl, by rw [hor_end]; rfl, ⟨0, rfl⟩⟩
  case round =>
    obtain ⟨k, hk, rfl, rfl, HQ⟩ := hrel
    cases k with
    | zero =>
      go_wp2
      go_ret
      exact ⟨ret_int (by rw [hor_zero]), HQ.out⟩
    | succ k =>
      obtain ⟨y, h1, Hy⟩ : ∃ y, (0 ≤ y ∧ y < 256) ∧ Hid (y = l[k]?.getD 0) := ⟨_, ba k (by omega), rfl⟩
      obtain ⟨v, h2, Hv⟩ : ∃ v, (0 ≤ v ∧ v < 256) ∧ Hid (ofE (hor l (toE x) (k + 1)) = v) := ⟨_, ofE_bd _, rfl⟩
      rcases sa with sa | ⟨b1, o1, rfl, hb1, hc1⟩
      · rw [sa] at hk; simp at hk
      have c1 : wr.cell? ⟨b1, o1 + k, none⟩ = some (.int .u8 y) := by rw [Hy.out]; obtain ⟨q, e⟩ := HQ.out; rw [e]; exact hc1 k (by omega)
      have hfr : FldAt wr b := by obtain ⟨q, e⟩ := HQ.out; rw [e]; exact hf.drewN q
      clear hc1
      have e1 : (((k + 1 : Nat) : Int) - 1) = (k : Int) := by omega
      rw [e1, Hv.out]
      clear e1
      go_wp2
      go_quiet ((go_at_call 92; exact Calls.quiet_of (mul_any _ _ _ (by omega) (by omega) (by omega) (by omega) _ (by exact hfr.of (fun _ => rfl)))))
      go_wp2
      go_roundw
      case rel =>
        refine ⟨k, by omega, by go_num, ?_, by obtain ⟨q, e⟩ := HQ.out; rw [e]; exact ⟨_, World.drewN_drewN _ _ _⟩⟩
        rw [← Hv.out, ← ofE_toE x hx.1 hx.2, gI_ofE, Hy.out, ← ofE_cf l ba k, xor_ofE, ofE_toE x hx.1 hx.2, hor_step l (toE x) k (by omega)]
      case measure => simp [intOf]


/-- the first k products of the coefficient at n -/
def prN (p q : List Int) (n k : Nat) : Po.El := S k (fun i => mu (cf p i) (cf q (n - i)))
theorem prN_end (p q : List Int) (n k : Nat) (h1 : k ≤ n + 1) (h : k = n + 1 ∨ p.length ≤ k) : prN p q n k = cv (cf p) (cf q) n := by
  rcases h with rfl | h
  · rfl
  · exact (Po.S_more k (n + 1) _ (fun i hi => by show mu (cf p i) _ = 0; rw [Po.cf_low p i (by omega), Po.zero_mu]) h1).symm


end Go.Proofs.YtoimbjbdkkohcaaGreatDoor
