/-
  What is told of raw bytes that are unlike a line's in some words, of another address, or poisoned.
-/
import Derived.Test.YtdjknaafefnlcaaDoorCoM4
import Derived.Test.YtdjknaafefnlcaaDoorRwW4
namespace Go.Proofs.YtdjknaafefnlcaaDoor
open Go.RowKit Go.Shelf
open Bm (wt wtK)
open Po (El toE)
open Ln (val wrd)
open Rm (IsCode supp sy)

/-- a mode, its chips, its words -/
def Mw (m : Int) (n k : Nat) : Prop := (m = 1 ∧ n = 9 ∧ k = 8) ∨ (m = 2 ∧ n = 36 ∧ k = 2)
theorem mw_any (m : Int) (h : m = 1 ∨ m = 2) : ∃ n k, Mw m n k := by
  rcases h with rfl | rfl
  · exact ⟨9, 8, .inl ⟨rfl, rfl, rfl⟩⟩
  · exact ⟨36, 2, .inr ⟨rfl, rfl, rfl⟩⟩
theorem Mw.md {m : Int} {n k : Nat} (h : Mw m n k) : Md m (n : Int) (k : Int) := by
  rcases h with ⟨rfl, rfl, rfl⟩ | ⟨rfl, rfl, rfl⟩
  · exact .bits
  · exact .chips
theorem Mw.pos {m : Int} {n k : Nat} (h : Mw m n k) : 0 < n ∧ 0 < k ∧ n * k = 72 := by
  rcases h with ⟨rfl, rfl, rfl⟩ | ⟨rfl, rfl, rfl⟩ <;> omega
/-- a word's verdict; are its data the line's? -/
def vm (m : Int) (R : Nat → Int) (jx : Int) (w : Nat) : Int := if m = 1 then vB R (par jx) w else vC R (vir jx false) w
def Rightly (m : Int) (R : Nat → Int) (jx : Int) (F : Nat → Int) (w : Nat) : Prop := if m = 1 then fB R (par jx) w = wrd F w else ∀ i, i < 32 → lC R (vir jx false) (32 * w + i) = F (32 * w + i)
/-- how many of the address and the poison are unlike -/
def un (m ix : Int) (p : Bool) (jx : Int) : Nat := if m = 1 then (if par ix = par jx then 0 else 1) + (bt p).toNat else (if vir ix p 0 ^^^ vir jx false 0 = 0 then 0 else 1) + (if vir ix p 1 ^^^ vir jx false 1 = 0 then 0 else 1) + (if vir ix p 2 ^^^ vir jx false 2 = 0 then 0 else 1)
theorem kB_of {s : Nat} : (Hm.kd s = 0 → kB s = 0) ∧ (Hm.kd s = 1 → kB s = 1) ∧ (Hm.kd s = 2 → kB s = 2) ∧ (Hm.kd s = 3 → kB s = 3) ∧ (Hm.kd s = 4 → kB s = 3) := by
  unfold kB
  refine ⟨fun h => by rw [h]; rfl, fun h => by rw [h]; rfl, fun h => by rw [h]; rfl, fun h => by rw [h]; rfl, fun h => by rw [h]; rfl⟩
theorem bt_bd (p : Bool) : bt p = 0 ∨ bt p = 1 := by cases p <;> simp [bt]
theorem tellB {F own R : Nat → Int} {ix jx : Int} {p : Bool} (hF : Byts 64 F) (hE : Co.Enc1 F (par ix) (bt p) own) (hR : Byts 72 R) (w : Nat) (hw : w < 8) :
    (Rw.sm 1 own R (9 * w) 9 + un 1 ix p jx = 0 → vm 1 R jx w = 0 ∧ Rightly 1 R jx F w) ∧
    (Rw.sm 1 own R (9 * w) 9 + un 1 ix p jx = 1 → (un 1 ix p jx = 0 → vm 1 R jx w = 1 ∧ Rightly 1 R jx F w) ∧ (un 1 ix p jx ≠ 0 → 2 ≤ vm 1 R jx w)) ∧
    (Rw.sm 1 own R (9 * w) 9 + un 1 ix p jx = 2 → vm 1 R jx w = 3) := by
  have hO := hE.byt hF
  have hd := hE.dw w hw
  have hc := hE.cw w hw
  have h1 := Co.dw_lt hO w hw
  have h2 := Co.dw_lt hR w hw
  have h3 := Co.cw_lt hR w hw
  have hs := Co.sm_word hO hR w hw
  obtain ⟨da, hda⟩ : ∃ da : Nat, da = if par ix = par jx then 0 else 1 := ⟨_, rfl⟩
  have hda2 : da < 2 := by rw [hda]; split <;> decide
  have hu : un 1 ix p jx = da + (bt p).toNat := by unfold un; rw [if_pos rfl, hda]
  obtain ⟨t, ht⟩ : ∃ t, t = wt (Co.dw own w ^^^ Co.dw R w) + wt (Co.cw own w ^^^ Co.cw R w) + da + (bt p).toNat := ⟨_, rfl⟩
  have W1 := Co.word1 (par_bd ix) (par_bd jx) (bt_bd p) h1 h2 h3 (by rw [hc, hd]) da hda t ht
  have hv : vm 1 R jx w = kB (Co.sB R (par jx) w) := by unfold vm; rw [if_pos rfl]; rfl
  have hr : Rightly 1 R jx F w ↔ fx (Co.dw R w) (Co.sB R (par jx) w) = Co.dw own w := by unfold Rightly; rw [if_pos rfl, hd]; exact Iff.rfl
  have hsB : Hm.syn (Co.dw R w) (Co.cw R w) (par jx) 0 = Co.sB R (par jx) w := rfl
  rw [hsB] at W1
  obtain ⟨s, hsx⟩ : ∃ s, Co.sB R (par jx) w = s := ⟨_, rfl⟩
  rw [hsx] at W1 hv hr
  obtain ⟨k0, k1, k2, k3, k4⟩ := @kB_of s
  obtain ⟨a0, a1, a2⟩ := W1
  rw [hs, hu, hv, hr]
  have hp := bt_bd p
  clear hs hu hv hr hsx hsB hd hc h1 h2 h3 hda hO hE hF hR
  obtain ⟨z, hz⟩ : ∃ z, wt (Co.dw own w ^^^ Co.dw R w) + wt (Co.cw own w ^^^ Co.cw R w) = z := ⟨_, rfl⟩
  rw [hz] at ht ⊢
  clear hz
  refine ⟨fun h => ?_, fun h => ⟨fun h0 => ?_, fun h0 => ?_⟩, fun h => ?_⟩
  · obtain ⟨x, y⟩ := a0 (by omega)
    exact ⟨k0 x, y⟩
  · obtain ⟨x, y⟩ := (a1 (by omega)).1 (by omega) (by omega)
    exact ⟨k1 x, y⟩
  · obtain ⟨_, b1, b2⟩ := a1 (by omega)
    by_cases hd1 : da = 1
    · rw [k3 (b1 hd1)]; decide
    · rw [k2 (b2 (by omega))]; decide
  · exact k4 (a2 (by omega))
theorem tellC {F own R : Nat → Int} {ix jx : Int} {p : Bool} (hE : Co.Enc2 F (vir ix p) own) (hR : Byts 72 R) (w : Nat) (hw : w < 2) :
    (Rw.sm 2 own R (36 * w) 36 + un 2 ix p jx = 0 → vm 2 R jx w = 0 ∧ Rightly 2 R jx F w) ∧
    (Rw.sm 2 own R (36 * w) 36 + un 2 ix p jx = 1 → (un 2 ix p jx = 0 → vm 2 R jx w = 1 ∧ Rightly 2 R jx F w) ∧ (un 2 ix p jx ≠ 0 → 2 ≤ vm 2 R jx w)) ∧
    (2 ≤ Rw.sm 2 own R (36 * w) 36 + un 2 ix p jx → Rw.sm 2 own R (36 * w) 36 + un 2 ix p jx ≤ 3 → vm 2 R jx w = 3) := by
  have hl := Co.er_len hE.b hR w hw (vir ix p) (vir jx false)
  have hu : un 2 ix p jx = (if vir ix p 0 ^^^ vir jx false 0 = 0 then 0 else 1) + (if vir ix p 1 ^^^ vir jx false 1 = 0 then 0 else 1) + (if vir ix p 2 ^^^ vir jx false 2 = 0 then 0 else 1) := by unfold un; rw [if_neg (by decide)]
  have hle : (supp 39 (Co.er (Co.rw own w) (Co.rw R w) (vir ix p) (vir jx false))).length = Rw.sm 2 own R (36 * w) 36 + un 2 ix p jx := by rw [hl, hu]; omega
  obtain ⟨a0, a1, a2⟩ := Co.word2 (Y := Co.rw R w) (H := vir jx false) (hE.c w hw)
  rw [hle] at a0 a1 a2
  have hv : vm 2 R jx w = Co.kC (sy (wd (Co.rw R w) (vir jx false))) := by unfold vm; rw [if_neg (by decide)]; rfl
  have hr : (∀ i, i < 36 → mnd (Co.rw R w) (sy (wd (Co.rw R w) (vir jx false))) i = Co.rw own w i) → Rightly 2 R jx F w := fun h => by
    unfold Rightly
    rw [if_neg (by decide)]
    intro i hi
    rw [lC_at R _ w i hi]
    have e := h (4 + i) (by omega)
    unfold Co.sC
    rw [e, ← hE.d w hw i hi]
    have hb := hE.b (36 * w + (4 + i)) (by omega)
    exact ofE_toE _ hb.1 hb.2
  rw [hv]
  refine ⟨fun h => ?_, fun h => ⟨fun h0 => ?_, fun h0 => ?_⟩, a2⟩
  · exact ⟨(a0 h).1, hr (a0 h).2⟩
  · have hGH : ∀ i, i < 3 → vir ix p i = vir jx false i := fun i hi => by
      rw [hu] at h0
      refine Po.xor_eq_zero ?_
      rcases (show i = 0 ∨ i = 1 ∨ i = 2 by omega) with rfl | rfl | rfl
      · by_cases e : vir ix p 0 ^^^ vir jx false 0 = 0
        · exact e
        · rw [if_neg e] at h0; omega
      · by_cases e : vir ix p 1 ^^^ vir jx false 1 = 0
        · exact e
        · rw [if_neg e] at h0; omega
      · by_cases e : vir ix p 2 ^^^ vir jx false 2 = 0
        · exact e
        · rw [if_neg e] at h0; omega
    obtain ⟨x, y⟩ := (a1 h).1 hGH
    exact ⟨x, hr y⟩
  · have hGH : ∃ i, i < 3 ∧ vir ix p i ≠ vir jx false i := by
      by_cases e0 : vir ix p 0 = vir jx false 0
      · by_cases e1 : vir ix p 1 = vir jx false 1
        · by_cases e2 : vir ix p 2 = vir jx false 2
          · exfalso
            apply h0
            rw [hu, e0, e1, e2, Po.xor_self', Po.xor_self', Po.xor_self']
            rfl
          · exact ⟨2, by omega, e2⟩
        · exact ⟨1, by omega, e1⟩
      · exact ⟨0, by omega, e0⟩
    rcases ((a1 h).2 hGH).1 with e | e <;> rw [e] <;> decide
theorem tell {m : Int} {n k : Nat} (hm : Mw m n k) {F own R : Nat → Int} {ix jx : Int} {p : Bool} (hF : Byts 64 F) (hE : Enc m F ix p own) (hR : Byts 72 R) (w : Nat) (hw : w < k) :
    (Rw.sm m own R (n * w) n + un m ix p jx = 0 → vm m R jx w = 0 ∧ Rightly m R jx F w) ∧
    (Rw.sm m own R (n * w) n + un m ix p jx = 1 → (un m ix p jx = 0 → vm m R jx w = 1 ∧ Rightly m R jx F w) ∧ (un m ix p jx ≠ 0 → 2 ≤ vm m R jx w)) ∧
    (Rw.sm m own R (n * w) n + un m ix p jx = 2 ∨ (m = 2 ∧ Rw.sm m own R (n * w) n + un m ix p jx = 3) → vm m R jx w = 3) := by
  rcases hm with ⟨rfl, rfl, rfl⟩ | ⟨rfl, rfl, rfl⟩
  · rcases hE.2 with ⟨_, h⟩ | ⟨h, _⟩ | ⟨h, _⟩
    · obtain ⟨a, b, c⟩ := tellB (jx := jx) hF h hR w hw
      exact ⟨a, b, fun e => c (by omega)⟩
    · omega
    · exact absurd rfl h
  · rcases hE.2 with ⟨h, _⟩ | ⟨_, h⟩ | ⟨_, h, _⟩
    · omega
    · obtain ⟨a, b, c⟩ := tellC (jx := jx) h hR w hw
      exact ⟨a, b, fun e => c (by omega) (by omega)⟩
    · exact absurd rfl h
theorem dk_top {m : Int} {n k : Nat} (hm : Mw m n k) (R : Nat → Int) (jx : Int) : Dk m R jx = top (vm m R jx) k ∧ Df m R jx = (if top (vm m R jx) k = 1 then (cnt (vm m R jx) k : Int) else 0) := by
  rcases hm with ⟨rfl, rfl, rfl⟩ | ⟨rfl, rfl, rfl⟩
  · have e : vm 1 R jx = vB R (par jx) := by funext w; unfold vm; rw [if_pos rfl]
    rw [e]
    unfold Dk Df
    rw [if_pos rfl, if_pos rfl]; exact ⟨rfl, rfl⟩
  · have e : vm 2 R jx = vC R (vir jx false) := by funext w; unfold vm; rw [if_neg (by decide)]
    rw [e]
    refine ⟨?_, ?_⟩
    · unfold Dk
      rw [if_neg (show ¬ (2 : Int) = 1 by decide), if_pos rfl]
    · unfold Df
      rw [if_neg (show ¬ (2 : Int) = 1 by decide), if_pos (rfl : (2 : Int) = 2)]
theorem vm_bd (m : Int) (R : Nat → Int) (jx : Int) (w : Nat) : 0 ≤ vm m R jx w ∧ vm m R jx w ≤ 3 := by
  unfold vm
  split
  · exact kB_bd _
  · exact kC_bd _
theorem top_ge (K : Nat → Int) (k w : Nat) (h : w < k) : K w ≤ top K k := by
  induction k with
  | zero => omega
  | succ k ih =>
    rw [top]
    by_cases e : w = k
    · subst e; omega
    · have := ih (by omega); omega
theorem top_le (K : Nat → Int) (k : Nat) (c : Int) (hc : 0 ≤ c) (h : ∀ w, w < k → K w ≤ c) : top K k ≤ c := by
  induction k with
  | zero => exact hc
  | succ k ih =>
    have h1 := ih fun w hw => h w (by omega)
    have h2 := h k (by omega)
    rw [top]; omega
/-- a word that is Lost, or Poisoned: so is the line -/
theorem line_dead {m : Int} {n k : Nat} (hm : Mw m n k) (R : Nat → Int) (jx : Int) (w : Nat) (hw : w < k) (h : 2 ≤ vm m R jx w) : 2 ≤ Dk m R jx ∧ Dk m R jx ≤ 3 ∧ (vm m R jx w = 3 → Dk m R jx = 3) ∧ ∀ i, Dl m R jx i = 0 := by
  have h1 := top_ge (vm m R jx) k w hw
  have h2 := top_le (vm m R jx) k 3 (by decide) fun w _ => (vm_bd m R jx w).2
  have hk := (dk_top hm R jx).1
  refine ⟨by omega, by omega, fun h => by omega, fun i => ?_⟩
  have hd : Dk m R jx = 3 ∨ Dk m R jx = 2 := by omega
  rcases hm with ⟨rfl, rfl, rfl⟩ | ⟨rfl, rfl, rfl⟩
  · unfold Dk at hd
    rw [if_pos rfl] at hd
    unfold Dl
    rw [if_pos rfl, tln_dead _ _ hd]
  · unfold Dk at hd
    rw [if_neg (by decide), if_pos rfl] at hd
    unfold Dl
    rw [if_neg (by decide), if_pos rfl, tln_dead _ _ hd]
/-- all words are told rightly: so is the line -/
theorem line_right {m : Int} {n k : Nat} (hm : Mw m n k) {F : Nat → Int} (hF : Byts 64 F) (R : Nat → Int) (jx : Int) (h : ∀ w, w < k → vm m R jx w ≤ 1 ∧ Rightly m R jx F w) : ∀ i, i < 64 → Dl m R jx i = F i := by
  have h2 := top_le (vm m R jx) k 1 (by decide) fun w hw => (h w hw).1
  have hk := (dk_top hm R jx).1
  have hd : ¬ (Dk m R jx = 3 ∨ Dk m R jx = 2) := by omega
  intro i hi
  rcases hm with ⟨rfl, rfl, rfl⟩ | ⟨rfl, rfl, rfl⟩
  · unfold Dk at hd
    rw [if_pos rfl] at hd
    unfold Dl
    rw [if_pos rfl, tln_live _ _ hd]
    have e := (h (i / 8) (by omega)).2
    unfold Rightly at e
    rw [if_pos rfl] at e
    have := wby_wrd F hF i hi
    unfold wby at this ⊢
    rw [e]; exact this
  · unfold Dk at hd
    rw [if_neg (by decide), if_pos rfl] at hd
    unfold Dl
    rw [if_neg (by decide), if_pos rfl, tln_live _ _ hd]
    have e := (h (i / 32) (by omega)).2
    unfold Rightly at e
    rw [if_neg (by decide)] at e
    have := e (i % 32) (by omega)
    rwa [show 32 * (i / 32) + i % 32 = i by omega] at this
/-- some word is as unlike as the most unlike -/
theorem mx_att (m : Int) (F G : Nat → Int) (n k : Nat) : Rw.mx m F G n k = 0 ∨ ∃ w, w < k ∧ Rw.sm m F G (n * w) n = Rw.mx m F G n k := by
  induction k with
  | zero => exact .inl rfl
  | succ k ih =>
    rw [Rw.mx]
    rcases Nat.le_total (Rw.mx m F G n k) (Rw.sm m F G (n * k) n) with h | h
    · rw [Nat.max_eq_right h]
      exact .inr ⟨k, by omega, rfl⟩
    · rw [Nat.max_eq_left h]
      rcases ih with ih | ⟨w, hw, e⟩
      · exact .inl ih
      · exact .inr ⟨w, by omega, e⟩
theorem cnt_pos (K : Nat → Int) (k w : Nat) (hw : w < k) (h : K w = 1) : 0 < cnt K k := by
  induction k with
  | zero => omega
  | succ k ih =>
    rw [cnt]
    by_cases e : w = k
    · subst e; rw [if_pos h]; omega
    · have := ih (by omega); omega
/-- what exposes by 1 at most is mended -/
theorem corrects {m : Int} {n k : Nat} (hm : Mw m n k) {F own R : Nat → Int} {ix : Int} (hF : Byts 64 F) (hE : Enc m F ix false own) (hR : Byts 72 R) (hx : Rw.mx m own R n k ≤ 1) (hu : un m ix false ix = 0) :
    (∀ i, i < 64 → Dl m R ix i = F i) ∧ Dk m R ix = (Rw.mx m own R n k : Int) ∧ ((0 < Df m R ix) ↔ Rw.mx m own R n k = 1) := by
  have hw : ∀ w, w < k → vm m R ix w = (Rw.sm m own R (n * w) n : Int) ∧ vm m R ix w ≤ 1 ∧ Rightly m R ix F w := fun w hwk => by
    obtain ⟨a, b, _⟩ := tell (jx := ix) hm hF hE hR w hwk
    have hs := Rw.mx_ge m own R n k w hwk
    rw [hu] at a b
    rcases (show Rw.sm m own R (n * w) n = 0 ∨ Rw.sm m own R (n * w) n = 1 by omega) with e | e
    · obtain ⟨x, y⟩ := a (by omega)
      exact ⟨by rw [x, e]; rfl, by rw [x]; decide, y⟩
    · obtain ⟨x, y⟩ := (b (by omega)).1 rfl
      exact ⟨by rw [x, e]; rfl, by rw [x]; decide, y⟩
  have hd := dk_top hm R ix
  have htop : ∀ j, j ≤ k → top (vm m R ix) j = (Rw.mx m own R n j : Int) := by
    intro j
    induction j with
    | zero => intro _; rfl
    | succ j ih =>
      intro hj
      rw [top, Rw.mx, ih (by omega), (hw j (by omega)).1]
      omega
  rw [htop k (Nat.le_refl _)] at hd
  refine ⟨line_right hm hF R ix fun w hwk => (hw w hwk).2, hd.1, ?_⟩
  rw [hd.2]
  constructor
  · intro h
    by_cases e : (Rw.mx m own R n k : Int) = 1
    · omega
    · rw [if_neg e] at h; omega
  · intro h
    rw [if_pos (by omega)]
    rcases mx_att m own R n k with e | ⟨w, hwk, e⟩
    · omega
    · have := cnt_pos (vm m R ix) k w hwk (by rw [(hw w hwk).1, e, h]; rfl)
      omega
theorem un_same (m ix : Int) : un m ix false ix = 0 := by
  unfold un
  split
  · rw [if_pos rfl]; rfl
  · rw [Po.xor_self', Po.xor_self', Po.xor_self']; rfl
theorem un_poison (m ix : Int) : un m ix true ix = 1 := by
  unfold un
  split
  · rw [if_pos rfl]; rfl
  · have e0 : vir ix true 0 = vir ix false 0 := rfl
    have e1 : vir ix true 1 = vir ix false 1 := rfl
    have e2 : vir ix true 2 ≠ vir ix false 2 := fun e => by
      have := congrArg oe e
      rw [oe_vir, oe_vir] at this
      unfold vb at this
      simp at this
      omega
    rw [e0, e1, Po.xor_self', Po.xor_self', if_neg (fun e => e2 (Po.xor_eq_zero e))]; rfl
/-- what exposes by two, or three, is never told as right; nor what was poisoned -/
theorem detects {m : Int} {n k : Nat} (hm : Mw m n k) {F own R : Nat → Int} {ix : Int} {p : Bool} (hF : Byts 64 F) (hE : Enc m F ix p own) (hR : Byts 72 R)
    (hx : (p = false ∧ 2 ≤ Rw.mx m own R n k ∧ (Rw.mx m own R n k : Int) ≤ 1 + m) ∨ (p = true ∧ (Rw.mx m own R n k : Int) ≤ m)) : 2 ≤ Dk m R ix ∧ (p = false → Dk m R ix = 3) ∧ ∀ i, Dl m R ix i = 0 := by
  have hm12 : m = 1 ∨ m = 2 := by rcases hm with ⟨h, _⟩ | ⟨h, _⟩ <;> omega
  rcases hx with ⟨rfl, h2, h3⟩ | ⟨rfl, h3⟩
  · rcases mx_att m own R n k with e | ⟨w, hwk, e⟩
    · omega
    · obtain ⟨_, _, c⟩ := tell (jx := ix) hm hF hE hR w hwk
      rw [un_same, e] at c
      have hv := c (by omega)
      obtain ⟨x, _, z, y⟩ := line_dead hm R ix w hwk (by omega)
      exact ⟨x, fun _ => z hv, y⟩
  · have hk := hm.pos.2.1
    obtain ⟨_, b, c⟩ := tell (jx := ix) hm hF hE hR 0 hk
    have hs := Rw.mx_ge m own R n k 0 hk
    rw [un_poison] at b c
    have hv : 2 ≤ vm m R ix 0 := by
      rcases (show Rw.sm m own R (n * 0) n = 0 ∨ Rw.sm m own R (n * 0) n = 1 ∨ (m = 2 ∧ Rw.sm m own R (n * 0) n = 2) by omega) with e | e | ⟨e1, e⟩
      · exact (b (by omega)).2 (by decide)
      · rw [c (by omega)]; decide
      · rw [c (by omega)]; decide
    obtain ⟨x, _, _, y⟩ := line_dead hm R ix 0 hk hv
    exact ⟨x, (fun e => by cases e), y⟩
end Go.Proofs.YtdjknaafefnlcaaDoor
