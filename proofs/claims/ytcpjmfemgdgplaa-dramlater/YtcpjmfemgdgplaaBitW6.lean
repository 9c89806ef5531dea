/-
  Bits of bytes: has, Get, Differ, and the document's Get and Differ.
-/
import Derived.Test.YtcpjmfemgdgplaaBitW5
import Derived.Test.YtcpjmfemgdgplaaBoxes
import Derived.Test.YtcpjmfemgdgplaaBytes
namespace Go.Proofs.Ytcpjmfemgdgplaa
open Go.RowKit Go.Shelf
open Bm (wt wtK lef)

/-- a slice of n bytes, with room for c, holds F (which is 0 past its end) -/
structure Sl (w : World) (a : Option Addr) (n c : Nat) (F : Nat → Nat) : Prop where
  cells : 0 < n → ∃ b o, a = some ⟨b, o, none⟩ ∧ ∀ j, j < n → w.cell? ⟨b, o + j, none⟩ = some (.int .u8 (F j : Int))
  byt : ∀ j, F j < 256
  past : ∀ j, n ≤ j → F j = 0
  cap : n ≤ c
  nil : a = none → c = 0
theorem Sl.kept {w w' : World} {a : Option Addr} {n c : Nat} {F : Nat → Nat} (h : Sl w a n c F) (k : ∀ b o, a = some ⟨b, o, none⟩ → 0 < n → w'.heap[b]? = w.heap[b]?) : Sl w' a n c F :=
  ⟨fun hn => by
    obtain ⟨b, o, e, hc⟩ := h.cells hn
    exact ⟨b, o, e, fun j hj => (World.cell?_of_block (w := w) (a := ⟨b, o + j, none⟩) (k b o e hn)).trans (hc j hj)⟩, h.byt, h.past, h.cap, h.nil⟩
theorem Sl.lt {w : World} {a : Option Addr} {n c : Nat} {F : Nat → Nat} (h : Sl w a n c F) (b o : Nat) (e : a = some ⟨b, o, none⟩) (hn : 0 < n) : b < w.heap.size := by
  obtain ⟨b', o', e', hc⟩ := h.cells hn
  rw [e] at e'
  cases e'
  exact cell_lt (hc 0 hn)
theorem Sl.below {C : Nat} {w w' : World} {a : Option Addr} {n c : Nat} {F : Nat → Nat} (h : Sl w a n c F) (k : Below C w w') (hC : w.heap.size ≤ C) : Sl w' a n c F :=
  h.kept fun b o e hn => k.block b (by have := h.lt b o e hn; omega)
theorem Sl.stay {C : Nat} {w w' : World} {a : Option Addr} {n c : Nat} {F : Nat → Nat} (h : Sl w a n c F) (k : Stay C w w') : Sl w' a n c F :=
  ⟨fun hn => by
    obtain ⟨b, o, e, hc⟩ := h.cells hn
    exact ⟨b, o, e, fun j hj => k.cell (hc j hj)⟩, h.byt, h.past, h.cap, h.nil⟩
theorem Sl.drewN {w : World} {a : Option Addr} {n c : Nat} {F : Nat → Nat} (h : Sl w a n c F) (k : Nat) : Sl (w.drewN k) a n c F := h.kept fun _ _ _ _ => rfl
theorem Sl.set {w : World} {a : Option Addr} {n c d : Nat} {F : Nat → Nat} (h : Sl w a n c F) (u : Value) (k : ∀ b o, a = some ⟨b, o, none⟩ → 0 < n → b ≠ d) : Sl (w.setCell ⟨d, 0, none⟩ u) a n c F :=
  h.kept fun b o e hn => Below.heap_setCell w _ u b (k b o e hn)
/-- the first m of them -/
def cut (m : Nat) (F : Nat → Nat) (j : Nat) : Nat := if j < m then F j else 0
theorem Sl.take {w : World} {a : Option Addr} {n c : Nat} {F : Nat → Nat} (h : Sl w a n c F) (m : Nat) (hm : m ≤ n) : Sl w a m c (cut m F) :=
  ⟨fun h0 => by
    obtain ⟨b, o, e, hc⟩ := h.cells (by omega)
    exact ⟨b, o, e, fun j hj => by rw [hc j (by omega)]; simp [cut, hj]⟩,
   fun j => by unfold cut; split; exact h.byt j; decide, fun j hj => by unfold cut; rw [if_neg (by omega)], by have := h.cap; omega, h.nil⟩
/-- what the row's frame tells of a slice -/
theorem IsRow.slice {w : World} {a : Option Addr} {n c : Nat} {zs : List Int} (h : IsRow .u8 w a n c zs) : ∃ F, Sl w a n c F ∧ (n : Int) ≤ 9223372036854775807 ∧ c ≤ maxLen := by
  obtain ⟨sa, ba, ea, ca, ma⟩ := h.slAt
  have hby : ∀ j : Nat, ((zs.take n)[j]?.getD 0).toNat < 256 := fun j => by
    by_cases hj : j < (zs.take n).length
    · have := ba j hj; omega
    · rw [List.getElem?_eq_none (by omega)]; decide
  refine ⟨fun j => ((zs.take n)[j]?.getD 0).toNat, ⟨?_, hby, ?_, ca, ?_⟩, by unfold maxLen at ma; omega, ?_⟩
  · intro hn
    rcases sa with sa | ⟨b, o, e, _, hc⟩
    · rw [sa] at ea; simp at ea; omega
    · refine ⟨b, o, e, fun j hj => ?_⟩
      have := ba j (by omega)
      rw [hc j (by omega)]
      congr 2
      omega
  · intro j hj
    simp only [List.getElem?_eq_none (show (zs.take n).length ≤ j by omega)]; rfl
  · intro e
    rcases h with ⟨_, _, hc, _⟩ | ⟨x, hx, _⟩
    · exact hc
    · rw [e] at hx; cases hx
  · rcases h with ⟨_, _, hc, _⟩ | ⟨x, hx, _, hm, _⟩
    · rw [hc]; unfold maxLen; omega
    · exact hm

/-- the bit i of F -/
def gb (F : Nat → Nat) (i : Nat) : Nat := F (i / 8) / 2 ^ (i % 8) % 2
theorem gb_le (F : Nat → Nat) (i : Nat) : gb F i ≤ 1 := by unfold gb; omega
/-- how many of the first k bits are unlike -/
def dif (F G : Nat → Nat) : Nat → Nat
  | 0 => 0
  | k + 1 => dif F G k + (if gb F k = gb G k then 0 else 1)
theorem dif_le (F G : Nat → Nat) (k : Nat) : dif F G k ≤ k := by
  induction k with
  | zero => simp [dif]
  | succ k ih => simp only [dif]; split <;> omega
theorem dif_yes (F G : Nat → Nat) (k : Nat) (h : ¬ gb F k = gb G k) : dif F G (k + 1) = dif F G k + 1 := by simp [dif, h]
theorem dif_no (F G : Nat → Nat) (k : Nat) (h : gb F k = gb G k) : dif F G (k + 1) = dif F G k := by simp [dif, h]
theorem dif_congr (F G F' G' : Nat → Nat) (k : Nat) (h : ∀ i, i < k → (gb F i = gb G i ↔ gb F' i = gb G' i)) : dif F G k = dif F' G' k := by
  induction k with
  | zero => rfl
  | succ k ih =>
    simp only [dif, ih fun i hi => h i (by omega)]
    have := h k (by omega)
    by_cases e : gb F k = gb G k
    · rw [if_pos e, if_pos (this.1 e)]
    · rw [if_neg e, if_neg fun h' => e (this.2 h')]
theorem xor_bit (x y r : Nat) : (x ^^^ y) / 2 ^ r % 2 = if x / 2 ^ r % 2 = y / 2 ^ r % 2 then 0 else 1 := by
  rw [Nat.xor_div_two_pow]
  have e := Nat.xor_mod_two_pow (a := x / 2 ^ r) (b := y / 2 ^ r) (n := 1)
  simp only [Nat.pow_one] at e
  rw [e]
  rcases Nat.mod_two_eq_zero_or_one (x / 2 ^ r) with h1 | h1 <;> rcases Nat.mod_two_eq_zero_or_one (y / 2 ^ r) with h2 | h2 <;> rw [h1, h2] <;> rfl
theorem dif_part (F G : Nat → Nat) (j r : Nat) (hr : r ≤ 8) : dif F G (8 * j + r) = dif F G (8 * j) + wtK r (F j ^^^ G j) := by
  induction r with
  | zero => simp [wtK]
  | succ r ih =>
    rw [Bm.wtK_succ_hi, xor_bit, ← Nat.add_assoc, dif, ih (by omega)]
    have e : ∀ H : Nat → Nat, gb H (8 * j + r) = H j / 2 ^ r % 2 := fun H => by unfold gb; rw [show (8 * j + r) / 8 = j from by omega, show (8 * j + r) % 8 = r from by omega]
    rw [e F, e G]; omega
theorem dif_byte (F G : Nat → Nat) (j : Nat) (hF : F j < 256) (hG : G j < 256) : dif F G (8 * (j + 1)) = dif F G (8 * j) + wt (F j ^^^ G j) := by
  rw [show 8 * (j + 1) = 8 * j + 8 from by omega, dif_part F G j 8 (Nat.le_refl _), Bm.wtK_wt 8 _ (by decide) (Nat.xor_lt_two_pow (n := 8) hF hG)]

/-! ### has, Get -/
theorem has_yes (a : Option Addr) (n c : Nat) (i : Int) (h0 : 0 ≤ i) (h1 : i < 8 * n) (hn : (n : Int) ≤ 1000) (w : World) :
    Calls Try.prog 80 #[.slice a n c, .int .i64 i] w fun e w' => e = .returned (.bool true) ∧ w' = w := by
  have e : i.tdiv 8 = i / 8 := Int.tdiv_eq_ediv_of_nonneg h0
  have d : decide (i / 8 < (n : Int)) = true := by simp; omega
  go_enter Try.func80, Try.ntmps80
  go_wp2_with (simp only [e])
  go_ret
  exact ⟨rfl, rfl⟩
theorem has_no (a : Option Addr) (n c : Nat) (i : Int) (h : i < 0 ∨ 8 * n ≤ i) (hi : i ≤ 9223372036854775807) (hn : (n : Int) ≤ 1000) (w : World) :
    Calls Try.prog 80 #[.slice a n c, .int .i64 i] w fun e w' => e = .returned (.bool false) ∧ w' = w := by
  by_cases h0 : 0 ≤ i
  · have e : i.tdiv 8 = i / 8 := Int.tdiv_eq_ediv_of_nonneg h0
    have d : decide (i / 8 < (n : Int)) = false := by simp; omega
    have d2 : ¬ i / 8 < (n : Int) := by omega
    clear h
    go_enter Try.func80, Try.ntmps80
    go_wp2_with (simp only [e])
    go_ret
    exact ⟨rfl, rfl⟩
  · have d : decide (0 ≤ i) = false := by simp; omega
    clear h
    go_enter Try.func80, Try.ntmps80
    go_wp2
    go_ret
    exact ⟨rfl, rfl⟩

theorem and1 (x r : Nat) (hx : x < 256) : bits .and .u8 ((x : Int) / 2 ^ r) 1 = ((x / 2 ^ r % 2 : Nat) : Int) := by
  have e : (x : Int) / 2 ^ r = ((x / 2 ^ r : Nat) : Int) := by simp
  have l := Nat.div_le_self x (2 ^ r)
  rw [e]
  exact (u8_and_nat (x / 2 ^ r) 1 (by omega) (by decide)).trans (by rw [nat_mask1])
theorem gb_past (F : Nat → Nat) (n i : Nat) (h : ∀ j, n ≤ j → F j = 0) (hi : 8 * n ≤ i) : gb F i = 0 := by unfold gb; rw [h (i / 8) (by omega)]; simp
set_option maxHeartbeats 1000000 in
theorem get_yes (a : Option Addr) (n c : Nat) (F : Nat → Nat) (i : Nat) (hi : i < 8 * n) (hn : n ≤ 1000) (w : World) (hs : Sl w a n c F) :
    Calls Try.prog 77 #[.slice a n c, .int .i64 (i : Int)] w fun e w' => e = .returned (.int .i64 (gb F i : Int)) ∧ w' = w := by
  obtain ⟨b, o, rfl, hc⟩ := hs.cells (by omega)
  have hcell := hc (i / 8) (by omega)
  have hx := hs.byt (i / 8)
  obtain ⟨x, Hx⟩ : ∃ x, Hid (F (i / 8) = x) := ⟨_, rfl⟩
  obtain ⟨g, hg, Hg⟩ : ∃ g, g ≤ 1 ∧ Hid (gb F i = g) := ⟨_, gb_le F i, rfl⟩
  obtain ⟨j, hj, Hj⟩ : ∃ j, j < n ∧ Hid (i / 8 = j) := ⟨_, by omega, rfl⟩
  obtain ⟨r, hr, Hr⟩ : ∃ r, r < 8 ∧ Hid (i % 8 = r) := ⟨_, by omega, rfl⟩
  rw [Hx.out] at hcell hx
  rw [Hg.out]
  have hand : bits .and .u8 ((x : Int) / 2 ^ r) 1 = (g : Int) := by rw [and1 x r hx, ← Hg.out, ← Hr.out, ← Hx.out]; rfl
  rw [Hj.out] at hcell
  have e1 : (i : Int).tdiv 8 = (j : Int) := by rw [Int.tdiv_eq_ediv_of_nonneg (by omega)]; have := Hj.out; omega
  have e2 : (i : Int).tmod 8 = (r : Int) := by rw [Int.tmod_eq_emod_of_nonneg (by omega)]; have := Hr.out; omega
  have e1' : (i : Int) / 8 = (j : Int) := by have := Hj.out; omega
  have e2' : (i : Int) % 8 = (r : Int) := by have := Hr.out; omega
  clear hc hs
  go_enter Try.func77, Try.ntmps77
  go_wp2_with (go_at_call 80; refine (has_yes _ _ _ _ (by omega) (by omega) (by omega) _).mono ?_; rintro e w' ⟨rfl, rfl⟩)
  go_ret
  exact ⟨rfl, rfl⟩
theorem get_no (a : Option Addr) (n c : Nat) (i : Int) (h : i < 0 ∨ 8 * n ≤ i) (hi : i ≤ 9223372036854775807) (hn : n ≤ 1000) (w : World) :
    Calls Try.prog 77 #[.slice a n c, .int .i64 i] w fun e w' => e = .returned (.int .i64 0) ∧ w' = w := by
  have H : Hid (i < 0 ∨ 8 * (n : Int) ≤ i) := h
  clear h
  go_enter Try.func77, Try.ntmps77
  go_wp2_with (go_at_call 80; refine (has_no _ _ _ _ H.out hi (by omega) _).mono ?_; rintro e w' ⟨rfl, rfl⟩)
  go_ret
  exact ⟨rfl, rfl⟩

/-! ### the document's Get and Differ -/
end Go.Proofs.Ytcpjmfemgdgplaa
