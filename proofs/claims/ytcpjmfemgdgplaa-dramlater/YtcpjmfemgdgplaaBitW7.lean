/-
  Differ, Clone, Flip.
-/
import Derived.Test.YtcpjmfemgdgplaaBitW6
import Derived.Laws.AppendOwnNone
import Derived.BigQuiet
namespace Go.Proofs.Ytcpjmfemgdgplaa
open Go.RowKit Go.Shelf
open Bm (wt wtK lef)

theorem u8_info : (Try.prog.info? 5).map (fun i => (i.zero, i.size, i.bytes)) = some (some (.int .u8 0), 1, 1) := by kernel_rfl
theorem u8_parts : ∃ i, Try.prog.info? 5 = some i ∧ i.zero = some (.int .u8 0) ∧ i.size = 1 ∧ i.bytes = 1 := by
  obtain ⟨i, hi, h⟩ := Option.map_eq_some_iff.1 u8_info
  simp only [Prod.mk.injEq] at h
  exact ⟨i, hi, h.1, h.2.1, h.2.2⟩

/-- a slice of n bytes in new memory -/
structure NewSl (w w' : World) (a : Option Addr) (n c : Nat) (F : Nat → Nat) : Prop where
  sl : Sl w' a n c F
  below : Below w.heap.size w w'
  fresh : 0 < n → ∃ g, a = some ⟨g, 0, none⟩ ∧ w.heap.size ≤ g ∧ ∀ o, w'.frozen? ⟨g, o, none⟩ = false
/-- what append lays, as bytes -/
theorem owned_bytes {w : World} {base n : Nat} {v : Value} {F : Nat → Nat} (hb : ∀ j, F j < 256) (hp : ∀ j, n ≤ j → F j = 0) (hv : v ≠ .slice none 0 0) (h : w.ownsRow base 5 1 v n ((List.range n).map fun j => .int .u8 (F j : Int))) :
    ∃ g c, v = .slice (some ⟨g, 0, none⟩) n c ∧ base ≤ g ∧ Sl w (some ⟨g, 0, none⟩) n c F ∧ ∀ o, w.frozen? ⟨g, o, none⟩ = false := by
  obtain ⟨h1, ⟨h2, _⟩ | ⟨g, cap, cur, hv', hg, hh, hnc, hcm, hsz, htk⟩⟩ := h
  · exact absurd h2 hv
  · refine ⟨g, cap, hv', hg, ⟨fun _ => ⟨g, 0, rfl, fun j hj => ?_⟩, hb, hp, hnc, fun e => by cases e⟩, fun o => by simp [World.frozen?, hh]⟩
    have e : cur[j]? = ((List.range n).map fun j => Value.int .u8 (F j : Int))[j]? := by
      rw [← htk, List.getElem?_take_of_lt (by omega)]; simp
    rw [Nat.zero_add]
    simp only [World.cell?, hh]
    simp [e, hj]

set_option maxHeartbeats 1000000 in
theorem clone_any (a : Option Addr) (n c : Nat) (F : Nat → Nat) (hn : n ≤ 1000) (w : World) (hs : Sl w a n c F) :
    Calls Try.prog 79 #[.slice a n c] w fun e w' => ∃ a' c', e = .returned (.slice a' n c') ∧ NewSl w w' a' n c' F := by
  cases a with
  | none =>
    have hc := hs.nil rfl
    have hcap := hs.cap
    obtain rfl : n = 0 := by omega
    obtain rfl : c = 0 := hc
    have hnil : ∀ w, (binOp .eql 105 (.slice none 0 0) (.slice none 0 0)).run Try.prog w = .ok (.bool true) w := fun w => by kernel_rfl
    have H : Hid (Sl w none 0 0 F) := hs
    clear hs hcap
    go_enter Try.func79, Try.ntmps79
    go_wp2
    go_ret
    exact ⟨none, 0, rfl, H.out, Below.refl _ _, fun h => by omega⟩
  | some x =>
    have hnil : ∀ w, (binOp .eql 105 (.slice (some x) n c) (.slice none 0 0)).run Try.prog w = .ok (.bool false) w := fun w => by kernel_rfl
    obtain ⟨i0, hi, hz0, hz1, hz2⟩ := u8_parts
    obtain ⟨news, Hnews⟩ : ∃ news, Hid (news = (List.range n).map fun j => Value.int .u8 (F j : Int)) := ⟨_, rfl⟩
    have HS : Hid (Sl w (some x) n c F) := hs
    clear hs
    go_enter Try.func79, Try.ntmps79
    go_wp2_with (at_builtin; refine wpList_append_own _ rfl _ _ 105 rfl w.heap.size 5 i0 (.int .u8 0) 1 1 Try.underlying105 hi hz0 hz1 hz2 rfl (by decide) _ 0 [] rfl ⟨rfl, .inr ⟨w.heap.size, 0, #[], rfl, Nat.le_refl _, World.alloc_heap_new w _, Nat.le_refl _, Nat.zero_le _, rfl, rfl⟩⟩ x n c news rfl ?c0 ?c1 ?c2 ?c3 ?c4 ?c5 ?_)
    case c0 => rw [Hnews.out]; simp
    case c1 =>
      intro j u hj
      rw [Hnews.out] at hj
      have hjn : j < n := by have := (List.getElem?_eq_some_iff.1 hj).1; simpa using this
      obtain ⟨b, o, e, hc⟩ := HS.out.cells (by omega)
      cases e
      simp [hjn] at hj
      rw [← hj]
      have hb : b < w.heap.size := HS.out.lt b o rfl (by omega)
      have := (World.cell?_of_block (w := w) (a := ⟨b, o + j, none⟩) (Below.heap_alloc w (.cells #[] 5) b hb)).trans (hc j hjn)
      rw [← this]
      unfold Addr.add
      split
      · rename_i h; simp [h]
      · rfl
    case c2 => intro u hu; rw [Hnews.out] at hu; obtain ⟨y, _, rfl⟩ := List.mem_map.1 hu; rfl
    case c3 => unfold maxLen; omega
    case c4 => omega
    case c5 => simp
    intro v' w1 hown hgrow hiff
    have hB : Below w.heap.size w w1 := by
      have h0 : Below w.heap.size w (w.alloc (.cells #[] 5)) := (Below.refl _ _).alloc (Nat.le_refl _) _
      exact h0.grown hgrow (by simp) (fun k e => by cases e; exact Nat.le_refl _)
    have hv : v' ≠ .slice none 0 0 := hiff
    rw [Hnews.out] at hown
    obtain ⟨g, c', rfl, hg, hsl, hfz⟩ := owned_bytes HS.out.byt HS.out.past hv (by simpa using hown)
    clear hown hgrow hiff hv
    go_wp2
    go_ret
    exact ⟨some ⟨g, 0, none⟩, c', rfl, hsl, hB, fun _ => ⟨g, rfl, hg, hfz⟩⟩

/-- F with the bit i turned -/
def flp (F : Nat → Nat) (i : Nat) : Nat → Nat := fun j => if j = i / 8 then F j ^^^ 2 ^ (i % 8) else F j
theorem flp_byt (F : Nat → Nat) (i : Nat) (h : ∀ j, F j < 256) (j : Nat) : flp F i j < 256 := by
  unfold flp
  split
  · refine Nat.xor_lt_two_pow (n := 8) (h j) ?_
    have : 2 ^ (i % 8) ≤ 2 ^ 7 := Nat.pow_le_pow_right (by decide) (by omega)
    omega
  · exact h j
theorem gb_flp (F : Nat → Nat) (i k : Nat) : gb (flp F i) k = if k = i then 1 - gb F k else gb F k := by
  unfold gb flp
  by_cases hb : k / 8 = i / 8
  · rw [if_pos hb, xor_bit]
    by_cases e : k = i
    · subst e
      rw [if_pos rfl, Nat.div_self (Nat.two_pow_pos _)]
      rcases Nat.mod_two_eq_zero_or_one (F (k / 8) / 2 ^ (k % 8)) with h | h <;> rw [h] <;> rfl
    · rw [if_neg e]
      have hr : k % 8 ≠ i % 8 := by omega
      have h0 : 2 ^ (i % 8) / 2 ^ (k % 8) % 2 = 0 := by
        by_cases hlt : i % 8 < k % 8
        · rw [Nat.div_eq_of_lt (Nat.pow_lt_pow_right (by decide) hlt)]
        · obtain ⟨d, hd⟩ : ∃ d, i % 8 = k % 8 + (d + 1) := ⟨i % 8 - k % 8 - 1, by omega⟩
          rw [hd, Nat.pow_add, Nat.mul_div_cancel_left _ (Nat.two_pow_pos _), Nat.pow_succ]; omega
      rw [h0]
      rcases Nat.mod_two_eq_zero_or_one (F (k / 8) / 2 ^ (k % 8)) with h | h <;> rw [h] <;> rfl
  · rw [if_neg hb, if_neg (fun e => hb (by rw [e]))]

set_option maxHeartbeats 2000000 in
theorem flip_yes (a : Option Addr) (n c : Nat) (F : Nat → Nat) (i : Nat) (hi : i < 8 * n) (hn : n ≤ 1000) (w : World) (hs : Sl w a n c F) :
    Calls Try.prog 63 #[.slice a n c, .int .i64 (i : Int)] w fun e w' => ∃ a' c', e = .returned (.slice a' n c') ∧ NewSl w w' a' n c' (flp F i) := by
  obtain ⟨j, hj, Hj⟩ : ∃ j, j < n ∧ Hid (i / 8 = j) := ⟨_, by omega, rfl⟩
  obtain ⟨r, hr, Hr⟩ : ∃ r, r < 8 ∧ Hid (i % 8 = r) := ⟨_, by omega, rfl⟩
  have e1 : (i : Int).tdiv 8 = (j : Int) := by rw [Int.tdiv_eq_ediv_of_nonneg (by omega)]; have := Hj.out; omega
  have e2 : (i : Int).tmod 8 = (r : Int) := by rw [Int.tmod_eq_emod_of_nonneg (by omega)]; have := Hr.out; omega
  have e1' : (i : Int) / 8 = (j : Int) := by have := Hj.out; omega
  have e2' : (i : Int) % 8 = (r : Int) := by have := Hr.out; omega
  obtain ⟨s, hsh, hs7, Hs⟩ : ∃ s : Nat, (2 : Int) ^ r = (s : Int) ∧ s ≤ 128 ∧ Hid (s = 2 ^ r) := ⟨2 ^ r, by simp, by have : 2 ^ r ≤ 2 ^ 7 := Nat.pow_le_pow_right (by decide) (by omega); omega, rfl⟩
  have HS : Hid (Sl w a n c F) := hs
  have hx := hs.byt j
  obtain ⟨x, Hx⟩ : ∃ x, Hid (F j = x) := ⟨_, rfl⟩
  rw [Hx.out] at hx
  obtain ⟨z, hz, rz, Hz⟩ : ∃ z : Nat, bits .xor .u8 (x : Int) (s : Int) = (z : Int) ∧ z < 256 ∧ Hid (x ^^^ s = z) := ⟨_, u8_xor_nat x s hx (by omega), Nat.xor_lt_two_pow (n := 8) hx (by omega), rfl⟩
  clear hs
  go_enter Try.func63, Try.ntmps63
  go_wp2_with fail
  refine (clone_any a n c F hn _ HS.out).mono ?_
  rintro e w1 ⟨a', c', rfl, N⟩
  obtain ⟨g, rfl, hg, hfz⟩ := N.fresh (by omega)
  obtain ⟨g', o', e, hc⟩ := N.sl.cells (by omega)
  cases e
  have hcell := hc j hj
  rw [Hx.out, Nat.zero_add] at hcell
  have hcell2 : w1.drew.cell? ⟨g, j, none⟩ = some (.int .u8 (x : Int)) := hcell
  have hfz1 := hfz j
  have hfz2 : w1.drew.frozen? ⟨g, j, none⟩ = false := hfz1
  have HN : Hid (NewSl w w1 (some ⟨g, 0, none⟩) n c' F) := N
  clear N hc
  go_wp2_with (go_at_call 80; refine (has_yes _ _ _ _ (by omega) (by omega) (by omega) _).mono ?_; rintro e w' ⟨rfl, rfl⟩)
  go_region
  all_goals
    go_wp2
    go_ret
    refine ⟨some ⟨g, 0, none⟩, c', rfl, ⟨fun _ => ⟨g, 0, rfl, fun k hk => ?_⟩, flp_byt F i HN.out.sl.byt, fun k hk => ?_, HN.out.sl.cap, fun e => by cases e⟩, ?_, fun _ => ⟨g, rfl, hg, fun o => ?_⟩⟩
    · rw [Nat.zero_add]
      obtain ⟨g2, o2, e, hc⟩ := HN.out.sl.cells (by omega)
      cases e
      have hck := hc k hk
      rw [Nat.zero_add] at hck
      by_cases ekj : k = j
      · subst ekj
        change (World.setCell _ ⟨g, k, none⟩ _).cell? ⟨g, k, none⟩ = _
        rw [World.cell?_setCell_same' _ _ _ (by rw [hcell]; rfl)]
        have : flp F i k = z := by unfold flp; rw [if_pos Hj.out.symm, Hr.out, ← Hs.out, Hx.out, Hz.out]
        rw [this]
      · have : flp F i k = F k := by unfold flp; rw [if_neg (by rw [Hj.out]; exact ekj)]
        rw [this, ← hck]
        change (World.setCell _ ⟨g, j, none⟩ _).cell? ⟨g, k, none⟩ = _
        have hne : (⟨g, j, none⟩ : Addr) ≠ ⟨g, k, none⟩ := fun e => ekj (by cases e; rfl)
        first | exact World.cell?_setCell_other _ hne | exact World.cell?_setCell_other _ _ hne | exact World.cell?_setCell_other _ _ _ hne | exact World.cell?_setCell_other _ _ _ _ hne
    · have := HN.out.sl.past k hk
      unfold flp; rw [if_neg (by rw [Hj.out]; omega)]; exact this
    · exact (HN.out.below.drew).setCell (p := ⟨g, j, none⟩) hg _
    · change (World.setCell _ _ _).frozen? _ = false
      rw [World.frozen?_setCell]; exact hfz o
set_option maxHeartbeats 1000000 in
theorem flip_no (a : Option Addr) (n c : Nat) (F : Nat → Nat) (i : Int) (h : i < 0 ∨ 8 * n ≤ i) (hi : i ≤ 9223372036854775807) (hn : n ≤ 1000) (w : World) (hs : Sl w a n c F) :
    Calls Try.prog 63 #[.slice a n c, .int .i64 i] w fun e w' => ∃ a' c', e = .returned (.slice a' n c') ∧ NewSl w w' a' n c' F := by
  have H : Hid (i < 0 ∨ 8 * (n : Int) ≤ i) := h
  have HS : Hid (Sl w a n c F) := hs
  clear h hs
  go_enter Try.func63, Try.ntmps63
  go_wp2_with fail
  refine (clone_any a n c F hn _ HS.out).mono ?_
  rintro e w1 ⟨a', c', rfl, N⟩
  have HN : Hid (NewSl w w1 a' n c' F) := N
  clear N
  go_wp2_with (go_at_call 80; refine (has_no _ _ _ _ H.out hi (by omega) _).mono ?_; rintro e w' ⟨rfl, rfl⟩)
  go_ret
  exact ⟨a', c', rfl, HN.out⟩
end Go.Proofs.Ytcpjmfemgdgplaa
