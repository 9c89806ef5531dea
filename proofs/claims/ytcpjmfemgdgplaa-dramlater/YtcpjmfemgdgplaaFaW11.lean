/-
  The walks of package fault: faults kept, and those of them that last.
-/
import Derived.Test.YtcpjmfemgdgplaaFaW10
namespace Go.Proofs.Ytcpjmfemgdgplaa
open Go.RowKit Go.Shelf
attribute [local go_sem] Oper.semAt_some

theorem fault_info : (Try.prog.info? 38).map (fun i => (i.zero, i.size, i.bytes)) = some (some (.agg #[.int .i64 0, .int .i64 0, .int .i64 0, .int .i64 0, .int .i64 0, .int .i64 0, .int .i64 0, .int .i64 0]), 8, 64) := by kernel_rfl
theorem fault_parts : ∃ i, Try.prog.info? 38 = some i ∧ i.zero = some (.agg #[.int .i64 0, .int .i64 0, .int .i64 0, .int .i64 0, .int .i64 0, .int .i64 0, .int .i64 0, .int .i64 0]) ∧ i.size = 8 ∧ i.bytes = 64 := by
  have h := fault_info
  cases hi : Try.prog.info? 38 with
  | none => rw [hi] at h; cases h
  | some i =>
    rw [hi] at h
    simp only [Option.map_some, Option.some.injEq, Prod.mk.injEq] at h
    exact ⟨i, rfl, h.1, h.2.1, h.2.2⟩
/-- the cells of len faults -/
def fcells (len : Nat) (Z : Nat → Nat → Int) : List Value := (List.range (len * 8)).map fun t => .int .i64 (Z (t / 8) (t % 8))
theorem fcells_at (len : Nat) (Z : Nat → Nat → Int) (i j : Nat) (hi : i < len) (hj : j < 8) : (fcells len Z)[i * 8 + j]? = some (.int .i64 (Z i j)) := by
  unfold fcells
  rw [List.getElem?_map, List.getElem?_range (by omega)]
  have e1 : (i * 8 + j) / 8 = i := by omega
  have e2 : (i * 8 + j) % 8 = j := by omega
  simp [e1, e2]
theorem owned_faults {w : World} {base len : Nat} {v : Value} {Z : Nat → Nat → Int} (hwf : ∀ i, i < len → ∀ j, j < 8 → (Lit.int .i64 (Z i j)).wf = true) (hv : v ≠ .slice none 0 0) (h : w.ownsRow base 38 8 v len (fcells len Z)) :
    ∃ g c, v = .slice (some ⟨g, 0, none⟩) len c ∧ base ≤ g ∧ Fs w (some ⟨g, 0, none⟩) len c Z := by
  obtain ⟨h1, ⟨h2, _⟩ | ⟨g, cap, cur, hv', hg, hh, hnc, hcm, hsz, htk⟩⟩ := h
  · exact absurd h2 hv
  · refine ⟨g, cap, hv', hg, hnc, hcm, fun h0 => ⟨g, 0, rfl, (Array.getElem?_eq_some_iff.1 hh).1, fun i hi j hj => ?_⟩, hwf, fun e => by cases e⟩
    have e : cur[i * 8 + j]? = some (.int .i64 (Z i j)) := by
      rw [← fcells_at len Z i j hi hj, ← htk, List.getElem?_take_of_lt (by omega)]; simp
    rw [Nat.zero_add]
    simp only [World.cell?, hh]
    simp [e]
set_option maxHeartbeats 1000000 in
theorem fclone_any (a : Option Addr) (len cap : Nat) (Z : Nat → Nat → Int) (hn : len ≤ 1000) (w : World) (hs : Fs w a len cap Z) :
    Calls Try.prog 40 #[.slice a len cap] w fun e w' => ∃ a' c', e = .returned (.slice a' len c') ∧ Fs w' a' len c' Z ∧ Below w.heap.size w w' ∧ (0 < len → ∃ g, a' = some ⟨g, 0, none⟩ ∧ w.heap.size ≤ g) := by
  cases a with
  | none =>
    obtain ⟨rfl, rfl⟩ := hs.nil rfl
    have hnil : ∀ w, (binOp .eql 45 (.slice none 0 0) (.slice none 0 0)).run Try.prog w = .ok (.bool true) w := fun w => by kernel_rfl
    have H : Hid (Fs w none 0 0 Z) := hs
    clear hs
    go_enter Try.func40, Try.ntmps40
    go_wp2
    go_ret
    exact ⟨none, 0, rfl, H.out, Below.refl _ _, fun h => by omega⟩
  | some x =>
    have hnil : ∀ w, (binOp .eql 45 (.slice (some x) len cap) (.slice none 0 0)).run Try.prog w = .ok (.bool false) w := fun w => by kernel_rfl
    obtain ⟨i0, hi, hz0, hz1, hz2⟩ := fault_parts
    obtain ⟨news, Hnews⟩ : ∃ news, Hid (news = fcells len Z) := ⟨_, rfl⟩
    have HS : Hid (Fs w (some x) len cap Z) := hs
    clear hs
    go_enter Try.func40, Try.ntmps40
    go_wp2_with (at_builtin; refine wpList_append_own _ rfl _ _ 45 rfl w.heap.size 38 i0 (.agg #[.int .i64 0, .int .i64 0, .int .i64 0, .int .i64 0, .int .i64 0, .int .i64 0, .int .i64 0, .int .i64 0]) 8 64 Try.underlying45 hi hz0 hz1 hz2 rfl (by decide) _ 0 [] rfl ⟨rfl, .inr ⟨w.heap.size, 0, #[], rfl, Nat.le_refl _, World.alloc_heap_new w _, Nat.le_refl _, Nat.zero_le _, rfl, rfl⟩⟩ x len cap news rfl ?c0 ?c1 ?c2 ?c3 ?c4 ?c5 ?_)
    case c0 => rw [Hnews.out]; simp [fcells]
    case c1 =>
      intro t u ht
      rw [Hnews.out] at ht
      have htn : t < len * 8 := by have := (List.getElem?_eq_some_iff.1 ht).1; simpa [fcells] using this
      have e := fcells_at len Z (t / 8) (t % 8) (by omega) (by omega)
      rw [show t / 8 * 8 + t % 8 = t by omega, ht] at e
      cases e
      obtain ⟨b, o, e, hb, hc⟩ := HS.out.at_ (by omega)
      cases e
      have h1 := hc (t / 8) (by omega) (t % 8) (by omega)
      rw [show t / 8 * 8 + t % 8 = t by omega] at h1
      have := (World.cell?_of_block (w := w) (a := ⟨b, o + t, none⟩) (Below.heap_alloc w (.cells #[] 38) b hb)).trans h1
      rw [← this, Addr.add_lit]
    case c2 => intro u hu; rw [Hnews.out] at hu; obtain ⟨y, _, rfl⟩ := List.mem_map.1 hu; rfl
    case c3 => unfold maxLen; omega
    case c4 => omega
    case c5 => simp
    intro v' w1 hown hgrow hiff
    have hB : Below w.heap.size w w1 := by
      have h0 : Below w.heap.size w (w.alloc (.cells #[] 38)) := (Below.refl _ _).alloc (Nat.le_refl _) _
      exact h0.grown hgrow (by simp) (fun k e => by cases e; exact Nat.le_refl _)
    have hv : v' ≠ .slice none 0 0 := hiff
    rw [Hnews.out] at hown
    obtain ⟨g, c', rfl, hg, hfs⟩ := owned_faults HS.out.wf hv (by simpa using hown)
    clear hown hgrow hiff hv
    go_wp2
    go_ret
    exact ⟨some ⟨g, 0, none⟩, c', rfl, hfs, hB, fun _ => ⟨g, rfl, hg⟩⟩
/-- what Lasting tells: an iterator over a slice of its own, in a box -/
structure Lg (w w' : World) (T : Nat) (a' : Option Addr) (len c' : Nat) (Z : Nat → Nat → Int) : Prop where
  b : Box w' T (.slice a' len c')
  f : Fs w' a' len c' Z
  n : Below w.heap.size w w'
  t : w.heap.size ≤ T
  g : 0 < len → ∃ g, a' = some ⟨g, 0, none⟩ ∧ w.heap.size ≤ g
end Go.Proofs.Ytcpjmfemgdgplaa
