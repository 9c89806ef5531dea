/-
  The walks of Scale, Add and Shift.
-/
import Derived.Test.YtdjknaafefnlcaaDoorPolyW5
namespace Go.Proofs.YtdjknaafefnlcaaDoor
open Go.RowKit Go.Deep
open Gf (eI lI gI dI pI)
open Po (toE cf mu S pwr ev cv Low)

theorem arg_lit (w : World) (l : List Int) (hb : Byt l) : Arg (w.alloc (.cells (l.map (Value.int .u8)).toArray 5)) (some ⟨w.heap.size, 0, none⟩) l.length l.length l := by
  refine ⟨rfl, .inr ⟨w.heap.size, 0, rfl, by simp, fun i hi => ?_⟩, hb, Nat.le_refl _, fun e => by cases e⟩
  rw [Nat.zero_add, World.cell?_alloc_new]
  simp [hi]
theorem byt_one (a : Int) (h : 0 ≤ a ∧ a < 256) : Byt [a] := fun i hi => by
  have : i = 0 := by simp at hi; omega
  subst this; exact h
theorem byt_two (a b : Int) (h : 0 ≤ a ∧ a < 256) (k : 0 ≤ b ∧ b < 256) : Byt [a, b] := fun i hi => by
  have : i = 0 ∨ i = 1 := by simp at hi; omega
  rcases this with rfl | rfl
  · exact h
  · exact k
theorem IsP.congr {w : World} {e : Ending} {C D : Nat → Po.El} {N : Nat} (h : IsP w e C N) (hc : ∀ i, C i = D i) : IsP w e D N := by
  obtain ⟨a, n, c, l, he, A, ht, hl, hN⟩ := h
  exact ⟨a, n, c, l, he, A, ht, fun i => by rw [hl i, hc i], hN⟩
theorem IsP.low {w : World} {e : Ending} {C : Nat → Po.El} {N M : Nat} (h : IsP w e C N) (hc : Low M C) : IsP w e C M := by
  obtain ⟨a, n, c, l, he, A, ht, hl, hN⟩ := h
  refine ⟨a, n, c, l, he, A, ht, hl, ?_⟩
  by_cases hM : n ≤ M
  · exact hM
  · have := cf_top_tl l A.byt (by omega)
    rw [hl, ht, hc (n - 1) (by omega)] at this
    exact absurd rfl this
theorem cv_const (p : Nat → Po.El) (a : Int) (k : Nat) : cv p (cf [a]) k = mu (p k) (toE a) := by
  unfold cv
  rw [Po.S_one (k + 1) k _ (by omega) (fun i hi hne => by rw [Po.cf_low [a] (k - i) (by simp; omega), Po.mu_zero]), Nat.sub_self]; rfl


theorem run_maxN {P : Program} (a b N : Nat) (h : max a b = N) (ts : Array TypeId) (t : TypeId) (w : World) : (Builtin.max_ ts t #[.int .i64 (a : Int), .int .i64 (b : Int)]).run P w = .ok (.int .i64 (N : Int)) w := by
  have e : (if (a : Int) < (b : Int) then (b : Int) else a) = (N : Int) := by split <;> omega
  rw [← e]
  simp [Builtin.max_, Builtin.max2]
theorem run_maxI {P : Program} (n : Int) (N : Nat) (h : n.toNat = N) (ts : Array TypeId) (t : TypeId) (w : World) : (Builtin.max_ ts t #[.int .i64 n, .int .i64 0]).run P w = .ok (.int .i64 (N : Int)) w := by
  have e : (if n < 0 then (0 : Int) else n) = (N : Int) := by split <;> omega
  rw [← e]
  simp [Builtin.max_, Builtin.max2]
/-- zeros, with a list laid over them from a place on -/
theorem rowE_splice {w : World} {g N off : Nat} {l : List Int} {z : List Value} (hb : Byt l) (hz : z = List.replicate N (.int .u8 0)) (hfit : off + l.length ≤ N) (cs : List Value) (hcs : cs = l.map (Value.int .u8))
    (h : w.heap[g]? = some (.cells (splice z off cs).toArray 5 (0, 0))) : RowE w g N (fun j => if off ≤ j then cf l (j - off) else 0) := by
  have hlen : (splice z off cs).length = N := by rw [length_splice _ _ _ (by rw [hz, hcs]; simp; omega), hz]; simp
  refine ⟨N, fun j => (splice z off cs)[j]?.getD (.int .u8 0), Nat.le_refl _, ⟨_, h, by simpa using hlen, fun i hi => by
    have : i < (splice z off cs).length := by omega
    simp [this]⟩, fun j hj => ?_⟩
  show (splice z off cs)[j]?.getD (.int .u8 0) = .int .u8 (ofE (if off ≤ j then cf l (j - off) else 0))
  unfold splice
  by_cases h1 : off ≤ j
  · rw [if_pos h1, List.getElem?_append_right (by rw [hz]; simp; omega)]
    have e1 : (List.take off z).length = off := by rw [hz]; simp; omega
    rw [e1]
    by_cases h2 : j - off < l.length
    · rw [List.getElem?_append_left (by rw [hcs]; simpa using h2), hcs, List.getElem?_map, ofE_cf l hb]
      rw [List.getElem?_eq_getElem h2]; rfl
    · rw [List.getElem?_append_right (by rw [hcs]; simp; omega), List.getElem?_drop, Po.cf_low l _ (by omega), hz, List.getElem?_replicate]
      split <;> rfl
  · rw [if_neg h1, List.getElem?_append_left (by rw [hz]; simp; omega), List.getElem?_take_of_lt (by omega), hz, List.getElem?_replicate, if_pos hj]; rfl
theorem made_zeros (N : Nat) : madeCells #[Value.int .u8 0] N = (List.replicate N (Value.int .u8 0)).toArray := by
  apply Array.ext_getElem?
  intro i
  simp [madeCells]
  by_cases h : i < N <;> simp [h, Nat.mod_one]
/-- the cells of a list, where a copy asks for them -/
theorem SlAt.cells {w : World} {a : Option Addr} {l : List Int} (h : SlAt w a l) (h0 : 0 < l.length) : ∃ ad, a = some ad ∧ ∀ j v, (l.map (Value.int .u8))[j]? = some v → w.cell? (ad.add j) = some v := by
  rcases h with h | ⟨b, o, ha, hb, hl⟩
  · rw [h] at h0; simp at h0
  · refine ⟨_, ha, fun j v hj => ?_⟩
    have hjl : j < l.length := by have := (List.getElem?_eq_some_iff.1 hj).1; simpa using this
    have e : v = .int .u8 (l[j]?.getD 0) := by
      rw [List.getElem?_map, List.getElem?_eq_getElem hjl] at hj
      rw [List.getElem?_eq_getElem hjl]
      simpa using hj.symm
    rw [e, ← hl j hjl]
    unfold Addr.add
    split
    · rename_i h; simp [h]
    · rfl

/-- the sum, as far as k places -/
def xrN (p q : Nat → Po.El) (k j : Nat) : Po.El := if j < k then p j ^^^ q j else p j
theorem xrN_step (p q : Nat → Po.El) (k j : Nat) : (if j = k then p k ^^^ q k else xrN p q k j) = xrN p q (k + 1) j := by
  unfold xrN
  by_cases e : j = k
  · subst e; rw [if_pos rfl, if_pos (by omega)]
  · rw [if_neg e]
    by_cases h : j < k
    · rw [if_pos h, if_pos (by omega)]
    · rw [if_neg h, if_neg (by omega)]
theorem xrN_at (p q : Nat → Po.El) (k : Nat) : xrN p q k k = p k := if_neg (by omega)



end Go.Proofs.YtdjknaafefnlcaaDoor
