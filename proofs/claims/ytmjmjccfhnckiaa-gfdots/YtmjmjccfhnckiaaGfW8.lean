/-
  The law GfDots: the lists that are let go, and all together.
-/
import Derived.Test.YtmjmjccfhnckiaaGfW7
namespace Go.Proofs.Ytmjmjccfhnckiaa
open Go.RowKit Go.Shelf
open Gf (eI lI gI dI pI)
attribute [local go_sem] Oper.semAt_some

set_option maxRecDepth 100000 in
set_option maxHeartbeats 2000000 in
theorem gfDots_early (a0 : Option Addr) (len0 cap0 : Nat) (a1 : Option Addr) (len1 cap1 : Nat) (x n stop : Int) (w : World) (_h0 : (len0 : Int) ≤ 9223372036854775807) (_h1 : (len1 : Int) ≤ 9223372036854775807)
    (p q r : Bool) (d1 : decide (200 < (len0 : Int)) = p) (d2 : decide (200 < (len1 : Int)) = q) (d3 : decide (300 < n) = r) (hpqr : (p || (q || r)) = true) :
    CallsIn Fence.wide 5 Try.prog 6 #[.slice a0 len0 cap0, .slice a1 len1 cap1, .int .u8 x, .int .i64 n, .int .i64 stop] w fun e w' => e = .returned (.bool true) ∧ Below w.heap.size w w' := by
  have hz := zero_field
  refine callsIn_of_wp_marks Try.func6 rfl trivial ?_ rfl
  simp only [Try.ntmps6, List.size_toArray, List.length_cons, List.length_nil, Nat.reduceAdd, Nat.reduceSub, Array.replicate_succ, Array.replicate_zero, List.push_toArray, List.append_toArray, List.nil_append, List.cons_append]
  gi_wp2_with fail
  refine ⟨trivial, ?_⟩
  refine (callsIn_wide.2 (new_any _)).mono ?_
  rintro e w' ⟨rfl, rfl⟩
  obtain ⟨W1, hW1⟩ : ∃ W1, (((w.alloc (.cells #[.int .u8 x] 5)).alloc (.cells #[.int .i64 stop] 3)).alloc (.cells #[.bool false] 4)).alloc (.cells fieldCells 49) = W1 := ⟨_, rfl⟩
  obtain ⟨HZ, cX, cS, cR, fR, hf, hB1⟩ := first_world w x stop W1 hW1
  gi_wp2_with fail
  clear hW1
  refine ⟨trivial, ?_⟩
  refine (callsIn_wide.2 (anchor_any _ _ hf)).mono ?_
  rintro e W2 ⟨rfl, HL⟩
  obtain ⟨HZ2, cX2, cS2, cR2, fR2, hf2, hB2⟩ := like_world w x stop W1 W2 HL HZ cX cS cR fR hf hB1
  clear HL HZ cX cS cR fR hf hB1
  cases p <;> cases q <;> cases r <;> simp at hpqr
  all_goals
    gi_wp2_with fail
    have hc5 := World.cell?_setCell_same' W2 ⟨w.heap.size + 1 + 1, 0, none⟩ (.bool true) (by rw [cR2]; rfl)
    refine ⟨.bool true, ?_, rfl, hB2.setCell (p := ⟨w.heap.size + 1 + 1, 0, none⟩) (by simp; omega) _⟩
    simp [results, Try.f6, go_sem, hc5]

theorem gfDots_walk (a0 : Option Addr) (len0 cap0 : Nat) (z0 : List Int) (a1 : Option Addr) (len1 cap1 : Nat) (z1 : List Int) (a2 : Int) (a3 : Int) (a4 : Int) (w : World)
    (w0 : IsRow .u8 w a0 len0 cap0 z0) (w1 : IsRow .u8 w a1 len1 cap1 z1) (w2 : (Lit.int .u8 a2).wf = true) (_ : (Lit.int .i64 a3).wf = true) (w4 : (Lit.int .i64 a4).wf = true) :
    Calls Try.prog 6 #[.slice a0 len0 cap0, .slice a1 len1 cap1, .int .u8 a2, .int .i64 a3, .int .i64 a4] w fun e w' => e = .returned (.bool true) ∧ Below w.heap.size w w' := by
  obtain ⟨sa, ba, ea, ca, ma⟩ := w0.slAt
  obtain ⟨sb, bb, eb, cb, mb⟩ := w1.slAt
  refine (callsIn_wide (n := 5)).1 ?_
  by_cases hall : len0 ≤ 200 ∧ len1 ≤ 200 ∧ a3 ≤ 300
  · have h := gfDots_core a0 cap0 (z0.take len0) a1 cap1 (z1.take len1) a2 a3 a4 w sa ba (by omega) sb bb (by omega) (bounds_u8 w2) hall.2.2 (bounds_i64 w4)
    rw [ea, eb] at h
    exact h
  · unfold maxLen at ma mb
    refine gfDots_early a0 len0 cap0 a1 len1 cap1 a2 a3 a4 w (by omega) (by omega) _ _ _ rfl rfl rfl ?_
    simp
    omega

end Go.Proofs.Ytmjmjccfhnckiaa
