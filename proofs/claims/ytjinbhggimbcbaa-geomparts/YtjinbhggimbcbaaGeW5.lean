/-
  The iterators of package geom: a page's columns.
-/
import Derived.Test.YtjinbhggimbcbaaGeW4
import Derived.Test.YtjinbhggimbcbaaBoxes
import Derived.Test.YtjinbhggimbcbaaRangeD
import Derived.LoopIn
import Derived.TacticsIn
namespace Go.Proofs.Ytjinbhggimbcbaa
open Go.RowKit
open Ge (pw rt hd ix)
attribute [local go_sem] Oper.semAt_some

theorem stay_below {W W' : World} (k : Below W.heap.size W W') : Stay W.heap.size W W' :=
  ⟨k.os, k.tape, k.output, k.size, fun b _ hb _ => (k.block b (Array.getElem?_eq_some_iff.1 hb).1).trans hb, fun b hb => k.block b hb⟩

/-- what a round may hand back, its answer left open -/
theorem yields7 {e : Ending} {A B : Prop} (h : (e = .returned (.bool true) ∧ A) ∨ (e = .returned (.bool false) ∧ B)) : ∃ r : Bool, e = .returned (.bool r) ∧ Hid ((r = true ∧ A) ∨ (r = false ∧ B)) := by
  rcases h with ⟨rfl, h⟩ | ⟨rfl, h⟩
  · exact ⟨true, rfl, .inl ⟨rfl, h⟩⟩
  · exact ⟨false, rfl, .inr ⟨rfl, h⟩⟩

set_option maxRecDepth 100000 in
set_option maxHeartbeats 2000000 in
theorem columns_seq {n : Nat} (r s b o : Int) (c : Nat) (hc : c ≤ 64) (F : Nat) (hF : F < 8388608) (l : Nat) (M : World → Nat → Prop) (J Jx : Nat → World → Prop) (W : World) (hM : Ok M W) (hJ : ∀ A', Below W.heap.size W A' → J 0 A')
    (hY : ∀ x W1, x < c → J x W1 → YieldAt Fence.wide 8 Try.prog l #[.int .i64 ((F + x : Nat) : Int)] W1 fun e W' => (e = .returned (.bool true) ∧ J (x + 1) W' ∧ KeepD M W1 W') ∨ (e = .returned (.bool false) ∧ Jx x W' ∧ KeepD M W1 W')) :
    CallsIn Fence.wide n Try.prog 34 #[.agg #[.int .i64 r, .int .i64 s, .int .i64 b, .int .i64 o, .int .i64 (c : Int)], .int .i64 (F : Int), .func (.yield l) #[] #[]] W fun e W' =>
      (e = .returned (.bool true) ∧ J c W' ∧ KeepD M W W') ∨ (e = .returned (.bool false) ∧ ∃ x, x < c ∧ Jx x W' ∧ KeepD M W W') := by
  have h0 : Hid (J 0 (W.alloc (.cells #[.int .i64 r, .int .i64 s, .int .i64 b, .int .i64 o, .int .i64 (c : Int)] 23))) := hJ _ ((Below.refl _ W).alloc (Nat.le_refl _) _)
  have HY : Hid (∀ x W1, x < c → J x W1 → YieldAt Fence.wide 8 Try.prog l #[.int .i64 ((F : Int) + (x : Int))] W1 fun e W' => (e = .returned (.bool true) ∧ J (x + 1) W' ∧ KeepD M W1 W') ∨ (e = .returned (.bool false) ∧ Jx x W' ∧ KeepD M W1 W')) := fun x W1 h1 h2 => by
    have := hY x W1 h1 h2
    rw [show ((F + x : Nat) : Int) = (F : Int) + (x : Int) from by omega] at this
    exact this
  clear hY hJ
  refine callsIn_wide.2 (callsIn_wide (n := 9).1 ?_)
  refine callsIn_of_wp Try.func34 rfl trivial ?_ rfl
  simp only [Try.ntmps34, List.size_toArray, List.length_cons, List.length_nil, Nat.reduceAdd, Nat.reduceSub, Array.replicate_succ, Array.replicate_zero, List.push_toArray, List.append_toArray, List.nil_append, List.cons_append]
  gi_wp2
  obtain ⟨V, hV⟩ : ∃ V, W.alloc (.cells #[.int .i64 r, .int .i64 s, .int .i64 b, .int .i64 o, .int .i64 (c : Int)] 23) = V := ⟨_, rfl⟩
  have HK : Hid (KeepD M W V) := by rw [← hV]; exact KeepD.ofStay hM (Stay.alloc _ W _ (Nat.le_refl _)) (Nat.le_refl _)
  rw [hV] at h0 ⊢
  clear hV hM
  gi_loopw [10] (fun i wr => ∃ x : Nat, x ≤ c ∧ i = .int .i64 (x : Int) ∧ J x wr ∧ KeepD M W wr) (fun i _ => (c - (intOf i).toNat))
  case atStart => exact ⟨0, by omega, rfl, h0.out, HK.out⟩
  case round =>
    obtain ⟨x, hx, rfl, hJs, hK⟩ := hrel
    by_cases hlt : x < c
    · obtain ⟨fn, tmps, assign, body, hyl, hR⟩ := yieldAt_any (m' := 8) (HY.out x wr hlt hJs)
      gi_wp2_with (first | (refine hR.mono ?_; rintro e W3 hE; obtain ⟨r, rfl, hE2⟩ := yields7 hE))
      · rcases hE2.out with ⟨rfl, _⟩ | ⟨_, hJ3, hK3⟩
        · rename_i hr; cases hr
        · refine bodyPost_ret (results_tmp rfl _ _ _) rfl ?_
          exact .inr ⟨rfl, x, hlt, hJ3, hK.trans hK3⟩
      · rcases hE2.out with ⟨_, hJ3, hK3⟩ | ⟨rfl, _⟩
        · refine ⟨⟨_, _, _, _, _, _, _, _, _, _, _, _, ⟨x + 1, by omega, by go_num, hJ3, hK.trans hK3⟩, rfl⟩, ?_⟩
          simp [intOf]; omega
        · rename_i hr; cases hr
    · obtain rfl : x = c := by omega
      gi_wp2
      refine bodyPost_ret (results_tmp rfl _ _ _) rfl ?_
      exact .inl ⟨rfl, hJs, hK⟩

end Go.Proofs.Ytjinbhggimbcbaa
