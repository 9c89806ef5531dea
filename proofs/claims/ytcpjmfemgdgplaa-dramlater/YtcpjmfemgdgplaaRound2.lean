/-
  More of Round: where two or three operations may come up; an array is laid.
-/
import Derived.Test.YtcpjmfemgdgplaaRound
namespace Go.Proofs.Ytcpjmfemgdgplaa
open Go.RowKit

theorem take_two {P : Program} {ops : Array Oper} {R : Act → World → Prop} {S : World → Prop} {oi oj : Oper} {fuel : Nat} {listed : Array Bool} {a : Act} {w : World} (i j : Nat) (hi : ops[i]? = some oi) (hj : ops[j]? = some oj) (gi : oi.guard = none) (gj : oj.guard = none)
    (hr : Region.ready .any ops listed = [i, j])
    (h1 : Oper.wp P oi a w (fun a' w' => S w' ∧ (S w' → wpAnyH P .any ops (Ends R) S fuel (listed.setIfInBounds i true) a' w')) (Ends R))
    (h2 : Oper.wp P oj a w (fun a' w' => S w' ∧ (S w' → wpAnyH P .any ops (Ends R) S fuel (listed.setIfInBounds j true) a' w')) (Ends R)) : wpAnyH P .any ops (Ends R) S (fuel + 1) listed a w := by
  have hw : ∀ (o : Oper), o.guard = none → Region.wanted o (yielded ops a.tmps) = true := fun o hg => by simp [Region.wanted, hg]
  refine wpAnyH_ready hr (by simp) (AllReadyH.cons hi (fun K hK => ?_) (AllReadyH.cons hj (fun K hK => ?_) AllReadyH.nil))
  · rw [if_pos (hw _ gi)]; exact Oper.wp_mono (fun a' w' h' => hK.out a' w' h'.1 h'.2) h1
  · rw [if_pos (hw _ gj)]; exact Oper.wp_mono (fun a' w' h' => hK.out a' w' h'.1 h'.2) h2
theorem take_three {P : Program} {ops : Array Oper} {R : Act → World → Prop} {S : World → Prop} {oi oj ok : Oper} {fuel : Nat} {listed : Array Bool} {a : Act} {w : World} (i j k : Nat) (hi : ops[i]? = some oi) (hj : ops[j]? = some oj) (hk : ops[k]? = some ok) (gi : oi.guard = none) (gj : oj.guard = none) (gk : ok.guard = none)
    (hr : Region.ready .any ops listed = [i, j, k])
    (h1 : Oper.wp P oi a w (fun a' w' => S w' ∧ (S w' → wpAnyH P .any ops (Ends R) S fuel (listed.setIfInBounds i true) a' w')) (Ends R))
    (h2 : Oper.wp P oj a w (fun a' w' => S w' ∧ (S w' → wpAnyH P .any ops (Ends R) S fuel (listed.setIfInBounds j true) a' w')) (Ends R))
    (h3 : Oper.wp P ok a w (fun a' w' => S w' ∧ (S w' → wpAnyH P .any ops (Ends R) S fuel (listed.setIfInBounds k true) a' w')) (Ends R)) : wpAnyH P .any ops (Ends R) S (fuel + 1) listed a w := by
  have hw : ∀ (o : Oper), o.guard = none → Region.wanted o (yielded ops a.tmps) = true := fun o hg => by simp [Region.wanted, hg]
  refine wpAnyH_ready hr (by simp) (AllReadyH.cons hi (fun K hK => ?_) (AllReadyH.cons hj (fun K hK => ?_) (AllReadyH.cons hk (fun K hK => ?_) AllReadyH.nil)))
  · rw [if_pos (hw _ gi)]; exact Oper.wp_mono (fun a' w' h' => hK.out a' w' h'.1 h'.2) h1
  · rw [if_pos (hw _ gj)]; exact Oper.wp_mono (fun a' w' h' => hK.out a' w' h'.1 h'.2) h2
  · rw [if_pos (hw _ gk)]; exact Oper.wp_mono (fun a' w' h' => hK.out a' w' h'.1 h'.2) h3
/-- an array is laid -/
theorem wp_alloc_agg {P : Program} {o : Oper} {a : Act} {w : World} {K : Act → World → Prop} {Q : Exit → Act → World → Prop} (t : TypeId) (ho : o.op = .alloc t) (A : Array Value) (hz : ∀ w, (zeroValue t).run P w = .ok (.agg A) w)
    (h : K (a.put o.dst (.pointer (some ⟨w.heap.size, 0, none⟩))) (w.alloc (.cells A t))) : Oper.wp P o a w K Q := by
  simp [Oper.wp, execOp, ho, go_sem, Oper.upon, hz]
  exact h
end Go.Proofs.Ytcpjmfemgdgplaa
