/-
  A region that draws its order within a round of a range over a function, by the laws of a plain one: a condition S holds along it, and behind it R.
-/
import Derived.Test.YtcpjmfemgdgplaaQuiet
import Derived.OrdersHeld
import Derived.Deep.RegionHeld
namespace Go.Proofs.Ytcpjmfemgdgplaa
open Go.RowKit

theorem upon_wide {n : Nat} {P : Program} {o : Oper} {a : Act} {K : Act → World → Prop} {Q : Exit → Act → World → Prop} {r : Result Next} (h : o.upon P a K Q r) : o.uponIn Fence.wide n P a K Q r := by
  cases r with
  | ok x w' =>
    cases x with
    | value v => exact h
    | skip => exact h
    | defer d => exact h
    | enter f args => exact ⟨(fun e => by cases e), callsIn_wide.2 h⟩
    | row row args => exact ⟨(fun e => by cases e), fun c cs _ => let ⟨v, w'', r, s⟩ := h c cs; ⟨v, w'', r, stepsIn_wide.2 s⟩⟩
    | _ => exact h.elim
  | halt c w' => cases c <;> exact h
theorem oper_round {n l : Nat} {P : Program} {o : Oper} {a : Act} {w : World} {K K' : Act → World → Prop} {Q : Exit → Act → World → Prop} (hd : ∀ c, o.op ≠ .defer c) (hK : ∀ a w, K a w → K' a w)
    (h : o.wp P a w K Q) : o.wpIn (Fence.wide.inRound l) n P a w K' Q :=
  operIn_round hd hK ⟨fun _ _ => trivial, by rw [show Fence.wide.round = none from rfl, Oper.semAt_none]; exact upon_wide h⟩
theorem any_round {n l : Nat} {P : Program} {md : Region.Mode} {ops : Array Oper} {Q : Exit → Act → World → Prop} (hd : ∀ o ∈ ops.toList, ∀ c, o.op ≠ .defer c) (hL : ¬ LetsOut Q) :
    ∀ (fuel : Nat) (listed : Array Bool) (a : Act) (w : World), wpAny P md ops Q fuel listed a w → wpAnyIn (Fence.wide.inRound l) n P md ops Q fuel listed a w
  | 0, _, _, _, h => h
  | fuel + 1, listed, a, w, h => by
    refine ⟨h.1, fun i hi => ?_⟩
    have hi' := h.2 i hi
    unfold wpOpIn
    unfold wpOp at hi'
    cases ho : ops[i]? with
    | none => rw [ho] at hi'; exact any_round hd hL fuel _ _ _ hi'
    | some o =>
      rw [ho] at hi'
      simp only at hi' ⊢
      split at hi'
      · rename_i hw
        rw [if_pos hw]
        rcases hi' with hi' | hi'
        · exact oper_round (hd o (by rw [Array.mem_toList_iff]; exact Array.mem_of_getElem? ho)) (fun a w => any_round hd hL fuel _ a w) hi'
        · exact absurd hi'.2 hL
      · rename_i hw
        rw [if_neg hw]
        exact ⟨fun _ _ => trivial, any_round hd hL fuel _ _ _ hi'⟩
/-- where a region ends: by no way but its end, and R holds there -/
def Ends (R : Act → World → Prop) : Exit → Act → World → Prop
  | .normal, a, w => R a w
  | _, _, _ => False
theorem ends_in {R : Act → World → Prop} : ¬ LetsOut (Ends R) := fun ⟨_, _, h⟩ => h
theorem ends_panic {R : Act → World → Prop} {d : Option Tmp} {v : Value} : ∀ c a w, Ends R (.panic c) (a.put d v) w → Ends R (.panic c) a w := fun _ _ _ h => h
theorem region_round {id n l : Nat} {P : Program} {Q : Exit → Act → World → Prop} {a : Act} {w : World} {ops : Array Oper} (hm : P.follows .mixedOrders = true) (hd : noDefer ops.toList = true) (S : World → Prop) (R : Act → World → Prop) (hS : S w.drew)
    (h : S w.drew → wpAnyH P .any ops (Ends R) S ops.size (Array.replicate ops.size false) a w.drew) (hR : ∀ a' w', R a' w' → Q .normal a' w') : (Code.region id ops true).wpIn (Fence.wide.inRound l) n P Q a w := by
  refine wpIn_mono (Q := Ends R) (wpIn_region_any hm (any_round (noDefer_spec hd) ends_in _ _ _ _ (wpAny_of_held _ _ _ _ (h hS)))) ?_
  intro e a' w' he
  cases e with
  | normal => exact hR a' w' he
  | _ => exact he.elim
theorem region_ends {id : Nat} {P : Program} {Q : Exit → Act → World → Prop} {a : Act} {w : World} {ops : Array Oper} (hm : P.follows .mixedOrders = true) (S : World → Prop) (R : Act → World → Prop) (hS : S w.drew)
    (h : S w.drew → wpAnyH P .any ops (Ends R) S ops.size (Array.replicate ops.size false) a w.drew) (hR : ∀ a' w', R a' w' → Q .normal a' w') : (Code.region id ops true).wp P Q a w := by
  refine Code.wp_mono (Q := Ends R) ?_ (wp_region_held_drew hm hS h)
  intro e a' w' he
  cases e with
  | normal => exact hR a' w' he
  | _ => exact he.elim
/-- what yields v in every world of S is taken at once -/
theorem take_pure {P : Program} {ops : Array Oper} {R : Act → World → Prop} {S : World → Prop} {oi : Oper} {v : Value} {fuel : Nat} {listed : Array Bool} {a : Act} {w : World} (i : Nat) (hi : ops[i]? = some oi)
    (hf : (Region.noSelect ops && Region.free .any ops listed i && (Region.ready .any ops listed).contains i) = true) (hg : oi.guard = none) (hy : ∀ w, S w → (execOp a.eval oi).run P w = .ok (.value v) w) (hS : S w)
    (h : wpAnyH P .any ops (Ends R) S fuel (listed.setIfInBounds i true) (a.put oi.dst v) w) : wpAnyH P .any ops (Ends R) S (fuel + 1) listed a w := by
  simp only [Bool.and_eq_true] at hf
  exact wpAnyH_take hi hf.1.1 hf.1.2 hf.2 ends_panic (.inl ⟨by simp [Region.wanted, hg], hy⟩) hS h
theorem take_if {P : Program} {ops : Array Oper} {R : Act → World → Prop} {S : World → Prop} {oi : Oper} {v : Value} {fuel : Nat} {listed : Array Bool} {a : Act} {w : World} (i : Nat) (hi : ops[i]? = some oi)
    (hf : (Region.noSelect ops && Region.free .any ops listed i && (Region.ready .any ops listed).contains i) = true) (hy : YieldsIf P ops S oi v a) (hS : S w)
    (h : wpAnyH P .any ops (Ends R) S fuel (listed.setIfInBounds i true) (a.put oi.dst v) w) : wpAnyH P .any ops (Ends R) S (fuel + 1) listed a w := by
  simp only [Bool.and_eq_true] at hf
  exact wpAnyH_take hi hf.1.1 hf.1.2 hf.2 ends_panic hy hS h
theorem take_one {P : Program} {ops : Array Oper} {R : Act → World → Prop} {S : World → Prop} {oi : Oper} {fuel : Nat} {listed : Array Bool} {a : Act} {w : World} (i : Nat) (hi : ops[i]? = some oi) (hg : oi.guard = none)
    (hr : Region.ready .any ops listed = [i])
    (h : Oper.wp P oi a w (fun a' w' => S w' ∧ (S w' → wpAnyH P .any ops (Ends R) S fuel (listed.setIfInBounds i true) a' w')) (Ends R)) : wpAnyH P .any ops (Ends R) S (fuel + 1) listed a w := by
  refine wpAnyH_ready hr (by simp) (AllReadyH.cons hi (fun K hK => ?_) AllReadyH.nil)
  have hw : Region.wanted oi (yielded ops a.tmps) = true := by simp [Region.wanted, hg]
  rw [if_pos hw]
  exact Oper.wp_mono (fun a' w' h' => hK.out a' w' h'.1 h'.2) h
theorem take_oneG {P : Program} {ops : Array Oper} {R : Act → World → Prop} {S : World → Prop} {oi : Oper} {fuel : Nat} {listed : Array Bool} {a : Act} {w : World} (i : Nat) (hi : ops[i]? = some oi) (hw : Region.wanted oi (yielded ops a.tmps) = true)
    (hr : Region.ready .any ops listed = [i])
    (h : Oper.wp P oi a w (fun a' w' => S w' ∧ (S w' → wpAnyH P .any ops (Ends R) S fuel (listed.setIfInBounds i true) a' w')) (Ends R)) : wpAnyH P .any ops (Ends R) S (fuel + 1) listed a w := by
  refine wpAnyH_ready hr (by simp) (AllReadyH.cons hi (fun K hK => ?_) AllReadyH.nil)
  rw [if_pos hw]
  exact Oper.wp_mono (fun a' w' h' => hK.out a' w' h'.1 h'.2) h
/-- a call of a Go function by its contract -/
theorem wp_contract {P : Program} {o : Oper} {a : Act} {w : World} {K : Act → World → Prop} {Q : Exit → Act → World → Prop} (f : FuncId) (xs : List Operand) (ts : Array TypeId)
    (ho : o.op = .call { callee := .value (.func f), args := xs.toArray, argTypes := ts }) (eg : ∀ args w, (callFunc f args).run P w = .ok (.enter f args) w) (vs : List Value) (hs : xs.map a.eval = vs)
    {R : Ending → World → Prop} (h : Calls P f vs.toArray w R) (hR : ∀ e w', R e w' → ∃ v, e = .returned v ∧ K (a.put o.dst v) w') : Oper.wp P o a w K Q := by
  have hf : a.eval (.func f) = .func (.func f) #[] #[] := rfl
  unfold Oper.wp
  simp only [execOp, ho, resolve, hf, List.map_toArray, hs]
  simp [invoke, eg, Oper.upon, go_sem]
  refine Calls.mono h ?_
  rintro e w' hr
  obtain ⟨v, rfl, hk⟩ := hR e w' hr
  exact hk
end Go.Proofs.Ytcpjmfemgdgplaa
