/-
  Texts of one family, one behind another: Quiet, Round, Round2, RoundM, GeW1, Calm, GeW2, GeW3.
-/
import Derived.Sort.QuietThIn
import Derived.Deep.Quiet
import Derived.TacticsIn
import Derived.RangeFuncCalls
import Derived.OrdersHeld
import Derived.Deep.RegionHeld
import Derived.Test.YtcpjmfemgdgplaaM01
import Derived.Laws.BitsAllLaws
import Derived.Deep.RegionHeld3
import Derived.Deep.DeepCutAuto
import Derived.BigQuiet

/-
  A region that draws its order and only reads, within a round of a range over a function: one walk serves every order.
-/
namespace Go.Proofs.Ytcpjmfemgdgplaa
open Go.RowKit

theorem quietUpon_wide {n : Nat} {P : Program} {C : World → Prop} {w : World} {v : Value} {r : Result Next} (h : Oper.quietUpon P C w v r) : Oper.quietUponIn Fence.wide n P C w v r := by
  cases r with
  | ok x w' =>
    cases x with
    | value u => exact h
    | skip => exact h
    | enter f args => exact ⟨h.1, (fun e => by cases e), callsIn_wide.2 h.2⟩
    | _ => exact h.elim
  | _ => exact h.elim
theorem wpQuietIn_wide {n : Nat} {P : Program} {ops : Array Oper} {C : World → Prop} {Q : Act → Prop} : ∀ {l : List Oper} {a : Act}, wpQuiet P ops C Q l a → wpQuietIn Fence.wide n P ops C Q l a
  | [], _, h => h
  | o :: l, a, h => by
    refine ⟨fun _ _ _ _ => trivial, ?_⟩
    unfold wpQuiet at h
    split at h
    · rename_i hw
      rw [if_pos hw]
      obtain ⟨v, h1, h2⟩ := h
      exact ⟨v, fun w hC => quietUpon_wide (h1 w hC), wpQuietIn_wide h2⟩
    · rename_i hw
      rw [if_neg hw]
      exact wpQuietIn_wide h

/-- no operation is a defer statement -/
def noDefer (l : List Oper) : Bool := l.all fun o => match o.op with | .defer _ => false | _ => true
theorem noDefer_spec {l : List Oper} (h : noDefer l = true) : ∀ o ∈ l, ∀ c, o.op ≠ .defer c := by
  intro o ho c e
  have := List.all_eq_true.1 h o ho
  rw [e] at this
  cases this
theorem operIn_round {n l : Nat} {P : Program} {o : Oper} {a : Act} {w : World} {K K' : Act → World → Prop} {Q : Exit → Act → World → Prop} (hd : ∀ c, o.op ≠ .defer c) (hK : ∀ a w, K a w → K' a w)
    (h : o.wpIn Fence.wide n P a w K Q) : o.wpIn (Fence.wide.inRound l) n P a w K' Q := by
  have h' := Oper.wpIn_mono hK h
  refine ⟨fun _ _ => trivial, ?_⟩
  have e : o.semAt (Fence.wide.inRound l).round a.eval = o.semAt Fence.wide.round a.eval := by
    show o.semAt (some l) a.eval = o.semAt none a.eval
    rw [Oper.semAt_some l _ o hd, Oper.semAt_none]
  rw [e]
  exact h'.2
theorem anyIn_round {n l : Nat} {P : Program} {md : Region.Mode} {ops : Array Oper} {Q : Exit → Act → World → Prop} (hd : ∀ o ∈ ops.toList, ∀ c, o.op ≠ .defer c) :
    ∀ (fuel : Nat) (listed : Array Bool) (a : Act) (w : World), wpAnyIn Fence.wide n P md ops Q fuel listed a w → wpAnyIn (Fence.wide.inRound l) n P md ops Q fuel listed a w
  | 0, _, _, _, h => h
  | fuel + 1, listed, a, w, h => by
    refine ⟨h.1, fun i hi => ?_⟩
    have hi' := h.2 i hi
    unfold wpOpIn at hi' ⊢
    cases ho : ops[i]? with
    | none => rw [ho] at hi'; exact anyIn_round hd fuel _ _ _ hi'
    | some o =>
      rw [ho] at hi'
      simp only at hi' ⊢
      split at hi'
      · rename_i hw
        rw [if_pos hw]
        exact operIn_round (hd o (by rw [Array.mem_toList_iff]; exact Array.mem_of_getElem? ho)) (fun a w => anyIn_round hd fuel _ a w) hi'
      · rename_i hw
        rw [if_neg hw]
        exact ⟨fun _ _ => trivial, anyIn_round hd fuel _ _ _ hi'.2⟩

theorem quiet_round {id n l : Nat} {P : Program} {Q : Exit → Act → World → Prop} {a : Act} {w : World} {ops : List Oper} (hm : P.follows .mixedOrders = true) (hB : Region.lexB .any ops.toArray = true) (hd : noDefer ops = true)
    (h : wpQuiet P ops.toArray (fun w' => ∃ n, w' = w.drewN n) (fun a' => ∀ w', (∃ n, w' = w.drewN n) → Q .normal a' w') ops a) : (Code.region id ops.toArray true).wpIn (Fence.wide.inRound l) n P Q a w := by
  simp only [Region.lexB, Bool.and_eq_true] at hB
  refine wpIn_region_any hm (anyIn_round (by simpa using noDefer_spec hd) _ _ _ _ (wpAnyIn_of_quiet (C := fun w' => ∃ n, w' = w.drewN n) (Q := fun a' => ∀ w', (∃ n, w' = w.drewN n) → Q .normal a' w') rfl (fun _ w' hw' h => h w' hw') _ _ _ _ ⟨1, rfl⟩ ?_))
  have := wpAnyQIn_lex (F := Fence.wide) (n := n) (C := fun w' => ∃ n, w' = w.drewN n) (md := .any) hB.1 ops 0 (Array.replicate ops.toArray.size false) a (by simp) (by simpa using hB.2) (wpQuietIn_wide h)
  simpa using this
end Go.Proofs.Ytcpjmfemgdgplaa

/-
  A region that draws its order within a round of a range over a function, by the laws of a plain one: a condition S holds along it, and behind it R.
-/
namespace Go.Proofs.Ytcpjmfemgdgplaa
open Go.RowKit

theorem upon_wide {n : Nat} {P : Program} {o : Oper} {a : Act} {K : Act → World → Prop} {Q : Exit → Act → World → Prop} {r : Result Next} (h : o.upon P a K Q r) : o.uponIn Fence.wide n P a K Q r := by
  cases r with
  | ok x w' =>
    cases x with
    | value v => exact h
    | skip => exact h
    | defer d => exact h
    | enter f args => exact ⟨(fun e => by cases e), callsIn_wide.2 h⟩
    | row row args => exact ⟨(fun e => by cases e), fun c cs _ => let ⟨v, w'', r, s⟩ := h c cs; ⟨v, w'', r, stepsIn_wide.2 s⟩⟩
    | _ => exact h.elim
  | halt c w' => cases c <;> exact h
theorem oper_round {n l : Nat} {P : Program} {o : Oper} {a : Act} {w : World} {K K' : Act → World → Prop} {Q : Exit → Act → World → Prop} (hd : ∀ c, o.op ≠ .defer c) (hK : ∀ a w, K a w → K' a w)
    (h : o.wp P a w K Q) : o.wpIn (Fence.wide.inRound l) n P a w K' Q :=
  operIn_round hd hK ⟨fun _ _ => trivial, by rw [show Fence.wide.round = none from rfl, Oper.semAt_none]; exact upon_wide h⟩
theorem any_round {n l : Nat} {P : Program} {md : Region.Mode} {ops : Array Oper} {Q : Exit → Act → World → Prop} (hd : ∀ o ∈ ops.toList, ∀ c, o.op ≠ .defer c) (hL : ¬ LetsOut Q) :
    ∀ (fuel : Nat) (listed : Array Bool) (a : Act) (w : World), wpAny P md ops Q fuel listed a w → wpAnyIn (Fence.wide.inRound l) n P md ops Q fuel listed a w
  | 0, _, _, _, h => h
  | fuel + 1, listed, a, w, h => by
    refine ⟨h.1, fun i hi => ?_⟩
    have hi' := h.2 i hi
    unfold wpOpIn
    unfold wpOp at hi'
    cases ho : ops[i]? with
    | none => rw [ho] at hi'; exact any_round hd hL fuel _ _ _ hi'
    | some o =>
      rw [ho] at hi'
      simp only at hi' ⊢
      split at hi'
      · rename_i hw
        rw [if_pos hw]
        rcases hi' with hi' | hi'
        · exact oper_round (hd o (by rw [Array.mem_toList_iff]; exact Array.mem_of_getElem? ho)) (fun a w => any_round hd hL fuel _ a w) hi'
        · exact absurd hi'.2 hL
      · rename_i hw
        rw [if_neg hw]
        exact ⟨fun _ _ => trivial, any_round hd hL fuel _ _ _ hi'⟩
/-- where a region ends: by no way but its end, and R holds there -/
def Ends (R : Act → World → Prop) : Exit → Act → World → Prop
  | .normal, a, w => R a w
  | _, _, _ => False
theorem ends_in {R : Act → World → Prop} : ¬ LetsOut (Ends R) := fun ⟨_, _, h⟩ => h
theorem ends_panic {R : Act → World → Prop} {d : Option Tmp} {v : Value} : ∀ c a w, Ends R (.panic c) (a.put d v) w → Ends R (.panic c) a w := fun _ _ _ h => h
theorem region_round {id n l : Nat} {P : Program} {Q : Exit → Act → World → Prop} {a : Act} {w : World} {ops : Array Oper} (hm : P.follows .mixedOrders = true) (hd : noDefer ops.toList = true) (S : World → Prop) (R : Act → World → Prop) (hS : S w.drew)
    (h : S w.drew → wpAnyH P .any ops (Ends R) S ops.size (Array.replicate ops.size false) a w.drew) (hR : ∀ a' w', R a' w' → Q .normal a' w') : (Code.region id ops true).wpIn (Fence.wide.inRound l) n P Q a w := by
  refine wpIn_mono (Q := Ends R) (wpIn_region_any hm (any_round (noDefer_spec hd) ends_in _ _ _ _ (wpAny_of_held _ _ _ _ (h hS)))) ?_
  intro e a' w' he
  cases e with
  | normal => exact hR a' w' he
  | _ => exact he.elim
theorem region_ends {id : Nat} {P : Program} {Q : Exit → Act → World → Prop} {a : Act} {w : World} {ops : Array Oper} (hm : P.follows .mixedOrders = true) (S : World → Prop) (R : Act → World → Prop) (hS : S w.drew)
    (h : S w.drew → wpAnyH P .any ops (Ends R) S ops.size (Array.replicate ops.size false) a w.drew) (hR : ∀ a' w', R a' w' → Q .normal a' w') : (Code.region id ops true).wp P Q a w := by
  refine Code.wp_mono (Q := Ends R) ?_ (wp_region_held_drew hm hS h)
  intro e a' w' he
  cases e with
  | normal => exact hR a' w' he
  | _ => exact he.elim
/-- what yields v in every world of S is taken at once -/
theorem take_pure {P : Program} {ops : Array Oper} {R : Act → World → Prop} {S : World → Prop} {oi : Oper} {v : Value} {fuel : Nat} {listed : Array Bool} {a : Act} {w : World} (i : Nat) (hi : ops[i]? = some oi)
    (hf : (Region.noSelect ops && Region.free .any ops listed i && (Region.ready .any ops listed).contains i) = true) (hg : oi.guard = none) (hy : ∀ w, S w → (execOp a.eval oi).run P w = .ok (.value v) w) (hS : S w)
    (h : wpAnyH P .any ops (Ends R) S fuel (listed.setIfInBounds i true) (a.put oi.dst v) w) : wpAnyH P .any ops (Ends R) S (fuel + 1) listed a w := by
  simp only [Bool.and_eq_true] at hf
  exact wpAnyH_take hi hf.1.1 hf.1.2 hf.2 ends_panic (.inl ⟨by simp [Region.wanted, hg], hy⟩) hS h
theorem take_if {P : Program} {ops : Array Oper} {R : Act → World → Prop} {S : World → Prop} {oi : Oper} {v : Value} {fuel : Nat} {listed : Array Bool} {a : Act} {w : World} (i : Nat) (hi : ops[i]? = some oi)
    (hf : (Region.noSelect ops && Region.free .any ops listed i && (Region.ready .any ops listed).contains i) = true) (hy : YieldsIf P ops S oi v a) (hS : S w)
    (h : wpAnyH P .any ops (Ends R) S fuel (listed.setIfInBounds i true) (a.put oi.dst v) w) : wpAnyH P .any ops (Ends R) S (fuel + 1) listed a w := by
  simp only [Bool.and_eq_true] at hf
  exact wpAnyH_take hi hf.1.1 hf.1.2 hf.2 ends_panic hy hS h
theorem take_one {P : Program} {ops : Array Oper} {R : Act → World → Prop} {S : World → Prop} {oi : Oper} {fuel : Nat} {listed : Array Bool} {a : Act} {w : World} (i : Nat) (hi : ops[i]? = some oi) (hg : oi.guard = none)
    (hr : Region.ready .any ops listed = [i])
    (h : Oper.wp P oi a w (fun a' w' => S w' ∧ (S w' → wpAnyH P .any ops (Ends R) S fuel (listed.setIfInBounds i true) a' w')) (Ends R)) : wpAnyH P .any ops (Ends R) S (fuel + 1) listed a w := by
  refine wpAnyH_ready hr (by simp) (AllReadyH.cons hi (fun K hK => ?_) AllReadyH.nil)
  have hw : Region.wanted oi (yielded ops a.tmps) = true := by simp [Region.wanted, hg]
  rw [if_pos hw]
  exact Oper.wp_mono (fun a' w' h' => hK.out a' w' h'.1 h'.2) h
theorem take_oneG {P : Program} {ops : Array Oper} {R : Act → World → Prop} {S : World → Prop} {oi : Oper} {fuel : Nat} {listed : Array Bool} {a : Act} {w : World} (i : Nat) (hi : ops[i]? = some oi) (hw : Region.wanted oi (yielded ops a.tmps) = true)
    (hr : Region.ready .any ops listed = [i])
    (h : Oper.wp P oi a w (fun a' w' => S w' ∧ (S w' → wpAnyH P .any ops (Ends R) S fuel (listed.setIfInBounds i true) a' w')) (Ends R)) : wpAnyH P .any ops (Ends R) S (fuel + 1) listed a w := by
  refine wpAnyH_ready hr (by simp) (AllReadyH.cons hi (fun K hK => ?_) AllReadyH.nil)
  rw [if_pos hw]
  exact Oper.wp_mono (fun a' w' h' => hK.out a' w' h'.1 h'.2) h
/-- a call of a Go function by its contract -/
theorem wp_contract {P : Program} {o : Oper} {a : Act} {w : World} {K : Act → World → Prop} {Q : Exit → Act → World → Prop} (f : FuncId) (xs : List Operand) (ts : Array TypeId)
    (ho : o.op = .call { callee := .value (.func f), args := xs.toArray, argTypes := ts }) (eg : ∀ args w, (callFunc f args).run P w = .ok (.enter f args) w) (vs : List Value) (hs : xs.map a.eval = vs)
    {R : Ending → World → Prop} (h : Calls P f vs.toArray w R) (hR : ∀ e w', R e w' → ∃ v, e = .returned v ∧ K (a.put o.dst v) w') : Oper.wp P o a w K Q := by
  have hf : a.eval (.func f) = .func (.func f) #[] #[] := rfl
  unfold Oper.wp
  simp only [execOp, ho, resolve, hf, List.map_toArray, hs]
  simp [invoke, eg, Oper.upon, go_sem]
  refine Calls.mono h ?_
  rintro e w' hr
  obtain ⟨v, rfl, hk⟩ := hR e w' hr
  exact hk
end Go.Proofs.Ytcpjmfemgdgplaa

/-
  More of Round: where two or three operations may come up; an array is laid.
-/
namespace Go.Proofs.Ytcpjmfemgdgplaa
open Go.RowKit

theorem take_two {P : Program} {ops : Array Oper} {R : Act → World → Prop} {S : World → Prop} {oi oj : Oper} {fuel : Nat} {listed : Array Bool} {a : Act} {w : World} (i j : Nat) (hi : ops[i]? = some oi) (hj : ops[j]? = some oj) (gi : oi.guard = none) (gj : oj.guard = none)
    (hr : Region.ready .any ops listed = [i, j])
    (h1 : Oper.wp P oi a w (fun a' w' => S w' ∧ (S w' → wpAnyH P .any ops (Ends R) S fuel (listed.setIfInBounds i true) a' w')) (Ends R))
    (h2 : Oper.wp P oj a w (fun a' w' => S w' ∧ (S w' → wpAnyH P .any ops (Ends R) S fuel (listed.setIfInBounds j true) a' w')) (Ends R)) : wpAnyH P .any ops (Ends R) S (fuel + 1) listed a w := by
  have hw : ∀ (o : Oper), o.guard = none → Region.wanted o (yielded ops a.tmps) = true := fun o hg => by simp [Region.wanted, hg]
  refine wpAnyH_ready hr (by simp) (AllReadyH.cons hi (fun K hK => ?_) (AllReadyH.cons hj (fun K hK => ?_) AllReadyH.nil))
  · rw [if_pos (hw _ gi)]; exact Oper.wp_mono (fun a' w' h' => hK.out a' w' h'.1 h'.2) h1
  · rw [if_pos (hw _ gj)]; exact Oper.wp_mono (fun a' w' h' => hK.out a' w' h'.1 h'.2) h2
theorem take_three {P : Program} {ops : Array Oper} {R : Act → World → Prop} {S : World → Prop} {oi oj ok : Oper} {fuel : Nat} {listed : Array Bool} {a : Act} {w : World} (i j k : Nat) (hi : ops[i]? = some oi) (hj : ops[j]? = some oj) (hk : ops[k]? = some ok) (gi : oi.guard = none) (gj : oj.guard = none) (gk : ok.guard = none)
    (hr : Region.ready .any ops listed = [i, j, k])
    (h1 : Oper.wp P oi a w (fun a' w' => S w' ∧ (S w' → wpAnyH P .any ops (Ends R) S fuel (listed.setIfInBounds i true) a' w')) (Ends R))
    (h2 : Oper.wp P oj a w (fun a' w' => S w' ∧ (S w' → wpAnyH P .any ops (Ends R) S fuel (listed.setIfInBounds j true) a' w')) (Ends R))
    (h3 : Oper.wp P ok a w (fun a' w' => S w' ∧ (S w' → wpAnyH P .any ops (Ends R) S fuel (listed.setIfInBounds k true) a' w')) (Ends R)) : wpAnyH P .any ops (Ends R) S (fuel + 1) listed a w := by
  have hw : ∀ (o : Oper), o.guard = none → Region.wanted o (yielded ops a.tmps) = true := fun o hg => by simp [Region.wanted, hg]
  refine wpAnyH_ready hr (by simp) (AllReadyH.cons hi (fun K hK => ?_) (AllReadyH.cons hj (fun K hK => ?_) (AllReadyH.cons hk (fun K hK => ?_) AllReadyH.nil)))
  · rw [if_pos (hw _ gi)]; exact Oper.wp_mono (fun a' w' h' => hK.out a' w' h'.1 h'.2) h1
  · rw [if_pos (hw _ gj)]; exact Oper.wp_mono (fun a' w' h' => hK.out a' w' h'.1 h'.2) h2
  · rw [if_pos (hw _ gk)]; exact Oper.wp_mono (fun a' w' h' => hK.out a' w' h'.1 h'.2) h3
/-- an array is laid -/
theorem wp_alloc_agg {P : Program} {o : Oper} {a : Act} {w : World} {K : Act → World → Prop} {Q : Exit → Act → World → Prop} (t : TypeId) (ho : o.op = .alloc t) (A : Array Value) (hz : ∀ w, (zeroValue t).run P w = .ok (.agg A) w)
    (h : K (a.put o.dst (.pointer (some ⟨w.heap.size, 0, none⟩))) (w.alloc (.cells A t))) : Oper.wp P o a w K Q := by
  simp [Oper.wp, execOp, ho, go_sem, Oper.upon, hz]
  exact h
end Go.Proofs.Ytcpjmfemgdgplaa

/-
  Loads and stores of whole arrays in a fenced walk: of an iterator, and of a round of a range over a function.
-/
namespace Go.Proofs.Ytcpjmfemgdgplaa
open Go.RowKit

theorem Keep.setAt {M : Nat → Prop} {X Y : World} (h : Keep M X Y) {c : Nat} (hc : M c) (i : Nat) (u : Value) : Keep M X (Y.setCell ⟨c, i, none⟩ u) :=
  h.trans ⟨by simp, fun b _ hm => Below.heap_setCell Y _ u b (fun e => hm (by subst e; exact hc))⟩
theorem size_puts (c : Nat) : ∀ (vs : List Value) (o : Nat) (W : World), (W.setCells c o vs).heap.size = W.heap.size
  | [], _, _ => rfl
  | v :: vs, o, W => (size_puts c vs (o + 1) _).trans (by simp)
theorem Keep.puts {M : Nat → Prop} {X Y : World} (h : Keep M X Y) {c : Nat} (hc : M c) (i : Nat) (vs : List Value) : Keep M X (Y.setCells c i vs) :=
  h.trans ⟨by rw [size_puts]; exact Nat.le_refl _, fun b _ hm => heap_puts c vs i Y b (fun e => hm (by subst e; exact hc))⟩
/-- a block that was laid meanwhile may be written -/
theorem Keep.putsNew {M : Nat → Prop} {X Y : World} (h : Keep M X Y) {c : Nat} (hc : X.heap.size ≤ c) (i : Nat) (vs : List Value) : Keep M X (Y.setCells c i vs) :=
  ⟨by rw [size_puts]; exact h.1, fun b hb hm => (heap_puts c vs i Y b (by omega)).trans (h.2 b hb hm)⟩
section
variable {n l : Nat} {P : Program} {ops : Array Oper} {rest : List Oper} {op : Oper} {a : Act} {w : World} {Q : Exit → Act → World → Prop}
theorem oper_wide {K : Act → World → Prop} (h : op.wp P a w K Q) : op.wpIn Fence.wide n P a w K Q :=
  ⟨fun _ _ => trivial, by rw [show Fence.wide.round = none from rfl, Oper.semAt_none]; exact upon_wide h⟩
theorem load_wide (hgd : op.guard = none) (ty : TypeId) (x : Operand) (ho : op.op = .load ty x)
    (b o : Nat) (hx : a.eval x = .pointer (some ⟨b, o, none⟩)) (cs : List Value) (d : TypeDesc) (hc : w.rangeAt b o cs)
    (hu : P.underlying ty = some d) (hd : d.isRow = true) (hi : (P.info? ty).map (·.size) = some cs.length)
    (h : wpListIn Fence.wide n P ops Q rest (a.put op.dst (.agg cs.toArray)) w) : wpListIn Fence.wide n P ops Q (op :: rest) a w :=
  wpListIn_plain hgd fun _ hK => oper_wide (wp_load_mid ty x ho b o hx cs d hc hu hd hi (hK _ _ h))
theorem store_wide (hgd : op.guard = none) (ty : TypeId) (x y : Operand) (ho : op.op = .store ty x y)
    (b o : Nat) (cs : Array Value) (hx : a.eval x = .pointer (some ⟨b, o, none⟩)) (hy : a.eval y = .agg cs) (hc : w.there b o cs.size) (hi : (P.info? ty).map (·.size) = some cs.size) (h1 : cs.all (·.oneCell') = true)
    (h : wpListIn Fence.wide n P ops Q rest (a.put op.dst undef) (w.setCells b o cs.toList)) : wpListIn Fence.wide n P ops Q (op :: rest) a w :=
  wpListIn_plain hgd fun _ hK => oper_wide (wp_store_mid ty x y ho b o cs hx hy hc hi h1 (hK _ _ h))
theorem load_round (hgd : op.guard = none) (ty : TypeId) (x : Operand) (ho : op.op = .load ty x)
    (b o : Nat) (hx : a.eval x = .pointer (some ⟨b, o, none⟩)) (cs : List Value) (d : TypeDesc) (hc : w.rangeAt b o cs)
    (hu : P.underlying ty = some d) (hd : d.isRow = true) (hi : (P.info? ty).map (·.size) = some cs.length)
    (h : wpListIn (Fence.wide.inRound l) n P ops Q rest (a.put op.dst (.agg cs.toArray)) w) : wpListIn (Fence.wide.inRound l) n P ops Q (op :: rest) a w :=
  wpListIn_plain hgd fun _ hK => oper_round (fun c e => by rw [ho] at e; cases e) (fun _ _ h => h) (wp_load_mid ty x ho b o hx cs d hc hu hd hi (hK _ _ h))
theorem load_roundG (hw : Region.wanted op (yielded ops a.tmps) = true) (ty : TypeId) (x : Operand) (ho : op.op = .load ty x)
    (b o : Nat) (hx : a.eval x = .pointer (some ⟨b, o, none⟩)) (cs : List Value) (d : TypeDesc) (hc : w.rangeAt b o cs)
    (hu : P.underlying ty = some d) (hd : d.isRow = true) (hi : (P.info? ty).map (·.size) = some cs.length)
    (h : wpListIn (Fence.wide.inRound l) n P ops Q rest (a.put op.dst (.agg cs.toArray)) w) : wpListIn (Fence.wide.inRound l) n P ops Q (op :: rest) a w :=
  wpListIn_step fun K hK => by
    rw [if_pos hw]
    exact oper_round (fun c e => by rw [ho] at e; cases e) (fun _ _ h => h) (wp_load_mid ty x ho b o hx cs d hc hu hd hi (hK _ _ h))
theorem store_round (hgd : op.guard = none) (ty : TypeId) (x y : Operand) (ho : op.op = .store ty x y)
    (b o : Nat) (cs : Array Value) (hx : a.eval x = .pointer (some ⟨b, o, none⟩)) (hy : a.eval y = .agg cs) (hc : w.there b o cs.size) (hi : (P.info? ty).map (·.size) = some cs.size) (h1 : cs.all (·.oneCell') = true)
    (h : wpListIn (Fence.wide.inRound l) n P ops Q rest (a.put op.dst undef) (w.setCells b o cs.toList)) : wpListIn (Fence.wide.inRound l) n P ops Q (op :: rest) a w :=
  wpListIn_plain hgd fun _ hK => oper_round (fun c e => by rw [ho] at e; cases e) (fun _ _ h => h) (wp_store_mid ty x y ho b o cs hx hy hc hi h1 (hK _ _ h))
end
end Go.Proofs.Ytcpjmfemgdgplaa

/-
  The walks of package geom, the leaves: powers of 2, indices, places, an index's lowest bits; the document's.
-/
namespace Go.Proofs.Ytcpjmfemgdgplaa
open Go.RowKit
open Bm (wt wtK)
open Ge (pw rt hd ix)

/-- the lowest bits of a number -/
theorem i64_mask (i : Int) (k M : Nat) (hk : k < 63) (hM : 2 ^ k = M) : bits .and .i64 i ((M - 1 : Nat) : Int) = i % (M : Int) := by
  have hM1 : M ≤ 9223372036854775808 := by rw [← hM]; exact Nat.le_trans (Nat.pow_le_pow_right (by omega) (show k ≤ 63 by omega)) (by decide)
  have hM0 : 0 < M := by rw [← hM]; exact Nat.pow_pos (by omega)
  show IntKind.i64.wrap ((BitVec.ofInt 64 i &&& BitVec.ofInt 64 ((M - 1 : Nat) : Int)).toNat : Int) = _
  rw [BitVec.toNat_and, ofInt_u64 (M - 1) (by omega)]
  rw [← hM, Nat.and_two_pow_sub_one_eq_mod, hM]
  have e1 : ((BitVec.ofInt 64 i).toNat : Int) = i % 18446744073709551616 := by rw [BitVec.toNat_ofInt]; simp; omega
  have e2 : (((BitVec.ofInt 64 i).toNat % M : Nat) : Int) = i % (M : Int) := by
    rw [Int.natCast_emod, e1]
    refine Int.emod_emod_of_dvd _ ?_
    rw [← hM]
    exact Int.ofNat_dvd.2 (show 2 ^ k ∣ 2 ^ 64 from Nat.pow_dvd_pow 2 (by omega))
  have b0 : 0 ≤ i % (M : Int) := Int.emod_nonneg _ (by omega)
  have b1 : i % (M : Int) < M := Int.emod_lt_of_pos _ (by omega)
  rw [e2]
  simp [IntKind.wrap, IntKind.bits, IntKind.signed]
  omega
/-- numbers that share no bit -/
theorem i64_join (x y : Int) (k : Nat) (hx : 0 ≤ x) (hx1 : x < 4611686018427387904) (hd : x % ((2 ^ k : Nat) : Int) = 0) (hy : 0 ≤ y) (hy1 : y < ((2 ^ k : Nat) : Int)) (hk : k < 62) : bits .or .i64 x y = x + y := by
  obtain ⟨a, rfl⟩ := Int.eq_ofNat_of_zero_le hx
  obtain ⟨b, rfl⟩ := Int.eq_ofNat_of_zero_le hy
  have h2 : 2 ^ k ≤ 4611686018427387904 := Nat.le_trans (Nat.pow_le_pow_right (by omega) (show k ≤ 62 by omega)) (by decide)
  have hb : b < 2 ^ k := by omega
  have ha : a % 2 ^ k = 0 := by rw [← Int.natCast_emod] at hd; omega
  show IntKind.i64.wrap ((BitVec.ofInt 64 (a : Int) ||| BitVec.ofInt 64 (b : Int)).toNat : Int) = _
  rw [BitVec.toNat_or, ofInt_u64 a (by omega), ofInt_u64 b (by omega), nat_join k a b ha hb]
  simp [IntKind.wrap, IntKind.bits, IntKind.signed]
  omega

theorem isPower_yes (k m : Nat) (t : Nat) (hp : 0 < k) (hq : k ≤ m) (hm : m ≤ 1024) (hc : Hid (∀ w, Calls Try.prog 81 #[.int .u64 (k : Int)] w fun e w' => e = .returned (.int .i64 (t : Int)) ∧ w' = w)) (w : World) :
    Calls Try.prog 64 #[.int .i64 (k : Int), .int .i64 (m : Int)] w fun e w' => e = .returned (.bool ((t : Int) == 1)) ∧ w' = w := by
  go_enter Try.func64, Try.ntmps64
  go_wp2_with (go_at_call 81; refine (hc.out _).mono ?_; rintro e w' ⟨rfl, rfl⟩)
  go_ret
  exact ⟨rfl, rfl⟩
theorem isPower_any (n m : Int) (hm0 : 0 ≤ m) (hm : m ≤ 1024) (w : World) :
    Calls Try.prog 64 #[.int .i64 n, .int .i64 m] w fun e w' => e = .returned (.bool (pw n m)) ∧ w' = w := by
  by_cases hp : 0 < n
  · by_cases hq : n ≤ m
    · obtain ⟨k, rfl⟩ := Int.eq_ofNat_of_zero_le (show 0 ≤ n by omega)
      obtain ⟨j, rfl⟩ := Int.eq_ofNat_of_zero_le hm0
      have hk : k < 1025 := by omega
      have := isPower_yes k j (wt k) (by omega) (by omega) (by omega) (fun w => weight64_any k (by omega) w) w
      rw [show (((wt k : Nat) : Int) == 1) = pw (k : Int) (j : Int) from by
        rw [← Ge.isp_pw k j (by omega), ← Ge.isp_wt k hk, Bool.eq_iff_iff, beq_iff_eq, decide_eq_true_eq]; omega] at this
      exact this
    · rw [show pw n m = false from Ge.pw_high (by omega)]
      go_enter Try.func64, Try.ntmps64
      go_wp2
      go_ret
      exact ⟨rfl, rfl⟩
  · rw [show pw n m = false from Ge.pw_low (by omega)]
    go_enter Try.func64, Try.ntmps64
    go_wp2
    go_ret
    exact ⟨rfl, rfl⟩

theorem isBelow_any (n m : Int) (w : World) :
    Calls Try.prog 75 #[.int .i64 n, .int .i64 m] w fun e w' => e = .returned (.bool (decide (0 ≤ n ∧ n < m))) ∧ w' = w := by
  by_cases hp : 0 ≤ n
  · by_cases hq : n < m
    · go_enter Try.func75, Try.ntmps75
      go_wp2
      go_ret
      exact ⟨by simp [hp, hq], rfl⟩
    · go_enter Try.func75, Try.ntmps75
      go_wp2
      go_ret
      exact ⟨by simp [hq], rfl⟩
  · go_enter Try.func75, Try.ntmps75
    go_wp2
    go_ret
    refine ⟨?_, rfl⟩
    rw [show (decide (0 ≤ n) && decide (n < m)) = false from by rw [decide_eq_false (by omega), Bool.false_and]]
    rfl

theorem allRanks_any (r s b o c : Int) (h0 : 0 ≤ r + s) (h1 : r + s < 1000) (w : World) :
    Calls Try.prog 65 #[.agg #[.int .i64 r, .int .i64 s, .int .i64 b, .int .i64 o, .int .i64 c]] w fun e w' => e = .returned (.int .i64 (r + s)) ∧ Below w.heap.size w w' := by
  go_enter Try.func65, Try.ntmps65
  go_wp2
  go_ret
  exact ⟨rfl, (Below.refl _ w).alloc (Nat.le_refl _) _⟩

theorem refIndex_any (p q u v : Int) (hp : 0 ≤ p ∧ p < 8) (hq : 0 ≤ q ∧ q < 16) (hu : 0 ≤ u ∧ u < 1024) (hv : 0 ≤ v ∧ v < 64) (w : World) :
    Calls Try.prog 67 #[.agg #[.int .i64 p, .int .i64 q, .int .i64 u, .int .i64 v]] w fun e w' => e = .returned (.int .i64 (ix p q u v)) ∧ Below w.heap.size w w' := by
  obtain ⟨hp0, hp1⟩ := hp
  obtain ⟨hq0, hq1⟩ := hq
  obtain ⟨hu0, hu1⟩ := hu
  obtain ⟨hv0, hv1⟩ := hv
  go_enter Try.func67, Try.ntmps67
  go_wp2
  go_ret
  exact ⟨rfl, (Below.refl _ w).alloc (Nat.le_refl _) _⟩
theorem refPlace_any (i : Int) (h0 : 0 ≤ i) (h1 : i < 9223372036854775808) (w : World) :
    Calls Try.prog 44 #[.int .i64 i] w fun e w' => e = .returned (.agg #[.int .i64 (i / 1048576), .int .i64 (i / 65536 % 16), .int .i64 (i / 64 % 1024), .int .i64 (i % 64)]) ∧ Below w.heap.size w w' := by
  have q0 : 0 ≤ i / 65536 := by omega
  have q1 : i / 65536 < 9223372036854775808 := by omega
  have q2 : 0 ≤ i / 64 := by omega
  have q3 : i / 64 < 9223372036854775808 := by omega
  go_enter Try.func44, Try.ntmps44
  go_wp2
  refine bodyPost_ret (results_cell_row rfl _ _ w.heap.size _ _ (0, 0) _ rfl (World.alloc_heap_new w _) Try.underlying49 rfl (by kernel_rfl)) rfl ⟨?_, (Below.refl _ w).alloc (Nat.le_refl _) _⟩
  rfl
theorem placeOf_any (i : Int) (w : World) :
    Calls Try.prog 82 #[.int .i64 i] w fun e w' => e = .returned (.agg #[.int .i64 (i / 1048576), .int .i64 (i / 65536 % 16), .int .i64 (i / 64 % 1024), .int .i64 (i % 64)]) ∧ Below w.heap.size w w' := by
  have m1 : bits .and .i64 (i / 65536) 15 = i / 65536 % 16 := i64_mask (i / 65536) 4 16 (by omega) (by decide)
  have m2 : bits .and .i64 (i / 64) 1023 = i / 64 % 1024 := i64_mask (i / 64) 10 1024 (by omega) (by decide)
  have m3 : bits .and .i64 i 63 = i % 64 := i64_mask i 6 64 (by omega) (by decide)
  go_enter Try.func82, Try.ntmps82
  go_wp2
  refine bodyPost_ret (results_cell_row rfl _ _ w.heap.size _ _ (0, 0) _ rfl (World.alloc_heap_new w _) Try.underlying36 rfl (by kernel_rfl)) rfl ⟨?_, (Below.refl _ w).alloc (Nat.le_refl _) _⟩
  first | rfl | rw [m1, m2, m3]
theorem index7_any (p q u v : Int) (hp : 0 ≤ p ∧ p < 8) (hq : 0 ≤ q ∧ q < 16) (hu : 0 ≤ u ∧ u < 1024) (hv : 0 ≤ v ∧ v < 64) (w : World) :
    Calls Try.prog 49 #[.agg #[.int .i64 p, .int .i64 q, .int .i64 u, .int .i64 v]] w fun e w' => e = .returned (.int .i64 (ix p q u v)) ∧ Below w.heap.size w w' := by
  obtain ⟨hp0, hp1⟩ := hp
  obtain ⟨hq0, hq1⟩ := hq
  obtain ⟨hu0, hu1⟩ := hu
  obtain ⟨hv0, hv1⟩ := hv
  have m1 : bits .or .i64 (p * 1048576) (q * 65536) = p * 1048576 + q * 65536 := i64_join _ _ 20 (by omega) (by omega) (by first | (simp; done) | (simp; omega)) (by omega) (by simp; omega) (by omega)
  have m2 : bits .or .i64 (p * 1048576 + q * 65536) (u * 64) = p * 1048576 + q * 65536 + u * 64 := i64_join _ _ 16 (by omega) (by omega) (by first | (simp; done) | (simp; omega)) (by omega) (by simp; omega) (by omega)
  have m3 : bits .or .i64 (p * 1048576 + q * 65536 + u * 64) v = p * 1048576 + q * 65536 + u * 64 + v := i64_join _ _ 6 (by omega) (by omega) (by first | (simp; done) | (simp; omega)) (by omega) (by simp; omega) (by omega)
  have e : Hid (p * 1048576 + q * 65536 + u * 64 + v = ix p q u v) := by show _ = _; unfold ix; omega
  go_enter Try.func49, Try.ntmps49
  go_wp2_with (first | simp only [m1] | simp only [m2] | simp only [m3])
  go_ret
  exact ⟨by rw [← e.out]; rfl, (Below.refl _ w).alloc (Nat.le_refl _) _⟩

set_option maxHeartbeats 1000000 in
theorem refPower_any (n m : Int) (h0 : -9223372036854775808 ≤ n) (h1 : n < 9223372036854775808) (hm0 : 0 ≤ m) (hm : m ≤ 1024) (w : World) :
    Calls Try.prog 36 #[.int .i64 n, .int .i64 m] w fun e w' => e = .returned (.bool (pw n m)) ∧ w' = w := by
  obtain ⟨z, Hz⟩ : ∃ z, Hid (pw n m = z) := ⟨_, rfl⟩
  rw [Hz.out]
  go_enter Try.func36, Try.ntmps36
  go_wp2
  go_loop [5] (fun a => ∃ p : Int, 1 ≤ p ∧ p ≤ 2048 ∧ a = .int .i64 p ∧ Hid (p = 1 ∨ p = 2 ∨ p = 4 ∨ p = 8 ∨ p = 16 ∨ p = 32 ∨ p = 64 ∨ p = 128 ∨ p = 256 ∨ p = 512 ∨ p = 1024 ∨ p = 2048) ∧ Hid (n < p → pw n m = false)) (fun a => 4096 - (intOf a).toNat)
  case atStart => exact ⟨1, by omega, by omega, rfl, .inl rfl, fun h => Ge.pw_low (by omega)⟩
  case round =>
    obtain ⟨p, hp1, hp2, rfl, Hp, Hn⟩ := hrel
    by_cases hle : p ≤ m
    · by_cases hn : n = p
      · have e : pw n m = true := by
          have := Hp.out
          unfold pw
          rw [decide_eq_true (by omega), decide_eq_true (by omega), Bool.and_true]
        obtain rfl : z = true := by rw [← Hz.out, e]
        clear e Hz Hn
        subst hn
        go_wp2
        go_ret
        exact ⟨rfl, rfl⟩
      · have HN : Hid (n < p * 2 → pw n m = false) := fun h => by
          by_cases h2 : n < p
          · exact Hn.out h2
          · have := Hp.out
            unfold pw
            rw [decide_eq_false (by omega), Bool.false_and]
        have hp3 : p ≤ 1024 := by omega
        go_wp2
        go_round
        case rel => exact ⟨p * 2, by omega, by omega, by go_num, by have := Hp.out; show _ ∨ _; omega, HN⟩
        case measure => simp [intOf]; omega
    · have e : pw n m = false := by
        by_cases h2 : n < p
        · exact Hn.out h2
        · exact Ge.pw_high (by omega)
      obtain rfl : z = false := by rw [← Hz.out, e]
      clear e Hz Hn
      go_wp2
      go_ret
      exact ⟨rfl, rfl⟩
end Go.Proofs.Ytcpjmfemgdgplaa

/-
  A region that draws its order and whose own operations only read, while what it calls may lay new blocks: one walk, in the order of the text, serves every order. The worlds that it may meet are named by an index u: what is known of them is known of 'f u'.
-/
namespace Go.Proofs.Ytcpjmfemgdgplaa
open Go.RowKit

theorem region_calm {id : Nat} {P : Program} {Q : Exit → Act → World → Prop} {a : Act} {w : World} {l : List Oper} (hm : P.follows .mixedOrders = true) (hB : Region.lexB .any l.toArray = true) (S : World → Prop) (hS : S w.drew)
    (h : ∀ (U : Type) (_ : Nonempty U) (f : U → World), (∀ u, S (f u)) → (∀ W, S W → ∃ u, W = f u) → wpQuiet P l.toArray (fun w' => ∃ u, w' = f u) (fun a' => ∀ w', (∃ u, w' = f u) → Q .normal a' w') l a) : (Code.region id l.toArray true).wp P Q a w := by
  have := h { x : World // S x } ⟨⟨_, hS⟩⟩ (fun x => x.1) (fun u => u.2) (fun W hW => ⟨⟨W, hW⟩, rfl⟩)
  exact wp_region_quiet (C := fun w' => ∃ u : { x : World // S x }, w' = u.1) hm hB ⟨⟨_, hS⟩, rfl⟩ (by simpa using this)
theorem round_calm {id n lo : Nat} {P : Program} {Q : Exit → Act → World → Prop} {a : Act} {w : World} {l : List Oper} (hm : P.follows .mixedOrders = true) (hB : Region.lexB .any l.toArray = true) (hd : noDefer l = true) (S : World → Prop) (hS : S w.drew)
    (h : ∀ (U : Type) (_ : Nonempty U) (f : U → World), (∀ u, S (f u)) → (∀ W, S W → ∃ u, W = f u) → wpQuiet P l.toArray (fun w' => ∃ u, w' = f u) (fun a' => ∀ w', (∃ u, w' = f u) → Q .normal a' w') l a) : (Code.region id l.toArray true).wpIn (Fence.wide.inRound lo) n P Q a w := by
  have h1 := h { x : World // S x } ⟨⟨_, hS⟩⟩ (fun x => x.1) (fun u => u.2) (fun W hW => ⟨⟨W, hW⟩, rfl⟩)
  simp only [Region.lexB, Bool.and_eq_true] at hB
  refine wpIn_region_any hm (anyIn_round (by simpa using noDefer_spec hd) _ _ _ _ (wpAnyIn_of_quiet (C := fun w' => ∃ u : { x : World // S x }, w' = u.1) (Q := fun a' => ∀ w', (∃ u : { x : World // S x }, w' = u.1) → Q .normal a' w') rfl (fun _ w' hw' h => h w' hw') _ _ _ _ ⟨⟨_, hS⟩, rfl⟩ ?_))
  have := wpAnyQIn_lex (F := Fence.wide) (n := n) (C := fun w' => ∃ u : { x : World // S x }, w' = u.1) (md := .any) hB.1 l 0 (Array.replicate l.toArray.size false) a (by simp) (by simpa using hB.2) (wpQuietIn_wide h1)
  simpa using this
/-- a callee that turns nothing -/
theorem calm_same {P : Program} {g : FuncId} {args : Array Value} {U : Type} {f : U → World} {u : U} {v : Value} (h : Calls P g args (f u) fun e w' => e = .returned v ∧ w' = f u) : Calls P g args (f u) fun e w'' => e = .returned v ∧ ∃ x, w'' = f x :=
  h.mono fun _ _ ⟨he, hw⟩ => ⟨he, u, hw⟩
/-- a callee that lays new blocks -/
theorem calm_next {P : Program} {g : FuncId} {args : Array Value} {U : Type} {f : U → World} {u : U} {v : Value} (hn : ∀ u W, Below (f u).heap.size (f u) W → ∃ x, W = f x) (h : Calls P g args (f u) fun e w' => e = .returned v ∧ Below (f u).heap.size (f u) w') : Calls P g args (f u) fun e w'' => e = .returned v ∧ ∃ x, w'' = f x :=
  h.mono fun _ _ ⟨he, hw⟩ => ⟨he, hn u _ hw⟩
theorem below_drew1 (w : World) : Below w.heap.size w w.drew := below_stay (Below.refl _ w) (Stay.drewN _ w 1) (Nat.le_refl _)
end Go.Proofs.Ytcpjmfemgdgplaa

/-
  The walks of package geom: which geometries are right, which places they have; the document's.
-/
namespace Go.Proofs.Ytcpjmfemgdgplaa
open Go.RowKit
open Bm (wt wtK)
open Ge (pw rt hd ix)

theorem low_prod (x y : Int) (a b : Int) (hx : 0 ≤ x) (hxa : x ≤ a) (hy : 0 ≤ y) (hyb : y ≤ b) : 0 ≤ x * y ∧ x * y ≤ a * b :=
  ⟨Int.mul_nonneg hx hy, Int.mul_le_mul hxa hyb hy (by omega)⟩
def PwC (n m : Int) (z : Bool) : Prop := ∀ w : World, Calls Try.prog 64 #[.int .i64 n, .int .i64 m] w fun e w' => e = .returned (.bool z) ∧ w' = w
theorem pwC (n m : Int) (z : Bool) (h : pw n m = z) (hm0 : 0 ≤ m) (hm : m ≤ 1024) : PwC n m z := fun w => by rw [← h]; exact isPower_any n m hm0 hm w

set_option maxRecDepth 100000 in
set_option maxHeartbeats 2000000 in
theorem right_any (r s b o c : Int) (w : World) :
    Calls Try.prog 34 #[.agg #[.int .i64 r, .int .i64 s, .int .i64 b, .int .i64 o, .int .i64 c]] w fun e w' => e = .returned (.bool (rt r s b o c)) ∧ Below w.heap.size w w' := by
  obtain ⟨z1, Z1⟩ : ∃ z, Hid (pw r 8 = z) := ⟨_, rfl⟩
  obtain ⟨z2, Z2⟩ : ∃ z, Hid (pw b 16 = z) := ⟨_, rfl⟩
  obtain ⟨z3, Z3⟩ : ∃ z, Hid (pw o 1024 = z) := ⟨_, rfl⟩
  obtain ⟨z4, Z4⟩ : ∃ z, Hid (pw c 64 = z) := ⟨_, rfl⟩
  obtain ⟨z, Z⟩ : ∃ z, Hid (rt r s b o c = z) := ⟨_, rfl⟩
  have HC1 : Hid (PwC r 8 z1) := pwC _ _ _ Z1.out (by omega) (by omega)
  have HC2 : Hid (PwC b 16 z2) := pwC _ _ _ Z2.out (by omega) (by omega)
  have HC3 : Hid (PwC o 1024 z3) := pwC _ _ _ Z3.out (by omega) (by omega)
  have HC4 : Hid (PwC c 64 z4) := pwC _ _ _ Z4.out (by omega) (by omega)
  rw [Z.out]
  unfold PwC at HC1 HC2 HC3 HC4
  go_enter Try.func34, Try.ntmps34
  go_wp2
  obtain ⟨B, hB⟩ : ∃ B, w.heap.size = B := ⟨_, rfl⟩
  obtain ⟨V, hV⟩ : ∃ V, w.alloc (.cells #[.int .i64 r, .int .i64 s, .int .i64 b, .int .i64 o, .int .i64 c] 23) = V := ⟨_, rfl⟩
  have k0 : V.cell? ⟨B, 0, none⟩ = some (.int .i64 r) := by rw [← hV, ← hB]; simp [go_sem]
  have k1 : V.cell? ⟨B, 1, none⟩ = some (.int .i64 s) := by rw [← hV, ← hB]; simp [go_sem]
  have k2 : V.cell? ⟨B, 2, none⟩ = some (.int .i64 b) := by rw [← hV, ← hB]; simp [go_sem]
  have k3 : V.cell? ⟨B, 3, none⟩ = some (.int .i64 o) := by rw [← hV, ← hB]; simp [go_sem]
  have k4 : V.cell? ⟨B, 4, none⟩ = some (.int .i64 c) := by rw [← hV, ← hB]; simp [go_sem]
  have HB : Hid (Below B w V) := by rw [← hV, ← hB]; exact (Below.refl _ w).alloc (Nat.le_refl _) _
  have hlt : B < V.heap.size := by rw [← hV, ← hB]; simp
  rw [hV, hB]
  clear hV
  refine region_calm (by kernel_rfl) (by kernel_rfl) (fun W => Below V.heap.size V W) (below_drew1 V) ?_
  intro U hU f hf hof
  have f0 : ∀ u, (f u).cell? ⟨B, 0, none⟩ = some (.int .i64 r) := fun u => ((hf u).cell (p := ⟨B, 0, none⟩) hlt).trans k0
  have f1 : ∀ u, (f u).cell? ⟨B, 1, none⟩ = some (.int .i64 s) := fun u => ((hf u).cell (p := ⟨B, 1, none⟩) hlt).trans k1
  have f2 : ∀ u, (f u).cell? ⟨B, 2, none⟩ = some (.int .i64 b) := fun u => ((hf u).cell (p := ⟨B, 2, none⟩) hlt).trans k2
  have f3 : ∀ u, (f u).cell? ⟨B, 3, none⟩ = some (.int .i64 o) := fun u => ((hf u).cell (p := ⟨B, 3, none⟩) hlt).trans k3
  have f4 : ∀ u, (f u).cell? ⟨B, 4, none⟩ = some (.int .i64 c) := fun u => ((hf u).cell (p := ⟨B, 4, none⟩) hlt).trans k4
  have HN : Hid (∀ u W, Below (f u).heap.size (f u) W → ∃ x, W = f x) := fun u W h => hof W ((hf u).trans (h.mono (hf u).size))
  have HE : Hid (∀ u, Below B w (f u)) := fun u => HB.out.trans ((hf u).mono (Nat.le_of_lt hlt))
  clear k0 k1 k2 k3 k4 hf hof hlt HB
  iterate 4 go_big_quiet_step ((go_at_call 64; exact calm_same (HC1.out _)))
  cases z1 with
  | false =>
    obtain rfl : z = false := by rw [← Z.out]; unfold rt; rw [Z1.out]; rfl
    repeat (go_big_quiet_step (fail))
    refine wpQuiet_nil ?_
    rintro _ ⟨u, rfl⟩
    go_wp2
    go_ret
    exact ⟨rfl, by first | exact HE.out u | (rw [hB]; exact HE.out u)⟩
  | true =>
    obtain ⟨q1a, q1b⟩ := Ge.pw_pos Z1.out
    rcases Int.lt_or_le s 0 with hs0 | hs0
    · obtain rfl : z = false := by rw [← Z.out]; unfold rt; rw [decide_eq_false (show ¬ 0 ≤ s by omega)]; simp
      have dn : decide (0 ≤ s) = false := decide_eq_false (by omega)
      repeat (go_big_quiet_step (fail))
      refine wpQuiet_nil ?_
      rintro _ ⟨u, rfl⟩
      go_wp2
      go_ret
      exact ⟨rfl, by first | exact HE.out u | (rw [hB]; exact HE.out u)⟩
    rcases Int.lt_or_le (8 - r) s with hs1 | hs1
    · obtain rfl : z = false := by rw [← Z.out]; unfold rt; rw [decide_eq_false (show ¬ s ≤ 8 - r by omega)]; simp
      have dn : decide (s ≤ 8 - r) = false := decide_eq_false (by omega)
      repeat (go_big_quiet_step (fail))
      refine wpQuiet_nil ?_
      rintro _ ⟨u, rfl⟩
      go_wp2
      go_ret
      exact ⟨rfl, by first | exact HE.out u | (rw [hB]; exact HE.out u)⟩
    have y0 : 0 ≤ r + s := by omega
    have y1 : r + s ≤ 8 := by omega
    iterate 16 go_big_quiet_step ((go_at_call 64; exact calm_same (HC2.out _)))
    cases z2 with
    | false =>
      obtain rfl : z = false := by rw [← Z.out]; unfold rt; rw [Z2.out]; simp
      repeat (go_big_quiet_step (fail))
      refine wpQuiet_nil ?_
      rintro _ ⟨u, rfl⟩
      go_wp2
      go_ret
      exact ⟨rfl, by first | exact HE.out u | (rw [hB]; exact HE.out u)⟩
    | true =>
      iterate 5 go_big_quiet_step ((go_at_call 64; exact calm_same (HC3.out _)))
      cases z3 with
      | false =>
        obtain rfl : z = false := by rw [← Z.out]; unfold rt; rw [Z3.out]; simp
        repeat (go_big_quiet_step (fail))
        refine wpQuiet_nil ?_
        rintro _ ⟨u, rfl⟩
        go_wp2
        go_ret
        exact ⟨rfl, by first | exact HE.out u | (rw [hB]; exact HE.out u)⟩
      | true =>
        iterate 5 go_big_quiet_step ((go_at_call 64; exact calm_same (HC4.out _)))
        cases z4 with
        | false =>
          obtain rfl : z = false := by rw [← Z.out]; unfold rt; rw [Z4.out]; simp
          repeat (go_big_quiet_step (fail))
          refine wpQuiet_nil ?_
          rintro _ ⟨u, rfl⟩
          go_wp2
          go_ret
          exact ⟨rfl, by first | exact HE.out u | (rw [hB]; exact HE.out u)⟩
        | true =>
          obtain ⟨q2a, q2b⟩ := Ge.pw_pos Z2.out
          obtain ⟨q3a, q3b⟩ := Ge.pw_pos Z3.out
          obtain ⟨q4a, q4b⟩ := Ge.pw_pos Z4.out
          obtain ⟨m1a, m1b⟩ := low_prod (r + s) b 8 16 y0 y1 (by omega) q2b
          obtain ⟨m2a, m2b⟩ := low_prod ((r + s) * b) o 128 1024 m1a (by omega) (by omega) q3b
          obtain ⟨m3a, m3b⟩ := low_prod ((r + s) * b * o) c 131072 64 m2a (by omega) (by omega) q4b
          have m1c : (r + s) * b ≤ 128 := by omega
          have m2c : (r + s) * b * o ≤ 131072 := by omega
          have m3c : (r + s) * b * o * c ≤ 8388608 := by omega
          have HA : Hid (∀ w : World, Calls Try.prog 65 #[.agg #[.int .i64 r, .int .i64 s, .int .i64 b, .int .i64 o, .int .i64 c]] w fun e w' => e = .returned (.int .i64 (r + s)) ∧ Below w.heap.size w w') := fun w => allRanks_any r s b o c y0 (by omega) w
          clear m1b m2b m3b
          by_cases hp : (r + s) * b * o * c ≤ 4096
          · obtain rfl : z = true := by rw [← Z.out]; unfold rt; rw [Z1.out, Z2.out, Z3.out, Z4.out, decide_eq_true hs0, decide_eq_true hs1, decide_eq_true hp]; rfl
            repeat (go_big_quiet_step ((go_at_call 65; exact calm_next HN.out (HA.out _))))
            refine wpQuiet_nil ?_
            rintro _ ⟨u, rfl⟩
            go_wp2
            go_ret
            exact ⟨rfl, by first | exact HE.out u | (rw [hB]; exact HE.out u)⟩
          · obtain rfl : z = false := by rw [← Z.out]; unfold rt; rw [decide_eq_false hp]; simp
            have dn : decide ((r + s) * b * o * c ≤ 4096) = false := decide_eq_false hp
            repeat (go_big_quiet_step ((go_at_call 65; exact calm_next HN.out (HA.out _))))
            refine wpQuiet_nil ?_
            rintro _ ⟨u, rfl⟩
            go_wp2
            go_ret
            exact ⟨rfl, by first | exact HE.out u | (rw [hB]; exact HE.out u)⟩
end Go.Proofs.Ytcpjmfemgdgplaa

/-
  The walks of package geom: the document's Right; which places a geometry has.
-/
namespace Go.Proofs.Ytcpjmfemgdgplaa
open Go.RowKit
open Ge (pw rt hd ix)

def RwC (n m : Int) (z : Bool) : Prop := ∀ w : World, Calls Try.prog 36 #[.int .i64 n, .int .i64 m] w fun e w' => e = .returned (.bool z) ∧ w' = w
theorem rwC (n m : Int) (z : Bool) (h : pw n m = z) (h0 : -9223372036854775808 ≤ n) (h1 : n < 9223372036854775808) (hm0 : 0 ≤ m) (hm : m ≤ 1024) : RwC n m z := fun w => by rw [← h]; exact refPower_any n m h0 h1 hm0 hm w
/-- a number of int -/
def I64 (x : Int) : Prop := -9223372036854775808 ≤ x ∧ x < 9223372036854775808

set_option maxRecDepth 100000 in
set_option maxHeartbeats 2000000 in
theorem refRight_any (r s b o c : Int) (hr : I64 r) (hb : I64 b) (ho : I64 o) (hc : I64 c) (w : World) :
    Calls Try.prog 10 #[.agg #[.int .i64 r, .int .i64 s, .int .i64 b, .int .i64 o, .int .i64 c]] w fun e w' => e = .returned (.bool (rt r s b o c)) ∧ Below w.heap.size w w' := by
  obtain ⟨z1, Z1⟩ : ∃ z, Hid (pw r 8 = z) := ⟨_, rfl⟩
  obtain ⟨z2, Z2⟩ : ∃ z, Hid (pw b 16 = z) := ⟨_, rfl⟩
  obtain ⟨z3, Z3⟩ : ∃ z, Hid (pw o 1024 = z) := ⟨_, rfl⟩
  obtain ⟨z4, Z4⟩ : ∃ z, Hid (pw c 64 = z) := ⟨_, rfl⟩
  obtain ⟨z, Z⟩ : ∃ z, Hid (rt r s b o c = z) := ⟨_, rfl⟩
  have HC1 : Hid (RwC r 8 z1) := rwC _ _ _ Z1.out hr.1 hr.2 (by omega) (by omega)
  have HC2 : Hid (RwC b 16 z2) := rwC _ _ _ Z2.out hb.1 hb.2 (by omega) (by omega)
  have HC3 : Hid (RwC o 1024 z3) := rwC _ _ _ Z3.out ho.1 ho.2 (by omega) (by omega)
  have HC4 : Hid (RwC c 64 z4) := rwC _ _ _ Z4.out hc.1 hc.2 (by omega) (by omega)
  rw [Z.out]
  unfold RwC at HC1 HC2 HC3 HC4
  clear hr hb ho hc
  cases z1 with
  | false =>
    obtain rfl : z = false := by rw [← Z.out]; unfold rt; rw [Z1.out]; simp
    go_enter Try.func10, Try.ntmps10
    go_wp2_with (first | (go_at_call_of 36 (Value.int .i64 r); refine (HC1.out _).mono ?_; rintro e w' ⟨rfl, rfl⟩) | (go_at_call_of 36 (Value.int .i64 b); refine (HC2.out _).mono ?_; rintro e w' ⟨rfl, rfl⟩) | (go_at_call_of 36 (Value.int .i64 o); refine (HC3.out _).mono ?_; rintro e w' ⟨rfl, rfl⟩) | (go_at_call_of 36 (Value.int .i64 c); refine (HC4.out _).mono ?_; rintro e w' ⟨rfl, rfl⟩))
    go_ret
    exact ⟨rfl, (Below.refl _ w).alloc (Nat.le_refl _) _⟩
  | true =>
    cases z2 with
    | false =>
      obtain rfl : z = false := by rw [← Z.out]; unfold rt; rw [Z2.out]; simp
      go_enter Try.func10, Try.ntmps10
      go_wp2_with (first | (go_at_call_of 36 (Value.int .i64 r); refine (HC1.out _).mono ?_; rintro e w' ⟨rfl, rfl⟩) | (go_at_call_of 36 (Value.int .i64 b); refine (HC2.out _).mono ?_; rintro e w' ⟨rfl, rfl⟩) | (go_at_call_of 36 (Value.int .i64 o); refine (HC3.out _).mono ?_; rintro e w' ⟨rfl, rfl⟩) | (go_at_call_of 36 (Value.int .i64 c); refine (HC4.out _).mono ?_; rintro e w' ⟨rfl, rfl⟩))
      go_ret
      exact ⟨rfl, (Below.refl _ w).alloc (Nat.le_refl _) _⟩
    | true =>
      cases z3 with
      | false =>
        obtain rfl : z = false := by rw [← Z.out]; unfold rt; rw [Z3.out]; simp
        go_enter Try.func10, Try.ntmps10
        go_wp2_with (first | (go_at_call_of 36 (Value.int .i64 r); refine (HC1.out _).mono ?_; rintro e w' ⟨rfl, rfl⟩) | (go_at_call_of 36 (Value.int .i64 b); refine (HC2.out _).mono ?_; rintro e w' ⟨rfl, rfl⟩) | (go_at_call_of 36 (Value.int .i64 o); refine (HC3.out _).mono ?_; rintro e w' ⟨rfl, rfl⟩) | (go_at_call_of 36 (Value.int .i64 c); refine (HC4.out _).mono ?_; rintro e w' ⟨rfl, rfl⟩))
        go_ret
        exact ⟨rfl, (Below.refl _ w).alloc (Nat.le_refl _) _⟩
      | true =>
        cases z4 with
        | false =>
          obtain rfl : z = false := by rw [← Z.out]; unfold rt; rw [Z4.out]; simp
          go_enter Try.func10, Try.ntmps10
          go_wp2_with (first | (go_at_call_of 36 (Value.int .i64 r); refine (HC1.out _).mono ?_; rintro e w' ⟨rfl, rfl⟩) | (go_at_call_of 36 (Value.int .i64 b); refine (HC2.out _).mono ?_; rintro e w' ⟨rfl, rfl⟩) | (go_at_call_of 36 (Value.int .i64 o); refine (HC3.out _).mono ?_; rintro e w' ⟨rfl, rfl⟩) | (go_at_call_of 36 (Value.int .i64 c); refine (HC4.out _).mono ?_; rintro e w' ⟨rfl, rfl⟩))
          go_ret
          exact ⟨rfl, (Below.refl _ w).alloc (Nat.le_refl _) _⟩
        | true =>
          obtain ⟨q1a, q1b⟩ := Ge.pw_pos Z1.out
          obtain ⟨q2a, q2b⟩ := Ge.pw_pos Z2.out
          obtain ⟨q3a, q3b⟩ := Ge.pw_pos Z3.out
          obtain ⟨q4a, q4b⟩ := Ge.pw_pos Z4.out
          rcases Int.lt_or_le s 0 with hs0 | hs0
          · obtain rfl : z = false := by rw [← Z.out]; unfold rt; rw [decide_eq_false (show ¬ 0 ≤ s by omega)]; simp
            have dn : decide (s < 0) = true := decide_eq_true hs0
            go_enter Try.func10, Try.ntmps10
            go_wp2_with (first | (go_at_call_of 36 (Value.int .i64 r); refine (HC1.out _).mono ?_; rintro e w' ⟨rfl, rfl⟩) | (go_at_call_of 36 (Value.int .i64 b); refine (HC2.out _).mono ?_; rintro e w' ⟨rfl, rfl⟩) | (go_at_call_of 36 (Value.int .i64 o); refine (HC3.out _).mono ?_; rintro e w' ⟨rfl, rfl⟩) | (go_at_call_of 36 (Value.int .i64 c); refine (HC4.out _).mono ?_; rintro e w' ⟨rfl, rfl⟩))
            go_ret
            exact ⟨rfl, (Below.refl _ w).alloc (Nat.le_refl _) _⟩
          rcases Int.lt_or_le (8 - r) s with hs1 | hs1
          · obtain rfl : z = false := by rw [← Z.out]; unfold rt; rw [decide_eq_false (show ¬ s ≤ 8 - r by omega)]; simp
            have dn : decide (8 - r < s) = true := decide_eq_true hs1
            go_enter Try.func10, Try.ntmps10
            go_wp2_with (first | (go_at_call_of 36 (Value.int .i64 r); refine (HC1.out _).mono ?_; rintro e w' ⟨rfl, rfl⟩) | (go_at_call_of 36 (Value.int .i64 b); refine (HC2.out _).mono ?_; rintro e w' ⟨rfl, rfl⟩) | (go_at_call_of 36 (Value.int .i64 o); refine (HC3.out _).mono ?_; rintro e w' ⟨rfl, rfl⟩) | (go_at_call_of 36 (Value.int .i64 c); refine (HC4.out _).mono ?_; rintro e w' ⟨rfl, rfl⟩))
            go_ret
            exact ⟨rfl, (Below.refl _ w).alloc (Nat.le_refl _) _⟩
          have y0 : 0 ≤ r + s := by omega
          have y1 : r + s ≤ 8 := by omega
          obtain ⟨m1a, m1b⟩ := low_prod (r + s) b 8 16 y0 y1 (by omega) q2b
          obtain ⟨m2a, m2b⟩ := low_prod ((r + s) * b) o 128 1024 m1a (by omega) (by omega) q3b
          obtain ⟨m3a, m3b⟩ := low_prod ((r + s) * b * o) c 131072 64 m2a (by omega) (by omega) q4b
          have m1c : (r + s) * b ≤ 128 := by omega
          have m2c : (r + s) * b * o ≤ 131072 := by omega
          have m3c : (r + s) * b * o * c ≤ 8388608 := by omega
          clear m1b m2b m3b
          by_cases hp : (r + s) * b * o * c ≤ 4096
          · obtain rfl : z = true := by rw [← Z.out]; unfold rt; rw [Z1.out, Z2.out, Z3.out, Z4.out, decide_eq_true hs0, decide_eq_true hs1, decide_eq_true hp]; rfl
            go_enter Try.func10, Try.ntmps10
            go_wp2_with (first | (go_at_call_of 36 (Value.int .i64 r); refine (HC1.out _).mono ?_; rintro e w' ⟨rfl, rfl⟩) | (go_at_call_of 36 (Value.int .i64 b); refine (HC2.out _).mono ?_; rintro e w' ⟨rfl, rfl⟩) | (go_at_call_of 36 (Value.int .i64 o); refine (HC3.out _).mono ?_; rintro e w' ⟨rfl, rfl⟩) | (go_at_call_of 36 (Value.int .i64 c); refine (HC4.out _).mono ?_; rintro e w' ⟨rfl, rfl⟩))
            go_ret
            exact ⟨rfl, (Below.refl _ w).alloc (Nat.le_refl _) _⟩
          · obtain rfl : z = false := by rw [← Z.out]; unfold rt; rw [decide_eq_false hp]; simp
            have dn : decide ((r + s) * b * o * c ≤ 4096) = false := decide_eq_false hp
            go_enter Try.func10, Try.ntmps10
            go_wp2_with (first | (go_at_call_of 36 (Value.int .i64 r); refine (HC1.out _).mono ?_; rintro e w' ⟨rfl, rfl⟩) | (go_at_call_of 36 (Value.int .i64 b); refine (HC2.out _).mono ?_; rintro e w' ⟨rfl, rfl⟩) | (go_at_call_of 36 (Value.int .i64 o); refine (HC3.out _).mono ?_; rintro e w' ⟨rfl, rfl⟩) | (go_at_call_of 36 (Value.int .i64 c); refine (HC4.out _).mono ?_; rintro e w' ⟨rfl, rfl⟩))
            go_ret
            exact ⟨rfl, (Below.refl _ w).alloc (Nat.le_refl _) _⟩

def BlC (n m : Int) (z : Bool) : Prop := ∀ w : World, Calls Try.prog 75 #[.int .i64 n, .int .i64 m] w fun e w' => e = .returned (.bool z) ∧ w' = w
theorem blC (n m : Int) (z : Bool) (h : decide (0 ≤ n ∧ n < m) = z) : BlC n m z := fun w => by rw [← h]; exact isBelow_any n m w

set_option maxRecDepth 100000 in
set_option maxHeartbeats 2000000 in
theorem holds_any (r s b o c p q u v : Int) (w : World) :
    Calls Try.prog 48 #[.agg #[.int .i64 r, .int .i64 s, .int .i64 b, .int .i64 o, .int .i64 c], .agg #[.int .i64 p, .int .i64 q, .int .i64 u, .int .i64 v]] w fun e w' => e = .returned (.bool (hd r s b o c p q u v)) ∧ Below w.heap.size w w' := by
  obtain ⟨z0, Z0⟩ : ∃ z, Hid (rt r s b o c = z) := ⟨_, rfl⟩
  obtain ⟨z1, Z1⟩ : ∃ z, Hid (decide (0 ≤ p ∧ p < r + s) = z) := ⟨_, rfl⟩
  obtain ⟨z2, Z2⟩ : ∃ z, Hid (decide (0 ≤ q ∧ q < b) = z) := ⟨_, rfl⟩
  obtain ⟨z3, Z3⟩ : ∃ z, Hid (decide (0 ≤ u ∧ u < o) = z) := ⟨_, rfl⟩
  obtain ⟨z4, Z4⟩ : ∃ z, Hid (decide (0 ≤ v ∧ v < c) = z) := ⟨_, rfl⟩
  obtain ⟨z, Z⟩ : ∃ z, Hid (hd r s b o c p q u v = z) := ⟨_, rfl⟩
  have HR : Hid (∀ w : World, Calls Try.prog 34 #[.agg #[.int .i64 r, .int .i64 s, .int .i64 b, .int .i64 o, .int .i64 c]] w fun e w' => e = .returned (.bool z0) ∧ Below w.heap.size w w') := fun w => by rw [← Z0.out]; exact right_any r s b o c w
  have HC1 : Hid (BlC p (r + s) z1) := blC _ _ _ Z1.out
  have HC2 : Hid (BlC q b z2) := blC _ _ _ Z2.out
  have HC3 : Hid (BlC u o z3) := blC _ _ _ Z3.out
  have HC4 : Hid (BlC v c z4) := blC _ _ _ Z4.out
  rw [Z.out]
  unfold BlC at HC1 HC2 HC3 HC4
  go_enter Try.func48, Try.ntmps48
  go_wp2
  obtain ⟨B, hB⟩ : ∃ B, w.heap.size = B := ⟨_, rfl⟩
  obtain ⟨V, hV⟩ : ∃ V, (w.alloc (.cells #[.int .i64 r, .int .i64 s, .int .i64 b, .int .i64 o, .int .i64 c] 23)).alloc (.cells #[.int .i64 p, .int .i64 q, .int .i64 u, .int .i64 v] 36) = V := ⟨_, rfl⟩
  have k0 : V.cell? ⟨B, 0, none⟩ = some (.int .i64 r) := by rw [← hV, ← hB]; simp [go_sem]
  have k1 : V.cell? ⟨B, 1, none⟩ = some (.int .i64 s) := by rw [← hV, ← hB]; simp [go_sem]
  have k2 : V.cell? ⟨B, 2, none⟩ = some (.int .i64 b) := by rw [← hV, ← hB]; simp [go_sem]
  have k3 : V.cell? ⟨B, 3, none⟩ = some (.int .i64 o) := by rw [← hV, ← hB]; simp [go_sem]
  have k4 : V.cell? ⟨B, 4, none⟩ = some (.int .i64 c) := by rw [← hV, ← hB]; simp [go_sem]
  have j0 : V.cell? ⟨B + 1, 0, none⟩ = some (.int .i64 p) := by rw [← hV, ← hB]; simp [go_sem]
  have j1 : V.cell? ⟨B + 1, 1, none⟩ = some (.int .i64 q) := by rw [← hV, ← hB]; simp [go_sem]
  have j2 : V.cell? ⟨B + 1, 2, none⟩ = some (.int .i64 u) := by rw [← hV, ← hB]; simp [go_sem]
  have j3 : V.cell? ⟨B + 1, 3, none⟩ = some (.int .i64 v) := by rw [← hV, ← hB]; simp [go_sem]
  have HB : Hid (Below B w V) := by rw [← hV, ← hB]; exact ((Below.refl _ w).alloc (Nat.le_refl _) _).alloc (by simp) _
  have hlt : B < V.heap.size := by rw [← hV, ← hB]; simp only [World.size_alloc]; omega
  have hlt1 : B + 1 < V.heap.size := by rw [← hV, ← hB]; simp only [World.size_alloc]; omega
  rw [hV, hB]
  clear hV
  refine region_calm (by kernel_rfl) (by kernel_rfl) (fun W => Below V.heap.size V W) (below_drew1 V) ?_
  intro U hU f hf hof
  have f0 : ∀ u, (f u).cell? ⟨B, 0, none⟩ = some (.int .i64 r) := fun u => ((hf u).cell (p := ⟨B, 0, none⟩) hlt).trans k0
  have f1 : ∀ u, (f u).cell? ⟨B, 1, none⟩ = some (.int .i64 s) := fun u => ((hf u).cell (p := ⟨B, 1, none⟩) hlt).trans k1
  have f2 : ∀ u, (f u).cell? ⟨B, 2, none⟩ = some (.int .i64 b) := fun u => ((hf u).cell (p := ⟨B, 2, none⟩) hlt).trans k2
  have f3 : ∀ u, (f u).cell? ⟨B, 3, none⟩ = some (.int .i64 o) := fun u => ((hf u).cell (p := ⟨B, 3, none⟩) hlt).trans k3
  have f4 : ∀ u, (f u).cell? ⟨B, 4, none⟩ = some (.int .i64 c) := fun u => ((hf u).cell (p := ⟨B, 4, none⟩) hlt).trans k4
  have g0 : ∀ x, (f x).cell? ⟨B + 1, 0, none⟩ = some (.int .i64 p) := fun x => ((hf x).cell (p := ⟨B + 1, 0, none⟩) hlt1).trans j0
  have g1 : ∀ x, (f x).cell? ⟨B + 1, 1, none⟩ = some (.int .i64 q) := fun x => ((hf x).cell (p := ⟨B + 1, 1, none⟩) hlt1).trans j1
  have g2 : ∀ x, (f x).cell? ⟨B + 1, 2, none⟩ = some (.int .i64 u) := fun x => ((hf x).cell (p := ⟨B + 1, 2, none⟩) hlt1).trans j2
  have g3 : ∀ x, (f x).cell? ⟨B + 1, 3, none⟩ = some (.int .i64 v) := fun x => ((hf x).cell (p := ⟨B + 1, 3, none⟩) hlt1).trans j3
  have HN : Hid (∀ u W, Below (f u).heap.size (f u) W → ∃ x, W = f x) := fun u W h => hof W ((hf u).trans (h.mono (hf u).size))
  have HE : Hid (∀ u, Below B w (f u)) := fun u => HB.out.trans ((hf u).mono (Nat.le_of_lt hlt))
  clear k0 k1 k2 k3 k4 j0 j1 j2 j3 hf hof hlt hlt1 HB
  iterate 3 go_big_quiet_step ((go_at_call 34; exact calm_next HN.out (HR.out _)))
  cases z0 with
  | false =>
    obtain rfl : z = false := by rw [← Z.out]; unfold hd; rw [Z0.out]; simp
    repeat (go_big_quiet_step (fail))
    refine wpQuiet_nil ?_
    rintro _ ⟨x, rfl⟩
    go_wp2
    go_ret
    exact ⟨rfl, by first | exact HE.out x | (rw [hB]; exact HE.out x)⟩
  | true =>
    have yR := Ge.rt_all Z0.out
    have HA : Hid (∀ w : World, Calls Try.prog 65 #[.agg #[.int .i64 r, .int .i64 s, .int .i64 b, .int .i64 o, .int .i64 c]] w fun e w' => e = .returned (.int .i64 (r + s)) ∧ Below w.heap.size w w') := fun w => allRanks_any r s b o c (by omega) (by omega) w
    clear yR
    iterate 5 go_big_quiet_step ((first | (go_at_call 65; exact calm_next HN.out (HA.out _)) | (go_at_call 75; exact calm_same (HC1.out _))))
    cases z1 with
    | false =>
      obtain rfl : z = false := by rw [← Z.out]; unfold hd; rw [Z1.out]; simp
      repeat (go_big_quiet_step (fail))
      refine wpQuiet_nil ?_
      rintro _ ⟨x, rfl⟩
      go_wp2
      go_ret
      exact ⟨rfl, by first | exact HE.out x | (rw [hB]; exact HE.out x)⟩
    | true =>
      iterate 7 go_big_quiet_step ((go_at_call 75; exact calm_same (HC2.out _)))
      cases z2 with
      | false =>
        obtain rfl : z = false := by rw [← Z.out]; unfold hd; rw [Z2.out]; simp
        repeat (go_big_quiet_step (fail))
        refine wpQuiet_nil ?_
        rintro _ ⟨x, rfl⟩
        go_wp2
        go_ret
        exact ⟨rfl, by first | exact HE.out x | (rw [hB]; exact HE.out x)⟩
      | true =>
        iterate 7 go_big_quiet_step ((go_at_call 75; exact calm_same (HC3.out _)))
        cases z3 with
        | false =>
          obtain rfl : z = false := by rw [← Z.out]; unfold hd; rw [Z3.out]; simp
          repeat (go_big_quiet_step (fail))
          refine wpQuiet_nil ?_
          rintro _ ⟨x, rfl⟩
          go_wp2
          go_ret
          exact ⟨rfl, by first | exact HE.out x | (rw [hB]; exact HE.out x)⟩
        | true =>
          iterate 7 go_big_quiet_step ((go_at_call 75; exact calm_same (HC4.out _)))
          cases z4 with
          | false =>
            obtain rfl : z = false := by rw [← Z.out]; unfold hd; rw [Z4.out]; simp
            repeat (go_big_quiet_step (fail))
            refine wpQuiet_nil ?_
            rintro _ ⟨x, rfl⟩
            go_wp2
            go_ret
            exact ⟨rfl, by first | exact HE.out x | (rw [hB]; exact HE.out x)⟩
          | true =>
            obtain rfl : z = true := by rw [← Z.out]; unfold hd; rw [Z0.out, Z1.out, Z2.out, Z3.out, Z4.out]; rfl
            repeat (go_big_quiet_step (fail))
            refine wpQuiet_nil ?_
            rintro _ ⟨x, rfl⟩
            go_wp2
            go_ret
            exact ⟨rfl, by first | exact HE.out x | (rw [hB]; exact HE.out x)⟩

set_option maxRecDepth 100000 in
set_option maxHeartbeats 2000000 in
theorem refHolds_any (r s b o c p q u v : Int) (hr : I64 r) (hb : I64 b) (ho : I64 o) (hc : I64 c) (w : World) :
    Calls Try.prog 43 #[.agg #[.int .i64 r, .int .i64 s, .int .i64 b, .int .i64 o, .int .i64 c], .agg #[.int .i64 p, .int .i64 q, .int .i64 u, .int .i64 v]] w fun e w' => e = .returned (.bool (hd r s b o c p q u v)) ∧ Below w.heap.size w w' := by
  obtain ⟨z0, Z0⟩ : ∃ z, Hid (rt r s b o c = z) := ⟨_, rfl⟩
  obtain ⟨z, Z⟩ : ∃ z, Hid (hd r s b o c p q u v = z) := ⟨_, rfl⟩
  have HR : Hid (∀ w : World, Calls Try.prog 10 #[.agg #[.int .i64 r, .int .i64 s, .int .i64 b, .int .i64 o, .int .i64 c]] w fun e w' => e = .returned (.bool z0) ∧ Below w.heap.size w w') := fun w => by rw [← Z0.out]; exact refRight_any r s b o c hr hb ho hc w
  rw [Z.out]
  clear hr hb ho hc
  have HB : Hid (Below w.heap.size w ((w.alloc (.cells #[.int .i64 r, .int .i64 s, .int .i64 b, .int .i64 o, .int .i64 c] 30)).alloc (.cells #[.int .i64 p, .int .i64 q, .int .i64 u, .int .i64 v] 49))) := ((Below.refl _ w).alloc (Nat.le_refl _) _).alloc (by simp) _
  go_enter Try.func43, Try.ntmps43
  go_wp2_with fail
  obtain ⟨B, hB⟩ : ∃ B, w.heap.size = B := ⟨_, rfl⟩
  obtain ⟨V, hV⟩ : ∃ V, (w.alloc (.cells #[.int .i64 r, .int .i64 s, .int .i64 b, .int .i64 o, .int .i64 c] 30)).alloc (.cells #[.int .i64 p, .int .i64 q, .int .i64 u, .int .i64 v] 49) = V := ⟨_, rfl⟩
  rw [hV] at HB ⊢
  rw [hB] at HB ⊢
  have k0 : V.cell? ⟨B, 0, none⟩ = some (.int .i64 r) := by rw [← hV, ← hB]; simp [go_sem]
  have k1 : V.cell? ⟨B, 1, none⟩ = some (.int .i64 s) := by rw [← hV, ← hB]; simp [go_sem]
  have k2 : V.cell? ⟨B, 2, none⟩ = some (.int .i64 b) := by rw [← hV, ← hB]; simp [go_sem]
  have k3 : V.cell? ⟨B, 3, none⟩ = some (.int .i64 o) := by rw [← hV, ← hB]; simp [go_sem]
  have k4 : V.cell? ⟨B, 4, none⟩ = some (.int .i64 c) := by rw [← hV, ← hB]; simp [go_sem]
  have j0 : V.cell? ⟨B + 1, 0, none⟩ = some (.int .i64 p) := by rw [← hV, ← hB]; simp [go_sem]
  have j1 : V.cell? ⟨B + 1, 1, none⟩ = some (.int .i64 q) := by rw [← hV, ← hB]; simp [go_sem]
  have j2 : V.cell? ⟨B + 1, 2, none⟩ = some (.int .i64 u) := by rw [← hV, ← hB]; simp [go_sem]
  have j3 : V.cell? ⟨B + 1, 3, none⟩ = some (.int .i64 v) := by rw [← hV, ← hB]; simp [go_sem]
  have hlt : B < V.heap.size := by rw [← hV, ← hB]; simp only [World.size_alloc]; omega
  have hlt1 : B + 1 < V.heap.size := by rw [← hV, ← hB]; simp only [World.size_alloc]; omega
  clear hV
  refine (HR.out _).mono ?_
  rintro e W ⟨rfl, hW⟩
  have f0 : W.cell? ⟨B, 0, none⟩ = some (.int .i64 r) := (hW.cell (p := ⟨B, 0, none⟩) hlt).trans k0
  have f1 : W.cell? ⟨B, 1, none⟩ = some (.int .i64 s) := (hW.cell (p := ⟨B, 1, none⟩) hlt).trans k1
  have f2 : W.cell? ⟨B, 2, none⟩ = some (.int .i64 b) := (hW.cell (p := ⟨B, 2, none⟩) hlt).trans k2
  have f3 : W.cell? ⟨B, 3, none⟩ = some (.int .i64 o) := (hW.cell (p := ⟨B, 3, none⟩) hlt).trans k3
  have f4 : W.cell? ⟨B, 4, none⟩ = some (.int .i64 c) := (hW.cell (p := ⟨B, 4, none⟩) hlt).trans k4
  have g0 : W.cell? ⟨B + 1, 0, none⟩ = some (.int .i64 p) := (hW.cell (p := ⟨B + 1, 0, none⟩) hlt1).trans j0
  have g1 : W.cell? ⟨B + 1, 1, none⟩ = some (.int .i64 q) := (hW.cell (p := ⟨B + 1, 1, none⟩) hlt1).trans j1
  have g2 : W.cell? ⟨B + 1, 2, none⟩ = some (.int .i64 u) := (hW.cell (p := ⟨B + 1, 2, none⟩) hlt1).trans j2
  have g3 : W.cell? ⟨B + 1, 3, none⟩ = some (.int .i64 v) := (hW.cell (p := ⟨B + 1, 3, none⟩) hlt1).trans j3
  have HE : Hid (Below B w W) := HB.out.trans (hW.mono (Nat.le_of_lt hlt))
  clear k0 k1 k2 k3 k4 j0 j1 j2 j3 hlt hlt1 HB hW
  cases z0 with
  | false =>
    obtain rfl : z = false := by rw [← Z.out]; unfold hd; rw [Z0.out]; simp
    go_wp2
    go_ret
    exact ⟨rfl, by first | exact HE.out | (rw [hB]; exact HE.out)⟩
  | true =>
    have yR := Ge.rt_all Z0.out
    have y0 : 0 ≤ r + s := by omega
    have y1 : r + s ≤ 8 := by omega
    clear yR
    rcases Int.lt_or_le p 0 with n0 | n0
    · obtain rfl : z = false := by rw [← Z.out]; unfold hd; rw [decide_eq_false (show ¬ (0 ≤ p ∧ p < r + s) by omega)]; simp
      have dn : decide (p < 0) = true := decide_eq_true n0
      go_wp2
      go_ret
      exact ⟨rfl, by first | exact HE.out | (rw [hB]; exact HE.out)⟩
    rcases Int.lt_or_le q 0 with n1 | n1
    · obtain rfl : z = false := by rw [← Z.out]; unfold hd; rw [decide_eq_false (show ¬ (0 ≤ q ∧ q < b) by omega)]; simp
      have dn : decide (q < 0) = true := decide_eq_true n1
      go_wp2
      go_ret
      exact ⟨rfl, by first | exact HE.out | (rw [hB]; exact HE.out)⟩
    rcases Int.lt_or_le u 0 with n2 | n2
    · obtain rfl : z = false := by rw [← Z.out]; unfold hd; rw [decide_eq_false (show ¬ (0 ≤ u ∧ u < o) by omega)]; simp
      have dn : decide (u < 0) = true := decide_eq_true n2
      go_wp2
      go_ret
      exact ⟨rfl, by first | exact HE.out | (rw [hB]; exact HE.out)⟩
    rcases Int.lt_or_le v 0 with n3 | n3
    · obtain rfl : z = false := by rw [← Z.out]; unfold hd; rw [decide_eq_false (show ¬ (0 ≤ v ∧ v < c) by omega)]; simp
      have dn : decide (v < 0) = true := decide_eq_true n3
      go_wp2
      go_ret
      exact ⟨rfl, by first | exact HE.out | (rw [hB]; exact HE.out)⟩
    rcases (show r + s ≤ p ∨ p < r + s by omega) with t0 | t0
    · obtain rfl : z = false := by rw [← Z.out]; unfold hd; rw [decide_eq_false (show ¬ (0 ≤ p ∧ p < r + s) by omega)]; simp
      have dn : decide (p < r + s) = false := decide_eq_false (by omega)
      go_wp2
      go_ret
      exact ⟨rfl, by first | exact HE.out | (rw [hB]; exact HE.out)⟩
    rcases (show b ≤ q ∨ q < b by omega) with t1 | t1
    · obtain rfl : z = false := by rw [← Z.out]; unfold hd; rw [decide_eq_false (show ¬ (0 ≤ q ∧ q < b) by omega)]; simp
      have dn : decide (q < b) = false := decide_eq_false (by omega)
      go_wp2
      go_ret
      exact ⟨rfl, by first | exact HE.out | (rw [hB]; exact HE.out)⟩
    rcases (show o ≤ u ∨ u < o by omega) with t2 | t2
    · obtain rfl : z = false := by rw [← Z.out]; unfold hd; rw [decide_eq_false (show ¬ (0 ≤ u ∧ u < o) by omega)]; simp
      have dn : decide (u < o) = false := decide_eq_false (by omega)
      go_wp2
      go_ret
      exact ⟨rfl, by first | exact HE.out | (rw [hB]; exact HE.out)⟩
    rcases (show c ≤ v ∨ v < c by omega) with t3 | t3
    · obtain rfl : z = false := by rw [← Z.out]; unfold hd; rw [decide_eq_false (show ¬ (0 ≤ v ∧ v < c) by omega)]; simp
      have dn : decide (v < c) = false := decide_eq_false (by omega)
      go_wp2
      go_ret
      exact ⟨rfl, by first | exact HE.out | (rw [hB]; exact HE.out)⟩
    obtain rfl : z = true := by rw [← Z.out]; unfold hd; rw [Z0.out, decide_eq_true (show 0 ≤ p ∧ p < r + s by omega), decide_eq_true (show 0 ≤ q ∧ q < b by omega), decide_eq_true (show 0 ≤ u ∧ u < o by omega), decide_eq_true (show 0 ≤ v ∧ v < c by omega)]; rfl
    go_wp2
    go_ret
    exact ⟨rfl, by first | exact HE.out | (rw [hB]; exact HE.out)⟩
end Go.Proofs.Ytcpjmfemgdgplaa
