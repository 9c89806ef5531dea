/-
  A region that draws its order and whose own operations only read, while what it calls may lay new blocks: one walk, in the order of the text, serves every order. The worlds that it may meet are named by an index u: what is known of them is known of 'f u'.
-/
import Derived.Test.YtcpjmfemgdgplaaQuiet
import Derived.Test.YtcpjmfemgdgplaaRange
import Derived.BigQuiet
namespace Go.Proofs.Ytcpjmfemgdgplaa
open Go.RowKit

theorem region_calm {id : Nat} {P : Program} {Q : Exit → Act → World → Prop} {a : Act} {w : World} {l : List Oper} (hm : P.follows .mixedOrders = true) (hB : Region.lexB .any l.toArray = true) (S : World → Prop) (hS : S w.drew)
    (h : ∀ (U : Type) (_ : Nonempty U) (f : U → World), (∀ u, S (f u)) → (∀ W, S W → ∃ u, W = f u) → wpQuiet P l.toArray (fun w' => ∃ u, w' = f u) (fun a' => ∀ w', (∃ u, w' = f u) → Q .normal a' w') l a) : (Code.region id l.toArray true).wp P Q a w := by
  have := h { x : World // S x } ⟨⟨_, hS⟩⟩ (fun x => x.1) (fun u => u.2) (fun W hW => ⟨⟨W, hW⟩, rfl⟩)
  exact wp_region_quiet (C := fun w' => ∃ u : { x : World // S x }, w' = u.1) hm hB ⟨⟨_, hS⟩, rfl⟩ (by simpa using this)
theorem round_calm {id n lo : Nat} {P : Program} {Q : Exit → Act → World → Prop} {a : Act} {w : World} {l : List Oper} (hm : P.follows .mixedOrders = true) (hB : Region.lexB .any l.toArray = true) (hd : noDefer l = true) (S : World → Prop) (hS : S w.drew)
    (h : ∀ (U : Type) (_ : Nonempty U) (f : U → World), (∀ u, S (f u)) → (∀ W, S W → ∃ u, W = f u) → wpQuiet P l.toArray (fun w' => ∃ u, w' = f u) (fun a' => ∀ w', (∃ u, w' = f u) → Q .normal a' w') l a) : (Code.region id l.toArray true).wpIn (Fence.wide.inRound lo) n P Q a w := by
  have h1 := h { x : World // S x } ⟨⟨_, hS⟩⟩ (fun x => x.1) (fun u => u.2) (fun W hW => ⟨⟨W, hW⟩, rfl⟩)
  simp only [Region.lexB, Bool.and_eq_true] at hB
  refine wpIn_region_any hm (anyIn_round (by simpa using noDefer_spec hd) _ _ _ _ (wpAnyIn_of_quiet (C := fun w' => ∃ u : { x : World // S x }, w' = u.1) (Q := fun a' => ∀ w', (∃ u : { x : World // S x }, w' = u.1) → Q .normal a' w') rfl (fun _ w' hw' h => h w' hw') _ _ _ _ ⟨⟨_, hS⟩, rfl⟩ ?_))
  have := wpAnyQIn_lex (F := Fence.wide) (n := n) (C := fun w' => ∃ u : { x : World // S x }, w' = u.1) (md := .any) hB.1 l 0 (Array.replicate l.toArray.size false) a (by simp) (by simpa using hB.2) (wpQuietIn_wide h1)
  simpa using this
/-- a callee that turns nothing -/
theorem calm_same {P : Program} {g : FuncId} {args : Array Value} {U : Type} {f : U → World} {u : U} {v : Value} (h : Calls P g args (f u) fun e w' => e = .returned v ∧ w' = f u) : Calls P g args (f u) fun e w'' => e = .returned v ∧ ∃ x, w'' = f x :=
  h.mono fun _ _ ⟨he, hw⟩ => ⟨he, u, hw⟩
/-- a callee that lays new blocks -/
theorem calm_next {P : Program} {g : FuncId} {args : Array Value} {U : Type} {f : U → World} {u : U} {v : Value} (hn : ∀ u W, Below (f u).heap.size (f u) W → ∃ x, W = f x) (h : Calls P g args (f u) fun e w' => e = .returned v ∧ Below (f u).heap.size (f u) w') : Calls P g args (f u) fun e w'' => e = .returned v ∧ ∃ x, w'' = f x :=
  h.mono fun _ _ ⟨he, hw⟩ => ⟨he, hn u _ hw⟩
theorem below_drew1 (w : World) : Below w.heap.size w w.drew := below_stay (Below.refl _ w) (Stay.drewN _ w 1) (Nat.le_refl _)
end Go.Proofs.Ytcpjmfemgdgplaa
