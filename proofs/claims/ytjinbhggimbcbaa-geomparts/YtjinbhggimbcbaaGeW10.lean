/-
  What a law holds that gathers a rank's and a page's indices in slices: its boxes, its slices, the marks of its ranges.
-/
import Derived.Test.YtjinbhggimbcbaaGeM2
import Derived.Maps.OwnIn
namespace Go.Proofs.Ytjinbhggimbcbaa
open Go.RowKit
open Ge (pw rt hd ix)

theorem Box.inj {W : World} {b : Nat} {v v' : Value} (h : Box W b v) (h' : Box W b v') : v = v' := by
  have := h.1.symm.trans h'.1
  cases this; rfl
/-- the box P and the row that its slice lies in -/
def Gr (P : Nat) (W : World) (b : Nat) : Prop := b = P ∨ ∃ v, Box W P v ∧ v.ownBlock = some b
theorem Gr.ok {P : Nat} {W : World} {v : Value} (hb : Box W P v) (hl : ∀ g, v.ownBlock = some g → g < W.heap.size) : Ok (Gr P) W := by
  refine ⟨?_, fun C W' b k => ⟨?_, ?_⟩⟩
  · rintro b (rfl | ⟨v', h1, h2⟩)
    · exact hb.lt
    · cases hb.inj h1; exact hl b h2
  · rintro (rfl | ⟨v', h1, h2⟩)
    · exact .inl rfl
    · cases (hb.stay k).inj h1; exact .inr ⟨v, hb, h2⟩
  · rintro (rfl | ⟨v', h1, h2⟩)
    · exact .inl rfl
    · exact .inr ⟨v', h1.stay k, h2⟩
theorem Gr.not {P : Nat} {W : World} {v : Value} (hb : Box W P v) {b : Nat} (h1 : b ≠ P) (h2 : v.ownBlock ≠ some b) : ¬ Gr P W b := by
  rintro (rfl | ⟨v', h3, h4⟩)
  · exact h1 rfl
  · cases hb.inj h3; exact h2 h4
theorem ok_fix {M : Nat → Prop} {W : World} (h : ∀ b, M b → b < W.heap.size) : Ok (fun _ => M) W := ⟨h, fun _ _ _ _ => Iff.rfl⟩

/-- the law's state. B: its first block; A: the box of the list of all. N numbers F in v0; n1 numbers R in v1; n2 numbers G in v2; three counters; the marks of the ranges that are over -/
structure WkS (w : World) (B A : Nat) (r s b o c k p st : Int) (N : Nat) (F R G : Nat → Nat) (v0 v1 v2 : Value) (n1 n2 x y z : Nat) (ds : List Nat) (W : World) : Prop where
  gm : Gm W B r s b o c
  br : Box W (B + 1) (.int .i64 k)
  bp : Box W (B + 1 + 1) (.int .i64 p)
  bs : Box W (B + 1 + 1 + 1) (.int .i64 st)
  bt : Box W (B + 1 + 1 + 1 + 1) (.bool false)
  ba : Box W A v0
  bn : Box W (A + 1) (.int .i64 (x : Int))
  bk : Box W (A + 1 + 1) (.int .i64 (y : Int))
  bg : Box W (A + 1 + 1 + 1) (.int .i64 (z : Int))
  bR : Box W (A + 1 + 1 + 1 + 1) v1
  bO : Box W (A + 1 + 1 + 1 + 1 + 1) v2
  hA : B + 5 ≤ A
  o0 : Ow W (B + 5) v0 N F
  l0 : ∀ g, v0.ownBlock = some g → g < A
  o1 : Ow W (A + 6) v1 n1 R
  o2 : Ow W (A + 6) v2 n2 G
  ne : ∀ g, v1.ownBlock = some g → v2.ownBlock ≠ some g
  below : Below B w W
  nd : ds.Nodup
  dm : ∀ D ∈ ds, A + 6 ≤ D ∧ W.heap[D]? = some (.deferred (some []))
theorem Ow.cells {W : World} {B : Nat} {v : Value} {n : Nat} {F : Nat → Nat} (h : Ow W B v n F) {g : Nat} (hg : v.ownBlock = some g) : ∃ o, W.heap[g]? = some o ∧ o.isCells = true := by
  rcases h.2 with ⟨rfl, _⟩ | ⟨g', cap, cur, rfl, hb, hh, rest⟩
  · cases hg
  · cases hg
    exact ⟨_, hh, rfl⟩
theorem Ow.form {W : World} {B : Nat} {v : Value} {n : Nat} {F : Nat → Nat} (h : Ow W B v n F) : ∃ a cap, v = .slice a n cap := by
  rcases h.2 with ⟨rfl, rfl⟩ | ⟨g', cap, cur, rfl, hb, hh, rest⟩
  · exact ⟨_, _, rfl⟩
  · exact ⟨_, _, rfl⟩
/-- a slice that is not empty -/
theorem Ow.some {W : World} {B : Nat} {a : Option Addr} {n cap : Nat} {F : Nat → Nat} (h : Ow W B (.slice a n cap) n F) {i : Nat} (hi : i < n) : ∃ g, a = .some ⟨g, 0, none⟩ ∧ W.cell? ⟨g, i, none⟩ = .some (.int .i64 (F i : Int)) := by
  have hc := fun g hg => World.ownsRow.cells h (g := g) hg i _ (lst_at F n i hi)
  rcases h.2 with ⟨_, rfl⟩ | ⟨g', cap', cur, e, hb, hh, rest⟩
  · omega
  · cases e
    have := hc g' rfl
    rw [Addr.add_lit, Nat.zero_add] at this
    exact ⟨g', rfl, this⟩
theorem own_form {W : World} {B : Nat} {e : TypeId} {size : Nat} {v : Value} {n : Nat} {xs : List Value} (h : W.ownsRow B e size v n xs) : ∃ a cap, v = .slice a n cap := by
  rcases h.2 with ⟨rfl, rfl⟩ | ⟨g', cap, cur, rfl, hb, hh, rest⟩
  · exact ⟨_, _, rfl⟩
  · exact ⟨_, _, rfl⟩
theorem keep_set {M : Nat → Prop} {X Y : World} (h : KeepD (fun _ => M) X Y) {c : Nat} (hc : M c) (u : Value) : KeepD (fun _ => M) X (Y.setCell ⟨c, 0, none⟩ u) :=
  h.trans ⟨by simp, fun b _ hm => ⟨Below.heap_setCell Y _ u b (fun e => hm (by subst e; exact hc)), hm⟩⟩
theorem mark_ne {W : World} {g D : Nat} {o : Obj} (h : W.heap[g]? = some o) (hc : o.isCells = true) (hD : W.heap[D]? = some (.deferred (some []))) : D ≠ g := by
  rintro rfl
  rw [h] at hD
  cases hD
  cases hc
section
variable {w W W' : World} {B A : Nat} {r s b o c k p st : Int} {N : Nat} {F R G : Nat → Nat} {v0 v1 v2 : Value} {n1 n2 x y z : Nat} {ds : List Nat}
theorem WkS.stay (h : WkS w B A r s b o c k p st N F R G v0 v1 v2 n1 n2 x y z ds W) {C : Nat} (q : Stay C W W') (hB : B ≤ C) (hd : ∀ D ∈ ds, D < C) : WkS w B A r s b o c k p st N F R G v0 v1 v2 n1 n2 x y z ds W' :=
  ⟨h.gm.stay q, h.br.stay q, h.bp.stay q, h.bs.stay q, h.bt.stay q, h.ba.stay q, h.bn.stay q, h.bk.stay q, h.bg.stay q, h.bR.stay q, h.bO.stay q, h.hA, h.o0.stay q, h.l0, h.o1.stay q, h.o2.stay q, h.ne, below_stay h.below q hB, h.nd, fun D hD => ⟨(h.dm D hD).1, (q.low D (hd D hD)).trans (h.dm D hD).2⟩⟩
theorem WkS.ds_lt (h : WkS w B A r s b o c k p st N F R G v0 v1 v2 n1 n2 x y z ds W) : ∀ D ∈ ds, D < W.heap.size := fun D hD => (Array.getElem?_eq_some_iff.1 (h.dm D hD).2).1
theorem WkS.next (h : WkS w B A r s b o c k p st N F R G v0 v1 v2 n1 n2 x y z ds W) (q : Below W.heap.size W W') : WkS w B A r s b o c k p st N F R G v0 v1 v2 n1 n2 x y z ds W' :=
  h.stay (stay_below q) (by have := h.gm.lt; omega) h.ds_lt
/-- a mark more -/
theorem WkS.mark (h : WkS w B A r s b o c k p st N F R G v0 v1 v2 n1 n2 x y z ds W) {D : Nat} (hA : A + 6 ≤ D) (hn : ∀ E ∈ ds, E < D) (hD : W.heap[D]? = some (.deferred (some []))) : WkS w B A r s b o c k p st N F R G v0 v1 v2 n1 n2 x y z (D :: ds) W :=
  { h with nd := List.nodup_cons.2 ⟨fun e => by have := hn D e; omega, h.nd⟩, dm := fun E hE => (List.mem_cons.1 hE).elim (fun e => by subst e; exact ⟨hA, hD⟩) (h.dm E) }
/-- what is elsewhere than at a row and at a box stays -/
theorem WkS.app1 (h : WkS w B A r s b o c k p st N F R G v0 v1 v2 n1 n2 x y z ds W) (ob : Obj) {W3 : World} {v' : Value} (own : W3.ownsRow (A + 6) 3 1 v' (n1 + 1) (lst R n1 ++ [.int .i64 (R n1 : Int)])) (gr : (W.alloc ob).grownBy W3 v1.ownBlock) (at3 : v'.ownBlock = v1.ownBlock ∨ v'.ownBlock = some (W.alloc ob).heap.size) :
    Box W3 (A + 1 + 1 + 1 + 1) v1 ∧ KeepD (Gr (A + 1 + 1 + 1 + 1)) W (W3.setCell ⟨A + 1 + 1 + 1 + 1, 0, none⟩ v') ∧ WkS w B A r s b o c k p st N F R G v0 v' v2 (n1 + 1) n2 x y z ds (W3.setCell ⟨A + 1 + 1 + 1 + 1, 0, none⟩ v') := by
  have z0 : (W.alloc ob).heap.size = W.heap.size + 1 := by simp
  have l1 := h.o1.lt
  have kp0 : ∀ i, i < W.heap.size → v1.ownBlock ≠ some i → W3.heap[i]? = W.heap[i]? := fun i hi hne => (gr.block i (by omega) (fun e => hne e.symm)).trans (Below.heap_alloc W ob i hi)
  have kp : ∀ i, i < W.heap.size → i ≠ A + 1 + 1 + 1 + 1 → v1.ownBlock ≠ some i → (W3.setCell ⟨A + 1 + 1 + 1 + 1, 0, none⟩ v').heap[i]? = W.heap[i]? := fun i hi hn hne => (Below.heap_setCell W3 _ _ i (fun e => hn e)).trans (kp0 i hi hne)
  have lo : ∀ i, i < A + 6 → v1.ownBlock ≠ some i := fun i hi e => by have := (l1 i e).1; omega
  have b3 : Box W3 (A + 1 + 1 + 1 + 1) v1 := h.bR.of (kp0 _ h.bR.lt (lo _ (by omega)))
  have hz := gr.size
  have hlt := h.bO.lt
  have hA := h.hA
  refine ⟨b3, ⟨by simp; omega, fun i hi hn => ?_⟩, ?_⟩
  · have h1 : i ≠ A + 1 + 1 + 1 + 1 := fun e => hn (.inl e)
    have h2 : v1.ownBlock ≠ some i := fun e => hn (.inr ⟨v1, h.bR, e⟩)
    refine ⟨kp i hi h1 h2, Gr.not (b3.set v') h1 ?_⟩
    rcases at3 with e | e
    · rw [e]; exact h2
    · rw [e, z0]; intro e; cases e; omega
  · have own' : Ow W3 (A + 6) v' (n1 + 1) R := by rw [lst_snoc] at own; exact own
    refine ⟨Bk.of h.gm (kp _ (by omega) (by omega) (lo _ (by omega))), h.br.of (kp _ h.br.lt (by omega) (lo _ (by omega))), h.bp.of (kp _ h.bp.lt (by omega) (lo _ (by omega))), h.bs.of (kp _ h.bs.lt (by omega) (lo _ (by omega))), h.bt.of (kp _ h.bt.lt (by omega) (lo _ (by omega))), h.ba.of (kp _ h.ba.lt (by omega) (lo _ (by omega))), h.bn.of (kp _ h.bn.lt (by omega) (lo _ (by omega))), h.bk.of (kp _ h.bk.lt (by omega) (lo _ (by omega))), h.bg.of (kp _ h.bg.lt (by omega) (lo _ (by omega))), b3.set v', h.bO.of (kp _ h.bO.lt (by omega) (lo _ (by omega))), h.hA, ?_, h.l0, ?_, ?_, ?_, ?_, h.nd, ?_⟩
    · exact h.o0.of fun g hg => kp g (h.o0.lt g hg).2 (by have := h.l0 g hg; omega) (lo _ (by have := h.l0 g hg; omega))
    · exact own'.of fun g hg => Below.heap_setCell W3 _ _ g (fun e => by have := (own'.lt g hg).1; simp at e; omega)
    · exact h.o2.of fun g hg => kp g (h.o2.lt g hg).2 (by have := (h.o2.lt g hg).1; omega) (fun e => h.ne g e hg)
    · intro g hg e
      rcases at3 with e3 | e3
      · rw [e3] at hg; exact h.ne g hg e
      · rw [e3, z0] at hg; cases hg; have := (h.o2.lt _ e).2; omega
    · exact (below_grown7 (h.below.alloc (by omega) ob) gr (fun g hg => by have := (l1 g hg).1; omega) (by omega)).setCell (p := ⟨A + 1 + 1 + 1 + 1, 0, none⟩) (by simp; omega) _
    · intro D hD
      refine ⟨(h.dm D hD).1, (kp D (h.ds_lt D hD) (by have := (h.dm D hD).1; omega) (fun e => ?_)).trans (h.dm D hD).2⟩
      obtain ⟨ob', h1, h2⟩ := h.o1.cells e
      exact mark_ne h1 h2 (h.dm D hD).2 rfl
theorem WkS.app2 (h : WkS w B A r s b o c k p st N F R G v0 v1 v2 n1 n2 x y z ds W) (ob : Obj) {W3 : World} {v' : Value} (own : W3.ownsRow (A + 6) 3 1 v' (n2 + 1) (lst G n2 ++ [.int .i64 (G n2 : Int)])) (gr : (W.alloc ob).grownBy W3 v2.ownBlock) (at3 : v'.ownBlock = v2.ownBlock ∨ v'.ownBlock = some (W.alloc ob).heap.size) :
    Box W3 (A + 1 + 1 + 1 + 1 + 1) v2 ∧ KeepD (Gr (A + 1 + 1 + 1 + 1 + 1)) W (W3.setCell ⟨A + 1 + 1 + 1 + 1 + 1, 0, none⟩ v') ∧ WkS w B A r s b o c k p st N F R G v0 v1 v' n1 (n2 + 1) x y z ds (W3.setCell ⟨A + 1 + 1 + 1 + 1 + 1, 0, none⟩ v') := by
  have z0 : (W.alloc ob).heap.size = W.heap.size + 1 := by simp
  have l1 := h.o2.lt
  have kp0 : ∀ i, i < W.heap.size → v2.ownBlock ≠ some i → W3.heap[i]? = W.heap[i]? := fun i hi hne => (gr.block i (by omega) (fun e => hne e.symm)).trans (Below.heap_alloc W ob i hi)
  have kp : ∀ i, i < W.heap.size → i ≠ A + 1 + 1 + 1 + 1 + 1 → v2.ownBlock ≠ some i → (W3.setCell ⟨A + 1 + 1 + 1 + 1 + 1, 0, none⟩ v').heap[i]? = W.heap[i]? := fun i hi hn hne => (Below.heap_setCell W3 _ _ i (fun e => hn e)).trans (kp0 i hi hne)
  have lo : ∀ i, i < A + 6 → v2.ownBlock ≠ some i := fun i hi e => by have := (l1 i e).1; omega
  have b3 : Box W3 (A + 1 + 1 + 1 + 1 + 1) v2 := h.bO.of (kp0 _ h.bO.lt (lo _ (by omega)))
  have hz := gr.size
  have hlt := h.bO.lt
  have hA := h.hA
  refine ⟨b3, ⟨by simp; omega, fun i hi hn => ?_⟩, ?_⟩
  · have h1 : i ≠ A + 1 + 1 + 1 + 1 + 1 := fun e => hn (.inl e)
    have h2 : v2.ownBlock ≠ some i := fun e => hn (.inr ⟨v2, h.bO, e⟩)
    refine ⟨kp i hi h1 h2, Gr.not (b3.set v') h1 ?_⟩
    rcases at3 with e | e
    · rw [e]; exact h2
    · rw [e, z0]; intro e; cases e; omega
  · have own' : Ow W3 (A + 6) v' (n2 + 1) G := by rw [lst_snoc] at own; exact own
    refine ⟨Bk.of h.gm (kp _ (by omega) (by omega) (lo _ (by omega))), h.br.of (kp _ h.br.lt (by omega) (lo _ (by omega))), h.bp.of (kp _ h.bp.lt (by omega) (lo _ (by omega))), h.bs.of (kp _ h.bs.lt (by omega) (lo _ (by omega))), h.bt.of (kp _ h.bt.lt (by omega) (lo _ (by omega))), h.ba.of (kp _ h.ba.lt (by omega) (lo _ (by omega))), h.bn.of (kp _ h.bn.lt (by omega) (lo _ (by omega))), h.bk.of (kp _ h.bk.lt (by omega) (lo _ (by omega))), h.bg.of (kp _ h.bg.lt (by omega) (lo _ (by omega))), h.bR.of (kp _ h.bR.lt (by omega) (lo _ (by omega))), b3.set v', h.hA, ?_, h.l0, ?_, ?_, ?_, ?_, h.nd, ?_⟩
    · exact h.o0.of fun g hg => kp g (h.o0.lt g hg).2 (by have := h.l0 g hg; omega) (lo _ (by have := h.l0 g hg; omega))
    · exact h.o1.of fun g hg => kp g (h.o1.lt g hg).2 (by have := (h.o1.lt g hg).1; omega) (fun e => h.ne g hg e)
    · exact own'.of fun g hg => Below.heap_setCell W3 _ _ g (fun e => by have := (own'.lt g hg).1; simp at e; omega)
    · intro g hg e
      rcases at3 with e3 | e3
      · rw [e3] at e; exact h.ne g hg e
      · rw [e3, z0] at e; cases e; have := (h.o1.lt _ hg).2; omega
    · exact (below_grown7 (h.below.alloc (by omega) ob) gr (fun g hg => by have := (l1 g hg).1; omega) (by omega)).setCell (p := ⟨A + 1 + 1 + 1 + 1 + 1, 0, none⟩) (by simp; omega) _
    · intro D hD
      refine ⟨(h.dm D hD).1, (kp D (h.ds_lt D hD) (by have := (h.dm D hD).1; omega) (fun e => ?_)).trans (h.dm D hD).2⟩
      obtain ⟨ob', h1, h2⟩ := h.o2.cells e
      exact mark_ne h1 h2 (h.dm D hD).2 rfl
/-- a box outside all that the state holds -/
theorem WkS.put (h : WkS w B A r s b o c k p st N F R G v0 v1 v2 n1 n2 x y z ds W) {S : Nat} {u : Value} (hS : A + 6 ≤ S) (h1 : v1.ownBlock ≠ some S) (h2 : v2.ownBlock ≠ some S) (hd : S ∉ ds) : WkS w B A r s b o c k p st N F R G v0 v1 v2 n1 n2 x y z ds (W.setCell ⟨S, 0, none⟩ u) := by
  have hA := h.hA
  have kp : ∀ i, i ≠ S → (W.setCell ⟨S, 0, none⟩ u).heap[i]? = W.heap[i]? := fun i hi => Below.heap_setCell W _ _ i (fun e => hi e)
  exact ⟨Bk.of h.gm (kp _ (by omega)), h.br.of (kp _ (by omega)), h.bp.of (kp _ (by omega)), h.bs.of (kp _ (by omega)), h.bt.of (kp _ (by omega)), h.ba.of (kp _ (by omega)), h.bn.of (kp _ (by omega)), h.bk.of (kp _ (by omega)), h.bg.of (kp _ (by omega)), h.bR.of (kp _ (by omega)), h.bO.of (kp _ (by omega)), h.hA,
    h.o0.of fun g hg => kp g (by have := h.l0 g hg; omega), h.l0, h.o1.of fun g hg => kp g (fun e => h1 (by rw [← e]; exact hg)), h.o2.of fun g hg => kp g (fun e => h2 (by rw [← e]; exact hg)), h.ne, h.below.setCell (p := ⟨S, 0, none⟩) (by simp; omega) _, h.nd, fun D hD => ⟨(h.dm D hD).1, (kp D (fun e => hd (by rw [← e]; exact hD))).trans (h.dm D hD).2⟩⟩
/-- the three counters -/
theorem WkS.putN (h : WkS w B A r s b o c k p st N F R G v0 v1 v2 n1 n2 x y z ds W) (u : Nat) : WkS w B A r s b o c k p st N F R G v0 v1 v2 n1 n2 u y z ds (W.setCell ⟨A + 1, 0, none⟩ (.int .i64 (u : Int))) := by
  have hA := h.hA
  have kp : ∀ i, i ≠ A + 1 → (W.setCell ⟨A + 1, 0, none⟩ (.int .i64 (u : Int))).heap[i]? = W.heap[i]? := fun i hi => Below.heap_setCell W _ _ i (fun e => hi e)
  exact ⟨Bk.of h.gm (kp _ (by omega)), h.br.of (kp _ (by omega)), h.bp.of (kp _ (by omega)), h.bs.of (kp _ (by omega)), h.bt.of (kp _ (by omega)), h.ba.of (kp _ (by omega)), h.bn.set _, h.bk.of (kp _ (by omega)), h.bg.of (kp _ (by omega)), h.bR.of (kp _ (by omega)), h.bO.of (kp _ (by omega)), h.hA,
    h.o0.of fun g hg => kp g (by have := h.l0 g hg; omega), h.l0, h.o1.of fun g hg => kp g (by have := (h.o1.lt g hg).1; omega), h.o2.of fun g hg => kp g (by have := (h.o2.lt g hg).1; omega), h.ne, h.below.setCell (p := ⟨A + 1, 0, none⟩) (by simp; omega) _, h.nd, fun D hD => ⟨(h.dm D hD).1, (kp D (by have := (h.dm D hD).1; omega)).trans (h.dm D hD).2⟩⟩
theorem WkS.putK (h : WkS w B A r s b o c k p st N F R G v0 v1 v2 n1 n2 x y z ds W) (u : Nat) : WkS w B A r s b o c k p st N F R G v0 v1 v2 n1 n2 x u z ds (W.setCell ⟨A + 1 + 1, 0, none⟩ (.int .i64 (u : Int))) := by
  have hA := h.hA
  have kp : ∀ i, i ≠ A + 1 + 1 → (W.setCell ⟨A + 1 + 1, 0, none⟩ (.int .i64 (u : Int))).heap[i]? = W.heap[i]? := fun i hi => Below.heap_setCell W _ _ i (fun e => hi e)
  exact ⟨Bk.of h.gm (kp _ (by omega)), h.br.of (kp _ (by omega)), h.bp.of (kp _ (by omega)), h.bs.of (kp _ (by omega)), h.bt.of (kp _ (by omega)), h.ba.of (kp _ (by omega)), h.bn.of (kp _ (by omega)), h.bk.set _, h.bg.of (kp _ (by omega)), h.bR.of (kp _ (by omega)), h.bO.of (kp _ (by omega)), h.hA,
    h.o0.of fun g hg => kp g (by have := h.l0 g hg; omega), h.l0, h.o1.of fun g hg => kp g (by have := (h.o1.lt g hg).1; omega), h.o2.of fun g hg => kp g (by have := (h.o2.lt g hg).1; omega), h.ne, h.below.setCell (p := ⟨A + 1 + 1, 0, none⟩) (by simp; omega) _, h.nd, fun D hD => ⟨(h.dm D hD).1, (kp D (by have := (h.dm D hD).1; omega)).trans (h.dm D hD).2⟩⟩
theorem WkS.putG (h : WkS w B A r s b o c k p st N F R G v0 v1 v2 n1 n2 x y z ds W) (u : Nat) : WkS w B A r s b o c k p st N F R G v0 v1 v2 n1 n2 x y u ds (W.setCell ⟨A + 1 + 1 + 1, 0, none⟩ (.int .i64 (u : Int))) := by
  have hA := h.hA
  have kp : ∀ i, i ≠ A + 1 + 1 + 1 → (W.setCell ⟨A + 1 + 1 + 1, 0, none⟩ (.int .i64 (u : Int))).heap[i]? = W.heap[i]? := fun i hi => Below.heap_setCell W _ _ i (fun e => hi e)
  exact ⟨Bk.of h.gm (kp _ (by omega)), h.br.of (kp _ (by omega)), h.bp.of (kp _ (by omega)), h.bs.of (kp _ (by omega)), h.bt.of (kp _ (by omega)), h.ba.of (kp _ (by omega)), h.bn.of (kp _ (by omega)), h.bk.of (kp _ (by omega)), h.bg.set _, h.bR.of (kp _ (by omega)), h.bO.of (kp _ (by omega)), h.hA,
    h.o0.of fun g hg => kp g (by have := h.l0 g hg; omega), h.l0, h.o1.of fun g hg => kp g (by have := (h.o1.lt g hg).1; omega), h.o2.of fun g hg => kp g (by have := (h.o2.lt g hg).1; omega), h.ne, h.below.setCell (p := ⟨A + 1 + 1 + 1, 0, none⟩) (by simp; omega) _, h.nd, fun D hD => ⟨(h.dm D hD).1, (kp D (by have := (h.dm D hD).1; omega)).trans (h.dm D hD).2⟩⟩
theorem WkS.fin (h : WkS w B A r s b o c k p st N F R G v0 v1 v2 n1 n2 x y z ds W) : ds.Nodup ∧ (∀ D ∈ ds, B ≤ D ∧ (W.setCell ⟨B + 1 + 1 + 1 + 1, 0, none⟩ (.bool true)).heap[D]? = some (.deferred (some []))) ∧ Box (W.setCell ⟨B + 1 + 1 + 1 + 1, 0, none⟩ (.bool true)) (B + 1 + 1 + 1 + 1) (.bool true) ∧ Below B w (W.setCell ⟨B + 1 + 1 + 1 + 1, 0, none⟩ (.bool true)) := by
  have hA := h.hA
  refine ⟨h.nd, fun D hD => ?_, h.bt.set _, h.below.setCell (p := ⟨B + 1 + 1 + 1 + 1, 0, none⟩) (by simp; omega) _⟩
  have h1 := h.dm D hD
  exact ⟨by omega, (Below.heap_setCell W _ _ D (fun e => by simp at e; omega)).trans h1.2⟩
theorem WkS.m3 (h : WkS w B A r s b o c k p st N F R G v0 v1 v2 n1 n2 x y z ds W) : Ok (fun _ b => b = A + 1 ∨ b = A + 1 + 1 ∨ b = A + 1 + 1 + 1) W := ok_fix fun b hb => by have := h.bg.lt; omega
end
/-- ahead of the ranges -/
structure WkH (w : World) (B : Nat) (r s b o c k p st : Int) (W : World) : Prop where
  gm : Gm W B r s b o c
  br : Box W (B + 1) (.int .i64 k)
  bp : Box W (B + 1 + 1) (.int .i64 p)
  bs : Box W (B + 1 + 1 + 1) (.int .i64 st)
  bt : Box W (B + 1 + 1 + 1 + 1) (.bool false)
  below : Below B w W
theorem WkH.next {w W W' : World} {B : Nat} {r s b o c k p st : Int} (h : WkH w B r s b o c k p st W) (q : Below W.heap.size W W') : WkH w B r s b o c k p st W' :=
  ⟨h.gm.next q, h.br.below q h.br.lt, h.bp.below q h.bp.lt, h.bs.below q h.bs.lt, h.bt.below q h.bt.lt, h.below.trans (q.mono (Nat.le_of_lt h.gm.lt))⟩
theorem WkH.alloc {w W : World} {B : Nat} {r s b o c k p st : Int} (h : WkH w B r s b o c k p st W) (ob : Obj) : WkH w B r s b o c k p st (W.alloc ob) := h.next ((Below.refl _ W).alloc (Nat.le_refl _) ob)
/-- a box more, at the heap's end -/
theorem lay_box (W : World) (t : TypeId) (v : Value) : ∃ W', W.alloc (.cells #[v] t) = W' ∧ W'.heap.size = W.heap.size + 1 ∧ Box W' W.heap.size v ∧ Below W.heap.size W W' :=
  ⟨_, rfl, by simp, Box.new W t v, (Below.refl _ W).alloc (Nat.le_refl _) _⟩
theorem WkH.lay {w W : World} {B C : Nat} {r s b o c k p st : Int} {N : Nat} {F R G : Nat → Nat} {v0 : Value} (h : WkH w B r s b o c k p st W) (hC : B + 5 ≤ C) (hCW : C ≤ W.heap.size) (ow : Ow W C v0 N F) (t1 t2 t3 t4 t5 t6 : TypeId) :
    WkS w B W.heap.size r s b o c k p st N F R G v0 (.slice none 0 0) (.slice none 0 0) 0 0 0 0 0 [] ((((((W.alloc (.cells #[v0] t1)).alloc (.cells #[.int .i64 0] t2)).alloc (.cells #[.int .i64 0] t3)).alloc (.cells #[.int .i64 0] t4)).alloc (.cells #[.slice none 0 0] t5)).alloc (.cells #[.slice none 0 0] t6)) := by
  obtain ⟨W1, h1, z1, b1, l1⟩ := lay_box W t1 v0
  rw [h1]
  obtain ⟨W2, h2, z2, b2, l2⟩ := lay_box W1 t2 (.int .i64 0)
  rw [h2]
  obtain ⟨W3, h3, z3, b3, l3⟩ := lay_box W2 t3 (.int .i64 0)
  rw [h3]
  obtain ⟨W4, h4, z4, b4, l4⟩ := lay_box W3 t4 (.int .i64 0)
  rw [h4]
  obtain ⟨W5, h5, z5, b5, l5⟩ := lay_box W4 t5 (.slice none 0 0)
  rw [h5]
  obtain ⟨W6, h6, z6, b6, l6⟩ := lay_box W5 t6 (.slice none 0 0)
  rw [h6]
  have hh := ((((((h.next l1).next l2).next l3).next l4).next l5).next l6)
  have ho := ((((((ow.next l1).next l2).next l3).next l4).next l5).next l6)
  rw [z1] at z2 b2
  rw [z2] at z3 b3
  rw [z3] at z4 b4
  rw [z4] at z5 b5
  rw [z5] at z6 b6
  exact ⟨hh.gm, hh.br, hh.bp, hh.bs, hh.bt, ((((b1.below l2 b1.lt).below l3 (by omega)).below l4 (by omega)).below l5 (by omega)).below l6 (by omega), (((b2.below l3 (by omega)).below l4 (by omega)).below l5 (by omega)).below l6 (by omega), ((b3.below l4 (by omega)).below l5 (by omega)).below l6 (by omega), (b4.below l5 (by omega)).below l6 (by omega), b5.below l6 (by omega), b6, by omega, World.ownsRow.mono ho hC, fun g hg => (ow.lt g hg).2, Ow.nil _ _ _, Ow.nil _ _ _, fun g hg => by (cases hg), hh.below, List.nodup_nil, fun D hD => by cases hD⟩
/-- between two rounds of the ranges -/
def WkI1 (w : World) (B A : Nat) (r s b o c k p st : Int) (N : Nat) (F R G : Nat → Nat) (v0 : Value) (x : Nat) (W : World) : Prop := ∃ e q, WkS w B A r s b o c k p st N F R G v0 (.slice e x q) (.slice none 0 0) x 0 0 0 0 [] W
def WkI2 (w : World) (B A : Nat) (r s b o c k p st : Int) (N : Nat) (F R G : Nat → Nat) (v0 v1 : Value) (n1 : Nat) (ds : List Nat) (x : Nat) (W : World) : Prop := ∃ e q, WkS w B A r s b o c k p st N F R G v0 v1 (.slice e x q) n1 x 0 0 0 ds W
def WkI3 (w : World) (B A : Nat) (r s b o c k p st : Int) (N : Nat) (F R G : Nat → Nat) (v0 v1 v2 : Value) (n1 n2 a1 a2 : Nat) (ds : List Nat) (x : Nat) (W : World) : Prop := WkS w B A r s b o c k p st N F R G v0 v1 v2 n1 n2 x (seg a1 n1 x) (seg a2 n2 x) ds W
structure WkI4 (w : World) (B A : Nat) (r s b o c k p st : Int) (N : Nat) (F R G : Nat → Nat) (v0 v1 v2 : Value) (n1 n2 : Nat) (ds : List Nat) (S : Nat) (x : Nat) (W : World) : Prop where
  wk : WkS w B A r s b o c k p st N F R G v0 v1 v2 n1 n2 N n1 n2 ds W
  bx : Box W S (.int .i64 (x : Int))
  no : ¬ (1 ≤ st ∧ st ≤ (x : Int))
structure WkX4 (w : World) (B A : Nat) (r s b o c k p st : Int) (N : Nat) (F R G : Nat → Nat) (v0 v1 v2 : Value) (n1 n2 : Nat) (ds : List Nat) (S : Nat) (cc : Code) (x : Nat) (W : World) : Prop where
  ce : cc = .exit 6
  wk : WkS w B A r s b o c k p st N F R G v0 v1 v2 n1 n2 N n1 n2 ds W
  bx : Box W S (.int .i64 ((x + 1 : Nat) : Int))
  yes : st = ((x + 1 : Nat) : Int)
theorem run_min7 {P : Program} (a b m : Int) (h : (if b < a then b else a) = m) (ts : Array TypeId) (t : TypeId) (w : World) : (Builtin.min_ ts t #[.int .i64 a, .int .i64 b]).run P w = .ok (.int .i64 m) w := by
  rw [← h]
  simp [Builtin.min_, Builtin.min2]
/-- the function leaves: its result is written last; each block for deferred calls is shut -/
theorem ends7 {n : Nat} {w : World} {fn : Func} {tmps : Array Value} {B T : Nat} (hB : w.heap.size = B) (hres : ∀ W1 : World, W1.cell? ⟨T, 0, none⟩ = some (.bool true) → (results fn tmps).run Try.prog W1 = .ok (.bool true) W1) :
    ∀ (ds : List Nat) (W : World), ds.Nodup → (∀ D ∈ ds, B ≤ D ∧ W.heap[D]? = some (.deferred (some []))) → Box W T (.bool true) → Below B w W →
      LeavesInM Fence.wide n Try.prog fn tmps (fun e w' => e = .returned (.bool true) ∧ Below w.heap.size w w') (ds.map fun D => { target := .collected D, args := #[] }) .returning W
  | [], W, _, _, hb, h => ⟨_, hres W hb.1, rfl, by rw [hB]; exact h⟩
  | D :: ds, W, hnd, hd, hb, h => by
    have h0 := hd D (by simp)
    have hnd' := List.nodup_cons.1 hnd
    refine ⟨by simp, .inl ⟨D, _, rfl, run_takeDeferred h0.2, ?_⟩⟩
    have s1 : Stay D W (W.putObj D (.deferred none)) := Stay.putObj _ h0.2 rfl (Nat.le_refl _)
    refine ends7 hB hres ds _ hnd'.2 (fun E hE => ?_) (hb.stay s1) (below_stay h s1 h0.1)
    have hE' := hd E (by simp [hE])
    exact ⟨hE'.1, (World.putObj_heap_other (fun e => hnd'.1 (by cases e; exact hE))).trans hE'.2⟩
theorem ends7' {n : Nat} {w : World} {fn : Func} {tmps : Array Value} {B T : Nat} (hB : w.heap.size = B) (hres : ∀ W1 : World, W1.cell? ⟨T, 0, none⟩ = some (.bool true) → (results fn tmps).run Try.prog W1 = .ok (.bool true) W1)
    (ds : List Nat) (W : World) (h1 : ds.Nodup) (h2 : ∀ D ∈ ds, B ≤ D ∧ W.heap[D]? = some (.deferred (some []))) (h3 : Box W T (.bool true)) (h4 : Below B w W) :
      LeavesInM Fence.wide n Try.prog fn tmps (fun e w' => e = .returned (.bool true) ∧ Below B w w') (ds.map fun D => { target := .collected D, args := #[] }) .returning W := by
  have := ends7 (n := n) hB hres ds W h1 h2 h3 h4
  rw [hB] at this
  exact this
end Go.Proofs.Ytjinbhggimbcbaa
