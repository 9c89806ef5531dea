/-
  A law at work on chips: what it laid ahead of them, and behind them; the document's example.
-/
import Derived.Test.YtcpjmfemgdgplaaDrW12
namespace Go.Proofs.Ytcpjmfemgdgplaa
open Go.RowKit Go.Shelf
open Ge (pw rt hd ix)
attribute [local go_sem] Oper.semAt_some

/-- a law at work: w0 its first world; es the blocks that it laid ahead of the chips, ls those laid behind them -/
structure Lw (w0 : World) (es ls : List (Nat × List Value)) (lo B M : Nat) (r s b o d m : Int) (n : Nat) (G : Int → Nat → Int) (vb : Value) (l1 : Nat) (Y : Nat → Nat → Int) (vc : Value) (l2 : Nat) (Z : Nat → Nat → Int) (W : World) : Prop where
  d : Dm W lo B M r s b o d m n G vb l1 Y vc l2 Z
  n : Below w0.heap.size w0 W
  l : w0.heap.size ≤ lo
  e : ∀ x ∈ es, x.1 < lo ∧ Cb W x.1 x.2
  b : ∀ x ∈ ls, ¬ mine B M vb vc x.1 ∧ Cb W x.1 x.2
section
variable {w0 W W' : World} {es ls : List (Nat × List Value)} {lo B M : Nat} {r s b o d m : Int} {n : Nat} {G : Int → Nat → Int} {vb vc : Value} {l1 l2 : Nat} {Y Z : Nat → Nat → Int}
theorem Lw.next (h : Lw w0 es ls lo B M r s b o d m n G vb l1 Y vc l2 Z W) (e : Below W.heap.size W W') : Lw w0 es ls lo B M r s b o d m n G vb l1 Y vc l2 Z W' :=
  ⟨h.d.next e, h.n.trans (e.mono h.n.size), h.l, fun x hx => ⟨(h.e x hx).1, (h.e x hx).2.next e⟩, fun x hx => ⟨(h.b x hx).1, (h.b x hx).2.next e⟩⟩
theorem Lw.mo {n' : Nat} {G' : Int → Nat → Int} {vb' vc' : Value} {l1' l2' : Nat} {Y' Z' : Nat → Nat → Int} (h : Lw w0 es ls lo B M r s b o d m n G vb l1 Y vc l2 Z W) (d' : Dm W' lo B M r s b o d m n' G' vb' l1' Y' vc' l2' Z') (k : Mo lo B M vb vc vb' vc' W W') : Lw w0 es ls lo B M r s b o d m n' G' vb' l1' Y' vc' l2' Z' W' :=
  ⟨d', h.n.trans (k.2.n.mono h.l), h.l, fun x hx => ⟨(h.e x hx).1, (h.e x hx).2.of (k.2.n.block _ (h.e x hx).1)⟩, fun x hx => by
    obtain ⟨h1, h2⟩ := h.b x hx
    refine ⟨fun hm => (k.1 _ hm).elim h1 fun h3 => ?_, h2.of (k.2.k _ h2.lt h1)⟩
    have := h2.lt
    omega⟩
theorem Lw.tk (h : Lw w0 es ls lo B M r s b o d m n G vb l1 Y vc l2 Z W) {n' : Nat} {G' : Int → Nat → Int} (t : Tk lo B M r s b o d m n' G' vb l1 Y vc l2 Z W W') : ∃ vc', Lw w0 es ls lo B M r s b o d m n' G' vb l1 Y vc' (l2 - 1) (tlZ Z) W' ∧ vc'.ownBlock = vc.ownBlock := by
  obtain ⟨vc', h1, h2, h3⟩ := t
  exact ⟨vc', h.mo h1 ⟨fun g hg => .inl ((own_eq h2 g).1 hg), h3⟩, h2⟩
theorem Lw.lay (h : Lw w0 es ls lo B M r s b o d m n G vb l1 Y vc l2 Z W) (L : List Value) (t : TypeId) : Lw w0 es ((W.heap.size, L) :: ls) lo B M r s b o d m n G vb l1 Y vc l2 Z (W.alloc (.cells L.toArray t)) := by
  have k := h.next ((Below.refl _ W).alloc (Nat.le_refl _) (.cells L.toArray t))
  refine ⟨k.d, k.n, k.l, k.e, fun x hx => ?_⟩
  rcases List.mem_cons.1 hx with rfl | hx
  · exact ⟨fun hm => by have := (h.d.mine_lt _ hm).2; omega, Cb.new W L t⟩
  · exact k.b x hx
theorem Lw.layA (h : Lw w0 es ls lo B M r s b o d m n G vb l1 Y vc l2 Z W) (L L0 : List Value) (t : TypeId) (hl : L.length = L0.length) : Lw w0 es ((W.heap.size, L) :: ls) lo B M r s b o d m n G vb l1 Y vc l2 Z ((W.alloc (.cells L0.toArray t)).setCells W.heap.size 0 L) := by
  have k := h.lay L0 t
  have hlt := h.d.lo_le
  refine ⟨k.d.of fun g hg => heap_puts _ L 0 _ g (by have := (h.d.mine_lt g hg).2; omega), belows_put (by have := h.n.size; omega) _ 0 k.n, k.l, fun x hx => ⟨(k.e x hx).1, (k.e x hx).2.putOther (by have := (k.e x hx).1; omega) 0 L⟩, fun x hx => ?_⟩
  rcases List.mem_cons.1 hx with rfl | hx
  · exact ⟨(k.b _ (List.mem_cons_self ..)).1, ((k.b _ (List.mem_cons_self ..)).2).all hl⟩
  · exact ⟨(h.b x hx).1, ((h.b x hx).2.alloc _).putOther (by have := (h.b x hx).2.lt; omega) 0 L⟩
theorem Lw.layRW (h : Lw w0 es ls lo B M r s b o d m n G vb l1 Y vc l2 Z W) (L L0 : List Value) (tR tW : TypeId) (i : Int) (t : Bool) (hl : L.length = L0.length) :
    Lw w0 es ((W.heap.size + 1, [.int .i64 i, .bool t]) :: (W.heap.size, L) :: ls) lo B M r s b o d m n G vb l1 Y vc l2 Z ((((W.alloc (.cells L0.toArray tR)).alloc (.cells #[.int .i64 0, .bool false] tW)).setCells W.heap.size 0 L).setCells (W.heap.size + 1) 0 [.int .i64 i, .bool t]) ∧
    ((W.alloc (.cells L0.toArray tR)).alloc (.cells #[.int .i64 0, .bool false] tW)).there W.heap.size 0 L.toArray.size ∧ (((W.alloc (.cells L0.toArray tR)).alloc (.cells #[.int .i64 0, .bool false] tW)).setCells W.heap.size 0 L).there (W.heap.size + 1) 0 2 := by
  have k := (h.lay L0 tR).lay [.int .i64 0, .bool false] tW
  rw [World.size_alloc] at k
  obtain ⟨V, hV⟩ : ∃ V, (W.alloc (.cells L0.toArray tR)).alloc (.cells #[.int .i64 0, .bool false] tW) = V := ⟨_, rfl⟩
  have c1 : Cb V W.heap.size L0 := by rw [← hV]; exact (Cb.new W L0 tR).alloc _
  have c2 : Cb V (W.heap.size + 1) [.int .i64 0, .bool false] := by
    have := Cb.new (W.alloc (.cells L0.toArray tR)) [.int .i64 0, .bool false] tW
    rw [World.size_alloc] at this
    rw [← hV]
    exact this
  replace k : Lw w0 es ((W.heap.size + 1, [.int .i64 0, .bool false]) :: (W.heap.size, L0) :: ls) lo B M r s b o d m n G vb l1 Y vc l2 Z V := by rw [← hV]; exact k
  rw [hV]
  have hlo := h.d.lo_le
  have hw0 := h.n.size
  have old : ∀ j, j < W.heap.size → ((V.setCells W.heap.size 0 L).setCells (W.heap.size + 1) 0 [.int .i64 i, .bool t]).heap[j]? = V.heap[j]? := fun j hj => (heap_puts _ _ 0 _ j (by omega)).trans (heap_puts _ L 0 V j (by omega))
  refine ⟨⟨k.d.of fun g hg => old g (h.d.mine_lt g hg).2, belows_put (by omega) _ 0 (belows_put (by omega) _ 0 k.n), k.l, fun x hx => ⟨(k.e x hx).1, (k.e x hx).2.of (old _ (by have := (k.e x hx).1; omega))⟩, fun x hx => ?_⟩, ?_, ?_⟩
  · rcases List.mem_cons.1 hx with rfl | hx
    · exact ⟨(k.b _ (List.mem_cons_self ..)).1, (c2.putOther (by omega) 0 L).all rfl⟩
    · rcases List.mem_cons.1 hx with rfl | hx
      · exact ⟨(k.b (W.heap.size, L0) (by simp)).1, (c1.all hl).putOther (by omega) 0 _⟩
      · have := k.b x (by simp [hx])
        exact ⟨this.1, this.2.of (old _ (h.b x hx).2.lt)⟩
  · have := c1.thereAt 0 L.length (by omega)
    simpa using this
  · exact (c2.putOther (by omega) 0 L).thereAt 0 2 (by simp)
theorem Lw.there (_ : Lw w0 es ls lo B M r s b o d m n G vb l1 Y vc l2 Z W) (L L0 : List Value) (t : TypeId) (hl : L.length = L0.length) : (W.alloc (.cells L0.toArray t)).there W.heap.size 0 L.toArray.size := by
  have := (Cb.new W L0 t).thereAt 0 L.length (by omega)
  simpa using this
theorem Lw.begin (h : Dm W lo B M r s b o d m n G vb l1 Y vc l2 Z) (hn : Below w0.heap.size w0 W) (hl : w0.heap.size ≤ lo) (he : ∀ x ∈ es, x.1 < lo ∧ Cb W x.1 x.2) : Lw w0 es [] lo B M r s b o d m n G vb l1 Y vc l2 Z W := ⟨h, hn, hl, he, fun x hx => by simp at hx⟩
theorem Lw.e0 {x : Nat × List Value} (h : Lw w0 (x :: es) ls lo B M r s b o d m n G vb l1 Y vc l2 Z W) : Cb W x.1 x.2 := (h.e x (List.mem_cons_self ..)).2
theorem Lw.b0 {x : Nat × List Value} (h : Lw w0 es (x :: ls) lo B M r s b o d m n G vb l1 Y vc l2 Z W) : Cb W x.1 x.2 := (h.b x (List.mem_cons_self ..)).2
theorem Lw.b1 {x y : Nat × List Value} (h : Lw w0 es (y :: x :: ls) lo B M r s b o d m n G vb l1 Y vc l2 Z W) : Cb W x.1 x.2 := (h.b x (by simp)).2
theorem Lw.b2 {x y z : Nat × List Value} (h : Lw w0 es (z :: y :: x :: ls) lo B M r s b o d m n G vb l1 Y vc l2 Z W) : Cb W x.1 x.2 := (h.b x (by simp)).2
end
end Go.Proofs.Ytcpjmfemgdgplaa
