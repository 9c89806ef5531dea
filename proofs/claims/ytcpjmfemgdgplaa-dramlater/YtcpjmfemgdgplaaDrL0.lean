/-
  What the laws of chips share: a law ahead of the chips; chips with nothing to come.
-/
import Derived.Test.YtcpjmfemgdgplaaDrW14
namespace Go.Proofs.Ytcpjmfemgdgplaa
open Go.RowKit Go.Shelf
open Ge (pw rt hd ix)
attribute [local go_sem] Oper.semAt_some

/-- a law that has no chips yet -/
structure Pre (w0 : World) (es : List (Nat × List Value)) (W : World) : Prop where
  n : Below w0.heap.size w0 W
  e : ∀ x ∈ es, Cb W x.1 x.2
section
variable {w0 W W' : World} {es ls : List (Nat × List Value)} {lo B M : Nat} {r s b o d m : Int} {n : Nat} {G : Int → Nat → Int} {vb vc : Value} {l1 l2 : Nat} {Y Z : Nat → Nat → Int} {k j : Int}
theorem Pre.next (h : Pre w0 es W) (e : Below W.heap.size W W') : Pre w0 es W' := ⟨h.n.trans (e.mono h.n.size), fun x hx => (h.e x hx).next e⟩
theorem Pre.start (w0 : World) : Pre w0 [] w0 := ⟨Below.refl _ _, fun x hx => by simp at hx⟩
theorem Pre.lay (h : Pre w0 es W) (L : List Value) (t : TypeId) : Pre w0 ((W.heap.size, L) :: es) (W.alloc (.cells L.toArray t)) := by
  have k := h.next ((Below.refl _ W).alloc (Nat.le_refl _) (.cells L.toArray t))
  refine ⟨k.n, fun x hx => ?_⟩
  rcases List.mem_cons.1 hx with rfl | hx
  · exact Cb.new W L t
  · exact k.e x hx
theorem Pre.c0 {x : Nat × List Value} (h : Pre w0 (x :: es) W) : Cb W x.1 x.2 := h.e x (by simp)
theorem Pre.c1 {x y : Nat × List Value} (h : Pre w0 (y :: x :: es) W) : Cb W x.1 x.2 := h.e x (by simp)
theorem Pre.c2 {x y z : Nat × List Value} (h : Pre w0 (z :: y :: x :: es) W) : Cb W x.1 x.2 := h.e x (by simp)
theorem Pre.c3 {x y z v : Nat × List Value} (h : Pre w0 (v :: z :: y :: x :: es) W) : Cb W x.1 x.2 := h.e x (by simp)
theorem Pre.c4 {x y z v u : Nat × List Value} (h : Pre w0 (u :: v :: z :: y :: x :: es) W) : Cb W x.1 x.2 := h.e x (by simp)
/-- New, of a law -/
theorem lwNew (h : Pre w0 es W) (hr : rt r s b o d = true) (hm : Md m k j) (hk : 0 < k) :
    Calls Try.prog 9 #[.agg #[.int .i64 r, .int .i64 s, .int .i64 b, .int .i64 o, .int .i64 d], .int .i64 m] W fun e w' => ∃ B M, e = .returned (.tuple #[.pointer (some ⟨B, 0, none⟩), .int .i64 0]) ∧ Lw w0 es [] W.heap.size B M r s b o d m 0 (fun _ _ => 0) (.slice none 0 0) 0 (fun _ _ => 0) (.slice none 0 0) 0 (fun _ _ => 0) w' := by
  refine (dNew_ok r s b o d m k j hr hm hk W _ (Nat.le_refl _)).mono ?_
  rintro e w' ⟨B, M, rfl, _, _, hd, hb⟩
  exact ⟨B, M, rfl, Lw.begin hd (h.n.trans (hb.mono h.n.size)) h.n.size fun x hx => ⟨(h.e x hx).lt, (h.e x hx).next hb⟩⟩
/-- chips with nothing to come -/
def Lq (w0 : World) (es ls : List (Nat × List Value)) (lo B M : Nat) (r s b o d m : Int) (n : Nat) (G : Int → Nat → Int) (l1 : Nat) (Y : Nat → Nat → Int) (W : World) : Prop := ∃ vb vc Z, Lw w0 es ls lo B M r s b o d m n G vb l1 Y vc 0 Z W
theorem Lq.next (h : Lq w0 es ls lo B M r s b o d m n G l1 Y W) (e : Below W.heap.size W W') : Lq w0 es ls lo B M r s b o d m n G l1 Y W' := by
  obtain ⟨vb, vc, Z, h⟩ := h
  exact ⟨vb, vc, Z, h.next e⟩
theorem Lq.lay (h : Lq w0 es ls lo B M r s b o d m n G l1 Y W) (L : List Value) (t : TypeId) : Lq w0 es ((W.heap.size, L) :: ls) lo B M r s b o d m n G l1 Y (W.alloc (.cells L.toArray t)) := by
  obtain ⟨vb, vc, Z, h⟩ := h
  exact ⟨vb, vc, Z, h.lay L t⟩
theorem Lq.layA (h : Lq w0 es ls lo B M r s b o d m n G l1 Y W) (L L0 : List Value) (t : TypeId) (hl : L.length = L0.length) : Lq w0 es ((W.heap.size, L) :: ls) lo B M r s b o d m n G l1 Y ((W.alloc (.cells L0.toArray t)).setCells W.heap.size 0 L) ∧ (W.alloc (.cells L0.toArray t)).there W.heap.size 0 L.toArray.size := by
  obtain ⟨vb, vc, Z, h⟩ := h
  exact ⟨⟨vb, vc, Z, h.layA L L0 t hl⟩, h.there L L0 t hl⟩
theorem Lq.layRW (h : Lq w0 es ls lo B M r s b o d m n G l1 Y W) (L L0 : List Value) (tR tW : TypeId) (i : Int) (t : Bool) (hl : L.length = L0.length) :
    Lq w0 es ((W.heap.size + 1, [.int .i64 i, .bool t]) :: (W.heap.size, L) :: ls) lo B M r s b o d m n G l1 Y ((((W.alloc (.cells L0.toArray tR)).alloc (.cells #[.int .i64 0, .bool false] tW)).setCells W.heap.size 0 L).setCells (W.heap.size + 1) 0 [.int .i64 i, .bool t]) ∧
    ((W.alloc (.cells L0.toArray tR)).alloc (.cells #[.int .i64 0, .bool false] tW)).there W.heap.size 0 L.toArray.size ∧ (((W.alloc (.cells L0.toArray tR)).alloc (.cells #[.int .i64 0, .bool false] tW)).setCells W.heap.size 0 L).there (W.heap.size + 1) 0 2 := by
  obtain ⟨vb, vc, Z, h⟩ := h
  obtain ⟨h1, h2, h3⟩ := h.layRW L L0 tR tW i t hl
  exact ⟨⟨vb, vc, Z, h1⟩, h2, h3⟩
theorem Lq.bel (h : Lq w0 es ls lo B M r s b o d m n G l1 Y W) : Below w0.heap.size w0 W := by
  obtain ⟨vb, vc, Z, h⟩ := h
  exact h.n
theorem Lq.ce (h : Lq w0 es ls lo B M r s b o d m n G l1 Y W) (x : Nat × List Value) (hx : x ∈ es) : Cb W x.1 x.2 := by
  obtain ⟨vb, vc, Z, h⟩ := h
  exact (h.e x hx).2
theorem Lq.cl (h : Lq w0 es ls lo B M r s b o d m n G l1 Y W) (x : Nat × List Value) (hx : x ∈ ls) : Cb W x.1 x.2 := by
  obtain ⟨vb, vc, Z, h⟩ := h
  exact (h.b x hx).2
theorem Lw.quiet (h : Lw w0 es ls lo B M r s b o d m n G vb l1 Y vc 0 Z W) : Lq w0 es ls lo B M r s b o d m n G l1 Y W := ⟨vb, vc, Z, h⟩
theorem gput_same (G : Int → Nat → Int) (i : Int) (F : Nat → Int) : gput G i F i = F := by simp [gput]
theorem gput_other (G : Int → Nat → Int) (i x : Int) (F : Nat → Int) (h : x ≠ i) : gput G i F x = G x := by simp [gput, h]
theorem Lq.byt (h : Lq w0 es ls lo B M r s b o d m n G l1 Y W) (i : Int) : Byts 72 (G i) := by
  obtain ⟨vb, vc, Z, h⟩ := h
  exact h.d.by_ i
theorem lqWrite_no (h : Lq w0 es ls lo B M r s b o d m n G l1 Y W) (i : Int) (F : Nat → Int) (hi : hx r s b o d i = false) :
    Calls Try.prog 20 #[.pointer (some ⟨B, 0, none⟩), .int .i64 i, rawV F] W fun e w' => e = .returned (.tuple #[.agg #[.int .i64 0, .bool false], .int .i64 12]) ∧ Lq w0 es ls lo B M r s b o d m n G l1 Y w' := by
  obtain ⟨vb, vc, Z, h'⟩ := h
  refine (dWrite_no h'.d i F hi).mono ?_
  rintro e w' ⟨rfl, hb⟩
  exact ⟨rfl, vb, vc, Z, h'.next hb⟩
theorem lqWrite (h : Lq w0 es ls lo B M r s b o d m n G l1 Y W) (i : Int) (F : Nat → Int) (hF : Byts 72 F) (hn : n < 1000000) (hi : hx r s b o d i = true) :
    Calls Try.prog 20 #[.pointer (some ⟨B, 0, none⟩), .int .i64 i, rawV F] W fun e w' => e = .returned (.tuple #[.agg #[.int .i64 i, .bool false], .int .i64 0]) ∧ Lq w0 es ls lo B M r s b o d m (n + 1) (gput G i F) l1 Y w' := by
  obtain ⟨vb, vc, Z, h'⟩ := h
  refine (dWrite_any h'.d i F hF hn hi).mono ?_
  rintro e w' ⟨rfl, ht⟩
  obtain ⟨v, h1, _⟩ := h'.tk ht
  exact ⟨rfl, vb, v, _, h1⟩
theorem lqRead (h : Lq w0 es ls lo B M r s b o d m n G l1 Y W) (hm : Md m k j) (i : Int) (hi : hx r s b o d i = true) :
    Calls Try.prog 21 #[.pointer (some ⟨B, 0, none⟩), .int .i64 i] W fun e w' => e = .returned (.tuple #[rawV (ovF k Y (i / 1048576) (i / 65536 % 16) (i / 64 % 1024) (i % 64) (G i) l1), .agg #[.int .i64 i, .bool false], .int .i64 0]) ∧ Lq w0 es ls lo B M r s b o d m n G l1 Y w' := by
  obtain ⟨vb, vc, Z, h'⟩ := h
  refine (dRead_any h'.d hm i hi).mono ?_
  rintro e w' ⟨rfl, ht⟩
  obtain ⟨v, h1, _⟩ := h'.tk ht
  exact ⟨rfl, vb, v, _, h1⟩
theorem lqRead_no (h : Lq w0 es ls lo B M r s b o d m n G l1 Y W) (i : Int) (hi : hx r s b o d i = false) :
    Calls Try.prog 21 #[.pointer (some ⟨B, 0, none⟩), .int .i64 i] W fun e w' => e = .returned (.tuple #[rawV fun _ => 0, .agg #[.int .i64 0, .bool false], .int .i64 12]) ∧ Lq w0 es ls lo B M r s b o d m n G l1 Y w' := by
  obtain ⟨vb, vc, Z, h'⟩ := h
  refine (dRead_no h'.d i hi).mono ?_
  rintro e w' ⟨rfl, hb⟩
  exact ⟨rfl, vb, vc, Z, h'.next hb⟩
theorem lqLook (h : Lq w0 es ls lo B M r s b o d m n G l1 Y W) (hm : Md m k j) (i : Int) (hi : hx r s b o d i = true) :
    Calls Try.prog 17 #[.pointer (some ⟨B, 0, none⟩), .int .i64 i] W fun e w' => e = .returned (.tuple #[rawV (ovF k Y (i / 1048576) (i / 65536 % 16) (i / 64 % 1024) (i % 64) (G i) l1), .int .i64 0]) ∧ Lq w0 es ls lo B M r s b o d m n G l1 Y w' := by
  obtain ⟨vb, vc, Z, h'⟩ := h
  refine (dLook_yes h'.d hm i (hx_i64 hi) hi).mono ?_
  rintro e w' ⟨rfl, hb⟩
  exact ⟨rfl, vb, vc, Z, h'.next hb⟩
theorem lqFlip (h : Lq w0 es ls lo B M r s b o d m n G l1 Y W) (hm : Md m k j) (p q u v c : Int) (x : Nat) (y : Int) (hf : ∀ i, i < 8 → (Lit.int .i64 (ffn 1 p q u v c x y i)).wf = true) (hn : n < 1000000) (hr : rtF k (hd r s b o d p q u v) 1 p q u v c x y = true) :
    Calls Try.prog 23 #[.pointer (some ⟨B, 0, none⟩), .agg #[.int .i64 1, .int .i64 p, .int .i64 q, .int .i64 u, .int .i64 v, .int .i64 c, .int .i64 x, .int .i64 y]] W fun e w' => e = .returned (.int .i64 0) ∧ Lq w0 es ls lo B M r s b o d m (n + 1) (gput G (ix p q u v) (flR (G (ix p q u v)) x)) l1 Y w' := by
  obtain ⟨vb, vc, Z, h'⟩ := h
  refine (dInject_any h'.d hm 1 p q u v c x y hf hn).mono ?_
  rintro e w' ⟨a, rfl, hij⟩
  rw [hr] at hij
  rcases hij with ⟨h, _⟩ | ⟨_, _, h, h1, h2⟩ | ⟨_, h, _⟩ | ⟨_, h, _⟩ | ⟨_, h, _⟩ | ⟨_, h, _⟩
  · cases h
  · rw [h]
    rw [Int.toNat_natCast] at h1
    exact ⟨rfl, vb, vc, Z, h'.mo h1 h2⟩
  all_goals exact absurd rfl h
theorem lqLast (h : Lq w0 es ls lo B M r s b o d m n G l1 Y W) (hm : Md m k j) (k9 p q u v c x y : Int) (hf : ∀ i, i < 8 → (Lit.int .i64 (ffn k9 p q u v c x y i)).wf = true) (hn : n < 1000000) (hl : Go.Proofs.Ytcpjmfemgdgplaa.ls k9 = true) (h1 : l1 < 256) (hr : rtF k (hd r s b o d p q u v) k9 p q u v c x y = true) :
    Calls Try.prog 23 #[.pointer (some ⟨B, 0, none⟩), .agg #[.int .i64 k9, .int .i64 p, .int .i64 q, .int .i64 u, .int .i64 v, .int .i64 c, .int .i64 x, .int .i64 y]] W fun e w' => e = .returned (.int .i64 0) ∧ Lq w0 es ls lo B M r s b o d m n G (l1 + 1) (snZ Y l1 (ffn k9 p q u v c x y)) w' := by
  obtain ⟨vb, vc, Z, h'⟩ := h
  refine (dInject_any h'.d hm k9 p q u v c x y hf hn).mono ?_
  rintro e w' ⟨a, rfl, hij⟩
  rw [hr] at hij
  rcases hij with ⟨h, _⟩ | ⟨_, h, _⟩ | ⟨_, _, _, h, _⟩ | ⟨_, _, _, _, h, vb', h2, h3⟩ | ⟨_, _, h, _⟩ | ⟨_, _, h, _⟩
  · cases h
  · exfalso
    subst h
    exact absurd hl (by decide)
  · omega
  · rw [h]
    exact ⟨rfl, vb', vc, Z, h'.mo h2 h3⟩
  all_goals exact absurd (hl.symm.trans h) (by decide)
theorem lqBad (h : Lq w0 es ls lo B M r s b o d m n G l1 Y W) (hm : Md m k j) (k9 p q u v c x y : Int) (hf : ∀ i, i < 8 → (Lit.int .i64 (ffn k9 p q u v c x y i)).wf = true) (hn : n < 1000000) (hr : rtF k (hd r s b o d p q u v) k9 p q u v c x y = false) :
    Calls Try.prog 23 #[.pointer (some ⟨B, 0, none⟩), .agg #[.int .i64 k9, .int .i64 p, .int .i64 q, .int .i64 u, .int .i64 v, .int .i64 c, .int .i64 x, .int .i64 y]] W fun e w' => e = .returned (.int .i64 10) ∧ Lq w0 es ls lo B M r s b o d m n G l1 Y w' := by
  obtain ⟨vb, vc, Z, h'⟩ := h
  refine (dInject_any h'.d hm k9 p q u v c x y hf hn).mono ?_
  rintro e w' ⟨a, rfl, hij⟩
  rw [hr] at hij
  rcases hij with ⟨_, h, hb⟩ | ⟨h, _⟩ | ⟨h, _⟩ | ⟨h, _⟩ | ⟨h, _⟩ | ⟨h, _⟩
  · rw [h]
    exact ⟨rfl, vb, vc, Z, h'.next hb⟩
  all_goals cases h
end
end Go.Proofs.Ytcpjmfemgdgplaa
