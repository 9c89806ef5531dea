/-
  RawWords.
-/
import Derived.Test.YtkbbnpjjfhmlkaaRwW13
namespace Go.Proofs.Ytkbbnpjjfhmlkaa
open Go.RowKit Go.Shelf
attribute [local go_sem] Oper.semAt_some

theorem lay_there (n : Nat) (F G : Nat → Int) (x i : Nat) (hn : 0 < n) (h : i / n = x) : lay F (n * x) n G i = G (i % n) := by
  have h1 := Nat.div_add_mod i n
  have h2 := Nat.mod_lt i hn
  rw [h] at h1
  unfold lay
  rw [if_pos (by omega), show i - n * x = i % n by omega]
theorem lay_else (n : Nat) (F G : Nat → Int) (x i : Nat) (hn : 0 < n) (h : i / n ≠ x) : lay F (n * x) n G i = F i := by
  unfold lay
  rw [if_neg]
  rintro ⟨h1, h2⟩
  apply h
  obtain ⟨r, rfl⟩ : ∃ r, i = n * x + r := ⟨i - n * x, by omega⟩
  rw [Nat.mul_add_div hn, Nat.div_eq_of_lt (by omega)]; rfl

/-- what RawWords holds: what it was given in B, the chip in B + 1, its result in B + 2, how many chips there are in C, what Put told in P, and cells elsewhere -/
structure Rd (B C P : Nat) (F Y : Nat → Int) (cc n : Int) (X : Nat → Nat → Value → Prop) (w W : World) : Prop where
  r : Bk .u8 W B 72 F
  c : Box W (B + 1) (.int .i64 cc)
  t : Box W (B + 1 + 1) (.bool false)
  n : Box W C (.int .i64 n)
  p : Bk .u8 W P 72 Y
  o : B + 1 + 1 < C ∧ C < P
  x : ∀ b o v, X b o v → W.cell? ⟨b, o, none⟩ = some v
  below : Below B w W
section
variable {B C P E : Nat} {F Y : Nat → Int} {cc n : Int} {X : Nat → Nat → Value → Prop} {w W W' : World}
theorem Rd.stay (h : Rd B C P F Y cc n X w W) (k : Stay E W W') (hE : B ≤ E) : Rd B C P F Y cc n X w W' :=
  ⟨h.r.stay k, h.c.stay k, h.t.stay k, h.n.stay k, h.p.stay k, h.o, fun b o v hx => k.cell (h.x b o v hx), below_stay h.below k hE⟩
theorem Rd.next (h : Rd B C P F Y cc n X w W) (k : Below W.heap.size W W') : Rd B C P F Y cc n X w W' := h.stay (stay_below9 k) (Nat.le_of_lt h.r.lt)
theorem Rd.drewN (h : Rd B C P F Y cc n X w W) (q : Nat) : Rd B C P F Y cc n X w (W.drewN q) := h.next (below_stay (Below.refl _ W) (Stay.drewN _ W q) (Nat.le_refl _))
/-- a box elsewhere is written -/
theorem Rd.other (h : Rd B C P F Y cc n X w W) {K : Nat} (hK : P < K) (hX : ∀ b o v, X b o v → b ≠ K) (v : Value) : Rd B C P F Y cc n X w (W.setCell ⟨K, 0, none⟩ v) := by
  have ho := h.o
  have hk : ∀ b, b ≠ K → (W.setCell ⟨K, 0, none⟩ v).heap[b]? = W.heap[b]? := fun b hb => Below.heap_setCell W ⟨K, 0, none⟩ v b (by simpa using hb)
  exact ⟨h.r.of (hk _ (by omega)), h.c.of (hk _ (by omega)), h.t.of (hk _ (by omega)), h.n.of (hk _ (by omega)), h.p.of (hk _ (by omega)), h.o, fun b o u hx => (World.cell?_of_block (w := W) (a := ⟨b, o, none⟩) (hk b (hX b o u hx))).trans (h.x b o u hx), h.below.setCell (p := ⟨K, 0, none⟩) (by simp; omega) v⟩
end
/-- with the count of what has come in K -/
structure Rk (B C P K : Nat) (F Y : Nat → Int) (cc n : Int) (w : World) (x : Nat) (W : World) : Prop where
  d : Rd B C P F Y cc n (fun _ _ _ => False) w W
  k : Box W K (.int .i64 (x : Int))
  l : P < K
theorem Rk.stay {B C P K E x : Nat} {F Y : Nat → Int} {cc n : Int} {w W W' : World} (h : Rk B C P K F Y cc n w x W) (k : Stay E W W') (hE : B ≤ E) : Rk B C P K F Y cc n w x W' := ⟨h.d.stay k hE, h.k.stay k, h.l⟩
theorem Rk.step {B C P K x : Nat} {F Y : Nat → Int} {cc n : Int} {w W : World} (h : Rk B C P K F Y cc n w x W) : Rk B C P K F Y cc n w (x + 1) (W.setCell ⟨K, 0, none⟩ (.int .i64 ((x : Int) + 1))) :=
  ⟨h.d.other h.l (fun _ _ _ h => h.elim) _, h.k.set _, h.l⟩
end Go.Proofs.Ytkbbnpjjfhmlkaa
