/-
  Two lines merged, by the document and by the program.
-/
import Derived.Test.YtdjknaafefnlcaaDoorLnW1
namespace Go.Proofs.YtdjknaafefnlcaaDoor
open Go.RowKit Go.Shelf
open Ln (mrg mrgK)
attribute [local go_sem] Oper.semAt_some

/-- the same beside another line, G, in the block C -/
structure Wk2 (B C D E : Nat) (G X : Nat → Int) (w wr : World) : Prop extends Wk B D E X w wr where
  g : Bk .u8 wr C 64 G
section
variable {B C D E : Nat} {G X Y : Nat → Int} {w wr wr' : World}
theorem Wk2.set (h : Wk2 B C D E G X w wr) (hD : D ≠ E) (hC : C ≠ E) (hB : B ≤ E) (i : Nat) (e : Int) : Wk2 B C D E G (fun j => if j = i then e else X j) w (wr.setCell ⟨E, i, none⟩ (.int .u8 e)) :=
  ⟨h.toWk.set hD hB i e, h.g.other hC i _⟩
theorem Wk2.congr (h : Wk2 B C D E G X w wr) (k : ∀ i, i < 64 → X i = Y i) : Wk2 B C D E G Y w wr := ⟨h.toWk.congr k, h.g⟩
theorem Wk2.stay {A : Nat} (h : Wk2 B C D E G X w wr) (k : Stay A wr wr') (hC : B ≤ A) : Wk2 B C D E G X w wr' := ⟨h.toWk.stay k hC, h.g.stay k⟩
end
/-- how a function with two lines begins: both laid, and its result's variable -/
theorem wk2_new (t : TypeId) (F G : Nat → Int) (w V : World) (A0 A1 A2 : Array Value) (h0 : (ints .u8 64 F).toArray = A0) (h1 : (ints .u8 64 G).toArray = A1) (h2 : (ints .u8 64 fun _ => 0).toArray = A2)
    (hV : ((w.alloc (.cells A0 t)).alloc (.cells A1 t)).alloc (.cells A2 t) = V) : Wk2 w.heap.size (w.heap.size + 1) (w.heap.size + 1 + 1) w.heap.size G F w V := by
  subst h0 h1 h2 hV
  have h0 := Bk.new .u8 w 64 F t
  have h1 := Bk.new .u8 (w.alloc (.cells (ints .u8 64 F).toArray t)) 64 G t
  have h2 := Bk.new .u8 ((w.alloc (.cells (ints .u8 64 F).toArray t)).alloc (.cells (ints .u8 64 G).toArray t)) 64 (fun _ => 0) t
  simp only [World.size_alloc] at h1 h2
  exact ⟨⟨h2, (h0.alloc _).alloc _, (((Below.refl _ w).alloc (Nat.le_refl _) _).alloc (by simp) _).alloc (by simp; omega) _⟩, h1.alloc _⟩


/-- between two rounds of Merge -/
def MgI (B C D : Nat) (F G : Nat → Int) (m : Nat) (w : World) (x : Nat) (W : World) : Prop := Wk2 B C D B G (mrgK F G m x) w W

end Go.Proofs.YtdjknaafefnlcaaDoor
