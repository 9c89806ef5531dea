/-
  The document's word, value and values of layer 5.
-/
import Derived.Test.YtdjknaafefnlcaaDoorRsW1
namespace Go.Proofs.YtdjknaafefnlcaaDoor
open Go.RowKit
open Gf (gI)
open Po (El mu pwr ev S)
open Rm (al sy)

theorem info39 : (Tryd.prog.info? 123).map (·.size) = some 39 := by kernel_rfl
/-- the 39 symbols -/
def wd (F G : Nat → El) (i : Nat) : El := if i < 36 then F i else G (i - 36)
theorem zero39 (w : World) : (zeroValue 123).run Tryd.prog w = .ok (.agg (arr 39 fun _ => 0).toArray) w := by kernel_rfl
theorem below_put5 {B b : Nat} (hb : B ≤ b) : ∀ (vs : List Value) (o : Nat) {a w : World}, Below B a w → Below B a (w.setCells b o vs)
  | [], _, _, _, h => h
  | v :: vs, o, _, _, h => below_put5 hb vs (o + 1) (h.setCell (p := ⟨b, o, none⟩) hb v)
theorem ArrW.new (W : World) (n : Nat) (F : Nat → El) (t : TypeId) : ArrW (W.alloc (.cells (arr n F).toArray t)) W.heap.size n F :=
  ⟨Arr.new W n F t, fun i _ => by simp⟩
theorem ArrW.alloc {W : World} {b n : Nat} {F : Nat → El} (h : ArrW W b n F) (hb : b < W.heap.size) (o : Obj) : ArrW (W.alloc o) b n F := h.of (Below.heap_alloc W o b hb)
/-- between two rounds of Word: what is laid of the word is X -/
structure WdI (B C D E : Nat) (F G X : Nat → El) (w wr : World) : Prop where
  a : Arr wr B 36 F
  b : Arr wr C 3 G
  r : ArrW wr D 39 (fun _ => 0)
  o : ArrW wr E 39 X
  below : Below B w wr
theorem WdI.set {B C D E : Nat} {F G X : Nat → El} {w wr : World} (h : WdI B C D E F G X w wr) (hB : B < E) (hC : C < E) (hD : D < E) (i : Nat) (hi : i < 39) (e : El) : WdI B C D E F G (fun k => if k = i then e else X k) w (wr.setCell ⟨E, i, none⟩ (.int .u8 (oe e))) :=
  ⟨h.a.of (Below.heap_setCell wr ⟨E, i, none⟩ _ B (by simp; omega)), h.b.of (Below.heap_setCell wr ⟨E, i, none⟩ _ C (by simp; omega)), h.r.of (Below.heap_setCell wr ⟨E, i, none⟩ _ D (by simp; omega)), h.o.set i hi e, h.below.setCell (p := ⟨E, i, none⟩) (by simp; omega) _⟩
theorem WdI.congr {B C D E : Nat} {F G X Y : Nat → El} {w wr : World} (h : WdI B C D E F G X w wr) (k : ∀ i, i < 39 → X i = Y i) : WdI B C D E F G Y w wr :=
  ⟨h.a, h.b, h.r, ⟨h.o.at_.congr k, h.o.free⟩, h.below⟩

end Go.Proofs.YtdjknaafefnlcaaDoor
