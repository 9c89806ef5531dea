/-
  The code word of data.
-/
import Derived.Test.YtdjknaafefnlcaaDoorRsW15
import Derived.Test.YtdjknaafefnlcaaDoorRsW13
namespace Go.Proofs.YtdjknaafefnlcaaDoor
open Go.RowKit Go.Shelf
open Gf (gI eI dI lI)
open Po (El mu pwr ev S cf toE cv Low rts)
open Rm (al sy At IsCode)
attribute [local go_sem] Oper.semAt_some

theorem index_arr (t : TypeId) (n : Nat) (ht : Tryd.prog.underlying t = some (.array n 5)) (F : Nat → El) (x : Nat) (hx : x < n) (w : World) :
    (Instr.index t (.agg (arr n F).toArray) (.int .i64 (x : Int))).run Tryd.prog w = .ok (.int .u8 (oe (F x))) w := by
  have hc := arr_at n F x hx
  have hu := Tryd.underlying5
  have hs := size_one
  simp [Instr.index, run_underlying ht, asIntOf, go_sem, hx]
  rw [hc]; rfl

/-- while word works: B the first block of the call, X the word so far -/
structure WoS (B : Nat) (D X : Nat → El) (w W : World) : Prop where
  d : Blk W B 32 D
  r : Blk W (B + 1 + 1) 36 (fun _ => 0)
  o : Blk W (B + 1 + 1 + 1) 36 X
  below : Below B w W
theorem WoS.set {B : Nat} {D X : Nat → El} {w W : World} (h : WoS B D X w W) (i : Nat) (e : El) : WoS B D (fun k => if k = i then e else X k) w (W.setCell ⟨B + 1 + 1 + 1, i, none⟩ (.int .u8 (oe e))) :=
  ⟨h.d.other (by omega) _ _, h.r.other (by omega) _ _, h.o.set i e, h.below.setCell (p := ⟨B + 1 + 1 + 1, i, none⟩) (by simp; omega) _⟩
theorem WoS.congr {B : Nat} {D X Y : Nat → El} {w W : World} (h : WoS B D X w W) (k : ∀ i, i < 36 → X i = Y i) : WoS B D Y w W := ⟨h.d, h.r, h.o.congr k, h.below⟩

end Go.Proofs.YtdjknaafefnlcaaDoor
