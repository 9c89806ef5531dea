/-
  RsChecks.
-/
import Derived.Test.YtdjknaafefnlcaaDoorRsW16
import Derived.Test.YtdjknaafefnlcaaDoorRsW17
import Derived.Test.YtdjknaafefnlcaaDoorRsW8
import Derived.Test.YtdjknaafefnlcaaDoorArrArgs
namespace Go.Proofs.YtdjknaafefnlcaaDoor
open Go.RowKit Go.Shelf
open Gf (gI eI dI lI)
open Po (El mu pwr ev S cf toE cv Low rts)
open Rm (al sy At IsCode)
attribute [local go_sem] Oper.semAt_some

/-- bytes as elements -/
def els (a : Nat → Int) (i : Nat) : El := toE (a i)
theorem ints_arr (n : Nat) (a : Nat → Int) (h : ∀ i, i < n → (Lit.int .u8 (a i)).wf = true) : ints .u8 n a = arr n (els a) := by
  unfold ints arr els
  refine List.map_congr_left fun i hi => ?_
  have hw := h i (List.mem_range.1 hi)
  have hb := bounds_u8 hw
  have : 0 ≤ a i ∧ a i < 256 := by omega
  rw [show oe (toE (a i)) = a i from ofE_toE _ this.1 this.2]

/-- while a law works over data, virtual symbols and a word, in the blocks B, B + 1, B + 2 -/
structure CkS (B c b : Nat) (D G F : Nat → El) (w W : World) : Prop where
  d : Blk W B 32 D
  v : Blk W (B + 1) 3 G
  f : Blk W (B + 1 + 1) 36 F
  code : CdAt W c b
  below : Below B w W
theorem CkS.next {B c b : Nat} {D G F : Nat → El} {w W W' : World} (h : CkS B c b D G F w W) (k : Below W.heap.size W W') : CkS B c b D G F w W' :=
  ⟨h.d.next k, h.v.next k, h.f.next k, h.code.next k, h.below.trans (k.mono (Nat.le_of_lt h.d.lt))⟩
theorem CkS.drew {B c b : Nat} {D G F : Nat → El} {w W : World} (h : CkS B c b D G F w W) : CkS B c b D G F w W.drew := h.next (below_stay (Below.refl _ W) (Stay.drewN _ W 1) (Nat.le_refl _))

/-- the generator as it was told -/
structure GnS (g : Nat) (W : World) : Prop where
  c4 : W.cell? ⟨g, 4, none⟩ = some (.int .u8 1)
  c0 : W.cell? ⟨g, 0, none⟩ = some (.int .u8 64)
theorem GnS.next {g : Nat} {W W' : World} (h : GnS g W) (k : Below W.heap.size W W') : GnS g W' :=
  ⟨(k.cell (p := ⟨g, 4, none⟩) (cell_lt h.c4)).trans h.c4, (k.cell (p := ⟨g, 0, none⟩) (cell_lt h.c0)).trans h.c0⟩
theorem gen_nums : gen 0 = 64 ∧ gen 4 = 1 := ⟨by decide +kernel, gen_top⟩
theorem mul_nums : mu 4 8 = 32 ∧ mu 2 32 = 64 := by decide +kernel
end Go.Proofs.YtdjknaafefnlcaaDoor
