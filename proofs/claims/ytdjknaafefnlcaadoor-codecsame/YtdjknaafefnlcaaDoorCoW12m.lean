/-
  Encode's answer as a function; just the 23 lowest bits of an index count.
-/
import Derived.Test.YtdjknaafefnlcaaDoorM19
namespace Go.Proofs.YtdjknaafefnlcaaDoor
open Go.RowKit Go.Shelf
open Po (El toE)
attribute [local go_sem] Oper.semAt_some
theorem Enc.same {m : Int} {F : Nat → Int} {ix : Int} {p : Bool} {R R' : Nat → Int} (h : Enc m F ix p R) (h' : Enc m F ix p R') : ∀ i, i < 72 → R i = R' i := by
  rcases h.2 with ⟨e, a⟩ | ⟨e, a⟩ | ⟨e, e2, a⟩
  · rcases h'.2 with ⟨f, b⟩ | ⟨f, b⟩ | ⟨f, f2, b⟩
    · exact Co.Enc1.same a b
    · omega
    · omega
  · rcases h'.2 with ⟨f, b⟩ | ⟨f, b⟩ | ⟨f, f2, b⟩
    · omega
    · exact Co.Enc2.same a b
    · omega
  · rcases h'.2 with ⟨f, b⟩ | ⟨f, b⟩ | ⟨f, f2, b⟩
    · omega
    · omega
    · exact fun i hi => (a i hi).trans (b i hi).symm
open Classical in
/-- what is encoded -/
noncomputable def E10 (m : Int) (F : Nat → Int) (ix : Int) (p : Bool) : Nat → Int := if h : ∃ R, Enc m F ix p R then Classical.choose h else fun _ => 0
theorem E10_of {m : Int} {F : Nat → Int} {ix : Int} {p : Bool} {R : Nat → Int} (h : Enc m F ix p R) : Enc m F ix p (E10 m F ix p) := by
  unfold E10
  rw [dif_pos ⟨R, h⟩]
  exact Classical.choose_spec (⟨R, h⟩ : ∃ R, Enc m F ix p R)
theorem e10_byts (m : Int) (F : Nat → Int) (ix : Int) (p : Bool) : Byts 72 (E10 m F ix p) := by
  unfold E10
  split
  · rename_i h
    exact (Classical.choose_spec h).1
  · exact fun _ _ => ⟨Int.le_refl _, show (0 : Int) < 256 by decide⟩
theorem encode10_is (c h r f : Nat) (m : Int) (F : Nat → Int) (hF : Byts 64 F) (ix : Int) (p : Bool) (w : World) (hc : CcAt w c h r f) (hT : TabW w) :
    Calls Tryd.prog 11 #[.pointer (some ⟨c, 0, none⟩), .int .i64 m, .agg (ints .u8 64 F).toArray, .int .i64 ix, .bool p] w fun e w' => e = .returned (.agg (ints .u8 72 (E10 m F ix p)).toArray) ∧ Below w.heap.size w w' :=
  (encode10_any c h r f m F hF ix p w hc hT).mono fun e w' ⟨R, he, hE, hb⟩ => ⟨by rw [he, ints_congr .u8 72 R (E10 m F ix p) (Enc.same hE (E10_of hE))], hb⟩
theorem low_ix (ix : Int) : bits .and .i64 ix 8388607 = ix % 8388608 := i64_mask ix 23 8388608 (by omega) (by decide)
theorem par_low (ix : Int) : par (ix % 8388608) = par ix := by
  unfold par
  rw [Int.emod_emod_of_dvd _ (Int.dvd_refl _)]
theorem vir_low (ix : Int) (p : Bool) : vir (ix % 8388608) p = vir ix p := by
  funext j
  unfold vir vb
  rw [Int.emod_emod_of_dvd _ (Int.dvd_refl _)]
theorem dk_low (m : Int) (R : Nat → Int) (ix : Int) : Dk m R (ix % 8388608) = Dk m R ix ∧ Df m R (ix % 8388608) = Df m R ix ∧ Dl m R (ix % 8388608) = Dl m R ix := by
  unfold Dk Df Dl
  rw [par_low, vir_low]
  exact ⟨rfl, rfl, rfl⟩
theorem e10_low (m : Int) (F : Nat → Int) (ix : Int) (p : Bool) : E10 m F (ix % 8388608) p = E10 m F ix p := by
  have : Enc m F (ix % 8388608) p = Enc m F ix p := by
    funext R
    unfold Enc
    rw [par_low, vir_low]
  unfold E10
  rw [this]
theorem gdV10 : Tryd.prog.eqGuardType Tryd.prog.depth 32 = false := by kernel_rfl
theorem eqlV10 (x y : Int) (w : World) : (binOp .eql 32 (.agg (vd2 x y).toArray) (.agg (vd2 x y).toArray)).run Tryd.prog w = .ok (.bool true) w := by
  have hs : ∀ d, (Op.equalIn (d + 1 + 1) 32 (.agg #[.int .i64 x, .int .i64 y]) (.agg #[.int .i64 x, .int .i64 y])).run Tryd.prog w = .ok true w := by
    intro d
    simp [Op.equalIn, go_sem, run_underlying Tryd.underlying32, run_underlying Tryd.underlying3]
  rw [vd2_eq]
  simp [binOp, go_sem, Op.equal, Op.maxDepth, hs 9998]
end Go.Proofs.YtdjknaafefnlcaaDoor
