/-
  A chip that tells what it likes, and a bit that is turned.
-/
import Derived.Test.YtdjknaafefnlcaaDoorM18
import Derived.Test.YtdjknaafefnlcaaDoorM19
namespace Go.Proofs.YtdjknaafefnlcaaDoor
open Go.RowKit Go.Shelf

theorem chip_mx (own : Nat → Int) (c v : Int) : Rw.mx 2 own (Rw.chp 36 c own v) 36 2 ≤ 1 := by
  refine Rw.mx_col 2 own _ 36 2 (if 0 ≤ c ∧ c < 36 then c.toNat else 0) 1 (by split <;> omega) (fun i _ hne => ?_) (fun i _ => by unfold Rw.dl; rw [if_neg (by decide)]; split <;> omega)
  unfold Rw.chp
  rw [if_neg]
  rintro ⟨_, h⟩
  split at hne <;> omega
theorem chip_byts (own : Nat → Int) (h : Byts 72 own) (c v : Int) (hv : 0 ≤ v ∧ v < 256) : Byts 72 (Rw.chp 36 c own v) := fun i hi => by
  unfold Rw.chp
  split
  · exact hv
  · exact h i hi
theorem flip10 (F : Nat → Int) (hF : Byts 72 F) (b : Int) (hb : b ≤ 9223372036854775807) : ∃ Y, Byts 72 Y ∧ Rw.mx 2 F Y 36 2 ≤ 1 ∧ ∀ w : World, Calls Tryd.prog 16 #[.agg (ints .u8 72 F).toArray, .int .i64 b] w fun e w' => e = .returned (.agg (ints .u8 72 Y).toArray) ∧ Below w.heap.size w w' := by
  by_cases hi : 0 ≤ b ∧ b < 576
  · obtain ⟨i, rfl⟩ := Int.eq_ofNat_of_zero_le hi.1
    refine ⟨flR F i, fun j hj => ?_, ?_, fun w => flipR_yes F hF i (by omega) w⟩
    · have h := hF j hj
      rw [flR_at F hF i j hj]
      split
      · have := Nat.xor_lt_two_pow (n := 8) (x := (F j).toNat) (y := 2 ^ (i % 8)) (by omega) (Nat.pow_lt_pow_right (by decide) (by omega))
        omega
      · exact h
    · refine Rw.mx_col 2 F _ 36 2 (i / 8 % 36) 1 (Nat.mod_lt _ (by decide)) (fun j hj hne => ?_) (fun i _ => by unfold Rw.dl; rw [if_neg (by decide)]; split <;> omega)
      rw [flR_at F hF i j (by omega), if_neg (fun e => hne (by rw [e]))]
  · refine ⟨F, hF, ?_, fun w => flipR_no F hF b (by omega) hb w⟩
    exact Rw.mx_col 2 F F 36 2 0 1 (by decide) (fun _ _ _ => rfl) (fun i _ => by rw [Rw.dl_self]; omega)
end Go.Proofs.YtdjknaafefnlcaaDoor
