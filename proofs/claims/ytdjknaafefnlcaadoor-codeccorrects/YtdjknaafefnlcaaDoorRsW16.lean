/-
  The document's example: the code that answers it; a word's verdict.
-/
import Derived.Test.YtdjknaafefnlcaaDoorRsW13
import Derived.Test.YtdjknaafefnlcaaDoorRsW14
import Derived.Test.YtdjknaafefnlcaaDoorRsW15
namespace Go.Proofs.YtdjknaafefnlcaaDoor
open Go.RowKit Go.Shelf
open Gf (gI eI dI lI)
open Po (El mu pwr ev S cf toE cv Low rts)
open Rm (al sy At IsCode)
attribute [local go_sem] Oper.semAt_some

theorem code_noughts {W : Nat → El} (h : IsCode W) : Nought (sy W) := ⟨h 0 (by omega), h 1 (by omega), h 2 (by omega), h 3 (by omega)⟩
theorem vd_clean {s : Nat → El} (h : Nought s) : vd s = #[.int .i64 0, .int .i64 (-1), .int .u8 0] := by
  unfold vd vk vp vv
  rw [if_pos h, if_pos h, if_pos h]; rfl
theorem vk_clean {s : Nat → El} (h : Nought s) : vk s = 0 := by unfold vk; rw [if_pos h]
theorem at_not_nought {s : Nat → El} {i : Nat} (h : At s i) : ¬ Nought s := fun n => h.1 n.1
theorem plc_at {s : Nat → El} {i : Nat} (hi : i < 39) (h : At s i) : plc s 39 0 = (i : Int) :=
  plc_some s 39 0 i (by omega) (by omega) h fun l _ hl hat => by have := Rm.at_only (by omega) hi hat h; omega
theorem v_at {s : Nat → El} {i : Nat} (hi : i < 39) (h : At s i) : vk s = (if i < 36 then 1 else 2) ∧ vp s = (i : Int) ∧ vv s = s 0 := by
  have hp := plc_at hi h
  have hn := at_not_nought h
  unfold vk vp vv
  have hm : ¬ ((i : Int) = -1) := by omega
  rw [if_neg hn, if_neg hn, if_neg hn, hp, if_neg hm, if_neg hm]
  refine ⟨?_, rfl, rfl⟩
  by_cases h36 : i < 36
  · rw [if_pos h36, if_neg (show ¬ (35 < (i : Int)) by omega)]
  · rw [if_neg h36, if_pos (show 35 < (i : Int) by omega)]
theorem v_lost {s : Nat → El} (hn : ¬ Nought s) (h : ∀ i, i < 39 → ¬ At s i) : vd s = #[.int .i64 3, .int .i64 (-1), .int .u8 0] := by
  have hp : plc s 39 0 = -1 := plc_none s 39 0 fun j _ hj => h j (by omega)
  unfold vd vk vp vv
  rw [if_neg hn, if_neg hn, if_neg hn, hp]; rfl
theorem sy_congr {W U : Nat → El} (h : ∀ i, i < 39 → W i = U i) : sy W = sy U := by
  funext j
  unfold sy ev
  exact Po.S_congr _ _ _ fun i hi => by rw [h i hi]
theorem sy_zero : Nought (sy fun _ => 0) := by
  have h : ∀ j, sy (fun _ => 0) j = 0 := fun j => Po.S_null _ _ fun i _ => Po.zero_mu _
  exact ⟨h 0, h 1, h 2, h 3⟩
/-- the example's two verdicts -/
theorem vd_noughts (F G : Nat → El) (hF : ∀ i, i < 36 → F i = 0) (hG : ∀ i, i < 3 → G i = 0) : vd (sy (wd F G)) = #[.int .i64 0, .int .i64 (-1), .int .u8 0] := by
  refine vd_clean ?_
  rw [sy_congr (U := fun _ => 0) fun i hi => ?_]
  · exact sy_zero
  · unfold wd
    by_cases h : i < 36
    · rw [if_pos h, hF i h]
    · rw [if_neg h, hG _ (by omega)]
theorem vd_nine (F G : Nat → El) (hF : ∀ i, i < 36 → F i = if i = 4 then 9 else 0) (hG : ∀ i, i < 3 → G i = 0) : vd (sy (wd F G)) = #[.int .i64 1, .int .i64 4, .int .u8 9] := by
  have e : sy (wd F G) = sy (Rm.one' 4 9) := sy_congr fun i hi => by
    unfold wd Rm.one'
    by_cases h : i < 36
    · rw [if_pos h, hF i h]
    · rw [if_neg h, hG _ (by omega), if_neg (by omega)]
  rw [e]
  have hat := Rm.sy_one 4 9 (by omega) (by decide)
  obtain ⟨h1, h2, h3⟩ := v_at (by omega) hat
  unfold vd
  rw [h1, h2, h3, Rm.sy_one0 4 9 (by omega)]; rfl
theorem decode_told (c b : Nat) (F G : Nat → El) (W : World) (h : CdAt W c b) (V : Array Value) (hV : vd (sy (wd F G)) = V) : ∃ R : List Value, R.length = 32 ∧ R.toArray.all (·.oneCell') = true ∧
    Calls Tryd.prog 45 #[.pointer (some ⟨c, 0, none⟩), .agg (arr 36 F).toArray, .agg (arr 3 G).toArray] W fun e w' => e = .returned (.tuple #[.agg R.toArray, .agg V]) ∧ Below W.heap.size W w' := by
  subst hV
  exact ⟨arr 32 fun i => mnd F (sy (wd F G)) (4 + i), arr_len _ _, arr_one _ _, decode5_any c b F G W h⟩
/-- where a pair of data and verdict is laid -/
theorem pair_t1 {A R : List Value} (hA : (arr 32 fun _ => 0) = A) (hR : R.length = 32) (W : World) (t : TypeId) (o : Obj) : ((W.alloc (.cells A.toArray t)).alloc o).there W.heap.size 0 R.toArray.size := by
  have h := (Blk.new W 32 (fun _ => 0) t).alloc o
  rw [hA] at h
  rw [show R.toArray.size = 32 from by simpa using hR]; exact h.arrW.there
theorem pair_t2 (W : World) (o : Obj) (t : TypeId) (R : List Value) (n : Nat) : (((W.alloc o).alloc (.cells #[.int .i64 0, .int .i64 0, .int .u8 0] t)).setCells n 0 R).there (W.heap.size + 1) 0 3 := by
  have h := VdAt.new (W.alloc o) (.int .i64 0) (.int .i64 0) (.int .u8 0) t
  rw [World.size_alloc] at h
  exact World.there_setCells h.there _ 0 R
theorem pair_laid (W : World) (o : Obj) (t : TypeId) (R : List Value) (x y z : Value) (X : World) (hX : (((W.alloc o).alloc (.cells #[.int .i64 0, .int .i64 0, .int .u8 0] t)).setCells W.heap.size 0 R).setCells (W.heap.size + 1) 0 [x, y, z] = X) :
    VdAt X (W.heap.size + 1) x y z ∧ Below W.heap.size W X ∧ X.heap.size = W.heap.size + 2 := by
  have hr : X.rangeAt (W.heap.size + 1) 0 [x, y, z] := by rw [← hX]; exact World.rangeAt_setCells_same _ _ 0 [x, y, z] (pair_t2 W o t R _)
  refine ⟨⟨by have := hr 0 x rfl; simpa using this, by have := hr 1 y rfl; simpa using this, by have := hr 2 z rfl; simpa using this, fun i => ?_⟩, ?_, ?_⟩
  · rw [← hX, World.frozen?_setCells, World.frozen?_setCells]
    have h := VdAt.new (W.alloc o) (.int .i64 0) (.int .i64 0) (.int .u8 0) t
    rw [World.size_alloc] at h
    exact h.f i
  · rw [← hX]
    exact below_puts (below_puts (((Below.refl _ W).alloc (Nat.le_refl _) _).alloc (by simp) _) (Nat.le_refl _) 0 R) (by omega) 0 _
  · rw [← hX, size_sets, size_sets]; simp
theorem zero3 (w : World) : (zeroValue 37).run Tryd.prog w = .ok (.agg (arr 3 fun _ => 0).toArray) w := by kernel_rfl

end Go.Proofs.YtdjknaafefnlcaaDoor
