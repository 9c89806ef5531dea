/-
  The document's example of chips.
-/
import Derived.Test.YtcpjmfemgdgplaaDrW13
namespace Go.Proofs.Ytcpjmfemgdgplaa
open Go.RowKit Go.Shelf
open Ge (pw rt hd ix)
attribute [local go_sem] Oper.semAt_some

theorem gdR12 : Try.prog.eqGuardType Try.prog.depth 40 = false := by kernel_rfl
theorem gdW12 : Try.prog.eqGuardType Try.prog.depth 59 = false := by kernel_rfl
theorem eqW_in (d : Nat) (i j : Int) (a b : Bool) (w : World) : (Op.equalIn (d + 1 + 1) 59 (.agg #[.int .i64 i, .bool a]) (.agg #[.int .i64 j, .bool b])).run Try.prog w = .ok (decide (i = j ∧ a = b)) w := by
  have hS : Try.prog.underlying 59 = some (.struct (Try.prog.fieldsOf 59)) := by kernel_rfl
  have hp : Try.prog.stoodInHeld 59 = false := by kernel_rfl
  rw [run_equalIn_agg w (d + 1) 59 _ _ hS hp]
  simp only [Program.fieldsOf, Try.underlying59]
  go_simp
  by_cases h1 : i = j <;> by_cases h2 : a = b <;> simp [h1, h2]
theorem eqW_eql (i j : Int) (a b : Bool) (w : World) : (binOp .eql 59 (.agg #[.int .i64 i, .bool a]) (.agg #[.int .i64 j, .bool b])).run Try.prog w = .ok (.bool (decide (i = j ∧ a = b))) w := by
  rw [run_eql_struct, eqW_in 9998]; rfl
set_option maxRecDepth 100000 in
set_option maxHeartbeats 4000000 in
theorem anchor12_any (w : World) : Calls Try.prog 8 #[] w fun e w' => e = .returned (.bool true) ∧ Below w.heap.size w w' := by
  have CN : Hid (Calls Try.prog 9 #[.agg #[.int .i64 1, .int .i64 0, .int .i64 1, .int .i64 1, .int .i64 2], .int .i64 1] w fun e w' => ∃ B M, e = .returned (.tuple #[.pointer (some ⟨B, 0, none⟩), .int .i64 0]) ∧ w.heap.size ≤ B ∧ w.heap.size ≤ M ∧ Dm w' w.heap.size B M 1 0 1 1 2 1 0 (fun _ _ => 0) (.slice none 0 0) 0 (fun _ _ => 0) (.slice none 0 0) 0 (fun _ _ => 0) ∧ Below w.heap.size w w') := dNew_ok 1 0 1 1 2 1 9 8 (by decide) .bits (by decide) w _ (Nat.le_refl _)
  have hF0 : Byts 72 (fun _ => 0) := fun _ _ => ⟨Int.le_refl _, show (0 : Int) < 256 by decide⟩
  obtain ⟨X, hX⟩ : ∃ X, flR (fun _ => 0) 3 = X := ⟨_, rfl⟩
  have HXB : Hid (Byts 72 X) := by rw [← hX]; exact flR_byt _ hF0 3
  obtain ⟨L, hL⟩ : ∃ L, ints .u8 72 X = L := ⟨_, rfl⟩
  have HXL : Hid (rawV X = .agg L.toArray) := by rw [← hL]; rfl
  obtain ⟨T0, hT0⟩ : ∃ Z, (ints .u8 72 fun _ => 0) = Z := ⟨_, rfl⟩
  have CF : Hid (∀ w : World, Calls Try.prog 33 #[.agg T0.toArray, .int .i64 3] w fun e w' => e = .returned (.agg L.toArray) ∧ Below w.heap.size w w') := fun w => by
    rw [← hL, ← hX, ← hT0]
    exact flipR_yes (fun _ => 0) hF0 3 (by omega) w
  have HBR : Hid (∀ w, (Instr.build 40 #[]).run Try.prog w = .ok (.agg T0.toArray) w) := fun w => by rw [← hT0]; exact run_build w _ _ _ (by kernel_rfl)
  have hbr := HBR.out
  have HEQ : Hid (∀ w, (binOp .eql 40 (.agg L.toArray) (.agg L.toArray)).run Try.prog w = .ok (.bool true) w) := fun w => by rw [← hL]; exact eqlR X X HXB.out HXB.out true (by simp) w
  have hll : L.length = T0.length := by rw [← hL, ← hT0, ints_len, ints_len]
  have iL : (Try.prog.info? 40).map (·.size) = some L.toArray.size := by rw [← hL]; exact infoR
  have iL2 : (Try.prog.info? 40).map (·.size) = some L.length := by rw [← hL, ints_len]; exact infoR
  have one : L.toArray.all (·.oneCell') = true := by rw [← hL]; exact ints_one .u8 72 _
  have hz := zeroR
  rw [hT0] at hz
  have HFF : Hid (∀ j, j < 8 → (Lit.int .i64 (ffn 6 0 0 0 1 0 0 0 j)).wf = true) := by unfold Hid; decide
  clear hX hL hF0 hT0
  go_enter Try.func8, Try.ntmps8
  go_wp2_with fail
  refine CN.out.mono ?_
  rintro e W1 ⟨B, M, rfl, _, _, hd1, hb1⟩
  have HL1 : Hid (Lw w [] [] w.heap.size B M 1 0 1 1 2 1 0 (fun _ _ => 0) (.slice none 0 0) 0 (fun _ _ => 0) (.slice none 0 0) 0 (fun _ _ => 0) W1) := Lw.begin hd1 hb1 (Nat.le_refl _) (by simp)
  clear hd1 hb1 CN
  go_wp2_with fail
  refine (dInject_any HL1.out.d .bits 6 0 0 0 1 0 0 0 HFF.out (by omega)).mono ?_
  rintro e W2 ⟨a, rfl, hij⟩
  obtain ⟨ha, HL2⟩ : a = 0 ∧ ∃ vc', Hid (Lw w [] [] w.heap.size B M 1 0 1 1 2 1 0 (fun _ _ => 0) (.slice none 0 0) 0 (fun _ _ => 0) vc' (0 + 1) (snZ (fun _ _ => 0) 0 (ffn 6 0 0 0 1 0 0 0)) W2) := by
    rcases hij with ⟨h, _⟩ | ⟨_, h, _⟩ | ⟨_, _, h, _⟩ | ⟨_, _, h, _⟩ | ⟨_, _, _, h, _⟩ | ⟨_, _, _, _, h, vc', h1, h2⟩
    · exact absurd h (by decide)
    · exact absurd h (by decide)
    · exact absurd h (by decide)
    · exact absurd h (by decide)
    · exact absurd h (by decide)
    · exact ⟨h, vc', HL1.out.mo h1 h2⟩
  obtain ⟨vc', HL2⟩ := HL2
  subst ha
  clear hij HL1 HFF
  go_wp2_with (first | refine wpList_known rfl _ (exec_build12 40 rfl _ hbr _) ?_)
  refine (CF.out _).mono ?_
  rintro e W3 ⟨rfl, b3⟩
  replace HL2 : Hid (Lw w [] [] w.heap.size B M 1 0 1 1 2 1 0 (fun _ _ => 0) (.slice none 0 0) 0 (fun _ _ => 0) vc' (0 + 1) (snZ (fun _ _ => 0) 0 (ffn 6 0 0 0 1 0 0 0)) W3) := HL2.out.next b3
  clear b3
  have CW : Hid (Calls Try.prog 20 #[.pointer (some ⟨B, 0, none⟩), .int .i64 0, .agg L.toArray] W3 fun e w' => e = .returned (.tuple #[.agg #[.int .i64 1, .bool false], .int .i64 0]) ∧ ∃ vc', Lw w [] [] w.heap.size B M 1 0 1 1 2 1 (0 + 1) (gput (fun _ _ => 0) 1 X) (.slice none 0 0) 0 (fun _ _ => 0) vc' (0 + 1 - 1) (tlZ (snZ (fun _ _ => 0) 0 (ffn 6 0 0 0 1 0 0 0))) w') := by
    rw [← HXL.out]
    refine (dWrite_any HL2.out.d 0 X HXB.out (by omega) (by decide)).mono ?_
    rintro e w' ⟨rfl, ht⟩
    obtain ⟨v, h1, _⟩ := HL2.out.tk ht
    exact ⟨rfl, v, h1⟩
  go_wp2_with fail
  refine CW.out.mono ?_
  rintro e W4 ⟨rfl, v4, h4⟩
  obtain ⟨K, hK⟩ : ∃ K, W4.heap.size = K := ⟨_, rfl⟩
  have HL4 : Hid (Lw w [] [(K, [.int .i64 1, .bool false])] w.heap.size B M 1 0 1 1 2 1 (0 + 1) (gput (fun _ _ => 0) 1 X) (.slice none 0 0) 0 (fun _ _ => 0) v4 (0 + 1 - 1) (tlZ (snZ (fun _ _ => 0) 0 (ffn 6 0 0 0 1 0 0 0))) (W4.alloc (.cells #[.int .i64 1, .bool false] 59))) := by rw [← hK]; exact h4.lay [.int .i64 1, .bool false] _
  clear h4 CW HL2
  go_upto_region 6 with (fail)
  obtain ⟨W5, hW5⟩ : ∃ W, W4.alloc (.cells #[.int .i64 1, .bool false] 59) = W := ⟨_, rfl⟩
  replace HL4 : Hid (Lw w [] [(K, [.int .i64 1, .bool false])] w.heap.size B M 1 0 1 1 2 1 (0 + 1) (gput (fun _ _ => 0) 1 X) (.slice none 0 0) 0 (fun _ _ => 0) v4 (0 + 1 - 1) (tlZ (snZ (fun _ _ => 0) 0 (ffn 6 0 0 0 1 0 0 0))) W5) := by rw [← hW5]; exact HL4.out
  rw [hW5]
  clear hW5 hK
  have CR : Hid (Calls Try.prog 21 #[.pointer (some ⟨B, 0, none⟩), .int .i64 1] W5 fun e w' => e = .returned (.tuple #[.agg L.toArray, .agg #[.int .i64 1, .bool false], .int .i64 0]) ∧ ∃ vc', Lw w [] [(K, [.int .i64 1, .bool false])] w.heap.size B M 1 0 1 1 2 1 (0 + 1) (gput (fun _ _ => 0) 1 X) (.slice none 0 0) 0 (fun _ _ => 0) vc' (0 + 1 - 1 - 1) (tlZ (tlZ (snZ (fun _ _ => 0) 0 (ffn 6 0 0 0 1 0 0 0)))) w') := by
    rw [← HXL.out]
    refine (dRead_any HL4.out.d .bits 1 (by decide)).mono ?_
    rintro e w' ⟨rfl, ht⟩
    obtain ⟨v, h1, _⟩ := HL4.out.tk ht
    exact ⟨rfl, v, h1⟩
  go_wp2_with fail
  refine CR.out.mono ?_
  rintro e W6 ⟨rfl, v6, h6⟩
  obtain ⟨h7, ht, ht2⟩ := h6.layRW L T0 40 59 1 false hll
  have on : (#[.int .i64 1, .bool false] : Array Value).all (·.oneCell') = true := one_we _ _
  obtain ⟨R, hR⟩ : ∃ R, W6.heap.size = R := ⟨_, rfl⟩
  rw [hR] at ht ht2 h7
  have HL7 : Hid (Lw w [] [(R + 1, [.int .i64 1, .bool false]), (R, L), (K, [.int .i64 1, .bool false])] w.heap.size B M 1 0 1 1 2 1 (0 + 1) (gput (fun _ _ => 0) 1 X) (.slice none 0 0) 0 (fun _ _ => 0) v6 (0 + 1 - 1 - 1) (tlZ (tlZ (snZ (fun _ _ => 0) 0 (ffn 6 0 0 0 1 0 0 0)))) ((((W6.alloc (.cells T0.toArray 40)).alloc (.cells #[.int .i64 0, .bool false] 59)).setCells R 0 L).setCells (R + 1) 0 [.int .i64 1, .bool false])) := h7
  clear h6 h7 CR HL4
  go_upto_region 7 with (first
    | refine wpList_store_mid rfl 40 _ _ rfl R 0 L.toArray rfl rfl ht iL one ?_
    | refine wpList_store_mid rfl 59 _ _ rfl (R + 1) 0 #[.int .i64 1, .bool false] rfl rfl ht2 infoWe on ?_)
  obtain ⟨W7, hW7⟩ : ∃ W, ((((W6.alloc (.cells T0.toArray 40)).alloc (.cells #[.int .i64 0, .bool false] 59)).setCells R 0 L).setCells (R + 1) 0 [.int .i64 1, .bool false]) = W := ⟨_, rfl⟩
  replace HL7 : Hid (Lw w [] [(R + 1, [.int .i64 1, .bool false]), (R, L), (K, [.int .i64 1, .bool false])] w.heap.size B M 1 0 1 1 2 1 (0 + 1) (gput (fun _ _ => 0) 1 X) (.slice none 0 0) 0 (fun _ _ => 0) v6 (0 + 1 - 1 - 1) (tlZ (tlZ (snZ (fun _ _ => 0) 0 (ffn 6 0 0 0 1 0 0 0)))) W7) := by rw [← hW7]; exact HL7.out
  rw [hW7]
  clear hW7 ht ht2 hR
  have HEW : Hid (∀ w, (binOp .eql 59 (.agg #[.int .i64 1, .bool false]) (.agg #[.int .i64 1, .bool false])).run Try.prog w = .ok (.bool true) w) := fun w => by rw [eqW_eql]; rfl
  refine region_calm (by kernel_rfl) (by kernel_rfl) (fun W => Below W7.heap.size W7 W) (below_drew1 W7) ?_
  intro U hU f hf hof
  have HN : Hid (∀ u W, Below (f u).heap.size (f u) W → ∃ x, W = f x) := fun u W h => hof W ((hf u).trans (h.mono (hf u).size))
  have HE : Hid (∀ y, Lw w [] [(R + 1, [.int .i64 1, .bool false]), (R, L), (K, [.int .i64 1, .bool false])] w.heap.size B M 1 0 1 1 2 1 (0 + 1) (gput (fun _ _ => 0) 1 X) (.slice none 0 0) 0 (fun _ _ => 0) v6 (0 + 1 - 1 - 1) (tlZ (tlZ (snZ (fun _ _ => 0) 0 (ffn 6 0 0 0 1 0 0 0)))) (f y)) := fun y => HL7.out.next (hf y)
  clear hf hof HL7
  go_big_quiet_step (fail)
  go_big_quiet_step (fail)
  go_big_quiet_step (fail)
  go_big_quiet_step (fail)
  go_big_quiet_step (fail)
  go_big_quiet_step (fail)
  go_big_quiet_step (fail)
  refine quiet_load (by rfl) 59 _ rfl K 0 rfl [.int .i64 1, .bool false] _ (by rintro _ ⟨y, rfl⟩; exact (HE.out y).b2.range) Try.underlying59 rfl infoWe ?_
  simp only [Act.put, List.setIfInBounds_toArray, List.set_cons_zero, List.set_cons_succ]
  go_big_quiet_step (fail)
  refine quiet_one (by rfl) (.bool true) (exec_eqlA 59 _ _ _ rfl _ _ _ rfl rfl gdW12 HEW.out) ?_
  simp only [Act.put, List.setIfInBounds_toArray, List.set_cons_zero, List.set_cons_succ]
  go_big_quiet_step (fail)
  go_big_quiet_step (fail)
  go_big_quiet_step (fail)
  go_big_quiet_step (fail)
  go_big_quiet_step (fail)
  go_big_quiet_step (fail)
  refine quiet_load (by rfl) 40 _ rfl R 0 rfl L _ (by rintro _ ⟨y, rfl⟩; exact (HE.out y).b1.range) Try.underlying40 rfl iL2 ?_
  simp only [Act.put, List.setIfInBounds_toArray, List.set_cons_zero, List.set_cons_succ]
  refine quiet_one (by rfl) (.agg T0.toArray) (exec_build12 40 rfl _ HBR.out) ?_
  simp only [Act.put, List.setIfInBounds_toArray, List.set_cons_zero, List.set_cons_succ]
  go_big_quiet_step ((go_at_call 33; exact calm_next HN.out (CF.out _)))
  refine quiet_one (by rfl) (.bool true) (exec_eqlA 40 _ _ _ rfl L.toArray L.toArray _ rfl rfl gdR12 HEQ.out) ?_
  simp only [Act.put, List.setIfInBounds_toArray, List.set_cons_zero, List.set_cons_succ]
  go_big_quiet_step (fail)
  go_big_quiet_step (fail)
  refine wpQuiet_nil ?_
  rintro _ ⟨y, rfl⟩
  have HZ : Hid (Below w.heap.size w (f y)) := (HE.out y).n
  clear HE HN
  go_wp2
  go_ret
  exact ⟨rfl, HZ.out⟩
end Go.Proofs.Ytcpjmfemgdgplaa
