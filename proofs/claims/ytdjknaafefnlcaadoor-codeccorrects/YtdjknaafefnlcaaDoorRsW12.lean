/-
  The verdict of syndromes.
-/
import Derived.Test.YtdjknaafefnlcaaDoorRsW11
namespace Go.Proofs.YtdjknaafefnlcaaDoor
open Go.RowKit Go.Shelf
open Gf (gI eI dI lI)
open Po (El mu pwr ev S cf toE cv Low rts)
open Rm (al sy At)
attribute [local go_sem] Oper.semAt_some

/-- a verdict, as the program has it -/
def vd (s : Nat → El) : Array Value := #[.int .i64 (vk s), .int .i64 (vp s), .int .u8 (oe (vv s))]
theorem zeroVd (w : World) : (zeroValue 90).run Tryd.prog w = .ok (.agg #[.int .i64 0, .int .i64 0, .int .u8 0]) w := by kernel_rfl
theorem infoVd : (Tryd.prog.info? 90).map (·.size) = some 3 := by kernel_rfl
/-- three cells that were stored one by one are read as a verdict -/
theorem three_vd {V : World} {C : Nat} (ht : V.there C 0 3) (a b c : Value) :
    (loadVar 90 ⟨C, 0, none⟩).run Tryd.prog (((V.setCell ⟨C, 0, none⟩ a).setCell ⟨C, 1, none⟩ b).setCell ⟨C, 2, none⟩ c) = .ok (.agg #[a, b, c]) (((V.setCell ⟨C, 0, none⟩ a).setCell ⟨C, 1, none⟩ b).setCell ⟨C, 2, none⟩ c) :=
  run_loadVar_mid (P := Tryd.prog) _ C 0 90 [a, b, c] _ (World.rangeAt_setCells_same V C 0 [a, b, c] ht) Tryd.underlying90 rfl infoVd

theorem there3 {V : World} {C : Nat} {a b c : Value} (t0 : V.cell? ⟨C, 0, none⟩ = some a) (t1 : V.cell? ⟨C, 1, none⟩ = some b) (t2 : V.cell? ⟨C, 2, none⟩ = some c) (f0 : V.frozen? ⟨C, 0, none⟩ = false) (f1 : V.frozen? ⟨C, 1, none⟩ = false) (f2 : V.frozen? ⟨C, 2, none⟩ = false) : V.there C 0 3 := fun j hj => by
  rcases (show j = 0 ∨ j = 1 ∨ j = 2 by omega) with rfl | rfl | rfl
  · exact ⟨by rw [Nat.zero_add, t0]; rfl, f0⟩
  · exact ⟨by rw [Nat.zero_add, t1]; rfl, f1⟩
  · exact ⟨by rw [Nat.zero_add, t2]; rfl, f2⟩
set_option maxRecDepth 100000 in
set_option maxHeartbeats 1000000 in
theorem locate_any (c b : Nat) (s : Nat → El) (w : World) (hc : CdAt w c b) :
    Calls Tryd.prog 72 #[.pointer (some ⟨c, 0, none⟩), .agg (arr 4 s).toArray] w fun e w' => e = .returned (.agg (vd s)) ∧ Below w.heap.size w w' := by
  have hz := zeroVd
  have hz4 := zero4
  have hw := vways s
  have hpl : ¬ Nought s → plc s 39 0 = vp s := fun h => by unfold vp; rw [if_neg h]
  have cO : Hid (∀ W, CdAt W c b → Calls Tryd.prog 88 #[.pointer (some ⟨c, 0, none⟩), .agg (arr 4 s).toArray] W fun e w' => e = .returned (.int .i64 (plc s 39 0)) ∧ Below W.heap.size W w') := fun W h => only_any c b s W h
  unfold vd
  obtain ⟨K, hK⟩ : ∃ K, vk s = K := ⟨_, rfl⟩
  obtain ⟨L, hL⟩ : ∃ L, vp s = L := ⟨_, rfl⟩
  obtain ⟨U, hU⟩ : ∃ U, vv s = U := ⟨_, rfl⟩
  rw [hK, hL, hU] at hw
  rw [hL] at hpl
  rw [hK, hL, hU]
  have i4 : (Tryd.prog.info? 73).map (·.size) = some (arr 4 s).length := by rw [arr_len]; exact info4
  have heq : ∀ b : Bool, (b = true ↔ ∀ i, i < 4 → s i = (fun _ => 0) i) → ∀ w, (binOp .eql 73 (.agg (arr 4 s).toArray) (.agg (arr 4 fun _ => 0).toArray)).run Tryd.prog w = .ok (.bool b) w := fun b hb w => eql_arr 73 4 Tryd.underlying73 s (fun _ => 0) b hb w
  have hgd : Tryd.prog.eqGuardType Tryd.prog.depth 73 = false := by kernel_rfl
  obtain ⟨A0, hA0⟩ : ∃ A, arr 4 s = A := ⟨_, rfl⟩
  obtain ⟨A2, hA2⟩ : ∃ A, (arr 4 fun _ => 0) = A := ⟨_, rfl⟩
  rw [hA2] at hz4
  rw [hA0, hA2] at heq
  rw [hA0] at cO i4 ⊢
  go_enter Tryd.func72, Tryd.ntmps72
  go_upto_region 1 with (fail)
  obtain ⟨V, hV⟩ : ∃ V, (w.alloc (.cells A0.toArray 73)).alloc (.cells #[.int .i64 0, .int .i64 0, .int .u8 0] 90) = V := ⟨_, rfl⟩
  obtain ⟨B, hB⟩ : ∃ B, w.heap.size = B := ⟨_, rfl⟩
  obtain ⟨C, hC⟩ : ∃ C, B + 1 = C := ⟨_, rfl⟩
  have hBC : B < C := by omega
  have hb0 : Below B w V := by rw [← hV, ← hB]; exact ((Below.refl _ w).alloc (Nat.le_refl _) _).alloc (by simp) _
  have p2 : Blk V B 4 s := by
    have h := (Blk.new w 4 s 73).alloc (.cells #[.int .i64 0, .int .i64 0, .int .u8 0] 90)
    rw [hA0, hV, hB] at h; exact h
  have hcV : CdAt V c b := hc.next (by rw [hB]; exact hb0)
  have hlt : C < V.heap.size := by rw [← hV, ← hC, ← hB]; simp
  have HT : Hid (V.cell? ⟨C, 0, none⟩ = some (.int .i64 0) ∧ V.cell? ⟨C, 1, none⟩ = some (.int .i64 0) ∧ V.cell? ⟨C, 2, none⟩ = some (.int .u8 0) ∧ ∀ i, V.frozen? ⟨C, i, none⟩ = false) := by
    rw [← hV, ← hC, ← hB]
    refine ⟨?_, ?_, ?_, fun i => ?_⟩ <;> simp [go_sem]
  have hr := p2.range
  rw [hA0] at hr
  rw [hV]
  rw [hB, hC]
  have H0 : Hid (Blk V B 4 s ∧ CdAt V c b ∧ Below B w V) := ⟨p2, hcV, hb0⟩
  clear hV hC p2 hcV hb0 hc
  rcases hw with ⟨hN, rfl, rfl, rfl⟩ | ⟨hN, _, rfl, rfl, rfl⟩ | ⟨hN, i, hi, _, _, hk, rfl, rfl⟩
  · have he := heq true ⟨fun _ i hi => by
      obtain ⟨n0, n1, n2, n3⟩ := hN
      rcases (show i = 0 ∨ i = 1 ∨ i = 2 ∨ i = 3 by omega) with rfl | rfl | rfl | rfl <;> assumption, fun _ => rfl⟩
    obtain ⟨t0, t1, t2, tf⟩ := HT.out
    have f0 := tf 0; have f1 := tf 1; have f2 := tf 2
    clear heq hpl hN tf
    go_wp2_with (first | refine wpList_load_mid rfl 73 _ rfl B 0 rfl A0 _ hr Tryd.underlying73 rfl i4 ?_)
    have hld := three_vd (there3 t0 t1 t2 f0 f1 f2) (.int .i64 0) (.int .i64 (-1)) (.int .u8 0)
    refine bodyPost_ret (v := .agg #[.int .i64 0, .int .i64 (-1), .int .u8 0]) ?_ rfl ⟨rfl, by rw [hB]; exact three_below H0.out.2.2 hBC _ _ _⟩
    simp [results, Tryd.f72, asAddr, hld]
  · have ep := hpl hN
    have he := heq false ⟨(fun e => by cases e), fun h => absurd ⟨h 0 (by omega), h 1 (by omega), h 2 (by omega), h 3 (by omega)⟩ hN⟩
    rw [ep] at cO
    clear heq hpl hN ep
    go_upto_region 5 with (first | refine wpList_load_mid rfl 73 _ rfl B 0 rfl A0 _ hr Tryd.underlying73 rfl i4 ?_ | (go_at_call 88; refine (cO.out _ H0.out.2.1).mono ?_; rintro e V1 ⟨rfl, hB1⟩))
    have hb1 : Hid (Below B w V1) := H0.out.2.2.trans (hB1.mono (by omega))
    obtain ⟨t0, t1, t2, f0, f1, f2⟩ : V1.cell? ⟨C, 0, none⟩ = some (.int .i64 0) ∧ V1.cell? ⟨C, 1, none⟩ = some (.int .i64 0) ∧ V1.cell? ⟨C, 2, none⟩ = some (.int .u8 0) ∧ V1.frozen? ⟨C, 0, none⟩ = false ∧ V1.frozen? ⟨C, 1, none⟩ = false ∧ V1.frozen? ⟨C, 2, none⟩ = false := by
      obtain ⟨t0, t1, t2, tf⟩ := HT.out
      exact ⟨(hB1.cell (p := ⟨C, 0, none⟩) hlt).trans t0, (hB1.cell (p := ⟨C, 1, none⟩) hlt).trans t1, (hB1.cell (p := ⟨C, 2, none⟩) hlt).trans t2, (hB1.frozen (p := ⟨C, 0, none⟩) hlt).trans (tf 0), (hB1.frozen (p := ⟨C, 1, none⟩) hlt).trans (tf 1), (hB1.frozen (p := ⟨C, 2, none⟩) hlt).trans (tf 2)⟩
    have q0 := (H0.out.1.below hB1 (by omega)).arr 0 (by omega)
    clear hB1 HT H0 hr
    go_wp2
    have hld := three_vd (there3 t0 t1 t2 f0 f1 f2) (.int .i64 3) (.int .i64 (-1)) (.int .u8 0)
    refine bodyPost_ret (v := .agg #[.int .i64 3, .int .i64 (-1), .int .u8 0]) ?_ rfl ⟨rfl, by rw [hB]; exact three_below hb1.out hBC _ _ _⟩
    simp [results, Tryd.f72, asAddr, hld]
  · have ep := hpl hN
    have he := heq false ⟨(fun e => by cases e), fun h => absurd ⟨h 0 (by omega), h 1 (by omega), h 2 (by omega), h 3 (by omega)⟩ hN⟩
    rw [ep] at cO
    clear heq hpl hN ep
    go_upto_region 5 with (first | refine wpList_load_mid rfl 73 _ rfl B 0 rfl A0 _ hr Tryd.underlying73 rfl i4 ?_ | (go_at_call 88; refine (cO.out _ H0.out.2.1).mono ?_; rintro e V1 ⟨rfl, hB1⟩))
    have hb1 : Hid (Below B w V1) := H0.out.2.2.trans (hB1.mono (by omega))
    obtain ⟨t0, t1, t2, f0, f1, f2⟩ : V1.cell? ⟨C, 0, none⟩ = some (.int .i64 0) ∧ V1.cell? ⟨C, 1, none⟩ = some (.int .i64 0) ∧ V1.cell? ⟨C, 2, none⟩ = some (.int .u8 0) ∧ V1.frozen? ⟨C, 0, none⟩ = false ∧ V1.frozen? ⟨C, 1, none⟩ = false ∧ V1.frozen? ⟨C, 2, none⟩ = false := by
      obtain ⟨t0, t1, t2, tf⟩ := HT.out
      exact ⟨(hB1.cell (p := ⟨C, 0, none⟩) hlt).trans t0, (hB1.cell (p := ⟨C, 1, none⟩) hlt).trans t1, (hB1.cell (p := ⟨C, 2, none⟩) hlt).trans t2, (hB1.frozen (p := ⟨C, 0, none⟩) hlt).trans (tf 0), (hB1.frozen (p := ⟨C, 1, none⟩) hlt).trans (tf 1), (hB1.frozen (p := ⟨C, 2, none⟩) hlt).trans (tf 2)⟩
    have q0 := (H0.out.1.below hB1 (by omega)).arr 0 (by omega)
    clear hB1 HT H0 hr
    have hni : ((i : Int) == -1) = false := by simp
    by_cases h36 : i < 36
    · rw [if_pos h36] at hk
      subst hk
      go_wp2
      have hld := three_vd (there3 t0 t1 t2 f0 f1 f2) (.int .i64 1) (.int .i64 (i : Int)) (.int .u8 (oe (s 0)))
      refine bodyPost_ret (v := .agg #[.int .i64 1, .int .i64 (i : Int), .int .u8 (oe (s 0))]) ?_ rfl ⟨rfl, by rw [hB]; exact three_below hb1.out hBC _ _ _⟩
      simp [results, Tryd.f72, asAddr, hld]
    · rw [if_neg h36] at hk
      subst hk
      go_wp2
      have hld := three_vd (there3 t0 t1 t2 f0 f1 f2) (.int .i64 2) (.int .i64 (i : Int)) (.int .u8 (oe (s 0)))
      refine bodyPost_ret (v := .agg #[.int .i64 2, .int .i64 (i : Int), .int .u8 (oe (s 0))]) ?_ rfl ⟨rfl, by rw [hB]; exact three_below hb1.out hBC _ _ _⟩
      simp [results, Tryd.f72, asAddr, hld]
end Go.Proofs.YtdjknaafefnlcaaDoor
