/-
  GeomSizes.
-/
import Derived.Test.YtjinbhggimbcbaaGeL1
namespace Go.Proofs.Ytjinbhggimbcbaa
open Go.RowKit
open Bm (wt wtK)
open Ge (pw rt hd ix)

/-- a geometry in B -/
structure GS (B : Nat) (r s b o c : Int) (w W : World) : Prop where
  g : Gm W B r s b o c
  below : Below B w W
theorem GS.next {B : Nat} {r s b o c : Int} {w W W' : World} (h : GS B r s b o c w W) (k : Below W.heap.size W W') : GS B r s b o c w W' :=
  ⟨h.g.next k, h.below.trans (k.mono (Nat.le_of_lt h.g.lt))⟩

theorem equal_ints (t : TypeId) (n : Nat) (ht : Try.prog.underlying t = some (.array n 5)) (F G : Nat → Int) (hF : Byts n F) (hG : Byts n G) (b : Bool) (hb : b = true ↔ ∀ i, i < n → F i = G i) (w : World) :
    (Op.equalIn 10000 t (.agg (ints .u8 n F).toArray) (.agg (ints .u8 n G).toArray)).run Try.prog w = .ok b w := by
  have h := run_equalIn_bytes (P := Try.prog) w 9998 t 5 n ht Try.underlying5 byte_one (byts n F) (byts n G) (byts_len n F) (byts_len n G)
  rw [byts_ints n F hF, byts_ints n G hG, byts_beq n F G hF hG b hb] at h
  exact h
theorem equal_three (x0 x1 x2 y0 y1 y2 : Int) (hx : (0 ≤ x0 ∧ x0 < 256) ∧ (0 ≤ x1 ∧ x1 < 256) ∧ (0 ≤ x2 ∧ x2 < 256)) (hy : (0 ≤ y0 ∧ y0 < 256) ∧ (0 ≤ y1 ∧ y1 < 256) ∧ (0 ≤ y2 ∧ y2 < 256)) (b : Bool) (hb : b = true ↔ x0 = y0 ∧ x1 = y1 ∧ x2 = y2) (w : World) :
    (Op.equalIn 10000 47 (.agg #[.int .u8 x0, .int .u8 x1, .int .u8 x2]) (.agg #[.int .u8 y0, .int .u8 y1, .int .u8 y2])).run Try.prog w = .ok b w := by
  refine equal_ints 47 3 Try.underlying47 (pfn x0 x1 x2 0) (pfn y0 y1 y2 0) (fun i hi => ?_) (fun i hi => ?_) b ?_ w
  · rcases (show i = 0 ∨ i = 1 ∨ i = 2 by omega) with rfl | rfl | rfl
    · exact hx.1
    · exact hx.2.1
    · exact hx.2.2
  · rcases (show i = 0 ∨ i = 1 ∨ i = 2 by omega) with rfl | rfl | rfl
    · exact hy.1
    · exact hy.2.1
    · exact hy.2.2
  · rw [hb]
    constructor
    · rintro ⟨rfl, rfl, rfl⟩ i _; rfl
    · intro h; exact ⟨h 0 (by omega), h 1 (by omega), h 2 (by omega)⟩
/-- the lowest 23 bits of an index: as a number, as three bytes, its parity -/
theorem low_told (a : Int) : ∃ (L : Nat) (x0 x1 x2 : Int) (t : Nat), (IntKind.u64.wrap a).tmod 8388608 = (L : Int) ∧ L < 8388608 ∧ (0 ≤ x0 ∧ x0 < 256) ∧ (0 ≤ x1 ∧ x1 < 256) ∧ (0 ≤ x2 ∧ x2 < 128) ∧ x0 + 256 * x1 + 65536 * x2 = (L : Int) ∧ t ≤ 64 ∧
    Hid (∀ w : World, Calls Try.prog 21 #[.int .i64 a] w fun e w' => e = .returned (.agg #[.int .u8 x0, .int .u8 x1, .int .u8 x2]) ∧ Below w.heap.size w w') ∧
    Hid (∀ w : World, Calls Try.prog 24 #[.int .i64 a] w fun e w' => e = .returned (.int .i64 ((t : Int) % 2)) ∧ w' = w) ∧
    Hid (∀ w : World, Calls Try.prog 25 #[.int .u64 (L : Int)] w fun e w' => e = .returned (.int .i64 (t : Int)) ∧ w' = w) := by
  obtain ⟨L, hL⟩ := Int.eq_ofNat_of_zero_le (show 0 ≤ a % 8388608 by omega)
  refine ⟨L, a % 8388608 % 256, a % 8388608 / 256 % 256, a % 8388608 / 65536 % 256, wt L, ?_, by omega, by omega, by omega, by omega, by omega, Bm.wt_le L, bytes_any a, fun w => ?_, fun w => refWeight_any L (by omega) w⟩
  · rw [Int.tmod_eq_emod_of_nonneg (by simp [IntKind.wrap, IntKind.bits, IntKind.signed]; omega)]
    simp [IntKind.wrap, IntKind.bits, IntKind.signed]
    omega
  · obtain ⟨k, hk, _, hc⟩ := parity_any a w
    obtain rfl : k = L := by omega
    have e : ((wt k % 2 : Nat) : Int) = ((wt k : Nat) : Int) % 2 := by omega
    rw [e] at hc
    exact hc
set_option maxRecDepth 100000 in
set_option maxHeartbeats 4000000 in
theorem geomSizes_core (r s b o c a d : Int) (hr : I64 r) (hb : I64 b) (ho : I64 o) (hc : I64 c) (w : World) :
    Calls Try.prog 5 #[.agg #[.int .i64 r, .int .i64 s, .int .i64 b, .int .i64 o, .int .i64 c], .int .i64 a, .int .i64 d] w fun e w' => e = .returned (.bool true) ∧ Below w.heap.size w w' := by
  obtain ⟨z, Z⟩ : ∃ z, Hid (rt r s b o c = z) := ⟨_, rfl⟩
  have HR : Hid (∀ w, Calls Try.prog 11 #[.agg #[.int .i64 r, .int .i64 s, .int .i64 b, .int .i64 o, .int .i64 c]] w fun e w' => e = .returned (.bool z) ∧ Below w.heap.size w w') := fun w => by rw [← Z.out]; exact refRight_any r s b o c hr hb ho hc w
  obtain ⟨L, x0, x1, x2, t, wL, bL, ⟨x0a, x0b⟩, ⟨x1a, x1b⟩, ⟨x2a, x2b⟩, sX, ht, CB, CP, CW⟩ := low_told a
  obtain ⟨M, y0, y1, y2, t', wM, bM, ⟨y0a, y0b⟩, ⟨y1a, y1b⟩, ⟨y2a, y2b⟩, sY, _, CB', _, _⟩ := low_told d
  clear hr hb ho hc
  have HX : Hid (x0 + 256 * x1 + 65536 * x2 = (L : Int)) := sX
  have HY : Hid (y0 + 256 * y1 + 65536 * y2 = (M : Int)) := sY
  clear sX sY
  go_enter Try.func5, Try.ntmps5
  go_wp2_with fail
  obtain ⟨B, hB⟩ : ∃ B, w.heap.size = B := ⟨_, rfl⟩
  obtain ⟨V, hV⟩ : ∃ V, w.alloc (.cells #[.int .i64 r, .int .i64 s, .int .i64 b, .int .i64 o, .int .i64 c] 23) = V := ⟨_, rfl⟩
  have HS : Hid (GS B r s b o c w V) := by
    have h0 := Gm.new w r s b o c 23
    rw [← hV, ← hB]
    exact ⟨h0, (Below.refl _ w).alloc (Nat.le_refl _) _⟩
  rw [hV, hB]
  clear hV
  refine (anchor7_any _).mono ?_
  rintro e W1 ⟨rfl, bW⟩
  replace HS : Hid (GS B r s b o c w W1) := HS.out.next bW
  have g0 := HS.out.g.c0; have g1 := HS.out.g.c1; have g2 := HS.out.g.c2; have g3 := HS.out.g.c3; have g4 := HS.out.g.c4
  clear bW
  go_wp2_with fail
  refine (HR.out _).mono ?_
  rintro e W2 ⟨rfl, bW⟩
  replace HS : Hid (GS B r s b o c w W2) := HS.out.next bW
  clear g0 g1 g2 g3 g4 bW
  have g0 := HS.out.g.c0; have g1 := HS.out.g.c1; have g2 := HS.out.g.c2; have g3 := HS.out.g.c3; have g4 := HS.out.g.c4
  cases z with
  | true =>
    obtain ⟨⟨p1, p2⟩, ⟨p3, p4⟩, ⟨p5, p6⟩, ⟨p7, p8⟩⟩ := rt_prods Z.out
    go_wp2
    go_quiet (fail)
    replace HS : Hid (GS B r s b o c w (W2.drewN nq)) := ⟨HS.out.g, below_drewN HS.out.below nq⟩
    go_wp2_with fail
    obtain ⟨W3, hW3⟩ : ∃ W3, W2.drewN nq = W3 := ⟨_, rfl⟩
    rw [hW3] at HS ⊢
    clear hW3
    have CR : Hid (∀ w, Calls Try.prog 22 #[.agg #[.int .i64 r, .int .i64 s, .int .i64 b, .int .i64 o, .int .i64 c]] w fun e w' => e = .returned (.int .i64 (b * o * c)) ∧ Below w.heap.size w w') := fun w => by have := perRank_any r s b o c w; unfold perR at this; rw [if_pos Z.out] at this; exact this
    have CG : Hid (∀ w, Calls Try.prog 23 #[.agg #[.int .i64 r, .int .i64 s, .int .i64 b, .int .i64 o, .int .i64 c]] w fun e w' => e = .returned (.int .i64 (r * b * o)) ∧ Below w.heap.size w w') := fun w => by have := pages_any r s b o c w; unfold pgs at this; rw [if_pos Z.out] at this; exact this
    clear g0 g1 g2 g3 g4
    refine (CB.out _).mono ?_
    rintro e W4 ⟨rfl, bW⟩
    replace HS : Hid (GS B r s b o c w W4) := HS.out.next bW
    clear bW
    go_wp2_with fail
    refine (CB'.out _).mono ?_
    rintro e W5 ⟨rfl, bW⟩
    replace HS : Hid (GS B r s b o c w W5) := HS.out.next bW
    clear bW
    go_upto_region 9 with (fail)
    have HA : Hid (Bk .u8 ((W5.alloc (.cells #[.int .u8 x0, .int .u8 x1, .int .u8 x2] 47)).alloc (.cells #[.int .u8 y0, .int .u8 y1, .int .u8 y2] 47)) W5.heap.size 3 (pfn x0 x1 x2 0) ∧ Bk .u8 ((W5.alloc (.cells #[.int .u8 x0, .int .u8 x1, .int .u8 x2] 47)).alloc (.cells #[.int .u8 y0, .int .u8 y1, .int .u8 y2] 47)) (W5.heap.size + 1) 3 (pfn y0 y1 y2 0)) := by
      have h0 := Bk.new .u8 W5 3 (pfn x0 x1 x2 0) 47
      have h1 := Bk.new .u8 (W5.alloc (.cells #[.int .u8 x0, .int .u8 x1, .int .u8 x2] 47)) 3 (pfn y0 y1 y2 0) 47
      rw [World.size_alloc] at h1
      exact ⟨h0.alloc _, h1⟩
    have bA : Below W5.heap.size W5 ((W5.alloc (.cells #[.int .u8 x0, .int .u8 x1, .int .u8 x2] 47)).alloc (.cells #[.int .u8 y0, .int .u8 y1, .int .u8 y2] 47)) := ((Below.refl _ W5).alloc (Nat.le_refl _) _).alloc (by simp) _
    obtain ⟨W6, hW6⟩ : ∃ W6, (W5.alloc (.cells #[.int .u8 x0, .int .u8 x1, .int .u8 x2] 47)).alloc (.cells #[.int .u8 y0, .int .u8 y1, .int .u8 y2] 47) = W6 := ⟨_, rfl⟩
    rw [hW6] at HA bA ⊢
    replace HS : Hid (GS B r s b o c w W6) := HS.out.next bA
    clear hW6 bA
    obtain ⟨C, hC⟩ : ∃ C, W5.heap.size = C := ⟨_, rfl⟩
    rw [hC] at HA ⊢
    clear hC
    have g0 := HS.out.g.c0; have g1 := HS.out.g.c1; have g2 := HS.out.g.c2; have g3 := HS.out.g.c3; have g4 := HS.out.g.c4
    go_wp2_with fail
    refine (CR.out _).mono ?_
    rintro e W7 ⟨rfl, bW⟩
    replace HS : Hid (GS B r s b o c w W7) := HS.out.next bW
    replace HA : Hid (Bk .u8 W7 C 3 (pfn x0 x1 x2 0) ∧ Bk .u8 W7 (C + 1) 3 (pfn y0 y1 y2 0)) := ⟨HA.out.1.next bW, HA.out.2.next bW⟩
    clear g0 g1 g2 g3 g4 bW
    have g0 := HS.out.g.c0; have g1 := HS.out.g.c1; have g2 := HS.out.g.c2; have g3 := HS.out.g.c3; have g4 := HS.out.g.c4
    go_wp2_with fail
    refine (CG.out _).mono ?_
    rintro e W8 ⟨rfl, bW⟩
    replace HS : Hid (GS B r s b o c w W8) := HS.out.next bW
    replace HA : Hid (Bk .u8 W8 C 3 (pfn x0 x1 x2 0) ∧ Bk .u8 W8 (C + 1) 3 (pfn y0 y1 y2 0)) := ⟨HA.out.1.next bW, HA.out.2.next bW⟩
    clear g0 g1 g2 g3 g4 bW
    have u0 : W8.cell? ⟨C, 0, none⟩ = some (.int .u8 x0) := HA.out.1.cell 0 (by omega)
    have u1 : W8.cell? ⟨C, 1, none⟩ = some (.int .u8 x1) := HA.out.1.cell 1 (by omega)
    have u2 : W8.cell? ⟨C, 2, none⟩ = some (.int .u8 x2) := HA.out.1.cell 2 (by omega)
    have v0 : W8.cell? ⟨C + 1, 0, none⟩ = some (.int .u8 y0) := HA.out.2.cell 0 (by omega)
    have v1 : W8.cell? ⟨C + 1, 1, none⟩ = some (.int .u8 y1) := HA.out.2.cell 1 (by omega)
    have v2 : W8.cell? ⟨C + 1, 2, none⟩ = some (.int .u8 y2) := HA.out.2.cell 2 (by omega)
    have eN : (x0 + 256 * x1 + 65536 * x2 == (L : Int)) = true := by rw [beq_iff_eq]; exact HX.out
    by_cases hLM : L = M
    · obtain ⟨rfl, rfl, rfl, rfl⟩ : x0 = y0 ∧ x1 = y1 ∧ x2 = y2 ∧ L = M := by
        have := HX.out; have := HY.out; refine ⟨?_, ?_, ?_, ?_⟩ <;> omega
      have hE : ∀ w, (Op.equalIn 10000 47 (.agg #[.int .u8 x0, .int .u8 x1, .int .u8 x2]) (.agg #[.int .u8 x0, .int .u8 x1, .int .u8 x2])).run Try.prog w = .ok true w := fun w => equal_three x0 x1 x2 x0 x1 x2 (by omega) (by omega) true (by simp) w
      go_wp2_with (first | (go_at_call 24; refine (CP.out _).mono ?_; rintro e w' ⟨rfl, rfl⟩) | (go_at_call 25; refine (CW.out _).mono ?_; rintro e w' ⟨rfl, rfl⟩))
      go_ret
      exact ⟨rfl, by rw [hB]; exact HS.out.below⟩
    · have nLM : ((L : Int) == (M : Int)) = false := by rw [beq_eq_false_iff_ne]; omega
      have hE : ∀ w, (Op.equalIn 10000 47 (.agg #[.int .u8 x0, .int .u8 x1, .int .u8 x2]) (.agg #[.int .u8 y0, .int .u8 y1, .int .u8 y2])).run Try.prog w = .ok false w := fun w => equal_three x0 x1 x2 y0 y1 y2 (by omega) (by omega) false ⟨fun h => (by cases h), fun h => by have := HX.out; have := HY.out; omega⟩ w
      go_wp2_with (first | (go_at_call 24; refine (CP.out _).mono ?_; rintro e w' ⟨rfl, rfl⟩) | (go_at_call 25; refine (CW.out _).mono ?_; rintro e w' ⟨rfl, rfl⟩))
      go_ret
      exact ⟨rfl, by rw [hB]; exact HS.out.below⟩
  | false =>
    go_wp2_with fail
    have CR : Hid (∀ w, Calls Try.prog 22 #[.agg #[.int .i64 r, .int .i64 s, .int .i64 b, .int .i64 o, .int .i64 c]] w fun e w' => e = .returned (.int .i64 0) ∧ Below w.heap.size w w') := fun w => by have := perRank_any r s b o c w; unfold perR at this; rw [if_neg (by rw [Z.out]; decide)] at this; exact this
    have CG : Hid (∀ w, Calls Try.prog 23 #[.agg #[.int .i64 r, .int .i64 s, .int .i64 b, .int .i64 o, .int .i64 c]] w fun e w' => e = .returned (.int .i64 0) ∧ Below w.heap.size w w') := fun w => by have := pages_any r s b o c w; unfold pgs at this; rw [if_neg (by rw [Z.out]; decide)] at this; exact this
    clear g0 g1 g2 g3 g4
    refine (CB.out _).mono ?_
    rintro e W4 ⟨rfl, bW⟩
    replace HS : Hid (GS B r s b o c w W4) := HS.out.next bW
    clear bW
    go_wp2_with fail
    refine (CB'.out _).mono ?_
    rintro e W5 ⟨rfl, bW⟩
    replace HS : Hid (GS B r s b o c w W5) := HS.out.next bW
    clear bW
    go_upto_region 9 with (fail)
    have HA : Hid (Bk .u8 ((W5.alloc (.cells #[.int .u8 x0, .int .u8 x1, .int .u8 x2] 47)).alloc (.cells #[.int .u8 y0, .int .u8 y1, .int .u8 y2] 47)) W5.heap.size 3 (pfn x0 x1 x2 0) ∧ Bk .u8 ((W5.alloc (.cells #[.int .u8 x0, .int .u8 x1, .int .u8 x2] 47)).alloc (.cells #[.int .u8 y0, .int .u8 y1, .int .u8 y2] 47)) (W5.heap.size + 1) 3 (pfn y0 y1 y2 0)) := by
      have h0 := Bk.new .u8 W5 3 (pfn x0 x1 x2 0) 47
      have h1 := Bk.new .u8 (W5.alloc (.cells #[.int .u8 x0, .int .u8 x1, .int .u8 x2] 47)) 3 (pfn y0 y1 y2 0) 47
      rw [World.size_alloc] at h1
      exact ⟨h0.alloc _, h1⟩
    have bA : Below W5.heap.size W5 ((W5.alloc (.cells #[.int .u8 x0, .int .u8 x1, .int .u8 x2] 47)).alloc (.cells #[.int .u8 y0, .int .u8 y1, .int .u8 y2] 47)) := ((Below.refl _ W5).alloc (Nat.le_refl _) _).alloc (by simp) _
    obtain ⟨W6, hW6⟩ : ∃ W6, (W5.alloc (.cells #[.int .u8 x0, .int .u8 x1, .int .u8 x2] 47)).alloc (.cells #[.int .u8 y0, .int .u8 y1, .int .u8 y2] 47) = W6 := ⟨_, rfl⟩
    rw [hW6] at HA bA ⊢
    replace HS : Hid (GS B r s b o c w W6) := HS.out.next bA
    clear hW6 bA
    obtain ⟨C, hC⟩ : ∃ C, W5.heap.size = C := ⟨_, rfl⟩
    rw [hC] at HA ⊢
    clear hC
    have g0 := HS.out.g.c0; have g1 := HS.out.g.c1; have g2 := HS.out.g.c2; have g3 := HS.out.g.c3; have g4 := HS.out.g.c4
    go_wp2_with fail
    refine (CR.out _).mono ?_
    rintro e W7 ⟨rfl, bW⟩
    replace HS : Hid (GS B r s b o c w W7) := HS.out.next bW
    replace HA : Hid (Bk .u8 W7 C 3 (pfn x0 x1 x2 0) ∧ Bk .u8 W7 (C + 1) 3 (pfn y0 y1 y2 0)) := ⟨HA.out.1.next bW, HA.out.2.next bW⟩
    clear g0 g1 g2 g3 g4 bW
    have g0 := HS.out.g.c0; have g1 := HS.out.g.c1; have g2 := HS.out.g.c2; have g3 := HS.out.g.c3; have g4 := HS.out.g.c4
    go_wp2_with fail
    refine (CG.out _).mono ?_
    rintro e W8 ⟨rfl, bW⟩
    replace HS : Hid (GS B r s b o c w W8) := HS.out.next bW
    replace HA : Hid (Bk .u8 W8 C 3 (pfn x0 x1 x2 0) ∧ Bk .u8 W8 (C + 1) 3 (pfn y0 y1 y2 0)) := ⟨HA.out.1.next bW, HA.out.2.next bW⟩
    clear g0 g1 g2 g3 g4 bW
    have u0 : W8.cell? ⟨C, 0, none⟩ = some (.int .u8 x0) := HA.out.1.cell 0 (by omega)
    have u1 : W8.cell? ⟨C, 1, none⟩ = some (.int .u8 x1) := HA.out.1.cell 1 (by omega)
    have u2 : W8.cell? ⟨C, 2, none⟩ = some (.int .u8 x2) := HA.out.1.cell 2 (by omega)
    have v0 : W8.cell? ⟨C + 1, 0, none⟩ = some (.int .u8 y0) := HA.out.2.cell 0 (by omega)
    have v1 : W8.cell? ⟨C + 1, 1, none⟩ = some (.int .u8 y1) := HA.out.2.cell 1 (by omega)
    have v2 : W8.cell? ⟨C + 1, 2, none⟩ = some (.int .u8 y2) := HA.out.2.cell 2 (by omega)
    have eN : (x0 + 256 * x1 + 65536 * x2 == (L : Int)) = true := by rw [beq_iff_eq]; exact HX.out
    by_cases hLM : L = M
    · obtain ⟨rfl, rfl, rfl, rfl⟩ : x0 = y0 ∧ x1 = y1 ∧ x2 = y2 ∧ L = M := by
        have := HX.out; have := HY.out; refine ⟨?_, ?_, ?_, ?_⟩ <;> omega
      have hE : ∀ w, (Op.equalIn 10000 47 (.agg #[.int .u8 x0, .int .u8 x1, .int .u8 x2]) (.agg #[.int .u8 x0, .int .u8 x1, .int .u8 x2])).run Try.prog w = .ok true w := fun w => equal_three x0 x1 x2 x0 x1 x2 (by omega) (by omega) true (by simp) w
      go_wp2_with (first | (go_at_call 24; refine (CP.out _).mono ?_; rintro e w' ⟨rfl, rfl⟩) | (go_at_call 25; refine (CW.out _).mono ?_; rintro e w' ⟨rfl, rfl⟩))
      go_ret
      exact ⟨rfl, by rw [hB]; exact HS.out.below⟩
    · have nLM : ((L : Int) == (M : Int)) = false := by rw [beq_eq_false_iff_ne]; omega
      have hE : ∀ w, (Op.equalIn 10000 47 (.agg #[.int .u8 x0, .int .u8 x1, .int .u8 x2]) (.agg #[.int .u8 y0, .int .u8 y1, .int .u8 y2])).run Try.prog w = .ok false w := fun w => equal_three x0 x1 x2 y0 y1 y2 (by omega) (by omega) false ⟨fun h => (by cases h), fun h => by have := HX.out; have := HY.out; omega⟩ w
      go_wp2_with (first | (go_at_call 24; refine (CP.out _).mono ?_; rintro e w' ⟨rfl, rfl⟩) | (go_at_call 25; refine (CW.out _).mono ?_; rintro e w' ⟨rfl, rfl⟩))
      go_ret
      exact ⟨rfl, by rw [hB]; exact HS.out.below⟩

theorem geomSizes_walk (a0 : Nat → Int) (a1 a2 : Int) (w0 : ∀ i, i < 5 → (Lit.int .i64 (a0 i)).wf = true) (_w1 : (Lit.int .i64 a1).wf = true) (_w2 : (Lit.int .i64 a2).wf = true) (w : World) :
    Calls Try.prog 5 #[.agg (ints .i64 5 a0).toArray, .int .i64 a1, .int .i64 a2] w fun e w' => e = .returned (.bool true) ∧ Below w.heap.size w w' := by
  have hi : ∀ i, i < 5 → I64 (a0 i) := fun i hi => by have := bounds_i64 (w0 i hi); exact ⟨this.1, by omega⟩
  exact geomSizes_core (a0 0) (a0 1) (a0 2) (a0 3) (a0 4) a1 a2 (hi 0 (by omega)) (hi 2 (by omega)) (hi 3 (by omega)) (hi 4 (by omega)) w
end Go.Proofs.Ytjinbhggimbcbaa
