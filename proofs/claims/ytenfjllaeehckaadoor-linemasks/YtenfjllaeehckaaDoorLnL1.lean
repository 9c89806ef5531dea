/-
  LineMerges.
-/
import Derived.Test.YtenfjllaeehckaaDoorLnW5
import Derived.Test.YtenfjllaeehckaaDoorArrArgs
namespace Go.Proofs.YtenfjllaeehckaaDoor
open Go.RowKit Go.Shelf
open Ln (mrg)
attribute [local go_sem] Oper.semAt_some

theorem exec_eql {P : Program} {o : Oper} {a : Act} (t : TypeId) (x y : Operand) (u : TypeId) (ho : o.op = .binOp .eql t x y u) (A B : Array Value) (v : Value) (hx : a.eval x = .agg A) (hy : a.eval y = .agg B) (hg : P.eqGuardType P.depth t = false)
    (h : ∀ w, (binOp .eql t (.agg A) (.agg B)).run P w = .ok v w) (w : World) : (execOp a.eval o).run P w = .ok (.value v) w := by
  simp [execOp, ho, hx, hy, h, eqGuard, hg]
theorem exec_neq {P : Program} {o : Oper} {a : Act} (t : TypeId) (x y : Operand) (u : TypeId) (ho : o.op = .binOp .neq t x y u) (A B : Array Value) (v : Value) (hx : a.eval x = .agg A) (hy : a.eval y = .agg B) (hg : P.eqGuardType P.depth t = false)
    (h : ∀ w, (binOp .neq t (.agg A) (.agg B)).run P w = .ok v w) (w : World) : (execOp a.eval o).run P w = .ok (.value v) w := by
  simp [execOp, ho, hx, hy, h, eqGuard, hg]
theorem gdL : Tryd.prog.eqGuardType Tryd.prog.depth 23 = false := by kernel_rfl
theorem gdA : Tryd.prog.eqGuardType Tryd.prog.depth 22 = false := by kernel_rfl
/-- two lines that are the same -/
theorem eqL (F G : Nat → Int) (hF : Byts 64 F) (hG : Byts 64 G) (h : ∀ i, i < 64 → F i = G i) (w : World) : (binOp .eql 23 (.agg (ints .u8 64 F).toArray) (.agg (ints .u8 64 G).toArray)).run Tryd.prog w = .ok (.bool true) w :=
  eql_ints 23 64 Tryd.underlying23 F G hF hG true ⟨fun _ => h, fun _ => rfl⟩ w
theorem neL (F G : Nat → Int) (hF : Byts 64 F) (hG : Byts 64 G) (h : ∀ i, i < 64 → F i = G i) (w : World) : (binOp .neq 23 (.agg (ints .u8 64 F).toArray) (.agg (ints .u8 64 G).toArray)).run Tryd.prog w = .ok (.bool false) w :=
  neq_ints 23 64 Tryd.underlying23 F G hF hG true ⟨fun _ => h, fun _ => rfl⟩ w
/-- all bits turned -/
theorem u64_not (m : Nat) (hm : m < 18446744073709551616) : bits .xor .u64 (if IntKind.u64.signed = true then -1 else IntKind.u64.max) (m : Int) = ((18446744073709551615 - m : Nat) : Int) := by
  have h := u64_xor_nat 18446744073709551615 m (by omega) hm
  rw [show (if IntKind.u64.signed = true then (-1 : Int) else IntKind.u64.max) = ((18446744073709551615 : Nat) : Int) from by decide, h]
  congr 1
  refine Nat.eq_of_testBit_eq fun i => ?_
  rw [Nat.testBit_xor, show 18446744073709551615 - m = 2 ^ 64 - (m + 1) from by omega, Nat.testBit_two_pow_sub_succ hm, show 18446744073709551615 = 2 ^ 64 - 1 from rfl, Nat.testBit_two_pow_sub_one]
  by_cases hi : i < 64
  · simp [hi]
  · have : m.testBit i = false := Nat.testBit_lt_two_pow (Nat.lt_of_lt_of_le hm (by rw [show 18446744073709551616 = 2 ^ 64 from rfl]; exact Nat.pow_le_pow_right (by omega) (by omega)))
    simp [hi, this]
/-- the bytes of an argument -/
theorem args_byts (n : Nat) (F : Nat → Int) (h : ∀ i, i < n → (Lit.int .u8 (F i)).wf = true) : Byts n F := fun i hi => by
  have := bounds_u8 (h i hi); omega

/-- while LineMerges holds what it was given against another: lines in B, B + 1, M -/
structure LmS (B M : Nat) (F G X : Nat → Int) (w W : World) : Prop where
  a : Bk .u8 W B 64 F
  b : Bk .u8 W (B + 1) 64 G
  c : Bk .u8 W M 64 X
  tab : TabW W
  below : Below B w W
theorem LmS.next {B M : Nat} {F G X : Nat → Int} {w W W' : World} (h : LmS B M F G X w W) (k : Below W.heap.size W W') : LmS B M F G X w W' :=
  ⟨h.a.next k, h.b.next k, h.c.next k, h.tab.below k h.tab.lt, h.below.trans (k.mono (Nat.le_of_lt h.a.lt))⟩
theorem LmS.drew {B M : Nat} {F G X : Nat → Int} {w W : World} (h : LmS B M F G X w W) : LmS B M F G X w W.drew := h.next (below_stay (Below.refl _ W) (Stay.drewN _ W 1) (Nat.le_refl _))

set_option maxRecDepth 100000 in
set_option maxHeartbeats 4000000 in
theorem lineMerges_core (F G : Nat → Int) (m : Nat) (hF : Byts 64 F) (hG : Byts 64 G) (hm : m < 18446744073709551616) (w : World) (hT : TabW w) :
    Calls Tryd.prog 3 #[.agg (ints .u8 64 F).toArray, .agg (ints .u8 64 G).toArray, .int .u64 (m : Int)] w fun e w' => e = .returned (.bool true) ∧ Below w.heap.size w w' := by
  have hX : Byts 64 (mrg F G m) := mrg_byts 64 F G m hF hG
  have hz := zeroL
  have cM : Hid (∀ W : World, TabW W → Calls Tryd.prog 8 #[.agg (ints .u8 64 F).toArray, .agg (ints .u8 64 G).toArray, .int .u64 (m : Int)] W fun e w' => e = .returned (.agg (ints .u8 64 (mrg F G m)).toArray) ∧ Below W.heap.size W w') := fun W h => merge_any F G m hm W h
  have cR : Hid (∀ W : World, Calls Tryd.prog 9 #[.agg (ints .u8 64 F).toArray, .agg (ints .u8 64 G).toArray, .int .u64 (m : Int)] W fun e w' => e = .returned (.agg (ints .u8 64 (mrg F G m)).toArray) ∧ Below W.heap.size W w') := fun W => refMerge_any F G m hm W
  have cN : Hid (∀ W : World, TabW W → Calls Tryd.prog 8 #[.agg (ints .u8 64 (mrg F G m)).toArray, .agg (ints .u8 64 G).toArray, .int .u64 ((18446744073709551615 - m : Nat) : Int)] W fun e w' => e = .returned (.agg (ints .u8 64 G).toArray) ∧ Below W.heap.size W w') := fun W h => by
    have := merge_any (mrg F G m) G (18446744073709551615 - m) (by omega) W h
    rw [ints_congr .u8 64 _ G (fun i hi => Ln.mrg_not F G m i hm hi)] at this
    exact this
  have cS : Hid (∀ W : World, TabW W → Calls Tryd.prog 8 #[.agg (ints .u8 64 (mrg F G m)).toArray, .agg (ints .u8 64 F).toArray, .int .u64 (m : Int)] W fun e w' => e = .returned (.agg (ints .u8 64 F).toArray) ∧ Below W.heap.size W w') := fun W h => by
    have := merge_any (mrg F G m) F m hm W h
    rw [ints_congr .u8 64 _ F (fun i _ => Ln.mrg_same F G m i)] at this
    exact this
  have cF : Hid (∀ W : World, Calls Tryd.prog 10 #[.int .u64 (m : Int)] W fun e w' => e = .returned (.bool ((m : Int) == 18446744073709551615)) ∧ w' = W) := fun W => full_any _ W
  have hnot := u64_not m hm
  have g23 := gdL
  have g22 := gdA
  have e22 : ∀ w, (binOp .eql 22 (.agg (ints .u8 64 (mrg F G m)).toArray) (.agg (ints .u8 64 (mrg F G m)).toArray)).run Tryd.prog w = .ok (.bool true) w := fun w => eql_ints 22 64 Tryd.underlying22 _ _ hX hX true ⟨fun _ _ _ => rfl, fun _ => rfl⟩ w
  have e1 := eqL G G hG hG (fun _ _ => rfl)
  have e0 := eqL F F hF hF (fun _ _ => rfl)
  obtain ⟨f, hf⟩ : ∃ f, ((m : Int) == 18446744073709551615) = f := ⟨_, rfl⟩
  obtain ⟨A0, hA0⟩ : ∃ A, ints .u8 64 F = A := ⟨_, rfl⟩
  obtain ⟨A1, hA1⟩ : ∃ A, ints .u8 64 G = A := ⟨_, rfl⟩
  obtain ⟨A2, hA2⟩ : ∃ A, ints .u8 64 (mrg F G m) = A := ⟨_, rfl⟩
  obtain ⟨Z, hZ⟩ : ∃ A, (ints .u8 64 fun _ => 0).toArray = A := ⟨_, rfl⟩
  have i0 : (Tryd.prog.info? 23).map (·.size) = some A0.length := by rw [← hA0, ints_len]; exact infoL
  have i1 : (Tryd.prog.info? 23).map (·.size) = some A1.length := by rw [← hA1, ints_len]; exact infoL
  have i2 : (Tryd.prog.info? 23).map (·.size) = some A2.length := by rw [← hA2, ints_len]; exact infoL
  have o2 : A2.toArray.all (·.oneCell') = true := by rw [← hA2]; exact ints_one .u8 64 _
  rw [hf] at cF
  rw [hZ] at hz
  rw [hA0, hA1, hA2] at cM cR
  rw [hA1, hA2] at cN
  rw [hA0, hA2] at cS
  rw [hA0] at e0
  rw [hA1] at e1
  rw [hA2] at e22
  rw [hA0, hA1]
  have HA : Hid (ints .u8 64 F = A0) := hA0
  have HB : Hid (ints .u8 64 G = A1) := hA1
  have HM : Hid (ints .u8 64 (mrg F G m) = A2) := hA2
  have HZ : Hid ((ints .u8 64 fun _ => 0).toArray = Z) := hZ
  have HT : Hid (TabW w) := hT
  have hT0 := hT.lt
  clear hA0 hA1 hA2 hZ hT hX
  go_enter Tryd.func3, Tryd.ntmps3
  go_upto_region 1 with (fail)
  obtain ⟨B, hB⟩ : ∃ B, w.heap.size = B := ⟨_, rfl⟩
  obtain ⟨V0, hV0⟩ : ∃ V, (w.alloc (.cells A0.toArray 23)).alloc (.cells A1.toArray 23) = V := ⟨_, rfl⟩
  have H0 : Hid (Bk .u8 V0 B 64 F ∧ Bk .u8 V0 (B + 1) 64 G ∧ Below B w V0) := by
    have h0 := Bk.new .u8 w 64 F 23
    have h1 := Bk.new .u8 (w.alloc (.cells A0.toArray 23)) 64 G 23
    simp only [World.size_alloc] at h1
    rw [HA.out] at h0
    rw [HB.out] at h1
    rw [← hB, ← hV0]
    exact ⟨h0.alloc _, h1, ((Below.refl _ w).alloc (Nat.le_refl _) _).alloc (by simp) _⟩
  rw [hV0, hB]
  clear hV0
  have hT1 : TabW V0 := HT.out.below H0.out.2.2 (by omega)
  go_upto_region 3 with (go_at_call 7; refine (anchor6_any _ hT1).mono ?_; rintro e V1 ⟨rfl, b1⟩)
  have H1 : Hid (Bk .u8 V1 B 64 F ∧ Bk .u8 V1 (B + 1) 64 G ∧ Below B w V1 ∧ TabW V1) := by
    obtain ⟨h1, h2, h3⟩ := H0.out
    exact ⟨h1.next b1, h2.next b1, h3.trans (b1.mono (Nat.le_of_lt h1.lt)), hT1.below b1 hT1.lt⟩
  clear H0 hT1 b1
  have r0 := H1.out.1.range
  have r1 := H1.out.2.1.range
  rw [HA.out] at r0
  rw [HB.out] at r1
  go_wp2_with (first | (refine wpList_load_mid rfl 23 _ rfl B 0 rfl A0 _ r0 Tryd.underlying23 rfl i0 ?_) | (refine wpList_load_mid rfl 23 _ rfl (B + 1) 0 rfl A1 _ r1 Tryd.underlying23 rfl i1 ?_) | fail)
  refine (cM.out _ H1.out.2.2.2).mono ?_
  rintro e V2 ⟨rfl, b2⟩
  simp only []
  have hb := Bk.new .u8 V2 64 (fun _ => 0) 23
  rw [HZ.out] at hb
  have ht := hb.there .u8 (mrg F G m)
  have hp := hb.put (mrg F G m)
  rw [HM.out] at ht hp
  have H2 : Hid (LmS B V2.heap.size F G (mrg F G m) w ((V2.alloc (.cells Z 23)).setCells V2.heap.size 0 A2)) := by
    obtain ⟨h1, h2, h3, h4⟩ := H1.out
    have n1 := h1.next b2
    have n2 := h2.next b2
    have n3 := h4.below b2 h4.lt
    have l1 := n1.lt
    have l2 := n2.lt
    refine ⟨(n1.alloc _).putOther (by omega) _ _, (n2.alloc _).putOther (by omega) _ _, hp, ?_, belows_put (by omega) _ _ ((h3.trans (b2.mono (Nat.le_of_lt h1.lt))).alloc (by omega) _)⟩
    exact n3.of ((heap_puts V2.heap.size A2 0 _ 0 (by omega)).trans (Below.heap_alloc V2 _ 0 (by omega)))
  clear hb hp H1 b2 r0 r1
  go_upto_region 4 with (refine wpList_store_mid rfl 23 _ _ rfl _ 0 A2.toArray rfl rfl ht i2 o2 ?_)
  obtain ⟨V3, hV3⟩ : ∃ V, (V2.alloc (.cells Z 23)).setCells V2.heap.size 0 A2 = V := ⟨_, rfl⟩
  obtain ⟨M, hM⟩ : ∃ b, V2.heap.size = b := ⟨_, rfl⟩
  rw [hV3, hM] at H2
  rw [hV3, hM]
  clear hV3 hM ht
  refine region_ends (by kernel_rfl) (fun w' => LmS B M F G (mrg F G m) w w') (fun a' w' => a' = ({ tmps := #[.agg A0.toArray, .agg A1.toArray, .int .u64 (m : Int), .pointer (some ⟨B, 0, none⟩), .pointer (some ⟨B + 1, 0, none⟩), undef, .bool true, .pointer (some ⟨M, 0, none⟩), .bool true, .bool false, .agg A0.toArray, .agg A1.toArray, .int .u64 (m : Int), .agg A2.toArray, .agg A2.toArray, .agg A0.toArray, .agg A1.toArray, .int .u64 (m : Int), .agg A2.toArray, .bool true, .bool true, .agg A2.toArray, .agg A1.toArray, .int .u64 (m : Int), .int .u64 ((18446744073709551615 - m : Nat) : Int), .agg A1.toArray, .agg A1.toArray, .bool true, .bool true, .bool true, .agg A2.toArray, .agg A0.toArray, .int .u64 (m : Int), .agg A0.toArray, .agg A0.toArray, .bool true, .bool true, .bool true, .int .u64 (m : Int), .bool f, .int .u64 (m : Int), .bool f, .bool true, .bool true], defers := [] } : Act) ∧ Below B w w') H2.out.drew (fun hH => ?_) ?_
  · skip
    refine take_if 0 (v := .agg A2.toArray) rfl (by kernel_rfl) (yieldsIf_load_mid (by rfl) _ _ rfl M 0 rfl A2 _ (fun w' hw => by rw [← HM.out]; exact hw.c.range) Tryd.underlying23 rfl i2) hH ?_
    show wpAnyH _ _ _ _ _ _ _ ({ tmps := #[.agg A0.toArray, .agg A1.toArray, .int .u64 (m : Int), .pointer (some ⟨B, 0, none⟩), .pointer (some ⟨B + 1, 0, none⟩), undef, .bool false, .pointer (some ⟨M, 0, none⟩), .bool true, .bool false, .agg A0.toArray, .agg A1.toArray, .int .u64 (m : Int), .agg A2.toArray, .agg A2.toArray, undef, undef, undef, undef, undef, undef, undef, undef, undef, undef, undef, undef, undef, undef, undef, undef, undef, undef, undef, undef, undef, undef, undef, undef, undef, undef, undef, undef, undef], defers := [] } : Act) _
    refine take_if 1 (v := .agg A0.toArray) rfl (by kernel_rfl) (yieldsIf_load_mid (by rfl) _ _ rfl B 0 rfl A0 _ (fun w' hw => by rw [← HA.out]; exact hw.a.range) Tryd.underlying23 rfl i0) hH ?_
    show wpAnyH _ _ _ _ _ _ _ ({ tmps := #[.agg A0.toArray, .agg A1.toArray, .int .u64 (m : Int), .pointer (some ⟨B, 0, none⟩), .pointer (some ⟨B + 1, 0, none⟩), undef, .bool false, .pointer (some ⟨M, 0, none⟩), .bool true, .bool false, .agg A0.toArray, .agg A1.toArray, .int .u64 (m : Int), .agg A2.toArray, .agg A2.toArray, .agg A0.toArray, undef, undef, undef, undef, undef, undef, undef, undef, undef, undef, undef, undef, undef, undef, undef, undef, undef, undef, undef, undef, undef, undef, undef, undef, undef, undef, undef, undef], defers := [] } : Act) _
    refine take_if 2 (v := .agg A1.toArray) rfl (by kernel_rfl) (yieldsIf_load_mid (by rfl) _ _ rfl (B + 1) 0 rfl A1 _ (fun w' hw => by rw [← HB.out]; exact hw.b.range) Tryd.underlying23 rfl i1) hH ?_
    show wpAnyH _ _ _ _ _ _ _ ({ tmps := #[.agg A0.toArray, .agg A1.toArray, .int .u64 (m : Int), .pointer (some ⟨B, 0, none⟩), .pointer (some ⟨B + 1, 0, none⟩), undef, .bool false, .pointer (some ⟨M, 0, none⟩), .bool true, .bool false, .agg A0.toArray, .agg A1.toArray, .int .u64 (m : Int), .agg A2.toArray, .agg A2.toArray, .agg A0.toArray, .agg A1.toArray, undef, undef, undef, undef, undef, undef, undef, undef, undef, undef, undef, undef, undef, undef, undef, undef, undef, undef, undef, undef, undef, undef, undef, undef, undef, undef, undef], defers := [] } : Act) _
    refine take_pure 3 (v := .int .u64 (m : Int)) rfl (by kernel_rfl) rfl (fun w' hw => by simp [execOp, go_sem]) hH ?_
    show wpAnyH _ _ _ _ _ _ _ ({ tmps := #[.agg A0.toArray, .agg A1.toArray, .int .u64 (m : Int), .pointer (some ⟨B, 0, none⟩), .pointer (some ⟨B + 1, 0, none⟩), undef, .bool false, .pointer (some ⟨M, 0, none⟩), .bool true, .bool false, .agg A0.toArray, .agg A1.toArray, .int .u64 (m : Int), .agg A2.toArray, .agg A2.toArray, .agg A0.toArray, .agg A1.toArray, .int .u64 (m : Int), undef, undef, undef, undef, undef, undef, undef, undef, undef, undef, undef, undef, undef, undef, undef, undef, undef, undef, undef, undef, undef, undef, undef, undef, undef, undef], defers := [] } : Act) _
    refine take_one 4 rfl rfl (by kernel_rfl) ?_
    refine wp_contract 9 [.tmp 15, .tmp 16, .tmp 17] _ rfl (enters_of Tryd.func9 (by kernel_rfl) rfl) [.agg A0.toArray, .agg A1.toArray, .int .u64 (m : Int)] rfl (cR.out _) ?_
    rintro e W' ⟨rfl, hB1⟩
    refine ⟨_, rfl, hH.next hB1, fun hH => ?_⟩
    show wpAnyH _ _ _ _ _ _ _ ({ tmps := #[.agg A0.toArray, .agg A1.toArray, .int .u64 (m : Int), .pointer (some ⟨B, 0, none⟩), .pointer (some ⟨B + 1, 0, none⟩), undef, .bool false, .pointer (some ⟨M, 0, none⟩), .bool true, .bool false, .agg A0.toArray, .agg A1.toArray, .int .u64 (m : Int), .agg A2.toArray, .agg A2.toArray, .agg A0.toArray, .agg A1.toArray, .int .u64 (m : Int), .agg A2.toArray, undef, undef, undef, undef, undef, undef, undef, undef, undef, undef, undef, undef, undef, undef, undef, undef, undef, undef, undef, undef, undef, undef, undef, undef, undef], defers := [] } : Act) _
    refine take_pure 5 (v := .bool true) rfl (by kernel_rfl) rfl (fun w' hw => exec_eql _ _ _ _ rfl _ _ _ rfl rfl g22 e22 w') hH ?_
    show wpAnyH _ _ _ _ _ _ _ ({ tmps := #[.agg A0.toArray, .agg A1.toArray, .int .u64 (m : Int), .pointer (some ⟨B, 0, none⟩), .pointer (some ⟨B + 1, 0, none⟩), undef, .bool false, .pointer (some ⟨M, 0, none⟩), .bool true, .bool false, .agg A0.toArray, .agg A1.toArray, .int .u64 (m : Int), .agg A2.toArray, .agg A2.toArray, .agg A0.toArray, .agg A1.toArray, .int .u64 (m : Int), .agg A2.toArray, .bool true, undef, undef, undef, undef, undef, undef, undef, undef, undef, undef, undef, undef, undef, undef, undef, undef, undef, undef, undef, undef, undef, undef, undef, undef], defers := [] } : Act) _
    refine take_pure 6 (v := .bool true) rfl (by kernel_rfl) rfl (fun w' hw => by simp [execOp, go_sem]) hH ?_
    show wpAnyH _ _ _ _ _ _ _ ({ tmps := #[.agg A0.toArray, .agg A1.toArray, .int .u64 (m : Int), .pointer (some ⟨B, 0, none⟩), .pointer (some ⟨B + 1, 0, none⟩), undef, .bool false, .pointer (some ⟨M, 0, none⟩), .bool true, .bool false, .agg A0.toArray, .agg A1.toArray, .int .u64 (m : Int), .agg A2.toArray, .agg A2.toArray, .agg A0.toArray, .agg A1.toArray, .int .u64 (m : Int), .agg A2.toArray, .bool true, .bool true, undef, undef, undef, undef, undef, undef, undef, undef, undef, undef, undef, undef, undef, undef, undef, undef, undef, undef, undef, undef, undef, undef, undef], defers := [] } : Act) _
    refine take_if 7 (v := .agg A2.toArray) rfl (by kernel_rfl) (yieldsIf_load_mid (by rfl) _ _ rfl M 0 rfl A2 _ (fun w' hw => by rw [← HM.out]; exact hw.c.range) Tryd.underlying23 rfl i2) hH ?_
    show wpAnyH _ _ _ _ _ _ _ ({ tmps := #[.agg A0.toArray, .agg A1.toArray, .int .u64 (m : Int), .pointer (some ⟨B, 0, none⟩), .pointer (some ⟨B + 1, 0, none⟩), undef, .bool false, .pointer (some ⟨M, 0, none⟩), .bool true, .bool false, .agg A0.toArray, .agg A1.toArray, .int .u64 (m : Int), .agg A2.toArray, .agg A2.toArray, .agg A0.toArray, .agg A1.toArray, .int .u64 (m : Int), .agg A2.toArray, .bool true, .bool true, .agg A2.toArray, undef, undef, undef, undef, undef, undef, undef, undef, undef, undef, undef, undef, undef, undef, undef, undef, undef, undef, undef, undef, undef, undef], defers := [] } : Act) _
    refine take_if 8 (v := .agg A1.toArray) rfl (by kernel_rfl) (yieldsIf_load_mid (by rfl) _ _ rfl (B + 1) 0 rfl A1 _ (fun w' hw => by rw [← HB.out]; exact hw.b.range) Tryd.underlying23 rfl i1) hH ?_
    show wpAnyH _ _ _ _ _ _ _ ({ tmps := #[.agg A0.toArray, .agg A1.toArray, .int .u64 (m : Int), .pointer (some ⟨B, 0, none⟩), .pointer (some ⟨B + 1, 0, none⟩), undef, .bool false, .pointer (some ⟨M, 0, none⟩), .bool true, .bool false, .agg A0.toArray, .agg A1.toArray, .int .u64 (m : Int), .agg A2.toArray, .agg A2.toArray, .agg A0.toArray, .agg A1.toArray, .int .u64 (m : Int), .agg A2.toArray, .bool true, .bool true, .agg A2.toArray, .agg A1.toArray, undef, undef, undef, undef, undef, undef, undef, undef, undef, undef, undef, undef, undef, undef, undef, undef, undef, undef, undef, undef, undef], defers := [] } : Act) _
    refine take_if 9 (v := .int .u64 (m : Int)) rfl (by kernel_rfl) (.inl ⟨by rfl, fun w' hw => by simp [execOp, go_sem]⟩) hH ?_
    show wpAnyH _ _ _ _ _ _ _ ({ tmps := #[.agg A0.toArray, .agg A1.toArray, .int .u64 (m : Int), .pointer (some ⟨B, 0, none⟩), .pointer (some ⟨B + 1, 0, none⟩), undef, .bool false, .pointer (some ⟨M, 0, none⟩), .bool true, .bool false, .agg A0.toArray, .agg A1.toArray, .int .u64 (m : Int), .agg A2.toArray, .agg A2.toArray, .agg A0.toArray, .agg A1.toArray, .int .u64 (m : Int), .agg A2.toArray, .bool true, .bool true, .agg A2.toArray, .agg A1.toArray, .int .u64 (m : Int), undef, undef, undef, undef, undef, undef, undef, undef, undef, undef, undef, undef, undef, undef, undef, undef, undef, undef, undef, undef], defers := [] } : Act) _
    refine take_if 10 (v := .int .u64 ((18446744073709551615 - m : Nat) : Int)) rfl (by kernel_rfl) (.inl ⟨by rfl, fun w' hw => by simp [execOp, go_sem, hnot]⟩) hH ?_
    show wpAnyH _ _ _ _ _ _ _ ({ tmps := #[.agg A0.toArray, .agg A1.toArray, .int .u64 (m : Int), .pointer (some ⟨B, 0, none⟩), .pointer (some ⟨B + 1, 0, none⟩), undef, .bool false, .pointer (some ⟨M, 0, none⟩), .bool true, .bool false, .agg A0.toArray, .agg A1.toArray, .int .u64 (m : Int), .agg A2.toArray, .agg A2.toArray, .agg A0.toArray, .agg A1.toArray, .int .u64 (m : Int), .agg A2.toArray, .bool true, .bool true, .agg A2.toArray, .agg A1.toArray, .int .u64 (m : Int), .int .u64 ((18446744073709551615 - m : Nat) : Int), undef, undef, undef, undef, undef, undef, undef, undef, undef, undef, undef, undef, undef, undef, undef, undef, undef, undef, undef], defers := [] } : Act) _
    refine take_if 12 (v := .agg A1.toArray) rfl (by kernel_rfl) (yieldsIf_load_mid (by rfl) _ _ rfl (B + 1) 0 rfl A1 _ (fun w' hw => by rw [← HB.out]; exact hw.b.range) Tryd.underlying23 rfl i1) hH ?_
    show wpAnyH _ _ _ _ _ _ _ ({ tmps := #[.agg A0.toArray, .agg A1.toArray, .int .u64 (m : Int), .pointer (some ⟨B, 0, none⟩), .pointer (some ⟨B + 1, 0, none⟩), undef, .bool false, .pointer (some ⟨M, 0, none⟩), .bool true, .bool false, .agg A0.toArray, .agg A1.toArray, .int .u64 (m : Int), .agg A2.toArray, .agg A2.toArray, .agg A0.toArray, .agg A1.toArray, .int .u64 (m : Int), .agg A2.toArray, .bool true, .bool true, .agg A2.toArray, .agg A1.toArray, .int .u64 (m : Int), .int .u64 ((18446744073709551615 - m : Nat) : Int), undef, .agg A1.toArray, undef, undef, undef, undef, undef, undef, undef, undef, undef, undef, undef, undef, undef, undef, undef, undef, undef], defers := [] } : Act) _
    refine take_oneG 11 rfl (by rfl) (by kernel_rfl) ?_
    refine wp_contract 8 [.tmp 21, .tmp 22, .tmp 24] _ rfl (enters_of Tryd.func8 (by kernel_rfl) rfl) [.agg A2.toArray, .agg A1.toArray, .int .u64 ((18446744073709551615 - m : Nat) : Int)] rfl (cN.out _ hH.tab) ?_
    rintro e W' ⟨rfl, hB1⟩
    refine ⟨_, rfl, hH.next hB1, fun hH => ?_⟩
    show wpAnyH _ _ _ _ _ _ _ ({ tmps := #[.agg A0.toArray, .agg A1.toArray, .int .u64 (m : Int), .pointer (some ⟨B, 0, none⟩), .pointer (some ⟨B + 1, 0, none⟩), undef, .bool false, .pointer (some ⟨M, 0, none⟩), .bool true, .bool false, .agg A0.toArray, .agg A1.toArray, .int .u64 (m : Int), .agg A2.toArray, .agg A2.toArray, .agg A0.toArray, .agg A1.toArray, .int .u64 (m : Int), .agg A2.toArray, .bool true, .bool true, .agg A2.toArray, .agg A1.toArray, .int .u64 (m : Int), .int .u64 ((18446744073709551615 - m : Nat) : Int), .agg A1.toArray, .agg A1.toArray, undef, undef, undef, undef, undef, undef, undef, undef, undef, undef, undef, undef, undef, undef, undef, undef, undef], defers := [] } : Act) _
    refine take_if 13 (v := .bool true) rfl (by kernel_rfl) (.inl ⟨by rfl, fun w' hw => exec_eql _ _ _ _ rfl _ _ _ rfl rfl g23 e1 w'⟩) hH ?_
    show wpAnyH _ _ _ _ _ _ _ ({ tmps := #[.agg A0.toArray, .agg A1.toArray, .int .u64 (m : Int), .pointer (some ⟨B, 0, none⟩), .pointer (some ⟨B + 1, 0, none⟩), undef, .bool false, .pointer (some ⟨M, 0, none⟩), .bool true, .bool false, .agg A0.toArray, .agg A1.toArray, .int .u64 (m : Int), .agg A2.toArray, .agg A2.toArray, .agg A0.toArray, .agg A1.toArray, .int .u64 (m : Int), .agg A2.toArray, .bool true, .bool true, .agg A2.toArray, .agg A1.toArray, .int .u64 (m : Int), .int .u64 ((18446744073709551615 - m : Nat) : Int), .agg A1.toArray, .agg A1.toArray, .bool true, undef, undef, undef, undef, undef, undef, undef, undef, undef, undef, undef, undef, undef, undef, undef, undef], defers := [] } : Act) _
    refine take_pure 14 (v := .bool true) rfl (by kernel_rfl) rfl (fun w' hw => by simp [execOp, go_sem]) hH ?_
    show wpAnyH _ _ _ _ _ _ _ ({ tmps := #[.agg A0.toArray, .agg A1.toArray, .int .u64 (m : Int), .pointer (some ⟨B, 0, none⟩), .pointer (some ⟨B + 1, 0, none⟩), undef, .bool false, .pointer (some ⟨M, 0, none⟩), .bool true, .bool false, .agg A0.toArray, .agg A1.toArray, .int .u64 (m : Int), .agg A2.toArray, .agg A2.toArray, .agg A0.toArray, .agg A1.toArray, .int .u64 (m : Int), .agg A2.toArray, .bool true, .bool true, .agg A2.toArray, .agg A1.toArray, .int .u64 (m : Int), .int .u64 ((18446744073709551615 - m : Nat) : Int), .agg A1.toArray, .agg A1.toArray, .bool true, .bool true, undef, undef, undef, undef, undef, undef, undef, undef, undef, undef, undef, undef, undef, undef, undef], defers := [] } : Act) _
    refine take_pure 15 (v := .bool true) rfl (by kernel_rfl) rfl (fun w' hw => by simp [execOp, go_sem]) hH ?_
    show wpAnyH _ _ _ _ _ _ _ ({ tmps := #[.agg A0.toArray, .agg A1.toArray, .int .u64 (m : Int), .pointer (some ⟨B, 0, none⟩), .pointer (some ⟨B + 1, 0, none⟩), undef, .bool false, .pointer (some ⟨M, 0, none⟩), .bool true, .bool false, .agg A0.toArray, .agg A1.toArray, .int .u64 (m : Int), .agg A2.toArray, .agg A2.toArray, .agg A0.toArray, .agg A1.toArray, .int .u64 (m : Int), .agg A2.toArray, .bool true, .bool true, .agg A2.toArray, .agg A1.toArray, .int .u64 (m : Int), .int .u64 ((18446744073709551615 - m : Nat) : Int), .agg A1.toArray, .agg A1.toArray, .bool true, .bool true, .bool true, undef, undef, undef, undef, undef, undef, undef, undef, undef, undef, undef, undef, undef, undef], defers := [] } : Act) _
    refine take_if 16 (v := .agg A2.toArray) rfl (by kernel_rfl) (yieldsIf_load_mid (by rfl) _ _ rfl M 0 rfl A2 _ (fun w' hw => by rw [← HM.out]; exact hw.c.range) Tryd.underlying23 rfl i2) hH ?_
    show wpAnyH _ _ _ _ _ _ _ ({ tmps := #[.agg A0.toArray, .agg A1.toArray, .int .u64 (m : Int), .pointer (some ⟨B, 0, none⟩), .pointer (some ⟨B + 1, 0, none⟩), undef, .bool false, .pointer (some ⟨M, 0, none⟩), .bool true, .bool false, .agg A0.toArray, .agg A1.toArray, .int .u64 (m : Int), .agg A2.toArray, .agg A2.toArray, .agg A0.toArray, .agg A1.toArray, .int .u64 (m : Int), .agg A2.toArray, .bool true, .bool true, .agg A2.toArray, .agg A1.toArray, .int .u64 (m : Int), .int .u64 ((18446744073709551615 - m : Nat) : Int), .agg A1.toArray, .agg A1.toArray, .bool true, .bool true, .bool true, .agg A2.toArray, undef, undef, undef, undef, undef, undef, undef, undef, undef, undef, undef, undef, undef], defers := [] } : Act) _
    refine take_if 17 (v := .agg A0.toArray) rfl (by kernel_rfl) (yieldsIf_load_mid (by rfl) _ _ rfl B 0 rfl A0 _ (fun w' hw => by rw [← HA.out]; exact hw.a.range) Tryd.underlying23 rfl i0) hH ?_
    show wpAnyH _ _ _ _ _ _ _ ({ tmps := #[.agg A0.toArray, .agg A1.toArray, .int .u64 (m : Int), .pointer (some ⟨B, 0, none⟩), .pointer (some ⟨B + 1, 0, none⟩), undef, .bool false, .pointer (some ⟨M, 0, none⟩), .bool true, .bool false, .agg A0.toArray, .agg A1.toArray, .int .u64 (m : Int), .agg A2.toArray, .agg A2.toArray, .agg A0.toArray, .agg A1.toArray, .int .u64 (m : Int), .agg A2.toArray, .bool true, .bool true, .agg A2.toArray, .agg A1.toArray, .int .u64 (m : Int), .int .u64 ((18446744073709551615 - m : Nat) : Int), .agg A1.toArray, .agg A1.toArray, .bool true, .bool true, .bool true, .agg A2.toArray, .agg A0.toArray, undef, undef, undef, undef, undef, undef, undef, undef, undef, undef, undef, undef], defers := [] } : Act) _
    refine take_if 18 (v := .int .u64 (m : Int)) rfl (by kernel_rfl) (.inl ⟨by rfl, fun w' hw => by simp [execOp, go_sem]⟩) hH ?_
    show wpAnyH _ _ _ _ _ _ _ ({ tmps := #[.agg A0.toArray, .agg A1.toArray, .int .u64 (m : Int), .pointer (some ⟨B, 0, none⟩), .pointer (some ⟨B + 1, 0, none⟩), undef, .bool false, .pointer (some ⟨M, 0, none⟩), .bool true, .bool false, .agg A0.toArray, .agg A1.toArray, .int .u64 (m : Int), .agg A2.toArray, .agg A2.toArray, .agg A0.toArray, .agg A1.toArray, .int .u64 (m : Int), .agg A2.toArray, .bool true, .bool true, .agg A2.toArray, .agg A1.toArray, .int .u64 (m : Int), .int .u64 ((18446744073709551615 - m : Nat) : Int), .agg A1.toArray, .agg A1.toArray, .bool true, .bool true, .bool true, .agg A2.toArray, .agg A0.toArray, .int .u64 (m : Int), undef, undef, undef, undef, undef, undef, undef, undef, undef, undef, undef], defers := [] } : Act) _
    refine take_if 20 (v := .agg A0.toArray) rfl (by kernel_rfl) (yieldsIf_load_mid (by rfl) _ _ rfl B 0 rfl A0 _ (fun w' hw => by rw [← HA.out]; exact hw.a.range) Tryd.underlying23 rfl i0) hH ?_
    show wpAnyH _ _ _ _ _ _ _ ({ tmps := #[.agg A0.toArray, .agg A1.toArray, .int .u64 (m : Int), .pointer (some ⟨B, 0, none⟩), .pointer (some ⟨B + 1, 0, none⟩), undef, .bool false, .pointer (some ⟨M, 0, none⟩), .bool true, .bool false, .agg A0.toArray, .agg A1.toArray, .int .u64 (m : Int), .agg A2.toArray, .agg A2.toArray, .agg A0.toArray, .agg A1.toArray, .int .u64 (m : Int), .agg A2.toArray, .bool true, .bool true, .agg A2.toArray, .agg A1.toArray, .int .u64 (m : Int), .int .u64 ((18446744073709551615 - m : Nat) : Int), .agg A1.toArray, .agg A1.toArray, .bool true, .bool true, .bool true, .agg A2.toArray, .agg A0.toArray, .int .u64 (m : Int), undef, .agg A0.toArray, undef, undef, undef, undef, undef, undef, undef, undef, undef], defers := [] } : Act) _
    refine take_oneG 19 rfl (by rfl) (by kernel_rfl) ?_
    refine wp_contract 8 [.tmp 30, .tmp 31, .tmp 32] _ rfl (enters_of Tryd.func8 (by kernel_rfl) rfl) [.agg A2.toArray, .agg A0.toArray, .int .u64 (m : Int)] rfl (cS.out _ hH.tab) ?_
    rintro e W' ⟨rfl, hB1⟩
    refine ⟨_, rfl, hH.next hB1, fun hH => ?_⟩
    show wpAnyH _ _ _ _ _ _ _ ({ tmps := #[.agg A0.toArray, .agg A1.toArray, .int .u64 (m : Int), .pointer (some ⟨B, 0, none⟩), .pointer (some ⟨B + 1, 0, none⟩), undef, .bool false, .pointer (some ⟨M, 0, none⟩), .bool true, .bool false, .agg A0.toArray, .agg A1.toArray, .int .u64 (m : Int), .agg A2.toArray, .agg A2.toArray, .agg A0.toArray, .agg A1.toArray, .int .u64 (m : Int), .agg A2.toArray, .bool true, .bool true, .agg A2.toArray, .agg A1.toArray, .int .u64 (m : Int), .int .u64 ((18446744073709551615 - m : Nat) : Int), .agg A1.toArray, .agg A1.toArray, .bool true, .bool true, .bool true, .agg A2.toArray, .agg A0.toArray, .int .u64 (m : Int), .agg A0.toArray, .agg A0.toArray, undef, undef, undef, undef, undef, undef, undef, undef, undef], defers := [] } : Act) _
    refine take_if 21 (v := .bool true) rfl (by kernel_rfl) (.inl ⟨by rfl, fun w' hw => exec_eql _ _ _ _ rfl _ _ _ rfl rfl g23 e0 w'⟩) hH ?_
    show wpAnyH _ _ _ _ _ _ _ ({ tmps := #[.agg A0.toArray, .agg A1.toArray, .int .u64 (m : Int), .pointer (some ⟨B, 0, none⟩), .pointer (some ⟨B + 1, 0, none⟩), undef, .bool false, .pointer (some ⟨M, 0, none⟩), .bool true, .bool false, .agg A0.toArray, .agg A1.toArray, .int .u64 (m : Int), .agg A2.toArray, .agg A2.toArray, .agg A0.toArray, .agg A1.toArray, .int .u64 (m : Int), .agg A2.toArray, .bool true, .bool true, .agg A2.toArray, .agg A1.toArray, .int .u64 (m : Int), .int .u64 ((18446744073709551615 - m : Nat) : Int), .agg A1.toArray, .agg A1.toArray, .bool true, .bool true, .bool true, .agg A2.toArray, .agg A0.toArray, .int .u64 (m : Int), .agg A0.toArray, .agg A0.toArray, .bool true, undef, undef, undef, undef, undef, undef, undef, undef], defers := [] } : Act) _
    refine take_pure 22 (v := .bool true) rfl (by kernel_rfl) rfl (fun w' hw => by simp [execOp, go_sem]) hH ?_
    show wpAnyH _ _ _ _ _ _ _ ({ tmps := #[.agg A0.toArray, .agg A1.toArray, .int .u64 (m : Int), .pointer (some ⟨B, 0, none⟩), .pointer (some ⟨B + 1, 0, none⟩), undef, .bool false, .pointer (some ⟨M, 0, none⟩), .bool true, .bool false, .agg A0.toArray, .agg A1.toArray, .int .u64 (m : Int), .agg A2.toArray, .agg A2.toArray, .agg A0.toArray, .agg A1.toArray, .int .u64 (m : Int), .agg A2.toArray, .bool true, .bool true, .agg A2.toArray, .agg A1.toArray, .int .u64 (m : Int), .int .u64 ((18446744073709551615 - m : Nat) : Int), .agg A1.toArray, .agg A1.toArray, .bool true, .bool true, .bool true, .agg A2.toArray, .agg A0.toArray, .int .u64 (m : Int), .agg A0.toArray, .agg A0.toArray, .bool true, .bool true, undef, undef, undef, undef, undef, undef, undef], defers := [] } : Act) _
    refine take_pure 23 (v := .bool true) rfl (by kernel_rfl) rfl (fun w' hw => by simp [execOp, go_sem]) hH ?_
    show wpAnyH _ _ _ _ _ _ _ ({ tmps := #[.agg A0.toArray, .agg A1.toArray, .int .u64 (m : Int), .pointer (some ⟨B, 0, none⟩), .pointer (some ⟨B + 1, 0, none⟩), undef, .bool false, .pointer (some ⟨M, 0, none⟩), .bool true, .bool false, .agg A0.toArray, .agg A1.toArray, .int .u64 (m : Int), .agg A2.toArray, .agg A2.toArray, .agg A0.toArray, .agg A1.toArray, .int .u64 (m : Int), .agg A2.toArray, .bool true, .bool true, .agg A2.toArray, .agg A1.toArray, .int .u64 (m : Int), .int .u64 ((18446744073709551615 - m : Nat) : Int), .agg A1.toArray, .agg A1.toArray, .bool true, .bool true, .bool true, .agg A2.toArray, .agg A0.toArray, .int .u64 (m : Int), .agg A0.toArray, .agg A0.toArray, .bool true, .bool true, .bool true, undef, undef, undef, undef, undef, undef], defers := [] } : Act) _
    refine take_if 24 (v := .int .u64 (m : Int)) rfl (by kernel_rfl) (.inl ⟨by rfl, fun w' hw => by simp [execOp, go_sem]⟩) hH ?_
    show wpAnyH _ _ _ _ _ _ _ ({ tmps := #[.agg A0.toArray, .agg A1.toArray, .int .u64 (m : Int), .pointer (some ⟨B, 0, none⟩), .pointer (some ⟨B + 1, 0, none⟩), undef, .bool false, .pointer (some ⟨M, 0, none⟩), .bool true, .bool false, .agg A0.toArray, .agg A1.toArray, .int .u64 (m : Int), .agg A2.toArray, .agg A2.toArray, .agg A0.toArray, .agg A1.toArray, .int .u64 (m : Int), .agg A2.toArray, .bool true, .bool true, .agg A2.toArray, .agg A1.toArray, .int .u64 (m : Int), .int .u64 ((18446744073709551615 - m : Nat) : Int), .agg A1.toArray, .agg A1.toArray, .bool true, .bool true, .bool true, .agg A2.toArray, .agg A0.toArray, .int .u64 (m : Int), .agg A0.toArray, .agg A0.toArray, .bool true, .bool true, .bool true, .int .u64 (m : Int), undef, undef, undef, undef, undef], defers := [] } : Act) _
    refine take_if 26 (v := .int .u64 (m : Int)) rfl (by kernel_rfl) (.inl ⟨by rfl, fun w' hw => by simp [execOp, go_sem]⟩) hH ?_
    show wpAnyH _ _ _ _ _ _ _ ({ tmps := #[.agg A0.toArray, .agg A1.toArray, .int .u64 (m : Int), .pointer (some ⟨B, 0, none⟩), .pointer (some ⟨B + 1, 0, none⟩), undef, .bool false, .pointer (some ⟨M, 0, none⟩), .bool true, .bool false, .agg A0.toArray, .agg A1.toArray, .int .u64 (m : Int), .agg A2.toArray, .agg A2.toArray, .agg A0.toArray, .agg A1.toArray, .int .u64 (m : Int), .agg A2.toArray, .bool true, .bool true, .agg A2.toArray, .agg A1.toArray, .int .u64 (m : Int), .int .u64 ((18446744073709551615 - m : Nat) : Int), .agg A1.toArray, .agg A1.toArray, .bool true, .bool true, .bool true, .agg A2.toArray, .agg A0.toArray, .int .u64 (m : Int), .agg A0.toArray, .agg A0.toArray, .bool true, .bool true, .bool true, .int .u64 (m : Int), undef, .int .u64 (m : Int), undef, undef, undef], defers := [] } : Act) _
    refine take_if 27 (v := .bool f) rfl (by kernel_rfl) (.inl ⟨by rfl, fun w' hw => by simp [execOp, go_sem, hf]⟩) hH ?_
    show wpAnyH _ _ _ _ _ _ _ ({ tmps := #[.agg A0.toArray, .agg A1.toArray, .int .u64 (m : Int), .pointer (some ⟨B, 0, none⟩), .pointer (some ⟨B + 1, 0, none⟩), undef, .bool false, .pointer (some ⟨M, 0, none⟩), .bool true, .bool false, .agg A0.toArray, .agg A1.toArray, .int .u64 (m : Int), .agg A2.toArray, .agg A2.toArray, .agg A0.toArray, .agg A1.toArray, .int .u64 (m : Int), .agg A2.toArray, .bool true, .bool true, .agg A2.toArray, .agg A1.toArray, .int .u64 (m : Int), .int .u64 ((18446744073709551615 - m : Nat) : Int), .agg A1.toArray, .agg A1.toArray, .bool true, .bool true, .bool true, .agg A2.toArray, .agg A0.toArray, .int .u64 (m : Int), .agg A0.toArray, .agg A0.toArray, .bool true, .bool true, .bool true, .int .u64 (m : Int), undef, .int .u64 (m : Int), .bool f, undef, undef], defers := [] } : Act) _
    refine take_oneG 25 rfl (by rfl) (by kernel_rfl) ?_
    refine wp_contract 10 [.tmp 38] _ rfl (enters_of Tryd.func10 (by kernel_rfl) rfl) [.int .u64 (m : Int)] rfl (cF.out _) ?_
    rintro e W' ⟨rfl, rfl⟩
    refine ⟨_, rfl, hH, fun hH => ?_⟩
    show wpAnyH _ _ _ _ _ _ _ ({ tmps := #[.agg A0.toArray, .agg A1.toArray, .int .u64 (m : Int), .pointer (some ⟨B, 0, none⟩), .pointer (some ⟨B + 1, 0, none⟩), undef, .bool false, .pointer (some ⟨M, 0, none⟩), .bool true, .bool false, .agg A0.toArray, .agg A1.toArray, .int .u64 (m : Int), .agg A2.toArray, .agg A2.toArray, .agg A0.toArray, .agg A1.toArray, .int .u64 (m : Int), .agg A2.toArray, .bool true, .bool true, .agg A2.toArray, .agg A1.toArray, .int .u64 (m : Int), .int .u64 ((18446744073709551615 - m : Nat) : Int), .agg A1.toArray, .agg A1.toArray, .bool true, .bool true, .bool true, .agg A2.toArray, .agg A0.toArray, .int .u64 (m : Int), .agg A0.toArray, .agg A0.toArray, .bool true, .bool true, .bool true, .int .u64 (m : Int), .bool f, .int .u64 (m : Int), .bool f, undef, undef], defers := [] } : Act) _
    refine take_if 28 (v := .bool true) rfl (by kernel_rfl) (.inl ⟨by rfl, fun w' hw => by simp [execOp, go_sem]⟩) hH ?_
    show wpAnyH _ _ _ _ _ _ _ ({ tmps := #[.agg A0.toArray, .agg A1.toArray, .int .u64 (m : Int), .pointer (some ⟨B, 0, none⟩), .pointer (some ⟨B + 1, 0, none⟩), undef, .bool false, .pointer (some ⟨M, 0, none⟩), .bool true, .bool false, .agg A0.toArray, .agg A1.toArray, .int .u64 (m : Int), .agg A2.toArray, .agg A2.toArray, .agg A0.toArray, .agg A1.toArray, .int .u64 (m : Int), .agg A2.toArray, .bool true, .bool true, .agg A2.toArray, .agg A1.toArray, .int .u64 (m : Int), .int .u64 ((18446744073709551615 - m : Nat) : Int), .agg A1.toArray, .agg A1.toArray, .bool true, .bool true, .bool true, .agg A2.toArray, .agg A0.toArray, .int .u64 (m : Int), .agg A0.toArray, .agg A0.toArray, .bool true, .bool true, .bool true, .int .u64 (m : Int), .bool f, .int .u64 (m : Int), .bool f, .bool true, undef], defers := [] } : Act) _
    refine take_pure 29 (v := .bool true) rfl (by kernel_rfl) rfl (fun w' hw => by simp [execOp, go_sem]) hH ?_
    show wpAnyH _ _ _ _ _ _ _ ({ tmps := #[.agg A0.toArray, .agg A1.toArray, .int .u64 (m : Int), .pointer (some ⟨B, 0, none⟩), .pointer (some ⟨B + 1, 0, none⟩), undef, .bool false, .pointer (some ⟨M, 0, none⟩), .bool true, .bool false, .agg A0.toArray, .agg A1.toArray, .int .u64 (m : Int), .agg A2.toArray, .agg A2.toArray, .agg A0.toArray, .agg A1.toArray, .int .u64 (m : Int), .agg A2.toArray, .bool true, .bool true, .agg A2.toArray, .agg A1.toArray, .int .u64 (m : Int), .int .u64 ((18446744073709551615 - m : Nat) : Int), .agg A1.toArray, .agg A1.toArray, .bool true, .bool true, .bool true, .agg A2.toArray, .agg A0.toArray, .int .u64 (m : Int), .agg A0.toArray, .agg A0.toArray, .bool true, .bool true, .bool true, .int .u64 (m : Int), .bool f, .int .u64 (m : Int), .bool f, .bool true, .bool true], defers := [] } : Act) _
    refine take_pure 30 (v := .bool true) rfl (by kernel_rfl) rfl (fun w' hw => by simp [execOp, go_sem]) hH ?_
    show wpAnyH _ _ _ _ _ _ _ ({ tmps := #[.agg A0.toArray, .agg A1.toArray, .int .u64 (m : Int), .pointer (some ⟨B, 0, none⟩), .pointer (some ⟨B + 1, 0, none⟩), undef, .bool true, .pointer (some ⟨M, 0, none⟩), .bool true, .bool false, .agg A0.toArray, .agg A1.toArray, .int .u64 (m : Int), .agg A2.toArray, .agg A2.toArray, .agg A0.toArray, .agg A1.toArray, .int .u64 (m : Int), .agg A2.toArray, .bool true, .bool true, .agg A2.toArray, .agg A1.toArray, .int .u64 (m : Int), .int .u64 ((18446744073709551615 - m : Nat) : Int), .agg A1.toArray, .agg A1.toArray, .bool true, .bool true, .bool true, .agg A2.toArray, .agg A0.toArray, .int .u64 (m : Int), .agg A0.toArray, .agg A0.toArray, .bool true, .bool true, .bool true, .int .u64 (m : Int), .bool f, .int .u64 (m : Int), .bool f, .bool true, .bool true], defers := [] } : Act) _
    exact wpAnyH_done (by kernel_rfl) ⟨rfl, hH.below⟩ _
  · rintro a' w' ⟨rfl, hbel⟩
    go_wp2
    go_ret
    exact ⟨rfl, by rw [hB]; exact hbel⟩
theorem lineMerges_walk (a0 a1 : Nat → Int) (a2 : Int) (w0 : ∀ i, i < 64 → (Lit.int .u8 (a0 i)).wf = true) (w1 : ∀ i, i < 64 → (Lit.int .u8 (a1 i)).wf = true) (w2 : (Lit.int .u64 a2).wf = true) (w : World) (hT : TabW w) :
    Calls Tryd.prog 3 #[.agg (ints .u8 64 a0).toArray, .agg (ints .u8 64 a1).toArray, .int .u64 a2] w fun e w' => e = .returned (.bool true) ∧ Below w.heap.size w w' := by
  have h2 := bounds_u64 w2
  obtain ⟨m, rfl⟩ : ∃ m : Nat, a2 = (m : Int) := ⟨a2.toNat, by omega⟩
  exact lineMerges_core a0 a1 m (args_byts 64 a0 w0) (args_byts 64 a1 w1) (by omega) w hT
end Go.Proofs.YtenfjllaeehckaaDoor
