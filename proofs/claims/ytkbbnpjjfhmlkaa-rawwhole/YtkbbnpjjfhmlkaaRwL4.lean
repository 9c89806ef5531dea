/-
  RawWhole.
-/
import Derived.Test.YtkbbnpjjfhmlkaaRwW13
import Derived.Test.YtkbbnpjjfhmlkaaRound2
namespace Go.Proofs.Ytkbbnpjjfhmlkaa
open Go.RowKit Go.Shelf
attribute [local go_sem] Oper.semAt_some

/-- slots that nothing is known of -/
structure SlW where
  (u8 u9 u37 u38 u39 u40 u41 u42 u43 u44 u45 u46 u47 u48 u49 u50 u51 u52 u53 u54 : Value)
/-- between two chips -/
def PtW (B P S : Nat) (F : Nat → Int) (w : World) (n : Nat) (f : SlW → Nat → List Nat → Act) (act : Act) (W : World) : Prop := ∃ (c : Nat) (ds : List Nat) (u : SlW), act = f u c ds ∧ c ≤ n ∧ Ws B P S F (sn n c 0) w ds W
/-- between two words of a chip -/
def WsI (B P S : Nat) (F : Nat → Int) (n c : Nat) (w : World) (ds : List Nat) (x : Nat) (W : World) : Prop := Ws B P S F (sn n c x) w ds W

set_option maxRecDepth 100000 in
set_option maxHeartbeats 1000000 in
theorem rawWhole1 (F : Nat → Int) (hF : Byts 72 F) (w : World) :
    Calls Try.prog 7 #[.agg (ints .u8 72 F).toArray, .int .i64 1] w fun e w' => e = .returned (.bool true) ∧ Below w.heap.size w w' := by
  have cA : Hid (∀ W : World, Calls Try.prog 8 #[] W fun e w' => e = .returned (.bool true) ∧ Below W.heap.size W w') := anchor9_any
  have cW : Hid (∀ W : World, Calls Try.prog 12 #[.int .i64 1] W fun e w' => e = .returned (.int .i64 8) ∧ w' = W) := countWords_any .bits
  have cC : Hid (∀ W : World, Calls Try.prog 11 #[.int .i64 1] W fun e w' => e = .returned (.int .i64 9) ∧ w' = W) := countChips_any .bits
  have cWd : Hid (∀ (x : Nat), x < 8 → ∀ W : World, Calls Try.prog 13 #[.agg (ints .u8 72 F).toArray, .int .i64 1, .int .i64 (x : Int)] W fun e w' => ∃ g, e = .returned (.slice (some ⟨g, 0, none⟩) 9 9) ∧ W.heap.size ≤ g ∧ Bk .u8 w' g 9 (fun j => F (9 * x + j)) ∧ Below W.heap.size W w') := fun x hx W => word_yes1 F x hx W
  have cPt : Hid (∀ (X : Nat → Int) (x : Nat), x < 8 → ∀ (g : Nat) (W : World), Bk .u8 W g 9 (fun j => F (9 * x + j)) → Calls Try.prog 14 #[.agg (ints .u8 72 X).toArray, .int .i64 1, .int .i64 (x : Int), .slice (some ⟨g, 0, none⟩) 9 9] W fun e w' => e = .returned (.agg (ints .u8 72 (lay X (9 * x) 9 fun j => F (9 * x + j))).toArray) ∧ Below W.heap.size W w') := fun X x hx g W h => put_yes1 X x hx g 0 9 (fun j => F (9 * x + j)) W (fun j hj => by rw [Nat.zero_add]; exact h.cell j hj)
  have ee := eqlR F F hF hF true ⟨fun _ _ _ => rfl, fun _ => rfl⟩
  have gd := gdR
  have hz := zeroR
  have hzS := zeroS
  obtain ⟨A0, hA0⟩ : ∃ A, ints .u8 72 F = A := ⟨_, rfl⟩
  obtain ⟨Z, hZ⟩ : ∃ A, (ints .u8 72 fun _ => 0).toArray = A := ⟨_, rfl⟩
  obtain ⟨ZS, hZS⟩ : ∃ A, (ints .i64 72 fun _ => 0).toArray = A := ⟨_, rfl⟩
  have i0 : (Try.prog.info? 23).map (·.size) = some A0.length := by rw [← hA0, ints_len]; exact infoR
  rw [hZ] at hz
  rw [hZS] at hzS
  rw [hA0] at ee cWd
  have HA : Hid (ints .u8 72 F = A0 ∧ (ints .u8 72 fun _ => 0).toArray = Z ∧ (ints .i64 72 fun _ => 0).toArray = ZS) := ⟨hA0, hZ, hZS⟩
  rw [hA0]
  have H0 : Hid (Bk .u8 ((w.alloc (.cells A0.toArray 23)).alloc (.cells #[.bool false] 4)) w.heap.size 72 F ∧ Box ((w.alloc (.cells A0.toArray 23)).alloc (.cells #[.bool false] 4)) (w.heap.size + 1) (.bool false) ∧ Below w.heap.size w ((w.alloc (.cells A0.toArray 23)).alloc (.cells #[.bool false] 4))) := by
    rw [← hA0]
    have h1 := Box.new (w.alloc (.cells (ints .u8 72 F).toArray 23)) 4 (.bool false)
    simp only [World.size_alloc] at h1
    exact ⟨(Bk.new .u8 w 72 F _).alloc _, h1, ((Below.refl _ w).alloc (Nat.le_refl _) _).alloc (by simp) _⟩
  clear hA0 hZ hZS hF
  refine (callsIn_wide (n := 10)).1 ?_
  refine callsIn_of_wp_marks Try.func7 rfl trivial ?_ rfl
  simp only [Try.ntmps7, List.size_toArray, List.length_cons, List.length_nil, Nat.reduceAdd, Nat.reduceSub, Array.replicate_succ, Array.replicate_zero, List.push_toArray, List.append_toArray, List.nil_append, List.cons_append]
  refine wpIn_wide.2 ?_
  go_wp2_with fail
  obtain ⟨V, hV⟩ : ∃ V, (w.alloc (.cells A0.toArray 23)).alloc (.cells #[.bool false] 4) = V := ⟨_, rfl⟩
  obtain ⟨B, hB⟩ : ∃ B, w.heap.size = B := ⟨_, rfl⟩
  rw [hV] at H0 ⊢
  rw [hB] at H0 ⊢
  refine (cA.out _).mono ?_
  rintro e V1 ⟨rfl, b1⟩
  replace H0 : Hid (Bk .u8 V1 B 72 F ∧ Box V1 (B + 1) (.bool false) ∧ Below B w V1) := ⟨H0.out.1.next b1, H0.out.2.1.below b1 H0.out.2.1.lt, H0.out.2.2.trans (b1.mono (Nat.le_of_lt H0.out.1.lt))⟩
  clear b1 hV V
  go_upto_region 7 with (go_at_call 12; refine (cW.out _).mono ?_; rintro e w' ⟨rfl, hw2⟩; rw [hw2]; clear hw2 w')
  obtain ⟨V2, hV2⟩ : ∃ V2, V1.alloc (.cells Z 23) = V2 := ⟨_, rfl⟩
  obtain ⟨P, hP⟩ : ∃ P, V1.heap.size = P := ⟨_, rfl⟩
  have H2 : Hid (Wx B P F (fun _ => 0) w V2 ∧ B + 1 < P) := by
    have h := Bk.new .u8 V1 72 (fun _ => 0) 23
    rw [HA.out.2.1, hV2, hP] at h
    have b := (Below.refl _ V1).alloc (Nat.le_refl _) (.cells Z 23)
    rw [hV2] at b
    exact ⟨⟨H0.out.1.next b, H0.out.2.1.below b H0.out.2.1.lt, h, H0.out.2.2.trans (b.mono (Nat.le_of_lt H0.out.1.lt))⟩, by rw [← hP]; exact H0.out.2.1.lt⟩
  rw [hV2, hP]
  clear hV2 hP H0 V1 hz
  go_loopw [22] (fun iv wr => ∃ x : Nat, x ≤ 8 ∧ iv = .int .i64 (x : Int) ∧ Hid (Wx B P F (fun j => if j < 9 * x then F j else 0) w wr)) (fun iv _ => 8 - (intOf iv).toNat)
  case atStart => exact ⟨0, by omega, rfl, by
    have h := H2.out.1
    exact { h with x := h.x.congr fun j _ => by rw [if_neg (by omega)] }⟩
  case round =>
    obtain ⟨x, hx, rfl, HX⟩ := hrel
    by_cases hlt : x < 8
    · go_upto_region 9 with (fail)
      have HX2 : Hid (Wx B P F (fun j => if j < 9 * x then F j else 0) w wr.drew) := HX.out.next (below_drew1 wr)
      obtain ⟨LX, hLX⟩ : ∃ L, ints .u8 72 (fun j => if j < 9 * x then F j else 0) = L := ⟨_, rfl⟩
      obtain ⟨LN, hLN⟩ : ∃ L, ints .u8 72 (lay (fun j => if j < 9 * x then F j else 0) (9 * x) 9 fun j => F (9 * x + j)) = L := ⟨_, rfl⟩
      have iX : (Try.prog.info? 23).map (·.size) = some LX.length := by rw [← hLX, ints_len]; exact infoR
      have iN : (Try.prog.info? 23).map (·.size) = some LN.length := by rw [← hLN, ints_len]; exact infoR
      have jN : (Try.prog.info? 23).map (·.size) = some LN.toArray.size := by simpa using iN
      have oN : LN.toArray.all (·.oneCell') = true := by rw [← hLN]; exact ints_one .u8 72 _
      have rB : Hid (∀ {X : Nat → Int} (W : World), Wx B P F X w W → W.rangeAt B 0 A0) := fun W h => by rw [← HA.out.1]; exact h.r.range
      have rX : Hid (∀ W : World, Wx B P F (fun j => if j < 9 * x then F j else 0) w W → W.rangeAt P 0 LX) := fun W h => by rw [← hLX]; exact h.x.range
      have CP : Hid (∀ (g : Nat) (W : World), Bk .u8 W g 9 (fun j => F (9 * x + j)) → Calls Try.prog 14 #[.agg LX.toArray, .int .i64 1, .int .i64 (x : Int), .slice (some ⟨g, 0, none⟩) 9 9] W fun e w' => e = .returned (.agg LN.toArray) ∧ Below W.heap.size W w') := by
        rw [← hLX, ← hLN]
        exact cPt.out _ x hlt
      have HN : Hid (ints .u8 72 (lay (fun j => if j < 9 * x then F j else 0) (9 * x) 9 fun j => F (9 * x + j)) = LN) := hLN
      have hBP := H2.out.2
      have HP7 : Hid (∀ W, Wx B P F (fun j => if j < 9 * x then F j else 0) w W → Wx B P F (fun j => if j < 9 * (x + 1) then F j else 0) w (W.setCells P 0 LN.toArray.toList)) := fun W h => by
        have hp := h.x.put (lay (fun j => if j < 9 * x then F j else 0) (9 * x) 9 fun j => F (9 * x + j))
        rw [HN.out] at hp
        refine ⟨h.r.putOther (by omega) 0 _, h.t.of (heap_puts P _ 0 W _ (by omega)), hp.congr fun j _ => ?_, belows_put (by omega) _ 0 h.below⟩
        unfold lay
        by_cases h1 : 9 * x ≤ j ∧ j < 9 * x + 9
        · rw [if_pos h1, if_pos (by omega)]
          show F (9 * x + (j - 9 * x)) = F j
          rw [show 9 * x + (j - 9 * x) = j by omega]
        · rw [if_neg h1]
          show (if j < 9 * x then F j else 0) = if j < 9 * (x + 1) then F j else 0
          by_cases h2 : j < 9 * x
          · rw [if_pos h2, if_pos (by omega)]
          · rw [if_neg h2, if_neg (by omega)]
      clear hLX hLN iN
      refine region_ends (by kernel_rfl) (fun W => W.rangeAt B 0 A0) (fun a' W => ∃ g, a' = ({ tmps := #[.agg A0.toArray, .int .i64 1, .pointer (some ⟨B, 0, none⟩), undef, .pointer (some ⟨B + 1, 0, none⟩), .pointer (some ⟨P, 0, none⟩), .int .i64 (x : Int), undef, undef, undef, undef, undef, .bool true, .bool false, .int .i64 1, .bool false, .bool false, undef, undef, .bool false, .int .i64 1, .int .i64 8, .int .i64 (x : Int), .bool (decide ((x : Int) < 8)), .int .i64 (x : Int), .agg LX.toArray, .int .i64 1, .int .i64 (x : Int), .agg A0.toArray, .int .i64 1, .int .i64 (x : Int), .slice (some ⟨g, 0, none⟩) 9 9, .agg LN.toArray, u33, undef, undef, undef, undef, undef, undef, undef, undef, undef, undef, undef, undef, undef, undef, undef, undef, undef, undef, undef, undef, undef, undef, undef, undef, undef, undef, undef, undef, undef, undef, undef], defers := [] } : Act) ∧ Hid (Wx B P F (fun j => if j < 9 * (x + 1) then F j else 0) w W)) (rB.out _ HX2.out) (fun hH => ?_) ?_
      · skip
        refine take_pure 1 (v := .int .i64 1) rfl (by kernel_rfl) rfl (fun w' hw => by simp [execOp, go_sem]) hH ?_
        show wpAnyH _ _ _ _ _ _ _ ({ tmps := #[.agg A0.toArray, .int .i64 1, .pointer (some ⟨B, 0, none⟩), undef, .pointer (some ⟨B + 1, 0, none⟩), .pointer (some ⟨P, 0, none⟩), .int .i64 (x : Int), undef, undef, undef, undef, undef, .bool true, .bool false, .int .i64 1, .bool false, .bool false, undef, undef, .bool false, .int .i64 1, .int .i64 8, .int .i64 (x : Int), .bool (decide ((x : Int) < 8)), .int .i64 (x : Int), u25, .int .i64 1, u27, u28, u29, u30, u31, u32, u33, undef, undef, undef, undef, undef, undef, undef, undef, undef, undef, undef, undef, undef, undef, undef, undef, undef, undef, undef, undef, undef, undef, undef, undef, undef, undef, undef, undef, undef, undef, undef], defers := [] } : Act) _
        refine take_pure 2 (v := .int .i64 (x : Int)) rfl (by kernel_rfl) rfl (fun w' hw => by simp [execOp, go_sem]) hH ?_
        show wpAnyH _ _ _ _ _ _ _ ({ tmps := #[.agg A0.toArray, .int .i64 1, .pointer (some ⟨B, 0, none⟩), undef, .pointer (some ⟨B + 1, 0, none⟩), .pointer (some ⟨P, 0, none⟩), .int .i64 (x : Int), undef, undef, undef, undef, undef, .bool true, .bool false, .int .i64 1, .bool false, .bool false, undef, undef, .bool false, .int .i64 1, .int .i64 8, .int .i64 (x : Int), .bool (decide ((x : Int) < 8)), .int .i64 (x : Int), u25, .int .i64 1, .int .i64 (x : Int), u28, u29, u30, u31, u32, u33, undef, undef, undef, undef, undef, undef, undef, undef, undef, undef, undef, undef, undef, undef, undef, undef, undef, undef, undef, undef, undef, undef, undef, undef, undef, undef, undef, undef, undef, undef, undef], defers := [] } : Act) _
        refine take_if 3 (v := .agg A0.toArray) rfl (by kernel_rfl) (yieldsIf_load_mid (by rfl) _ _ rfl B 0 rfl A0 _ (fun w' hw => hw) Try.underlying23 rfl i0) hH ?_
        show wpAnyH _ _ _ _ _ _ _ ({ tmps := #[.agg A0.toArray, .int .i64 1, .pointer (some ⟨B, 0, none⟩), undef, .pointer (some ⟨B + 1, 0, none⟩), .pointer (some ⟨P, 0, none⟩), .int .i64 (x : Int), undef, undef, undef, undef, undef, .bool true, .bool false, .int .i64 1, .bool false, .bool false, undef, undef, .bool false, .int .i64 1, .int .i64 8, .int .i64 (x : Int), .bool (decide ((x : Int) < 8)), .int .i64 (x : Int), u25, .int .i64 1, .int .i64 (x : Int), .agg A0.toArray, u29, u30, u31, u32, u33, undef, undef, undef, undef, undef, undef, undef, undef, undef, undef, undef, undef, undef, undef, undef, undef, undef, undef, undef, undef, undef, undef, undef, undef, undef, undef, undef, undef, undef, undef, undef], defers := [] } : Act) _
        refine take_pure 4 (v := .int .i64 1) rfl (by kernel_rfl) rfl (fun w' hw => by simp [execOp, go_sem]) hH ?_
        show wpAnyH _ _ _ _ _ _ _ ({ tmps := #[.agg A0.toArray, .int .i64 1, .pointer (some ⟨B, 0, none⟩), undef, .pointer (some ⟨B + 1, 0, none⟩), .pointer (some ⟨P, 0, none⟩), .int .i64 (x : Int), undef, undef, undef, undef, undef, .bool true, .bool false, .int .i64 1, .bool false, .bool false, undef, undef, .bool false, .int .i64 1, .int .i64 8, .int .i64 (x : Int), .bool (decide ((x : Int) < 8)), .int .i64 (x : Int), u25, .int .i64 1, .int .i64 (x : Int), .agg A0.toArray, .int .i64 1, u30, u31, u32, u33, undef, undef, undef, undef, undef, undef, undef, undef, undef, undef, undef, undef, undef, undef, undef, undef, undef, undef, undef, undef, undef, undef, undef, undef, undef, undef, undef, undef, undef, undef, undef], defers := [] } : Act) _
        refine take_pure 5 (v := .int .i64 (x : Int)) rfl (by kernel_rfl) rfl (fun w' hw => by simp [execOp, go_sem]) hH ?_
        show wpAnyH _ _ _ _ _ _ _ ({ tmps := #[.agg A0.toArray, .int .i64 1, .pointer (some ⟨B, 0, none⟩), undef, .pointer (some ⟨B + 1, 0, none⟩), .pointer (some ⟨P, 0, none⟩), .int .i64 (x : Int), undef, undef, undef, undef, undef, .bool true, .bool false, .int .i64 1, .bool false, .bool false, undef, undef, .bool false, .int .i64 1, .int .i64 8, .int .i64 (x : Int), .bool (decide ((x : Int) < 8)), .int .i64 (x : Int), u25, .int .i64 1, .int .i64 (x : Int), .agg A0.toArray, .int .i64 1, .int .i64 (x : Int), u31, u32, u33, undef, undef, undef, undef, undef, undef, undef, undef, undef, undef, undef, undef, undef, undef, undef, undef, undef, undef, undef, undef, undef, undef, undef, undef, undef, undef, undef, undef, undef, undef, undef], defers := [] } : Act) _
        refine take_two 0 6 rfl rfl rfl rfl (by kernel_rfl) ?_ ?_
        · skip
          refine wp_load_mid 23 _ rfl P 0 rfl LX _ (rX.out _ HX2.out) Try.underlying23 rfl iX ?_
          refine ⟨hH, fun hH => ?_⟩
          show wpAnyH _ _ _ _ _ _ _ ({ tmps := #[.agg A0.toArray, .int .i64 1, .pointer (some ⟨B, 0, none⟩), undef, .pointer (some ⟨B + 1, 0, none⟩), .pointer (some ⟨P, 0, none⟩), .int .i64 (x : Int), undef, undef, undef, undef, undef, .bool true, .bool false, .int .i64 1, .bool false, .bool false, undef, undef, .bool false, .int .i64 1, .int .i64 8, .int .i64 (x : Int), .bool (decide ((x : Int) < 8)), .int .i64 (x : Int), .agg LX.toArray, .int .i64 1, .int .i64 (x : Int), .agg A0.toArray, .int .i64 1, .int .i64 (x : Int), u31, u32, u33, undef, undef, undef, undef, undef, undef, undef, undef, undef, undef, undef, undef, undef, undef, undef, undef, undef, undef, undef, undef, undef, undef, undef, undef, undef, undef, undef, undef, undef, undef, undef], defers := [] } : Act) _
          refine take_one 6 rfl rfl (by kernel_rfl) ?_
          refine wp_contract 13 [.tmp 28, .tmp 29, .tmp 30] _ rfl (enters_of Try.func13 (by kernel_rfl) rfl) [.agg A0.toArray, .int .i64 1, .int .i64 (x : Int)] rfl (cWd.out x hlt _) ?_
          rintro e W5 ⟨g, rfl, hg, hbk, b5⟩
          have HG : Hid (Bk .u8 W5 g 9 (fun j => F (9 * x + j))) := hbk
          replace HX2 : Hid (Wx B P F (fun j => if j < 9 * x then F j else 0) w W5) := HX2.out.next b5
          refine ⟨_, rfl, rB.out _ HX2.out, fun hH => ?_⟩
          show wpAnyH _ _ _ _ _ _ _ ({ tmps := #[.agg A0.toArray, .int .i64 1, .pointer (some ⟨B, 0, none⟩), undef, .pointer (some ⟨B + 1, 0, none⟩), .pointer (some ⟨P, 0, none⟩), .int .i64 (x : Int), undef, undef, undef, undef, undef, .bool true, .bool false, .int .i64 1, .bool false, .bool false, undef, undef, .bool false, .int .i64 1, .int .i64 8, .int .i64 (x : Int), .bool (decide ((x : Int) < 8)), .int .i64 (x : Int), .agg LX.toArray, .int .i64 1, .int .i64 (x : Int), .agg A0.toArray, .int .i64 1, .int .i64 (x : Int), .slice (some ⟨g, 0, none⟩) 9 9, u32, u33, undef, undef, undef, undef, undef, undef, undef, undef, undef, undef, undef, undef, undef, undef, undef, undef, undef, undef, undef, undef, undef, undef, undef, undef, undef, undef, undef, undef, undef, undef, undef], defers := [] } : Act) _
          refine take_one 7 rfl rfl (by kernel_rfl) ?_
          refine wp_contract 14 [.tmp 25, .tmp 26, .tmp 27, .tmp 31] _ rfl (enters_of Try.func14 (by kernel_rfl) rfl) [.agg LX.toArray, .int .i64 1, .int .i64 (x : Int), .slice (some ⟨g, 0, none⟩) 9 9] rfl (CP.out g _ HG.out) ?_
          rintro e W6 ⟨rfl, b6⟩
          have HX6 : Hid (Wx B P F (fun j => if j < 9 * x then F j else 0) w W6) := HX2.out.next b6
          refine ⟨_, rfl, rB.out _ HX6.out, fun hH => ?_⟩
          show wpAnyH _ _ _ _ _ _ _ ({ tmps := #[.agg A0.toArray, .int .i64 1, .pointer (some ⟨B, 0, none⟩), undef, .pointer (some ⟨B + 1, 0, none⟩), .pointer (some ⟨P, 0, none⟩), .int .i64 (x : Int), undef, undef, undef, undef, undef, .bool true, .bool false, .int .i64 1, .bool false, .bool false, undef, undef, .bool false, .int .i64 1, .int .i64 8, .int .i64 (x : Int), .bool (decide ((x : Int) < 8)), .int .i64 (x : Int), .agg LX.toArray, .int .i64 1, .int .i64 (x : Int), .agg A0.toArray, .int .i64 1, .int .i64 (x : Int), .slice (some ⟨g, 0, none⟩) 9 9, .agg LN.toArray, u33, undef, undef, undef, undef, undef, undef, undef, undef, undef, undef, undef, undef, undef, undef, undef, undef, undef, undef, undef, undef, undef, undef, undef, undef, undef, undef, undef, undef, undef, undef, undef], defers := [] } : Act) _
          refine take_one 8 rfl rfl (by kernel_rfl) ?_
          have ht7 : W6.there P 0 LN.toArray.size := by rw [← HN.out]; exact HX6.out.x.there .u8 _
          refine wp_store_mid 23 _ _ rfl P 0 LN.toArray rfl rfl ht7 jN oN ?_
          refine ⟨rB.out _ (HP7.out _ HX6.out), fun hH2 => ?_⟩
          exact wpAnyH_done (by kernel_rfl) ⟨g, rfl, HP7.out _ HX6.out⟩ _
        · skip
          refine wp_contract 13 [.tmp 28, .tmp 29, .tmp 30] _ rfl (enters_of Try.func13 (by kernel_rfl) rfl) [.agg A0.toArray, .int .i64 1, .int .i64 (x : Int)] rfl (cWd.out x hlt _) ?_
          rintro e W5 ⟨g, rfl, hg, hbk, b5⟩
          have HG : Hid (Bk .u8 W5 g 9 (fun j => F (9 * x + j))) := hbk
          replace HX2 : Hid (Wx B P F (fun j => if j < 9 * x then F j else 0) w W5) := HX2.out.next b5
          refine ⟨_, rfl, rB.out _ HX2.out, fun hH => ?_⟩
          show wpAnyH _ _ _ _ _ _ _ ({ tmps := #[.agg A0.toArray, .int .i64 1, .pointer (some ⟨B, 0, none⟩), undef, .pointer (some ⟨B + 1, 0, none⟩), .pointer (some ⟨P, 0, none⟩), .int .i64 (x : Int), undef, undef, undef, undef, undef, .bool true, .bool false, .int .i64 1, .bool false, .bool false, undef, undef, .bool false, .int .i64 1, .int .i64 8, .int .i64 (x : Int), .bool (decide ((x : Int) < 8)), .int .i64 (x : Int), u25, .int .i64 1, .int .i64 (x : Int), .agg A0.toArray, .int .i64 1, .int .i64 (x : Int), .slice (some ⟨g, 0, none⟩) 9 9, u32, u33, undef, undef, undef, undef, undef, undef, undef, undef, undef, undef, undef, undef, undef, undef, undef, undef, undef, undef, undef, undef, undef, undef, undef, undef, undef, undef, undef, undef, undef, undef, undef], defers := [] } : Act) _
          refine take_one 0 rfl rfl (by kernel_rfl) ?_
          refine wp_load_mid 23 _ rfl P 0 rfl LX _ (rX.out _ HX2.out) Try.underlying23 rfl iX ?_
          refine ⟨hH, fun hH => ?_⟩
          show wpAnyH _ _ _ _ _ _ _ ({ tmps := #[.agg A0.toArray, .int .i64 1, .pointer (some ⟨B, 0, none⟩), undef, .pointer (some ⟨B + 1, 0, none⟩), .pointer (some ⟨P, 0, none⟩), .int .i64 (x : Int), undef, undef, undef, undef, undef, .bool true, .bool false, .int .i64 1, .bool false, .bool false, undef, undef, .bool false, .int .i64 1, .int .i64 8, .int .i64 (x : Int), .bool (decide ((x : Int) < 8)), .int .i64 (x : Int), .agg LX.toArray, .int .i64 1, .int .i64 (x : Int), .agg A0.toArray, .int .i64 1, .int .i64 (x : Int), .slice (some ⟨g, 0, none⟩) 9 9, u32, u33, undef, undef, undef, undef, undef, undef, undef, undef, undef, undef, undef, undef, undef, undef, undef, undef, undef, undef, undef, undef, undef, undef, undef, undef, undef, undef, undef, undef, undef, undef, undef], defers := [] } : Act) _
          refine take_one 7 rfl rfl (by kernel_rfl) ?_
          refine wp_contract 14 [.tmp 25, .tmp 26, .tmp 27, .tmp 31] _ rfl (enters_of Try.func14 (by kernel_rfl) rfl) [.agg LX.toArray, .int .i64 1, .int .i64 (x : Int), .slice (some ⟨g, 0, none⟩) 9 9] rfl (CP.out g _ HG.out) ?_
          rintro e W6 ⟨rfl, b6⟩
          have HX6 : Hid (Wx B P F (fun j => if j < 9 * x then F j else 0) w W6) := HX2.out.next b6
          refine ⟨_, rfl, rB.out _ HX6.out, fun hH => ?_⟩
          show wpAnyH _ _ _ _ _ _ _ ({ tmps := #[.agg A0.toArray, .int .i64 1, .pointer (some ⟨B, 0, none⟩), undef, .pointer (some ⟨B + 1, 0, none⟩), .pointer (some ⟨P, 0, none⟩), .int .i64 (x : Int), undef, undef, undef, undef, undef, .bool true, .bool false, .int .i64 1, .bool false, .bool false, undef, undef, .bool false, .int .i64 1, .int .i64 8, .int .i64 (x : Int), .bool (decide ((x : Int) < 8)), .int .i64 (x : Int), .agg LX.toArray, .int .i64 1, .int .i64 (x : Int), .agg A0.toArray, .int .i64 1, .int .i64 (x : Int), .slice (some ⟨g, 0, none⟩) 9 9, .agg LN.toArray, u33, undef, undef, undef, undef, undef, undef, undef, undef, undef, undef, undef, undef, undef, undef, undef, undef, undef, undef, undef, undef, undef, undef, undef, undef, undef, undef, undef, undef, undef, undef, undef], defers := [] } : Act) _
          refine take_one 8 rfl rfl (by kernel_rfl) ?_
          have ht7 : W6.there P 0 LN.toArray.size := by rw [← HN.out]; exact HX6.out.x.there .u8 _
          refine wp_store_mid 23 _ _ rfl P 0 LN.toArray rfl rfl ht7 jN oN ?_
          refine ⟨rB.out _ (HP7.out _ HX6.out), fun hH2 => ?_⟩
          exact wpAnyH_done (by kernel_rfl) ⟨g, rfl, HP7.out _ HX6.out⟩ _
      rintro _ W7 ⟨g, rfl, H7⟩
      simp only []
      go_wp2
      go_roundw
      case rel => exact ⟨x + 1, by omega, by go_num, H7⟩
      case measure => simp [intOf]; omega
    · obtain rfl : x = 8 := by omega
      have HXF : Hid (Wx B P F F w wr ∧ B + 1 < P) := by
        have h := HX.out
        exact ⟨{ h with x := h.x.congr fun j hj => by rw [if_pos (by omega)] }, H2.out.2⟩
      clear HX H2 cWd cPt
      go_upto_region 13 with (go_at_call 11; refine (cC.out _).mono ?_; rintro e w' ⟨rfl, hw2⟩; rw [hw2]; clear hw2 w')
      obtain ⟨V3, hV3⟩ : ∃ V3, wr.alloc (.cells ZS 48) = V3 := ⟨_, rfl⟩
      obtain ⟨S, hS⟩ : ∃ S, wr.heap.size = S := ⟨_, rfl⟩
      have H3 : Hid (Ws B P S F (sn 9 0 0) w [] V3) := by
        have h := Bk.new .i64 wr 72 (fun _ => 0) 48
        rw [HA.out.2.2, hV3, hS] at h
        have b := (Below.refl _ wr).alloc (Nat.le_refl _) (.cells ZS 48)
        rw [hV3] at b
        exact ⟨HXF.out.1.next b, h.congr fun j _ => (sn_zero 9 j).symm, ⟨HXF.out.2, by rw [← hS]; exact HXF.out.1.x.lt⟩, List.nodup_nil, fun D hD => by cases hD⟩
      rw [hV3, hS]
      clear hV3 hS HXF hzS
      refine wp_loop (PtW B P S F w 9 (fun u c ds => { tmps := #[.agg A0.toArray, .int .i64 1, .pointer (some ⟨B, 0, none⟩), undef, .pointer (some ⟨B + 1, 0, none⟩), .pointer (some ⟨P, 0, none⟩), u6, .pointer (some ⟨S, 0, none⟩), u.u8, u.u9, undef, undef, .bool true, .bool false, .int .i64 1, .bool false, .bool false, undef, undef, .bool false, .int .i64 1, .int .i64 8, .int .i64 8, .bool false, u24, u25, u26, u27, u28, u29, u30, u31, u32, u33, .int .i64 1, .int .i64 9, .int .i64 (c : Int), u.u37, u.u38, u.u39, u.u40, u.u41, u.u42, u.u43, u.u44, u.u45, u.u46, u.u47, u.u48, u.u49, u.u50, u.u51, u.u52, u.u53, u.u54, undef, undef, undef, undef, undef, undef, undef, undef, undef, undef], defers := ds.map fun D => { target := .collected D, args := #[] } })) (fun act _ => 9 - (intOf (act.tmps.getD 36 undef)).toNat) ⟨0, [], ⟨_, _, _, _, _, _, _, _, _, _, _, _, _, _, _, _, _, _, _, _⟩, rfl, by omega, H3.out⟩ ?_
      rintro act wr2 ⟨c, ds, u, rfl, hc, hP⟩
      have HP : Hid (Ws B P S F (sn 9 c 0) w ds wr2) := hP
      clear H3 hP
      simp only []
      by_cases hct : c < 9
      · go_wp2_with fail
        refine (of_yes .bits (c : Int) ⟨by omega, by omega⟩ _).mono ?_
        rintro e V5 ⟨rfl, hV5⟩
        obtain ⟨E, hE⟩ : ∃ E, wr2.heap.size = E := ⟨_, rfl⟩
        have HV : Hid (Box V5 E (.int .i64 1) ∧ Box V5 (E + 1) (.int .i64 (c : Int)) ∧ Ws B P S F (sn 9 c 0) w ds V5 ∧ V5.heap.size = E + 2) := by
          obtain ⟨q, rfl⟩ := hV5
          have b1 := Box.new wr2 3 (.int .i64 1)
          have b2 := Box.new (wr2.alloc (.cells #[.int .i64 1] 3)) 3 (.int .i64 (c : Int))
          simp only [World.size_alloc] at b2
          rw [hE] at b1 b2
          have bb : Below wr2.heap.size wr2 (((wr2.alloc (.cells #[.int .i64 1] 3)).alloc (.cells #[.int .i64 (c : Int)] 3)).drewN q) := below_stay (((Below.refl _ wr2).alloc (Nat.le_refl _) _).alloc (by simp) _) (Stay.drewN _ _ q) (Nat.le_refl _)
          exact ⟨b1.alloc _, b2, HP.out.next bb, by simp [hE]⟩
        have hds : ∀ D ∈ ds, D < E := by rw [← hE]; exact HP.out.ds_lt
        have hSE : S < E := by rw [← hE]; exact HP.out.s.lt
        rw [hE]
        clear hV5 hE HP
        go_wp2
        have zV := HV.out.2.2.2
        have ho := HV.out.2.2.1.o
        refine (wpIn_wide (n := 10)).1 (rangeC rfl (enters_of Try.func28 (by kernel_rfl) rfl) (of2_seq1 (c : Int) (by omega) (by omega) E (E + 1) V5 HV.out.1 HV.out.2.1) (fun _ => rfl)
          (fun x => x = S) (by rintro x rfl; constructor <;> omega) (by rintro x (rfl | rfl) <;> omega)
          (WsI B P S F 9 c w ds) (fun _ _ _ => False)
          (fun x A A' h hs => Ws.stay h hs (by omega) (fun D hD => by have := hds D hD; omega))
          (fun _ _ _ _ h _ => h.elim) HV.out.2.2.1
          (fun _ _ _ hp _ => absurd trivial hp) ?round ?done (fun _ _ _ _ _ _ _ h => h.elim))
        case round =>
          rintro l x W W2 hx hp h
          have h' : Ws B P S F (sn 9 c x) w ds W2 := h
          have c1 : W2.cell? ⟨S, x * 9 + c, none⟩ = some (.int .i64 0) := by rw [← sn_at 9 c x hct]; exact h'.s.cell _ (by omega)
          have c2 := h'.s.free (x * 9 + c)
          have fin : Hid (Keep (fun x => x = S) W2 (W2.setCell ⟨S, x * 9 + c, none⟩ (.int .i64 1)) ∧ WsI B P S F 9 c w ds (x + 1) (W2.setCell ⟨S, x * 9 + c, none⟩ (.int .i64 1))) :=
            ⟨⟨by simp, fun b _ hm => Below.heap_setCell W2 _ _ b (fun e => hm e)⟩, (h'.put (x * 9 + c) 1).congr fun j _ => sn_step 9 c x j hct⟩
          have d1 : decide ((x : Int) * 9 + (c : Int) < 0) = false := by simp; omega
          have d2 : decide (71 < (x : Int) * 9 + (c : Int)) = false := by simp; omega
          clear h h' hp HV zV
          gi_wp2
          try (refine ⟨trivial, ?_⟩)
          try gi_wp2
          exact fin.out
        case done =>
          rintro K W hK h hKd
          have h' : Ws B P S F (sn 9 c 8) w ds W := h
          have HN : Hid (Ws B P S F (sn 9 (c + 1) 0) w (K :: ds) W) := (h'.congr fun j hj => sn_next 9 c 8 j (by omega)).mark (by omega) (fun D hD => by have := hds D hD; omega) hKd
          clear h h' hKd HV
          go_wp2
          refine ⟨⟨c + 1, K :: ds, ⟨_, _, _, _, _, _, _, _, _, _, _, _, _, _, _, _, _, _, _, _⟩, rfl, by omega, HN.out⟩, ?_⟩
          simp [intOf]; omega
      · obtain rfl : c = 9 := by omega
        obtain ⟨LS, hLS⟩ : ∃ L, ints .i64 72 (fun _ => (1 : Int)) = L := ⟨_, rfl⟩
        have iS : (Try.prog.info? 48).map (·.size) = some LS.length := by rw [← hLS, ints_len]; exact infoS
        have rS : wr2.rangeAt S 0 LS := by rw [← hLS]; exact (HP.out.s.congr (G := fun _ => 1) fun j _ => sn_all 9 j (by omega)).range
        have hix : Hid (∀ i : Nat, i < 72 → ∀ w : World, (Instr.index 48 (.agg LS.toArray) (.int .i64 (i : Int))).run Try.prog w = .ok (.int .i64 1) w) := fun i hi w => by rw [← hLS]; exact run_indexS (fun _ => 1) i hi w
        have rB : wr2.rangeAt B 0 A0 := by rw [← HA.out.1]; exact HP.out.x.r.range
        have rP : wr2.rangeAt P 0 A0 := by rw [← HA.out.1]; exact HP.out.x.x.range
        have t1 := HP.out.x.t.1
        have t2 := HP.out.x.t.2
        clear hLS
        go_upto_region 22 with (refine wpList_load_mid rfl 48 _ rfl S 0 rfl LS _ rS Try.underlying48 rfl iS ?_)
        go_loopw [56] (fun iv wr3 => ∃ i : Nat, i ≤ 72 ∧ iv = .int .i64 (i : Int) ∧ wr3 = wr2) (fun iv _ => 72 - (intOf iv).toNat)
        case atStart => exact ⟨0, by omega, rfl, rfl⟩
        case round =>
          obtain ⟨i, hi, rfl, rfl⟩ := hrel
          by_cases hit : i < 72
          · have hi1 := hix.out i hit
            go_wp2
            go_roundw
            case rel => exact ⟨i + 1, by omega, by go_num, trivial⟩
            case measure => simp [intOf]; omega
          · obtain rfl : i = 72 := by omega
            have HF : Hid (ds.Nodup ∧ (∀ D ∈ ds, B ≤ D ∧ (wr.setCell ⟨B + 1, 0, none⟩ (.bool true)).heap[D]? = some (.deferred (some []))) ∧ Box (wr.setCell ⟨B + 1, 0, none⟩ (.bool true)) (B + 1) (.bool true) ∧ Below B w (wr.setCell ⟨B + 1, 0, none⟩ (.bool true))) := by
              have ho := HP.out.o
              refine ⟨HP.out.nd, fun D hD => ?_, HP.out.x.t.set _, HP.out.x.below.setCell (p := ⟨B + 1, 0, none⟩) (by simp) _⟩
              have := HP.out.dm D hD
              exact ⟨by omega, (Below.heap_setCell wr _ _ D (by simp; omega)).trans this.2⟩
            clear HP hix
            go_wp2_with (first | refine wpList_load_mid rfl 23 _ rfl P 0 rfl A0 _ rP Try.underlying23 rfl i0 ?_ | refine wpList_load_mid rfl 23 _ rfl B 0 rfl A0 _ rB Try.underlying23 rfl i0 ?_)
            exact ends9 hB (T := B + 1) (fun W1 h1 => by simp [results, Try.f7, asAddr, go_sem, h1]) ds _ HF.out.1 HF.out.2.1 HF.out.2.2.1 HF.out.2.2.2

set_option maxRecDepth 100000 in
set_option maxHeartbeats 1000000 in
theorem rawWhole2 (F : Nat → Int) (hF : Byts 72 F) (w : World) :
    Calls Try.prog 7 #[.agg (ints .u8 72 F).toArray, .int .i64 2] w fun e w' => e = .returned (.bool true) ∧ Below w.heap.size w w' := by
  have cA : Hid (∀ W : World, Calls Try.prog 8 #[] W fun e w' => e = .returned (.bool true) ∧ Below W.heap.size W w') := anchor9_any
  have cW : Hid (∀ W : World, Calls Try.prog 12 #[.int .i64 2] W fun e w' => e = .returned (.int .i64 2) ∧ w' = W) := countWords_any .chips
  have cC : Hid (∀ W : World, Calls Try.prog 11 #[.int .i64 2] W fun e w' => e = .returned (.int .i64 36) ∧ w' = W) := countChips_any .chips
  have cWd : Hid (∀ (x : Nat), x < 2 → ∀ W : World, Calls Try.prog 13 #[.agg (ints .u8 72 F).toArray, .int .i64 2, .int .i64 (x : Int)] W fun e w' => ∃ g, e = .returned (.slice (some ⟨g, 0, none⟩) 36 36) ∧ W.heap.size ≤ g ∧ Bk .u8 w' g 36 (fun j => F (36 * x + j)) ∧ Below W.heap.size W w') := fun x hx W => word_yes2 F x hx W
  have cPt : Hid (∀ (X : Nat → Int) (x : Nat), x < 2 → ∀ (g : Nat) (W : World), Bk .u8 W g 36 (fun j => F (36 * x + j)) → Calls Try.prog 14 #[.agg (ints .u8 72 X).toArray, .int .i64 2, .int .i64 (x : Int), .slice (some ⟨g, 0, none⟩) 36 36] W fun e w' => e = .returned (.agg (ints .u8 72 (lay X (36 * x) 36 fun j => F (36 * x + j))).toArray) ∧ Below W.heap.size W w') := fun X x hx g W h => put_yes2 X x hx g 0 36 (fun j => F (36 * x + j)) W (fun j hj => by rw [Nat.zero_add]; exact h.cell j hj)
  have ee := eqlR F F hF hF true ⟨fun _ _ _ => rfl, fun _ => rfl⟩
  have gd := gdR
  have hz := zeroR
  have hzS := zeroS
  obtain ⟨A0, hA0⟩ : ∃ A, ints .u8 72 F = A := ⟨_, rfl⟩
  obtain ⟨Z, hZ⟩ : ∃ A, (ints .u8 72 fun _ => 0).toArray = A := ⟨_, rfl⟩
  obtain ⟨ZS, hZS⟩ : ∃ A, (ints .i64 72 fun _ => 0).toArray = A := ⟨_, rfl⟩
  have i0 : (Try.prog.info? 23).map (·.size) = some A0.length := by rw [← hA0, ints_len]; exact infoR
  rw [hZ] at hz
  rw [hZS] at hzS
  rw [hA0] at ee cWd
  have HA : Hid (ints .u8 72 F = A0 ∧ (ints .u8 72 fun _ => 0).toArray = Z ∧ (ints .i64 72 fun _ => 0).toArray = ZS) := ⟨hA0, hZ, hZS⟩
  rw [hA0]
  have H0 : Hid (Bk .u8 ((w.alloc (.cells A0.toArray 23)).alloc (.cells #[.bool false] 4)) w.heap.size 72 F ∧ Box ((w.alloc (.cells A0.toArray 23)).alloc (.cells #[.bool false] 4)) (w.heap.size + 1) (.bool false) ∧ Below w.heap.size w ((w.alloc (.cells A0.toArray 23)).alloc (.cells #[.bool false] 4))) := by
    rw [← hA0]
    have h1 := Box.new (w.alloc (.cells (ints .u8 72 F).toArray 23)) 4 (.bool false)
    simp only [World.size_alloc] at h1
    exact ⟨(Bk.new .u8 w 72 F _).alloc _, h1, ((Below.refl _ w).alloc (Nat.le_refl _) _).alloc (by simp) _⟩
  clear hA0 hZ hZS hF
  refine (callsIn_wide (n := 10)).1 ?_
  refine callsIn_of_wp_marks Try.func7 rfl trivial ?_ rfl
  simp only [Try.ntmps7, List.size_toArray, List.length_cons, List.length_nil, Nat.reduceAdd, Nat.reduceSub, Array.replicate_succ, Array.replicate_zero, List.push_toArray, List.append_toArray, List.nil_append, List.cons_append]
  refine wpIn_wide.2 ?_
  go_wp2_with fail
  obtain ⟨V, hV⟩ : ∃ V, (w.alloc (.cells A0.toArray 23)).alloc (.cells #[.bool false] 4) = V := ⟨_, rfl⟩
  obtain ⟨B, hB⟩ : ∃ B, w.heap.size = B := ⟨_, rfl⟩
  rw [hV] at H0 ⊢
  rw [hB] at H0 ⊢
  refine (cA.out _).mono ?_
  rintro e V1 ⟨rfl, b1⟩
  replace H0 : Hid (Bk .u8 V1 B 72 F ∧ Box V1 (B + 1) (.bool false) ∧ Below B w V1) := ⟨H0.out.1.next b1, H0.out.2.1.below b1 H0.out.2.1.lt, H0.out.2.2.trans (b1.mono (Nat.le_of_lt H0.out.1.lt))⟩
  clear b1 hV V
  go_upto_region 7 with (go_at_call 12; refine (cW.out _).mono ?_; rintro e w' ⟨rfl, hw2⟩; rw [hw2]; clear hw2 w')
  obtain ⟨V2, hV2⟩ : ∃ V2, V1.alloc (.cells Z 23) = V2 := ⟨_, rfl⟩
  obtain ⟨P, hP⟩ : ∃ P, V1.heap.size = P := ⟨_, rfl⟩
  have H2 : Hid (Wx B P F (fun _ => 0) w V2 ∧ B + 1 < P) := by
    have h := Bk.new .u8 V1 72 (fun _ => 0) 23
    rw [HA.out.2.1, hV2, hP] at h
    have b := (Below.refl _ V1).alloc (Nat.le_refl _) (.cells Z 23)
    rw [hV2] at b
    exact ⟨⟨H0.out.1.next b, H0.out.2.1.below b H0.out.2.1.lt, h, H0.out.2.2.trans (b.mono (Nat.le_of_lt H0.out.1.lt))⟩, by rw [← hP]; exact H0.out.2.1.lt⟩
  rw [hV2, hP]
  clear hV2 hP H0 V1 hz
  go_loopw [22] (fun iv wr => ∃ x : Nat, x ≤ 2 ∧ iv = .int .i64 (x : Int) ∧ Hid (Wx B P F (fun j => if j < 36 * x then F j else 0) w wr)) (fun iv _ => 2 - (intOf iv).toNat)
  case atStart => exact ⟨0, by omega, rfl, by
    have h := H2.out.1
    exact { h with x := h.x.congr fun j _ => by rw [if_neg (by omega)] }⟩
  case round =>
    obtain ⟨x, hx, rfl, HX⟩ := hrel
    by_cases hlt : x < 2
    · go_upto_region 9 with (fail)
      have HX2 : Hid (Wx B P F (fun j => if j < 36 * x then F j else 0) w wr.drew) := HX.out.next (below_drew1 wr)
      obtain ⟨LX, hLX⟩ : ∃ L, ints .u8 72 (fun j => if j < 36 * x then F j else 0) = L := ⟨_, rfl⟩
      obtain ⟨LN, hLN⟩ : ∃ L, ints .u8 72 (lay (fun j => if j < 36 * x then F j else 0) (36 * x) 36 fun j => F (36 * x + j)) = L := ⟨_, rfl⟩
      have iX : (Try.prog.info? 23).map (·.size) = some LX.length := by rw [← hLX, ints_len]; exact infoR
      have iN : (Try.prog.info? 23).map (·.size) = some LN.length := by rw [← hLN, ints_len]; exact infoR
      have jN : (Try.prog.info? 23).map (·.size) = some LN.toArray.size := by simpa using iN
      have oN : LN.toArray.all (·.oneCell') = true := by rw [← hLN]; exact ints_one .u8 72 _
      have rB : Hid (∀ {X : Nat → Int} (W : World), Wx B P F X w W → W.rangeAt B 0 A0) := fun W h => by rw [← HA.out.1]; exact h.r.range
      have rX : Hid (∀ W : World, Wx B P F (fun j => if j < 36 * x then F j else 0) w W → W.rangeAt P 0 LX) := fun W h => by rw [← hLX]; exact h.x.range
      have CP : Hid (∀ (g : Nat) (W : World), Bk .u8 W g 36 (fun j => F (36 * x + j)) → Calls Try.prog 14 #[.agg LX.toArray, .int .i64 2, .int .i64 (x : Int), .slice (some ⟨g, 0, none⟩) 36 36] W fun e w' => e = .returned (.agg LN.toArray) ∧ Below W.heap.size W w') := by
        rw [← hLX, ← hLN]
        exact cPt.out _ x hlt
      have HN : Hid (ints .u8 72 (lay (fun j => if j < 36 * x then F j else 0) (36 * x) 36 fun j => F (36 * x + j)) = LN) := hLN
      have hBP := H2.out.2
      have HP7 : Hid (∀ W, Wx B P F (fun j => if j < 36 * x then F j else 0) w W → Wx B P F (fun j => if j < 36 * (x + 1) then F j else 0) w (W.setCells P 0 LN.toArray.toList)) := fun W h => by
        have hp := h.x.put (lay (fun j => if j < 36 * x then F j else 0) (36 * x) 36 fun j => F (36 * x + j))
        rw [HN.out] at hp
        refine ⟨h.r.putOther (by omega) 0 _, h.t.of (heap_puts P _ 0 W _ (by omega)), hp.congr fun j _ => ?_, belows_put (by omega) _ 0 h.below⟩
        unfold lay
        by_cases h1 : 36 * x ≤ j ∧ j < 36 * x + 36
        · rw [if_pos h1, if_pos (by omega)]
          show F (36 * x + (j - 36 * x)) = F j
          rw [show 36 * x + (j - 36 * x) = j by omega]
        · rw [if_neg h1]
          show (if j < 36 * x then F j else 0) = if j < 36 * (x + 1) then F j else 0
          by_cases h2 : j < 36 * x
          · rw [if_pos h2, if_pos (by omega)]
          · rw [if_neg h2, if_neg (by omega)]
      clear hLX hLN iN
      refine region_ends (by kernel_rfl) (fun W => W.rangeAt B 0 A0) (fun a' W => ∃ g, a' = ({ tmps := #[.agg A0.toArray, .int .i64 2, .pointer (some ⟨B, 0, none⟩), undef, .pointer (some ⟨B + 1, 0, none⟩), .pointer (some ⟨P, 0, none⟩), .int .i64 (x : Int), undef, undef, undef, undef, undef, .bool true, .bool false, .int .i64 2, .bool true, .bool true, .int .i64 2, .bool false, .bool false, .int .i64 2, .int .i64 2, .int .i64 (x : Int), .bool (decide ((x : Int) < 2)), .int .i64 (x : Int), .agg LX.toArray, .int .i64 2, .int .i64 (x : Int), .agg A0.toArray, .int .i64 2, .int .i64 (x : Int), .slice (some ⟨g, 0, none⟩) 36 36, .agg LN.toArray, u33, undef, undef, undef, undef, undef, undef, undef, undef, undef, undef, undef, undef, undef, undef, undef, undef, undef, undef, undef, undef, undef, undef, undef, undef, undef, undef, undef, undef, undef, undef, undef], defers := [] } : Act) ∧ Hid (Wx B P F (fun j => if j < 36 * (x + 1) then F j else 0) w W)) (rB.out _ HX2.out) (fun hH => ?_) ?_
      · skip
        refine take_pure 1 (v := .int .i64 2) rfl (by kernel_rfl) rfl (fun w' hw => by simp [execOp, go_sem]) hH ?_
        show wpAnyH _ _ _ _ _ _ _ ({ tmps := #[.agg A0.toArray, .int .i64 2, .pointer (some ⟨B, 0, none⟩), undef, .pointer (some ⟨B + 1, 0, none⟩), .pointer (some ⟨P, 0, none⟩), .int .i64 (x : Int), undef, undef, undef, undef, undef, .bool true, .bool false, .int .i64 2, .bool true, .bool true, .int .i64 2, .bool false, .bool false, .int .i64 2, .int .i64 2, .int .i64 (x : Int), .bool (decide ((x : Int) < 2)), .int .i64 (x : Int), u25, .int .i64 2, u27, u28, u29, u30, u31, u32, u33, undef, undef, undef, undef, undef, undef, undef, undef, undef, undef, undef, undef, undef, undef, undef, undef, undef, undef, undef, undef, undef, undef, undef, undef, undef, undef, undef, undef, undef, undef, undef], defers := [] } : Act) _
        refine take_pure 2 (v := .int .i64 (x : Int)) rfl (by kernel_rfl) rfl (fun w' hw => by simp [execOp, go_sem]) hH ?_
        show wpAnyH _ _ _ _ _ _ _ ({ tmps := #[.agg A0.toArray, .int .i64 2, .pointer (some ⟨B, 0, none⟩), undef, .pointer (some ⟨B + 1, 0, none⟩), .pointer (some ⟨P, 0, none⟩), .int .i64 (x : Int), undef, undef, undef, undef, undef, .bool true, .bool false, .int .i64 2, .bool true, .bool true, .int .i64 2, .bool false, .bool false, .int .i64 2, .int .i64 2, .int .i64 (x : Int), .bool (decide ((x : Int) < 2)), .int .i64 (x : Int), u25, .int .i64 2, .int .i64 (x : Int), u28, u29, u30, u31, u32, u33, undef, undef, undef, undef, undef, undef, undef, undef, undef, undef, undef, undef, undef, undef, undef, undef, undef, undef, undef, undef, undef, undef, undef, undef, undef, undef, undef, undef, undef, undef, undef], defers := [] } : Act) _
        refine take_if 3 (v := .agg A0.toArray) rfl (by kernel_rfl) (yieldsIf_load_mid (by rfl) _ _ rfl B 0 rfl A0 _ (fun w' hw => hw) Try.underlying23 rfl i0) hH ?_
        show wpAnyH _ _ _ _ _ _ _ ({ tmps := #[.agg A0.toArray, .int .i64 2, .pointer (some ⟨B, 0, none⟩), undef, .pointer (some ⟨B + 1, 0, none⟩), .pointer (some ⟨P, 0, none⟩), .int .i64 (x : Int), undef, undef, undef, undef, undef, .bool true, .bool false, .int .i64 2, .bool true, .bool true, .int .i64 2, .bool false, .bool false, .int .i64 2, .int .i64 2, .int .i64 (x : Int), .bool (decide ((x : Int) < 2)), .int .i64 (x : Int), u25, .int .i64 2, .int .i64 (x : Int), .agg A0.toArray, u29, u30, u31, u32, u33, undef, undef, undef, undef, undef, undef, undef, undef, undef, undef, undef, undef, undef, undef, undef, undef, undef, undef, undef, undef, undef, undef, undef, undef, undef, undef, undef, undef, undef, undef, undef], defers := [] } : Act) _
        refine take_pure 4 (v := .int .i64 2) rfl (by kernel_rfl) rfl (fun w' hw => by simp [execOp, go_sem]) hH ?_
        show wpAnyH _ _ _ _ _ _ _ ({ tmps := #[.agg A0.toArray, .int .i64 2, .pointer (some ⟨B, 0, none⟩), undef, .pointer (some ⟨B + 1, 0, none⟩), .pointer (some ⟨P, 0, none⟩), .int .i64 (x : Int), undef, undef, undef, undef, undef, .bool true, .bool false, .int .i64 2, .bool true, .bool true, .int .i64 2, .bool false, .bool false, .int .i64 2, .int .i64 2, .int .i64 (x : Int), .bool (decide ((x : Int) < 2)), .int .i64 (x : Int), u25, .int .i64 2, .int .i64 (x : Int), .agg A0.toArray, .int .i64 2, u30, u31, u32, u33, undef, undef, undef, undef, undef, undef, undef, undef, undef, undef, undef, undef, undef, undef, undef, undef, undef, undef, undef, undef, undef, undef, undef, undef, undef, undef, undef, undef, undef, undef, undef], defers := [] } : Act) _
        refine take_pure 5 (v := .int .i64 (x : Int)) rfl (by kernel_rfl) rfl (fun w' hw => by simp [execOp, go_sem]) hH ?_
        show wpAnyH _ _ _ _ _ _ _ ({ tmps := #[.agg A0.toArray, .int .i64 2, .pointer (some ⟨B, 0, none⟩), undef, .pointer (some ⟨B + 1, 0, none⟩), .pointer (some ⟨P, 0, none⟩), .int .i64 (x : Int), undef, undef, undef, undef, undef, .bool true, .bool false, .int .i64 2, .bool true, .bool true, .int .i64 2, .bool false, .bool false, .int .i64 2, .int .i64 2, .int .i64 (x : Int), .bool (decide ((x : Int) < 2)), .int .i64 (x : Int), u25, .int .i64 2, .int .i64 (x : Int), .agg A0.toArray, .int .i64 2, .int .i64 (x : Int), u31, u32, u33, undef, undef, undef, undef, undef, undef, undef, undef, undef, undef, undef, undef, undef, undef, undef, undef, undef, undef, undef, undef, undef, undef, undef, undef, undef, undef, undef, undef, undef, undef, undef], defers := [] } : Act) _
        refine take_two 0 6 rfl rfl rfl rfl (by kernel_rfl) ?_ ?_
        · skip
          refine wp_load_mid 23 _ rfl P 0 rfl LX _ (rX.out _ HX2.out) Try.underlying23 rfl iX ?_
          refine ⟨hH, fun hH => ?_⟩
          show wpAnyH _ _ _ _ _ _ _ ({ tmps := #[.agg A0.toArray, .int .i64 2, .pointer (some ⟨B, 0, none⟩), undef, .pointer (some ⟨B + 1, 0, none⟩), .pointer (some ⟨P, 0, none⟩), .int .i64 (x : Int), undef, undef, undef, undef, undef, .bool true, .bool false, .int .i64 2, .bool true, .bool true, .int .i64 2, .bool false, .bool false, .int .i64 2, .int .i64 2, .int .i64 (x : Int), .bool (decide ((x : Int) < 2)), .int .i64 (x : Int), .agg LX.toArray, .int .i64 2, .int .i64 (x : Int), .agg A0.toArray, .int .i64 2, .int .i64 (x : Int), u31, u32, u33, undef, undef, undef, undef, undef, undef, undef, undef, undef, undef, undef, undef, undef, undef, undef, undef, undef, undef, undef, undef, undef, undef, undef, undef, undef, undef, undef, undef, undef, undef, undef], defers := [] } : Act) _
          refine take_one 6 rfl rfl (by kernel_rfl) ?_
          refine wp_contract 13 [.tmp 28, .tmp 29, .tmp 30] _ rfl (enters_of Try.func13 (by kernel_rfl) rfl) [.agg A0.toArray, .int .i64 2, .int .i64 (x : Int)] rfl (cWd.out x hlt _) ?_
          rintro e W5 ⟨g, rfl, hg, hbk, b5⟩
          have HG : Hid (Bk .u8 W5 g 36 (fun j => F (36 * x + j))) := hbk
          replace HX2 : Hid (Wx B P F (fun j => if j < 36 * x then F j else 0) w W5) := HX2.out.next b5
          refine ⟨_, rfl, rB.out _ HX2.out, fun hH => ?_⟩
          show wpAnyH _ _ _ _ _ _ _ ({ tmps := #[.agg A0.toArray, .int .i64 2, .pointer (some ⟨B, 0, none⟩), undef, .pointer (some ⟨B + 1, 0, none⟩), .pointer (some ⟨P, 0, none⟩), .int .i64 (x : Int), undef, undef, undef, undef, undef, .bool true, .bool false, .int .i64 2, .bool true, .bool true, .int .i64 2, .bool false, .bool false, .int .i64 2, .int .i64 2, .int .i64 (x : Int), .bool (decide ((x : Int) < 2)), .int .i64 (x : Int), .agg LX.toArray, .int .i64 2, .int .i64 (x : Int), .agg A0.toArray, .int .i64 2, .int .i64 (x : Int), .slice (some ⟨g, 0, none⟩) 36 36, u32, u33, undef, undef, undef, undef, undef, undef, undef, undef, undef, undef, undef, undef, undef, undef, undef, undef, undef, undef, undef, undef, undef, undef, undef, undef, undef, undef, undef, undef, undef, undef, undef], defers := [] } : Act) _
          refine take_one 7 rfl rfl (by kernel_rfl) ?_
          refine wp_contract 14 [.tmp 25, .tmp 26, .tmp 27, .tmp 31] _ rfl (enters_of Try.func14 (by kernel_rfl) rfl) [.agg LX.toArray, .int .i64 2, .int .i64 (x : Int), .slice (some ⟨g, 0, none⟩) 36 36] rfl (CP.out g _ HG.out) ?_
          rintro e W6 ⟨rfl, b6⟩
          have HX6 : Hid (Wx B P F (fun j => if j < 36 * x then F j else 0) w W6) := HX2.out.next b6
          refine ⟨_, rfl, rB.out _ HX6.out, fun hH => ?_⟩
          show wpAnyH _ _ _ _ _ _ _ ({ tmps := #[.agg A0.toArray, .int .i64 2, .pointer (some ⟨B, 0, none⟩), undef, .pointer (some ⟨B + 1, 0, none⟩), .pointer (some ⟨P, 0, none⟩), .int .i64 (x : Int), undef, undef, undef, undef, undef, .bool true, .bool false, .int .i64 2, .bool true, .bool true, .int .i64 2, .bool false, .bool false, .int .i64 2, .int .i64 2, .int .i64 (x : Int), .bool (decide ((x : Int) < 2)), .int .i64 (x : Int), .agg LX.toArray, .int .i64 2, .int .i64 (x : Int), .agg A0.toArray, .int .i64 2, .int .i64 (x : Int), .slice (some ⟨g, 0, none⟩) 36 36, .agg LN.toArray, u33, undef, undef, undef, undef, undef, undef, undef, undef, undef, undef, undef, undef, undef, undef, undef, undef, undef, undef, undef, undef, undef, undef, undef, undef, undef, undef, undef, undef, undef, undef, undef], defers := [] } : Act) _
          refine take_one 8 rfl rfl (by kernel_rfl) ?_
          have ht7 : W6.there P 0 LN.toArray.size := by rw [← HN.out]; exact HX6.out.x.there .u8 _
          refine wp_store_mid 23 _ _ rfl P 0 LN.toArray rfl rfl ht7 jN oN ?_
          refine ⟨rB.out _ (HP7.out _ HX6.out), fun hH2 => ?_⟩
          exact wpAnyH_done (by kernel_rfl) ⟨g, rfl, HP7.out _ HX6.out⟩ _
        · skip
          refine wp_contract 13 [.tmp 28, .tmp 29, .tmp 30] _ rfl (enters_of Try.func13 (by kernel_rfl) rfl) [.agg A0.toArray, .int .i64 2, .int .i64 (x : Int)] rfl (cWd.out x hlt _) ?_
          rintro e W5 ⟨g, rfl, hg, hbk, b5⟩
          have HG : Hid (Bk .u8 W5 g 36 (fun j => F (36 * x + j))) := hbk
          replace HX2 : Hid (Wx B P F (fun j => if j < 36 * x then F j else 0) w W5) := HX2.out.next b5
          refine ⟨_, rfl, rB.out _ HX2.out, fun hH => ?_⟩
          show wpAnyH _ _ _ _ _ _ _ ({ tmps := #[.agg A0.toArray, .int .i64 2, .pointer (some ⟨B, 0, none⟩), undef, .pointer (some ⟨B + 1, 0, none⟩), .pointer (some ⟨P, 0, none⟩), .int .i64 (x : Int), undef, undef, undef, undef, undef, .bool true, .bool false, .int .i64 2, .bool true, .bool true, .int .i64 2, .bool false, .bool false, .int .i64 2, .int .i64 2, .int .i64 (x : Int), .bool (decide ((x : Int) < 2)), .int .i64 (x : Int), u25, .int .i64 2, .int .i64 (x : Int), .agg A0.toArray, .int .i64 2, .int .i64 (x : Int), .slice (some ⟨g, 0, none⟩) 36 36, u32, u33, undef, undef, undef, undef, undef, undef, undef, undef, undef, undef, undef, undef, undef, undef, undef, undef, undef, undef, undef, undef, undef, undef, undef, undef, undef, undef, undef, undef, undef, undef, undef], defers := [] } : Act) _
          refine take_one 0 rfl rfl (by kernel_rfl) ?_
          refine wp_load_mid 23 _ rfl P 0 rfl LX _ (rX.out _ HX2.out) Try.underlying23 rfl iX ?_
          refine ⟨hH, fun hH => ?_⟩
          show wpAnyH _ _ _ _ _ _ _ ({ tmps := #[.agg A0.toArray, .int .i64 2, .pointer (some ⟨B, 0, none⟩), undef, .pointer (some ⟨B + 1, 0, none⟩), .pointer (some ⟨P, 0, none⟩), .int .i64 (x : Int), undef, undef, undef, undef, undef, .bool true, .bool false, .int .i64 2, .bool true, .bool true, .int .i64 2, .bool false, .bool false, .int .i64 2, .int .i64 2, .int .i64 (x : Int), .bool (decide ((x : Int) < 2)), .int .i64 (x : Int), .agg LX.toArray, .int .i64 2, .int .i64 (x : Int), .agg A0.toArray, .int .i64 2, .int .i64 (x : Int), .slice (some ⟨g, 0, none⟩) 36 36, u32, u33, undef, undef, undef, undef, undef, undef, undef, undef, undef, undef, undef, undef, undef, undef, undef, undef, undef, undef, undef, undef, undef, undef, undef, undef, undef, undef, undef, undef, undef, undef, undef], defers := [] } : Act) _
          refine take_one 7 rfl rfl (by kernel_rfl) ?_
          refine wp_contract 14 [.tmp 25, .tmp 26, .tmp 27, .tmp 31] _ rfl (enters_of Try.func14 (by kernel_rfl) rfl) [.agg LX.toArray, .int .i64 2, .int .i64 (x : Int), .slice (some ⟨g, 0, none⟩) 36 36] rfl (CP.out g _ HG.out) ?_
          rintro e W6 ⟨rfl, b6⟩
          have HX6 : Hid (Wx B P F (fun j => if j < 36 * x then F j else 0) w W6) := HX2.out.next b6
          refine ⟨_, rfl, rB.out _ HX6.out, fun hH => ?_⟩
          show wpAnyH _ _ _ _ _ _ _ ({ tmps := #[.agg A0.toArray, .int .i64 2, .pointer (some ⟨B, 0, none⟩), undef, .pointer (some ⟨B + 1, 0, none⟩), .pointer (some ⟨P, 0, none⟩), .int .i64 (x : Int), undef, undef, undef, undef, undef, .bool true, .bool false, .int .i64 2, .bool true, .bool true, .int .i64 2, .bool false, .bool false, .int .i64 2, .int .i64 2, .int .i64 (x : Int), .bool (decide ((x : Int) < 2)), .int .i64 (x : Int), .agg LX.toArray, .int .i64 2, .int .i64 (x : Int), .agg A0.toArray, .int .i64 2, .int .i64 (x : Int), .slice (some ⟨g, 0, none⟩) 36 36, .agg LN.toArray, u33, undef, undef, undef, undef, undef, undef, undef, undef, undef, undef, undef, undef, undef, undef, undef, undef, undef, undef, undef, undef, undef, undef, undef, undef, undef, undef, undef, undef, undef, undef, undef], defers := [] } : Act) _
          refine take_one 8 rfl rfl (by kernel_rfl) ?_
          have ht7 : W6.there P 0 LN.toArray.size := by rw [← HN.out]; exact HX6.out.x.there .u8 _
          refine wp_store_mid 23 _ _ rfl P 0 LN.toArray rfl rfl ht7 jN oN ?_
          refine ⟨rB.out _ (HP7.out _ HX6.out), fun hH2 => ?_⟩
          exact wpAnyH_done (by kernel_rfl) ⟨g, rfl, HP7.out _ HX6.out⟩ _
      rintro _ W7 ⟨g, rfl, H7⟩
      simp only []
      go_wp2
      go_roundw
      case rel => exact ⟨x + 1, by omega, by go_num, H7⟩
      case measure => simp [intOf]; omega
    · obtain rfl : x = 2 := by omega
      have HXF : Hid (Wx B P F F w wr ∧ B + 1 < P) := by
        have h := HX.out
        exact ⟨{ h with x := h.x.congr fun j hj => by rw [if_pos (by omega)] }, H2.out.2⟩
      clear HX H2 cWd cPt
      go_upto_region 13 with (go_at_call 11; refine (cC.out _).mono ?_; rintro e w' ⟨rfl, hw2⟩; rw [hw2]; clear hw2 w')
      obtain ⟨V3, hV3⟩ : ∃ V3, wr.alloc (.cells ZS 48) = V3 := ⟨_, rfl⟩
      obtain ⟨S, hS⟩ : ∃ S, wr.heap.size = S := ⟨_, rfl⟩
      have H3 : Hid (Ws B P S F (sn 36 0 0) w [] V3) := by
        have h := Bk.new .i64 wr 72 (fun _ => 0) 48
        rw [HA.out.2.2, hV3, hS] at h
        have b := (Below.refl _ wr).alloc (Nat.le_refl _) (.cells ZS 48)
        rw [hV3] at b
        exact ⟨HXF.out.1.next b, h.congr fun j _ => (sn_zero 36 j).symm, ⟨HXF.out.2, by rw [← hS]; exact HXF.out.1.x.lt⟩, List.nodup_nil, fun D hD => by cases hD⟩
      rw [hV3, hS]
      clear hV3 hS HXF hzS
      refine wp_loop (PtW B P S F w 36 (fun u c ds => { tmps := #[.agg A0.toArray, .int .i64 2, .pointer (some ⟨B, 0, none⟩), undef, .pointer (some ⟨B + 1, 0, none⟩), .pointer (some ⟨P, 0, none⟩), u6, .pointer (some ⟨S, 0, none⟩), u.u8, u.u9, undef, undef, .bool true, .bool false, .int .i64 2, .bool true, .bool true, .int .i64 2, .bool false, .bool false, .int .i64 2, .int .i64 2, .int .i64 2, .bool false, u24, u25, u26, u27, u28, u29, u30, u31, u32, u33, .int .i64 2, .int .i64 36, .int .i64 (c : Int), u.u37, u.u38, u.u39, u.u40, u.u41, u.u42, u.u43, u.u44, u.u45, u.u46, u.u47, u.u48, u.u49, u.u50, u.u51, u.u52, u.u53, u.u54, undef, undef, undef, undef, undef, undef, undef, undef, undef, undef], defers := ds.map fun D => { target := .collected D, args := #[] } })) (fun act _ => 36 - (intOf (act.tmps.getD 36 undef)).toNat) ⟨0, [], ⟨_, _, _, _, _, _, _, _, _, _, _, _, _, _, _, _, _, _, _, _⟩, rfl, by omega, H3.out⟩ ?_
      rintro act wr2 ⟨c, ds, u, rfl, hc, hP⟩
      have HP : Hid (Ws B P S F (sn 36 c 0) w ds wr2) := hP
      clear H3 hP
      simp only []
      by_cases hct : c < 36
      · go_wp2_with fail
        refine (of_yes .chips (c : Int) ⟨by omega, by omega⟩ _).mono ?_
        rintro e V5 ⟨rfl, hV5⟩
        obtain ⟨E, hE⟩ : ∃ E, wr2.heap.size = E := ⟨_, rfl⟩
        have HV : Hid (Box V5 E (.int .i64 2) ∧ Box V5 (E + 1) (.int .i64 (c : Int)) ∧ Ws B P S F (sn 36 c 0) w ds V5 ∧ V5.heap.size = E + 2) := by
          obtain ⟨q, rfl⟩ := hV5
          have b1 := Box.new wr2 3 (.int .i64 2)
          have b2 := Box.new (wr2.alloc (.cells #[.int .i64 2] 3)) 3 (.int .i64 (c : Int))
          simp only [World.size_alloc] at b2
          rw [hE] at b1 b2
          have bb : Below wr2.heap.size wr2 (((wr2.alloc (.cells #[.int .i64 2] 3)).alloc (.cells #[.int .i64 (c : Int)] 3)).drewN q) := below_stay (((Below.refl _ wr2).alloc (Nat.le_refl _) _).alloc (by simp) _) (Stay.drewN _ _ q) (Nat.le_refl _)
          exact ⟨b1.alloc _, b2, HP.out.next bb, by simp [hE]⟩
        have hds : ∀ D ∈ ds, D < E := by rw [← hE]; exact HP.out.ds_lt
        have hSE : S < E := by rw [← hE]; exact HP.out.s.lt
        rw [hE]
        clear hV5 hE HP
        go_wp2
        have zV := HV.out.2.2.2
        have ho := HV.out.2.2.1.o
        refine (wpIn_wide (n := 10)).1 (rangeC rfl (enters_of Try.func28 (by kernel_rfl) rfl) (of2_seq2 (c : Int) (by omega) (by omega) E (E + 1) V5 HV.out.1 HV.out.2.1) (fun _ => rfl)
          (fun x => x = S) (by rintro x rfl; constructor <;> omega) (by rintro x (rfl | rfl) <;> omega)
          (WsI B P S F 36 c w ds) (fun _ _ _ => False)
          (fun x A A' h hs => Ws.stay h hs (by omega) (fun D hD => by have := hds D hD; omega))
          (fun _ _ _ _ h _ => h.elim) HV.out.2.2.1
          (fun _ _ _ hp _ => absurd trivial hp) ?round ?done (fun _ _ _ _ _ _ _ h => h.elim))
        case round =>
          rintro l x W W2 hx hp h
          have h' : Ws B P S F (sn 36 c x) w ds W2 := h
          have c1 : W2.cell? ⟨S, x * 36 + c, none⟩ = some (.int .i64 0) := by rw [← sn_at 36 c x hct]; exact h'.s.cell _ (by omega)
          have c2 := h'.s.free (x * 36 + c)
          have fin : Hid (Keep (fun x => x = S) W2 (W2.setCell ⟨S, x * 36 + c, none⟩ (.int .i64 1)) ∧ WsI B P S F 36 c w ds (x + 1) (W2.setCell ⟨S, x * 36 + c, none⟩ (.int .i64 1))) :=
            ⟨⟨by simp, fun b _ hm => Below.heap_setCell W2 _ _ b (fun e => hm e)⟩, (h'.put (x * 36 + c) 1).congr fun j _ => sn_step 36 c x j hct⟩
          have d1 : decide ((x : Int) * 36 + (c : Int) < 0) = false := by simp; omega
          have d2 : decide (71 < (x : Int) * 36 + (c : Int)) = false := by simp; omega
          clear h h' hp HV zV
          gi_wp2
          try (refine ⟨trivial, ?_⟩)
          try gi_wp2
          exact fin.out
        case done =>
          rintro K W hK h hKd
          have h' : Ws B P S F (sn 36 c 2) w ds W := h
          have HN : Hid (Ws B P S F (sn 36 (c + 1) 0) w (K :: ds) W) := (h'.congr fun j hj => sn_next 36 c 2 j (by omega)).mark (by omega) (fun D hD => by have := hds D hD; omega) hKd
          clear h h' hKd HV
          go_wp2
          refine ⟨⟨c + 1, K :: ds, ⟨_, _, _, _, _, _, _, _, _, _, _, _, _, _, _, _, _, _, _, _⟩, rfl, by omega, HN.out⟩, ?_⟩
          simp [intOf]; omega
      · obtain rfl : c = 36 := by omega
        obtain ⟨LS, hLS⟩ : ∃ L, ints .i64 72 (fun _ => (1 : Int)) = L := ⟨_, rfl⟩
        have iS : (Try.prog.info? 48).map (·.size) = some LS.length := by rw [← hLS, ints_len]; exact infoS
        have rS : wr2.rangeAt S 0 LS := by rw [← hLS]; exact (HP.out.s.congr (G := fun _ => 1) fun j _ => sn_all 36 j (by omega)).range
        have hix : Hid (∀ i : Nat, i < 72 → ∀ w : World, (Instr.index 48 (.agg LS.toArray) (.int .i64 (i : Int))).run Try.prog w = .ok (.int .i64 1) w) := fun i hi w => by rw [← hLS]; exact run_indexS (fun _ => 1) i hi w
        have rB : wr2.rangeAt B 0 A0 := by rw [← HA.out.1]; exact HP.out.x.r.range
        have rP : wr2.rangeAt P 0 A0 := by rw [← HA.out.1]; exact HP.out.x.x.range
        have t1 := HP.out.x.t.1
        have t2 := HP.out.x.t.2
        clear hLS
        go_upto_region 22 with (refine wpList_load_mid rfl 48 _ rfl S 0 rfl LS _ rS Try.underlying48 rfl iS ?_)
        go_loopw [56] (fun iv wr3 => ∃ i : Nat, i ≤ 72 ∧ iv = .int .i64 (i : Int) ∧ wr3 = wr2) (fun iv _ => 72 - (intOf iv).toNat)
        case atStart => exact ⟨0, by omega, rfl, rfl⟩
        case round =>
          obtain ⟨i, hi, rfl, rfl⟩ := hrel
          by_cases hit : i < 72
          · have hi1 := hix.out i hit
            go_wp2
            go_roundw
            case rel => exact ⟨i + 1, by omega, by go_num, trivial⟩
            case measure => simp [intOf]; omega
          · obtain rfl : i = 72 := by omega
            have HF : Hid (ds.Nodup ∧ (∀ D ∈ ds, B ≤ D ∧ (wr.setCell ⟨B + 1, 0, none⟩ (.bool true)).heap[D]? = some (.deferred (some []))) ∧ Box (wr.setCell ⟨B + 1, 0, none⟩ (.bool true)) (B + 1) (.bool true) ∧ Below B w (wr.setCell ⟨B + 1, 0, none⟩ (.bool true))) := by
              have ho := HP.out.o
              refine ⟨HP.out.nd, fun D hD => ?_, HP.out.x.t.set _, HP.out.x.below.setCell (p := ⟨B + 1, 0, none⟩) (by simp) _⟩
              have := HP.out.dm D hD
              exact ⟨by omega, (Below.heap_setCell wr _ _ D (by simp; omega)).trans this.2⟩
            clear HP hix
            go_wp2_with (first | refine wpList_load_mid rfl 23 _ rfl P 0 rfl A0 _ rP Try.underlying23 rfl i0 ?_ | refine wpList_load_mid rfl 23 _ rfl B 0 rfl A0 _ rB Try.underlying23 rfl i0 ?_)
            exact ends9 hB (T := B + 1) (fun W1 h1 => by simp [results, Try.f7, asAddr, go_sem, h1]) ds _ HF.out.1 HF.out.2.1 HF.out.2.2.1 HF.out.2.2.2

set_option maxRecDepth 100000 in
set_option maxHeartbeats 1000000 in
theorem rawWhole0 (m : Int) (h1 : m ≠ 1) (h2 : m ≠ 2) (F : Nat → Int) (w : World) :
    Calls Try.prog 7 #[.agg (ints .u8 72 F).toArray, .int .i64 m] w fun e w' => e = .returned (.bool true) ∧ Below w.heap.size w w' := by
  have cA : Hid (∀ W : World, Calls Try.prog 8 #[] W fun e w' => e = .returned (.bool true) ∧ Below W.heap.size W w') := anchor9_any
  have d1 : (m != 1) = true := by simpa using h1
  have d2 : (m != 2) = true := by simpa using h2
  obtain ⟨A0, hA0⟩ : ∃ A, (ints .u8 72 F).toArray = A := ⟨_, rfl⟩
  rw [hA0]
  have H0 : Hid (Box ((w.alloc (.cells A0 23)).alloc (.cells #[.bool false] 4)) (w.heap.size + 1) (.bool false) ∧ Below w.heap.size w ((w.alloc (.cells A0 23)).alloc (.cells #[.bool false] 4))) := by
    have h1 := Box.new (w.alloc (.cells A0 23)) 4 (.bool false)
    simp only [World.size_alloc] at h1
    exact ⟨h1, ((Below.refl _ w).alloc (Nat.le_refl _) _).alloc (by simp) _⟩
  clear hA0 h1 h2
  refine (callsIn_wide (n := 10)).1 ?_
  refine callsIn_of_wp_marks Try.func7 rfl trivial ?_ rfl
  simp only [Try.ntmps7, List.size_toArray, List.length_cons, List.length_nil, Nat.reduceAdd, Nat.reduceSub, Array.replicate_succ, Array.replicate_zero, List.push_toArray, List.append_toArray, List.nil_append, List.cons_append]
  refine wpIn_wide.2 ?_
  go_wp2_with fail
  obtain ⟨V, hV⟩ : ∃ V, (w.alloc (.cells A0 23)).alloc (.cells #[.bool false] 4) = V := ⟨_, rfl⟩
  obtain ⟨B, hB⟩ : ∃ B, w.heap.size = B := ⟨_, rfl⟩
  rw [hV] at H0 ⊢
  rw [hB] at H0 ⊢
  refine (cA.out _).mono ?_
  rintro e V1 ⟨rfl, b1⟩
  replace H0 : Hid (Box V1 (B + 1) (.bool false) ∧ Below B w V1) := ⟨H0.out.1.below b1 H0.out.1.lt, H0.out.2.trans (b1.mono (by have := H0.out.1.lt; omega))⟩
  have t1 := H0.out.1.1
  have t2 := H0.out.1.2
  clear b1 hV V
  go_wp2
  exact ends9 (ds := []) hB (T := B + 1) (fun W1 h1 => by simp [results, Try.f7, asAddr, go_sem, h1]) _ List.nodup_nil (fun _ h => by cases h) (H0.out.1.set _) (H0.out.2.setCell (p := ⟨B + 1, 0, none⟩) (by simp) _)
theorem rawWhole_walk (a0 : Nat → Int) (a1 : Int) (w0 : ∀ i, i < 72 → (Lit.int .u8 (a0 i)).wf = true) (_w1 : (Lit.int .i64 a1).wf = true) (w : World) :
    Calls Try.prog 7 #[.agg (ints .u8 72 a0).toArray, .int .i64 a1] w fun e w' => e = .returned (.bool true) ∧ Below w.heap.size w w' := by
  by_cases h1 : a1 = 1
  · subst h1; exact rawWhole1 a0 (args_byts 72 _ w0) w
  · by_cases h2 : a1 = 2
    · subst h2; exact rawWhole2 a0 (args_byts 72 _ w0) w
    · exact rawWhole0 a1 h1 h2 a0 w
end Go.Proofs.Ytkbbnpjjfhmlkaa
