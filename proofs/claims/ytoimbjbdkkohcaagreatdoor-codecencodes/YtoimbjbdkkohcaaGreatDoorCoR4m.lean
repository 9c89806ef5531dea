/-
  The document's checks.
-/
import Derived.Test.YtoimbjbdkkohcaaGreatDoorCoM9m
import Derived.Test.YtoimbjbdkkohcaaGreatDoorM18
import Derived.Test.YtoimbjbdkkohcaaGreatDoorM05
namespace Go.Proofs.YtoimbjbdkkohcaaGreatDoor
open Go.RowKit Go.Shelf
open Po (El mu toE)
open Rm (al)
open Co (GG DV)
attribute [local go_sem] Oper.semAt_some

/-- while the document divides: the word in B, what is told in B + 1, the divisor in B + 2 -/
structure CkI (B : Nat) (G W0 : Nat → El) (w W : World) : Prop where
  a : Blk W B 39 W0
  o : Blk W (B + 1) 4 (fun _ => 0)
  g : Blk W (B + 1 + 1) 5 G
  below : Below B w W
section
variable {B : Nat} {G G' W0 W0' : Nat → El} {w W W' : World}
theorem CkI.setG (H : CkI B G W0 w W) (i : Nat) (e : El) : CkI B (fun j => if j = i then e else G j) W0 w (W.setCell ⟨B + 1 + 1, i, none⟩ (.int .u8 (oe e))) :=
  ⟨H.a.other (by omega) i _, H.o.other (by omega) i _, H.g.set i e, H.below.setCell (p := ⟨B + 1 + 1, i, none⟩) (by simp; omega) _⟩
theorem CkI.setA (H : CkI B G W0 w W) (i : Nat) (e : El) : CkI B G (fun j => if j = i then e else W0 j) w (W.setCell ⟨B, i, none⟩ (.int .u8 (oe e))) :=
  ⟨H.a.set i e, H.o.other (by omega) i _, H.g.other (by omega) i _, H.below.setCell (p := ⟨B, i, none⟩) (by simp) _⟩
theorem CkI.congrG (H : CkI B G W0 w W) (h : ∀ i, i < 5 → G i = G' i) : CkI B G' W0 w W := ⟨H.a, H.o, H.g.congr h, H.below⟩
theorem CkI.congrA (H : CkI B G W0 w W) (h : ∀ i, i < 39 → W0 i = W0' i) : CkI B G W0' w W := ⟨H.a.congr h, H.o, H.g, H.below⟩
theorem CkI.drew (H : CkI B G W0 w W) : CkI B G W0 w W.drew := ⟨H.a.drew, H.o.drew, H.g.drew, below_drewN H.below 1⟩
end
theorem zero4r (w : World) : (zeroValue 50).run Tryz.prog w = .ok (.agg #[.int .u8 0, .int .u8 0, .int .u8 0, .int .u8 0]) w := by kernel_rfl
theorem zero5r (w : World) : (zeroValue 105).run Tryz.prog w = .ok (.agg #[.int .u8 0, .int .u8 0, .int .u8 0, .int .u8 0, .int .u8 0]) w := by kernel_rfl
theorem info4r : (Tryz.prog.info? 50).map (·.size) = some 4 := by kernel_rfl
theorem info5r : (Tryz.prog.info? 105).map (·.size) = some 5 := by kernel_rfl
theorem wrap_small4 (x : Int) (h0 : 0 ≤ x) (h1 : x < 4611686018427387904) : IntKind.i64.wrap x = x := by
  unfold IntKind.wrap; simp [IntKind.bits, IntKind.signed]; omega
theorem sz_u8r (w : World) : (sizeOf 5).run Tryz.prog w = .ok 1 w := by kernel_rfl
theorem wp_yield {P : Program} {o : Oper} {a : Act} {w : World} {K : Act → World → Prop} {Q : Exit → Act → World → Prop} (v : Value) (hy : (execOp a.eval o).run P w = .ok (.value v) w) (h : K (a.put o.dst v) w) : Oper.wp P o a w K Q := by
  unfold Oper.wp
  rw [hy]
  exact h
theorem gg0_arr : arr 5 (GG 0) = [.int .u8 1, .int .u8 0, .int .u8 0, .int .u8 0, .int .u8 0] := by kernel_rfl
set_option maxRecDepth 100000 in
set_option maxHeartbeats 2000000 in
theorem refChecks10_any (W0 : Nat → El) (w : World) :
    Calls Tryz.prog 25 #[.agg (arr 39 W0).toArray] w fun e w' => e = .returned (.agg (arr 4 (DV W0 35)).toArray) ∧ Below w.heap.size w w' := by
  have hz4 := zero4r
  have hz5 := zero5r
  have i5 := info5r
  obtain ⟨A, hA⟩ : ∃ A, (arr 39 W0).toArray = A := ⟨_, rfl⟩
  have hZ4 : (arr 4 fun _ => 0).toArray = #[.int .u8 0, .int .u8 0, .int .u8 0, .int .u8 0] := rfl
  have hZ5 : (arr 5 fun _ => 0).toArray = #[.int .u8 0, .int .u8 0, .int .u8 0, .int .u8 0, .int .u8 0] := rfl
  have cM : Hid (∀ (a b : El) (w : World), Calls Tryz.prog 53 #[.int .u8 (oe a), .int .u8 (oe b)] w fun e w' => e = .returned (.int .u8 (oe (mu a b))) ∧ w' = w) := mulE_any
  have HI : Hid (∀ V, V = (((w.alloc (.cells A 52)).alloc (.cells #[.int .u8 0, .int .u8 0, .int .u8 0, .int .u8 0] 50)).alloc (.cells #[.int .u8 0, .int .u8 0, .int .u8 0, .int .u8 0, .int .u8 0] 105)).setCells (w.heap.size + 1 + 1) 0 [.int .u8 1, .int .u8 0, .int .u8 0, .int .u8 0, .int .u8 0] → CkI w.heap.size (GG 0) W0 w V) := fun V hV => by
    subst hV
    rw [← hA, ← hZ4, ← hZ5, ← gg0_arr]
    have h1 := Blk.new w 39 W0 52
    have h2 := Blk.new (w.alloc (.cells (arr 39 W0).toArray 52)) 4 (fun _ => 0) 50
    have h3 := Blk.new ((w.alloc (.cells (arr 39 W0).toArray 52)).alloc (.cells (arr 4 fun _ => 0).toArray 50)) 5 (fun _ => 0) 105
    simp only [World.size_alloc] at h2 h3
    exact ⟨((h1.alloc _).alloc _).of (heap_puts _ _ 0 _ _ (by omega)), (h2.alloc _).of (heap_puts _ _ 0 _ _ (by omega)), h3.put (GG 0), belows_put (by omega) _ 0 ((((Below.refl _ w).alloc (Nat.le_refl _) _).alloc (by simp) _).alloc (by simp <;> omega) _)⟩
  have ht5 : (((w.alloc (.cells A 52)).alloc (.cells #[.int .u8 0, .int .u8 0, .int .u8 0, .int .u8 0] 50)).alloc (.cells #[.int .u8 0, .int .u8 0, .int .u8 0, .int .u8 0, .int .u8 0] 105)).there (w.heap.size + 1 + 1) 0 5 := by
    have h := (Blk.new ((w.alloc (.cells A 52)).alloc (.cells #[.int .u8 0, .int .u8 0, .int .u8 0, .int .u8 0] 50)) 5 (fun _ => 0) 105).there (G := fun _ => 0)
    rw [hZ5] at h
    simp only [World.size_alloc] at h
    exact h
  rw [hA]
  clear hA hZ4 hZ5
  go_enter Tryz.func25, Tryz.ntmps25
  go_upto_region 1 with (fail)
  go_upto_region 2 with (refine wpList_store_mid rfl 105 _ _ rfl _ 0 #[.int .u8 1, .int .u8 0, .int .u8 0, .int .u8 0, .int .u8 0] rfl rfl ht5 i5 (by simp [Value.oneCell']) ?_)
  obtain ⟨V, hV⟩ : ∃ V, (((w.alloc (.cells A 52)).alloc (.cells #[.int .u8 0, .int .u8 0, .int .u8 0, .int .u8 0] 50)).alloc (.cells #[.int .u8 0, .int .u8 0, .int .u8 0, .int .u8 0, .int .u8 0] 105)).setCells (w.heap.size + 1 + 1) 0 [.int .u8 1, .int .u8 0, .int .u8 0, .int .u8 0, .int .u8 0] = V := ⟨_, rfl⟩
  have H0 : Hid (CkI w.heap.size (GG 0) W0 w V) := HI.out V hV.symm
  rw [hV]
  clear hV HI ht5
  obtain ⟨B, hB⟩ : ∃ B, w.heap.size = B := ⟨_, rfl⟩
  rw [hB] at H0 ⊢
  go_wp2
  go_loopw [4, 5] (fun r k wr => ∃ n : Nat, n ≤ 4 ∧ r = .int .u8 (oe (al n)) ∧ k = .int .i64 (n : Int) ∧ Hid (CkI B (GG n) W0 w wr)) (fun _ k _ => 4 - (intOf k).toNat)
  case atStart => exact ⟨0, by omega, rfl, rfl, H0⟩
  case round =>
    obtain ⟨n, hn, rfl, rfl, HK⟩ := hrel
    by_cases hlt : n < 4
    · obtain ⟨b, Hb⟩ : ∃ b, Hid (al n = b) := ⟨_, rfl⟩
      obtain ⟨F, HF⟩ : ∃ F, Hid (GG n = F) := ⟨_, rfl⟩
      obtain ⟨F', HF'⟩ : ∃ F', Hid (GG (n + 1) = F') := ⟨_, rfl⟩
      have HS : Hid (∀ p, F' p = mu (F p) b ^^^ (if 0 < p then F (p - 1) else 0)) := fun p => by rw [← HF'.out, ← HF.out, ← Hb.out]; rfl
      rw [HF.out] at HK
      rw [Hb.out]
      clear H0 HF
      have hd4 : decide ((n : Int) < 4) = true := decide_eq_true (by omega)
      go_wp2
      go_loopw [6] (fun i wr => ∃ m : Nat, m ≤ 5 ∧ i = .int .i64 ((m : Int) - 1) ∧ Hid (CkI B (fun p => if p < m then F p else F' p) W0 w wr)) (fun i _ => ((intOf i) + 1).toNat)
      case atStart => exact ⟨5, by omega, rfl, HK.out.congrG fun i hi => by rw [if_pos hi]⟩
      case round =>
        obtain ⟨m, hm, rfl, HJ⟩ := hrel
        by_cases h1 : 1 ≤ m
        · obtain ⟨q, rfl⟩ : ∃ q, m = q + 1 := ⟨m - 1, by omega⟩
          have ei : ((q + 1 : Nat) : Int) - 1 = (q : Int) := by omega
          rw [ei]
          clear ei HK
          obtain ⟨x, Hx⟩ : ∃ x, Hid (F q = x) := ⟨_, rfl⟩
          have c0 := HJ.out.g.arr q (by omega)
          rw [if_pos (by omega), Hx.out] at c0
          have f0 := HJ.out.g.free q
          obtain ⟨y, Hy⟩ : ∃ y, Hid (mu x b = y) := ⟨_, rfl⟩
          have HM : Hid (∀ w : World, Calls Tryz.prog 53 #[.int .u8 (oe x), .int .u8 (oe b)] w fun e w' => e = .returned (.int .u8 (oe y)) ∧ w' = w) := fun w => by rw [← Hy.out]; exact cM.out x b w
          have HJ2 : Hid (CkI B (fun p => if p = q then y else if p < q then F p else F' p) W0 w (wr.setCell ⟨B + 1 + 1, q, none⟩ (.int .u8 (oe y)))) := (HJ.out.setG q y).congrG fun p _ => by
            show (if p = q then y else if p < q + 1 then F p else F' p) = _
            by_cases e : p = q
            · rw [if_pos e, if_pos e]
            · rw [if_neg e, if_neg e]
              by_cases e2 : p < q
              · rw [if_pos e2, if_pos (by omega)]
              · rw [if_neg e2, if_neg (by omega)]
          by_cases hq : q = 0
          · have hq0 : ¬ (0 : Int) < (q : Int) := by omega
            have HN : Hid (CkI B (fun p => if p < q then F p else F' p) W0 w (wr.setCell ⟨B + 1 + 1, q, none⟩ (.int .u8 (oe y)))) := HJ2.out.congrG fun p _ => by
              by_cases e : p = q
              · rw [if_pos e, if_neg (by omega), HS.out p, if_neg (by omega), e, Hx.out, Hy.out, Po.x0]
              · rw [if_neg e]
            clear HJ HJ2 Hx Hy HS hq
            go_wp2_with fail
            refine (HM.out _).mono ?_
            rintro e w' ⟨rfl, rfl⟩
            go_wp2
            go_roundw
            case rel => exact ⟨q, by omega, by first | rfl | go_num, HN⟩
            case measure => simp [intOf]
          · obtain ⟨r, rfl⟩ : ∃ r, q = r + 1 := ⟨q - 1, by omega⟩
            obtain ⟨z, Hz⟩ : ∃ z, Hid (F r = z) := ⟨_, rfl⟩
            clear HJ hq
            go_wp2_with fail
            refine (HM.out _).mono ?_
            rintro e w' ⟨rfl, rfl⟩
            obtain ⟨W2, hW2⟩ : ∃ W2, w'.setCell ⟨B + 1 + 1, r + 1, none⟩ (.int .u8 (oe y)) = W2 := ⟨_, rfl⟩
            rw [hW2] at HJ2
            go_upto_region 10 with (fail)
            try rw [hW2]
            clear hW2 c0 f0 HM
            have c0 := HJ2.out.g.arr (r + 1) (by omega)
            rw [if_pos rfl] at c0
            have c1 := HJ2.out.g.arr r (by omega)
            rw [if_neg (by omega), if_pos (by omega), Hz.out] at c1
            have f0 := HJ2.out.g.free (r + 1)
            have ex := oe_xor y z
            have er : ((r + 1 : Nat) : Int) - 1 = (r : Int) := by omega
            have HN : Hid (CkI B (fun p => if p < r + 1 then F p else F' p) W0 w (W2.setCell ⟨B + 1 + 1, r + 1, none⟩ (.int .u8 (oe (y ^^^ z)))).drew) := ((HJ2.out.setG (r + 1) (y ^^^ z)).congrG fun p _ => by
              show (if p = r + 1 then y ^^^ z else if p = r + 1 then y else if p < r + 1 then F p else F' p) = _
              by_cases e : p = r + 1
              · rw [if_pos e, if_neg (by omega), HS.out p, if_pos (by omega), e, Hx.out, Hy.out, show r + 1 - 1 = r by omega, Hz.out]
              · rw [if_neg e, if_neg e]).drew
            clear HJ2 Hx Hy Hz HS
            go_wp2
            go_region
            try rw [ex]
            --TRACE
            go_wp2
            go_roundw
            case rel => exact ⟨r + 1, by omega, by first | rfl | go_num, HN⟩
            case measure => simp [intOf]; omega
        · obtain rfl : m = 0 := by omega
          have HN : Hid (CkI B (GG (n + 1)) W0 w wr) := HJ.out.congrG fun p _ => by rw [if_neg (by omega), HF'.out]
          have HM : Hid (∀ w : World, Calls Tryz.prog 53 #[.int .u8 (oe b), .int .u8 2] w fun e w' => e = .returned (.int .u8 (oe (al (n + 1)))) ∧ w' = w) := fun w => by
            have h := cM.out b 2 w
            rw [← Hb.out] at h ⊢
            exact h
          obtain ⟨b2, Hb2⟩ : ∃ b2, Hid (al (n + 1) = b2) := ⟨_, rfl⟩
          rw [Hb2.out] at HM
          clear HJ HK HS
          go_wp2_with fail
          refine (HM.out _).mono ?_
          rintro e w' ⟨rfl, rfl⟩
          go_wp2
          go_roundw
          case rel => exact ⟨n + 1, by omega, by rw [Hb2.out], by go_num, HN⟩
          case measure => simp [intOf]; omega
    · obtain rfl : n = 4 := by omega
      obtain ⟨G, HG⟩ : ∃ G, Hid (GG 4 = G) := ⟨_, rfl⟩
      rw [HG.out] at HK
      go_wp2
      go_loopw [7] (fun i wr => ∃ m : Nat, m ≤ 35 ∧ i = .int .i64 ((m : Int) + 3) ∧ Hid (CkI B G (DV W0 (35 - m)) w wr)) (fun i _ => ((intOf i) - 3).toNat)
      case atStart => exact ⟨35, by omega, rfl, HK⟩
      case round =>
        obtain ⟨m, hm, rfl, HJ⟩ := hrel
        by_cases h1 : 1 ≤ m
        · obtain ⟨q, rfl⟩ : ∃ q, m = q + 1 := ⟨m - 1, by omega⟩
          have ei : ((q + 1 : Nat) : Int) + 3 = ((q + 4 : Nat) : Int) := by omega
          rw [ei]
          obtain ⟨D, HD⟩ : ∃ D, Hid (DV W0 (34 - q) = D) := ⟨_, rfl⟩
          rw [show 35 - (q + 1) = 34 - q by omega, HD.out] at HJ
          have HS : Hid (∀ p, DV W0 (35 - q) p = if q ≤ p ∧ p ≤ q + 4 then D p ^^^ mu (D (q + 4)) (G (p - q)) else D p) := fun p => by rw [Co.DV_next W0 q p (by omega), HD.out, HG.out]
          obtain ⟨a, Ha⟩ : ∃ a, Hid (D (q + 4) = a) := ⟨_, rfl⟩
          rw [Ha.out] at HS
          have c0 := HJ.out.a.arr (q + 4) (by omega)
          rw [Ha.out] at c0
          clear HK H0 ei
          have hd4 : decide ((4 : Int) ≤ ((q + 4 : Nat) : Int)) = true := decide_eq_true (by omega)
          have hd5 : decide ((4 : Int) ≤ (q : Int) + 4) = true := decide_eq_true (by omega)
          go_wp2
          go_loopw [9] (fun i wr => ∃ k : Nat, k ≤ 5 ∧ i = .int .i64 (k : Int) ∧ Hid (CkI B G (fun p => if q ≤ p ∧ p < q + k then D p ^^^ mu a (G (p - q)) else D p) w wr)) (fun i _ => 5 - (intOf i).toNat)
          case atStart => exact ⟨0, by omega, rfl, HJ.out.congrA fun p _ => by rw [if_neg (by omega)]⟩
          case round =>
            obtain ⟨k, hk, rfl, HL⟩ := hrel
            by_cases h2 : k < 5
            · obtain ⟨x, Hx⟩ : ∃ x, Hid (D (q + k) = x) := ⟨_, rfl⟩
              obtain ⟨y, Hy⟩ : ∃ y, Hid (G k = y) := ⟨_, rfl⟩
              obtain ⟨z, Hz⟩ : ∃ z, Hid (mu a y = z) := ⟨_, rfl⟩
              have HM : Hid (∀ w : World, Calls Tryz.prog 53 #[.int .u8 (oe a), .int .u8 (oe y)] w fun e w' => e = .returned (.int .u8 (oe z)) ∧ w' = w) := fun w => by rw [← Hz.out]; exact cM.out a y w
              have hcw : wr.cell? ⟨B, q + k, none⟩ = some (.int .u8 (oe x)) := by
                have := HL.out.a.arr (q + k) (by omega)
                rw [if_neg (by omega), Hx.out] at this; exact this
              have hcg : wr.cell? ⟨B + 1 + 1, k, none⟩ = some (.int .u8 (oe y)) := by
                have := HL.out.g.arr k h2
                rw [Hy.out] at this; exact this
              have hfw := HL.out.a.free (q + k)
              have ex := oe_xor x z
              have HN : Hid (CkI B G (fun p => if q ≤ p ∧ p < q + (k + 1) then D p ^^^ mu a (G (p - q)) else D p) w (wr.drew.setCell ⟨B, q + k, none⟩ (.int .u8 (oe (x ^^^ z))))) := (HL.out.drew.setA (q + k) (x ^^^ z)).congrA fun p _ => by
                show (if p = q + k then x ^^^ z else if q ≤ p ∧ p < q + k then D p ^^^ mu a (G (p - q)) else D p) = _
                by_cases e : p = q + k
                · rw [if_pos e, if_pos (by omega), e, Hx.out, show q + k - q = k by omega, Hy.out, Hz.out]
                · rw [if_neg e]
                  by_cases e2 : q ≤ p ∧ p < q + k
                  · rw [if_pos e2, if_pos (by omega)]
                  · rw [if_neg e2, if_neg (by omega)]
              have wq := wrap_small4 (q : Int) (by omega) (by omega)
              have wqk := wrap_small4 ((q : Int) + (k : Int)) (by omega) (by omega)
              clear Hx Hy Hz HL HJ HS
              go_upto_region 20 with (fail)
              refine region_ends (by kernel_rfl) (fun W => W.cell? ⟨B + 1 + 1, k, none⟩ = some (.int .u8 (oe y))) (fun a' W' => a' = ({ tmps := #[.agg A, .pointer (some ⟨B, 0, none⟩), .pointer (some ⟨B + 1, 0, none⟩), .pointer (some ⟨B + 1 + 1, 0, none⟩), .int .u8 (oe (al 4)), .int .i64 ((4 : Nat) : Int), u6, .int .i64 ((q + 4 : Nat) : Int), .int .u8 (oe a), .int .i64 (k : Int), .agg #[.int .u8 1, .int .u8 0, .int .u8 0, .int .u8 0, .int .u8 0], .int .i64 ((4 : Nat) : Int), .bool false, u13, u14, u15, u16, u17, u18, u19, u20, u21, u22, u23, u24, u25, u26, u27, u28, u29, u30, u31, u32, u33, u34, u35, u36, u37, u38, u39, .int .i64 ((q + 4 : Nat) : Int), .bool true, u42, u43, .int .i64 ((q + 4 : Nat) : Int), .pointer (some ⟨B, q + 4, none⟩), .int .u8 (oe a), .int .i64 (k : Int), .bool (decide ((k : Int) ≤ 4)), u49, u50, .int .i64 ((q + 4 : Nat) : Int), .int .i64 (q : Int), .int .i64 (k : Int), .int .i64 ((q + k : Nat) : Int), .int .i64 ((q + 4 : Nat) : Int), .int .i64 (q : Int), .int .i64 (k : Int), .int .i64 ((q + k : Nat) : Int), .pointer (some ⟨B, q + k, none⟩), .int .u8 (oe x), .int .u8 (oe a), .int .i64 (k : Int), .pointer (some ⟨B + 1 + 1, k, none⟩), .int .u8 (oe y), .int .u8 (oe z), .int .u8 (oe (x ^^^ z)), .pointer (some ⟨B, q + k, none⟩), undef, undef, undef, undef, undef, undef, undef, undef, undef], defers := [] } : Act) ∧ W' = wr.drew.setCell ⟨B, q + k, none⟩ (.int .u8 (oe (x ^^^ z)))) hcg (fun hH => ?rg20) ?_
              case rg20 =>
                refine take_pure 0 (v := .int .i64 ((q + 4 : Nat) : Int)) rfl (by kernel_rfl) rfl (fun w' hw => by simp [execOp, go_sem]) hH ?_
                show wpAnyH _ _ _ _ _ _ _ ({ tmps := #[.agg A, .pointer (some ⟨B, 0, none⟩), .pointer (some ⟨B + 1, 0, none⟩), .pointer (some ⟨B + 1 + 1, 0, none⟩), .int .u8 (oe (al 4)), .int .i64 ((4 : Nat) : Int), u6, .int .i64 ((q + 4 : Nat) : Int), .int .u8 (oe a), .int .i64 (k : Int), .agg #[.int .u8 1, .int .u8 0, .int .u8 0, .int .u8 0, .int .u8 0], .int .i64 ((4 : Nat) : Int), .bool false, u13, u14, u15, u16, u17, u18, u19, u20, u21, u22, u23, u24, u25, u26, u27, u28, u29, u30, u31, u32, u33, u34, u35, u36, u37, u38, u39, .int .i64 ((q + 4 : Nat) : Int), .bool true, u42, u43, .int .i64 ((q + 4 : Nat) : Int), .pointer (some ⟨B, q + 4, none⟩), .int .u8 (oe a), .int .i64 (k : Int), .bool (decide ((k : Int) ≤ 4)), u49, u50, .int .i64 ((q + 4 : Nat) : Int), u52, u53, u54, u55, u56, u57, u58, u59, u60, u61, u62, u63, u64, u65, u66, u67, undef, undef, undef, undef, undef, undef, undef, undef, undef], defers := [] } : Act) _
                refine take_pure 1 (v := .int .i64 (q : Int)) rfl (by kernel_rfl) rfl (fun w' hw => by simp [execOp, go_sem, wq]) hH ?_
                show wpAnyH _ _ _ _ _ _ _ ({ tmps := #[.agg A, .pointer (some ⟨B, 0, none⟩), .pointer (some ⟨B + 1, 0, none⟩), .pointer (some ⟨B + 1 + 1, 0, none⟩), .int .u8 (oe (al 4)), .int .i64 ((4 : Nat) : Int), u6, .int .i64 ((q + 4 : Nat) : Int), .int .u8 (oe a), .int .i64 (k : Int), .agg #[.int .u8 1, .int .u8 0, .int .u8 0, .int .u8 0, .int .u8 0], .int .i64 ((4 : Nat) : Int), .bool false, u13, u14, u15, u16, u17, u18, u19, u20, u21, u22, u23, u24, u25, u26, u27, u28, u29, u30, u31, u32, u33, u34, u35, u36, u37, u38, u39, .int .i64 ((q + 4 : Nat) : Int), .bool true, u42, u43, .int .i64 ((q + 4 : Nat) : Int), .pointer (some ⟨B, q + 4, none⟩), .int .u8 (oe a), .int .i64 (k : Int), .bool (decide ((k : Int) ≤ 4)), u49, u50, .int .i64 ((q + 4 : Nat) : Int), .int .i64 (q : Int), u53, u54, u55, u56, u57, u58, u59, u60, u61, u62, u63, u64, u65, u66, u67, undef, undef, undef, undef, undef, undef, undef, undef, undef], defers := [] } : Act) _
                refine take_pure 2 (v := .int .i64 (k : Int)) rfl (by kernel_rfl) rfl (fun w' hw => by simp [execOp, go_sem]) hH ?_
                show wpAnyH _ _ _ _ _ _ _ ({ tmps := #[.agg A, .pointer (some ⟨B, 0, none⟩), .pointer (some ⟨B + 1, 0, none⟩), .pointer (some ⟨B + 1 + 1, 0, none⟩), .int .u8 (oe (al 4)), .int .i64 ((4 : Nat) : Int), u6, .int .i64 ((q + 4 : Nat) : Int), .int .u8 (oe a), .int .i64 (k : Int), .agg #[.int .u8 1, .int .u8 0, .int .u8 0, .int .u8 0, .int .u8 0], .int .i64 ((4 : Nat) : Int), .bool false, u13, u14, u15, u16, u17, u18, u19, u20, u21, u22, u23, u24, u25, u26, u27, u28, u29, u30, u31, u32, u33, u34, u35, u36, u37, u38, u39, .int .i64 ((q + 4 : Nat) : Int), .bool true, u42, u43, .int .i64 ((q + 4 : Nat) : Int), .pointer (some ⟨B, q + 4, none⟩), .int .u8 (oe a), .int .i64 (k : Int), .bool (decide ((k : Int) ≤ 4)), u49, u50, .int .i64 ((q + 4 : Nat) : Int), .int .i64 (q : Int), .int .i64 (k : Int), u54, u55, u56, u57, u58, u59, u60, u61, u62, u63, u64, u65, u66, u67, undef, undef, undef, undef, undef, undef, undef, undef, undef], defers := [] } : Act) _
                refine take_pure 3 (v := .int .i64 ((q + k : Nat) : Int)) rfl (by kernel_rfl) rfl (fun w' hw => by simp [execOp, go_sem, wqk]) hH ?_
                show wpAnyH _ _ _ _ _ _ _ ({ tmps := #[.agg A, .pointer (some ⟨B, 0, none⟩), .pointer (some ⟨B + 1, 0, none⟩), .pointer (some ⟨B + 1 + 1, 0, none⟩), .int .u8 (oe (al 4)), .int .i64 ((4 : Nat) : Int), u6, .int .i64 ((q + 4 : Nat) : Int), .int .u8 (oe a), .int .i64 (k : Int), .agg #[.int .u8 1, .int .u8 0, .int .u8 0, .int .u8 0, .int .u8 0], .int .i64 ((4 : Nat) : Int), .bool false, u13, u14, u15, u16, u17, u18, u19, u20, u21, u22, u23, u24, u25, u26, u27, u28, u29, u30, u31, u32, u33, u34, u35, u36, u37, u38, u39, .int .i64 ((q + 4 : Nat) : Int), .bool true, u42, u43, .int .i64 ((q + 4 : Nat) : Int), .pointer (some ⟨B, q + 4, none⟩), .int .u8 (oe a), .int .i64 (k : Int), .bool (decide ((k : Int) ≤ 4)), u49, u50, .int .i64 ((q + 4 : Nat) : Int), .int .i64 (q : Int), .int .i64 (k : Int), .int .i64 ((q + k : Nat) : Int), u55, u56, u57, u58, u59, u60, u61, u62, u63, u64, u65, u66, u67, undef, undef, undef, undef, undef, undef, undef, undef, undef], defers := [] } : Act) _
                refine take_pure 4 (v := .int .i64 ((q + 4 : Nat) : Int)) rfl (by kernel_rfl) rfl (fun w' hw => by simp [execOp, go_sem]) hH ?_
                show wpAnyH _ _ _ _ _ _ _ ({ tmps := #[.agg A, .pointer (some ⟨B, 0, none⟩), .pointer (some ⟨B + 1, 0, none⟩), .pointer (some ⟨B + 1 + 1, 0, none⟩), .int .u8 (oe (al 4)), .int .i64 ((4 : Nat) : Int), u6, .int .i64 ((q + 4 : Nat) : Int), .int .u8 (oe a), .int .i64 (k : Int), .agg #[.int .u8 1, .int .u8 0, .int .u8 0, .int .u8 0, .int .u8 0], .int .i64 ((4 : Nat) : Int), .bool false, u13, u14, u15, u16, u17, u18, u19, u20, u21, u22, u23, u24, u25, u26, u27, u28, u29, u30, u31, u32, u33, u34, u35, u36, u37, u38, u39, .int .i64 ((q + 4 : Nat) : Int), .bool true, u42, u43, .int .i64 ((q + 4 : Nat) : Int), .pointer (some ⟨B, q + 4, none⟩), .int .u8 (oe a), .int .i64 (k : Int), .bool (decide ((k : Int) ≤ 4)), u49, u50, .int .i64 ((q + 4 : Nat) : Int), .int .i64 (q : Int), .int .i64 (k : Int), .int .i64 ((q + k : Nat) : Int), .int .i64 ((q + 4 : Nat) : Int), u56, u57, u58, u59, u60, u61, u62, u63, u64, u65, u66, u67, undef, undef, undef, undef, undef, undef, undef, undef, undef], defers := [] } : Act) _
                refine take_pure 5 (v := .int .i64 (q : Int)) rfl (by kernel_rfl) rfl (fun w' hw => by simp [execOp, go_sem, wq]) hH ?_
                show wpAnyH _ _ _ _ _ _ _ ({ tmps := #[.agg A, .pointer (some ⟨B, 0, none⟩), .pointer (some ⟨B + 1, 0, none⟩), .pointer (some ⟨B + 1 + 1, 0, none⟩), .int .u8 (oe (al 4)), .int .i64 ((4 : Nat) : Int), u6, .int .i64 ((q + 4 : Nat) : Int), .int .u8 (oe a), .int .i64 (k : Int), .agg #[.int .u8 1, .int .u8 0, .int .u8 0, .int .u8 0, .int .u8 0], .int .i64 ((4 : Nat) : Int), .bool false, u13, u14, u15, u16, u17, u18, u19, u20, u21, u22, u23, u24, u25, u26, u27, u28, u29, u30, u31, u32, u33, u34, u35, u36, u37, u38, u39, .int .i64 ((q + 4 : Nat) : Int), .bool true, u42, u43, .int .i64 ((q + 4 : Nat) : Int), .pointer (some ⟨B, q + 4, none⟩), .int .u8 (oe a), .int .i64 (k : Int), .bool (decide ((k : Int) ≤ 4)), u49, u50, .int .i64 ((q + 4 : Nat) : Int), .int .i64 (q : Int), .int .i64 (k : Int), .int .i64 ((q + k : Nat) : Int), .int .i64 ((q + 4 : Nat) : Int), .int .i64 (q : Int), u57, u58, u59, u60, u61, u62, u63, u64, u65, u66, u67, undef, undef, undef, undef, undef, undef, undef, undef, undef], defers := [] } : Act) _
                refine take_pure 6 (v := .int .i64 (k : Int)) rfl (by kernel_rfl) rfl (fun w' hw => by simp [execOp, go_sem]) hH ?_
                show wpAnyH _ _ _ _ _ _ _ ({ tmps := #[.agg A, .pointer (some ⟨B, 0, none⟩), .pointer (some ⟨B + 1, 0, none⟩), .pointer (some ⟨B + 1 + 1, 0, none⟩), .int .u8 (oe (al 4)), .int .i64 ((4 : Nat) : Int), u6, .int .i64 ((q + 4 : Nat) : Int), .int .u8 (oe a), .int .i64 (k : Int), .agg #[.int .u8 1, .int .u8 0, .int .u8 0, .int .u8 0, .int .u8 0], .int .i64 ((4 : Nat) : Int), .bool false, u13, u14, u15, u16, u17, u18, u19, u20, u21, u22, u23, u24, u25, u26, u27, u28, u29, u30, u31, u32, u33, u34, u35, u36, u37, u38, u39, .int .i64 ((q + 4 : Nat) : Int), .bool true, u42, u43, .int .i64 ((q + 4 : Nat) : Int), .pointer (some ⟨B, q + 4, none⟩), .int .u8 (oe a), .int .i64 (k : Int), .bool (decide ((k : Int) ≤ 4)), u49, u50, .int .i64 ((q + 4 : Nat) : Int), .int .i64 (q : Int), .int .i64 (k : Int), .int .i64 ((q + k : Nat) : Int), .int .i64 ((q + 4 : Nat) : Int), .int .i64 (q : Int), .int .i64 (k : Int), u58, u59, u60, u61, u62, u63, u64, u65, u66, u67, undef, undef, undef, undef, undef, undef, undef, undef, undef], defers := [] } : Act) _
                refine take_pure 7 (v := .int .i64 ((q + k : Nat) : Int)) rfl (by kernel_rfl) rfl (fun w' hw => by simp [execOp, go_sem, wqk]) hH ?_
                show wpAnyH _ _ _ _ _ _ _ ({ tmps := #[.agg A, .pointer (some ⟨B, 0, none⟩), .pointer (some ⟨B + 1, 0, none⟩), .pointer (some ⟨B + 1 + 1, 0, none⟩), .int .u8 (oe (al 4)), .int .i64 ((4 : Nat) : Int), u6, .int .i64 ((q + 4 : Nat) : Int), .int .u8 (oe a), .int .i64 (k : Int), .agg #[.int .u8 1, .int .u8 0, .int .u8 0, .int .u8 0, .int .u8 0], .int .i64 ((4 : Nat) : Int), .bool false, u13, u14, u15, u16, u17, u18, u19, u20, u21, u22, u23, u24, u25, u26, u27, u28, u29, u30, u31, u32, u33, u34, u35, u36, u37, u38, u39, .int .i64 ((q + 4 : Nat) : Int), .bool true, u42, u43, .int .i64 ((q + 4 : Nat) : Int), .pointer (some ⟨B, q + 4, none⟩), .int .u8 (oe a), .int .i64 (k : Int), .bool (decide ((k : Int) ≤ 4)), u49, u50, .int .i64 ((q + 4 : Nat) : Int), .int .i64 (q : Int), .int .i64 (k : Int), .int .i64 ((q + k : Nat) : Int), .int .i64 ((q + 4 : Nat) : Int), .int .i64 (q : Int), .int .i64 (k : Int), .int .i64 ((q + k : Nat) : Int), u59, u60, u61, u62, u63, u64, u65, u66, u67, undef, undef, undef, undef, undef, undef, undef, undef, undef], defers := [] } : Act) _
                refine take_pure 8 (v := .pointer (some ⟨B, q + k, none⟩)) rfl (by kernel_rfl) rfl (fun w' hw => by simp [execOp, go_sem]; rw [if_pos ⟨by omega, by omega⟩, show ((q : Int) + (k : Int)).toNat = q + k by omega]) hH ?_
                show wpAnyH _ _ _ _ _ _ _ ({ tmps := #[.agg A, .pointer (some ⟨B, 0, none⟩), .pointer (some ⟨B + 1, 0, none⟩), .pointer (some ⟨B + 1 + 1, 0, none⟩), .int .u8 (oe (al 4)), .int .i64 ((4 : Nat) : Int), u6, .int .i64 ((q + 4 : Nat) : Int), .int .u8 (oe a), .int .i64 (k : Int), .agg #[.int .u8 1, .int .u8 0, .int .u8 0, .int .u8 0, .int .u8 0], .int .i64 ((4 : Nat) : Int), .bool false, u13, u14, u15, u16, u17, u18, u19, u20, u21, u22, u23, u24, u25, u26, u27, u28, u29, u30, u31, u32, u33, u34, u35, u36, u37, u38, u39, .int .i64 ((q + 4 : Nat) : Int), .bool true, u42, u43, .int .i64 ((q + 4 : Nat) : Int), .pointer (some ⟨B, q + 4, none⟩), .int .u8 (oe a), .int .i64 (k : Int), .bool (decide ((k : Int) ≤ 4)), u49, u50, .int .i64 ((q + 4 : Nat) : Int), .int .i64 (q : Int), .int .i64 (k : Int), .int .i64 ((q + k : Nat) : Int), .int .i64 ((q + 4 : Nat) : Int), .int .i64 (q : Int), .int .i64 (k : Int), .int .i64 ((q + k : Nat) : Int), .pointer (some ⟨B, q + k, none⟩), u60, u61, u62, u63, u64, u65, u66, u67, undef, undef, undef, undef, undef, undef, undef, undef, undef], defers := [] } : Act) _
                refine take_pure 10 (v := .int .u8 (oe a)) rfl (by kernel_rfl) rfl (fun w' hw => by simp [execOp, go_sem]) hH ?_
                show wpAnyH _ _ _ _ _ _ _ ({ tmps := #[.agg A, .pointer (some ⟨B, 0, none⟩), .pointer (some ⟨B + 1, 0, none⟩), .pointer (some ⟨B + 1 + 1, 0, none⟩), .int .u8 (oe (al 4)), .int .i64 ((4 : Nat) : Int), u6, .int .i64 ((q + 4 : Nat) : Int), .int .u8 (oe a), .int .i64 (k : Int), .agg #[.int .u8 1, .int .u8 0, .int .u8 0, .int .u8 0, .int .u8 0], .int .i64 ((4 : Nat) : Int), .bool false, u13, u14, u15, u16, u17, u18, u19, u20, u21, u22, u23, u24, u25, u26, u27, u28, u29, u30, u31, u32, u33, u34, u35, u36, u37, u38, u39, .int .i64 ((q + 4 : Nat) : Int), .bool true, u42, u43, .int .i64 ((q + 4 : Nat) : Int), .pointer (some ⟨B, q + 4, none⟩), .int .u8 (oe a), .int .i64 (k : Int), .bool (decide ((k : Int) ≤ 4)), u49, u50, .int .i64 ((q + 4 : Nat) : Int), .int .i64 (q : Int), .int .i64 (k : Int), .int .i64 ((q + k : Nat) : Int), .int .i64 ((q + 4 : Nat) : Int), .int .i64 (q : Int), .int .i64 (k : Int), .int .i64 ((q + k : Nat) : Int), .pointer (some ⟨B, q + k, none⟩), u60, .int .u8 (oe a), u62, u63, u64, u65, u66, u67, undef, undef, undef, undef, undef, undef, undef, undef, undef], defers := [] } : Act) _
                refine take_pure 11 (v := .int .i64 (k : Int)) rfl (by kernel_rfl) rfl (fun w' hw => by simp [execOp, go_sem]) hH ?_
                show wpAnyH _ _ _ _ _ _ _ ({ tmps := #[.agg A, .pointer (some ⟨B, 0, none⟩), .pointer (some ⟨B + 1, 0, none⟩), .pointer (some ⟨B + 1 + 1, 0, none⟩), .int .u8 (oe (al 4)), .int .i64 ((4 : Nat) : Int), u6, .int .i64 ((q + 4 : Nat) : Int), .int .u8 (oe a), .int .i64 (k : Int), .agg #[.int .u8 1, .int .u8 0, .int .u8 0, .int .u8 0, .int .u8 0], .int .i64 ((4 : Nat) : Int), .bool false, u13, u14, u15, u16, u17, u18, u19, u20, u21, u22, u23, u24, u25, u26, u27, u28, u29, u30, u31, u32, u33, u34, u35, u36, u37, u38, u39, .int .i64 ((q + 4 : Nat) : Int), .bool true, u42, u43, .int .i64 ((q + 4 : Nat) : Int), .pointer (some ⟨B, q + 4, none⟩), .int .u8 (oe a), .int .i64 (k : Int), .bool (decide ((k : Int) ≤ 4)), u49, u50, .int .i64 ((q + 4 : Nat) : Int), .int .i64 (q : Int), .int .i64 (k : Int), .int .i64 ((q + k : Nat) : Int), .int .i64 ((q + 4 : Nat) : Int), .int .i64 (q : Int), .int .i64 (k : Int), .int .i64 ((q + k : Nat) : Int), .pointer (some ⟨B, q + k, none⟩), u60, .int .u8 (oe a), .int .i64 (k : Int), u63, u64, u65, u66, u67, undef, undef, undef, undef, undef, undef, undef, undef, undef], defers := [] } : Act) _
                refine take_pure 12 (v := .pointer (some ⟨B + 1 + 1, k, none⟩)) rfl (by kernel_rfl) rfl (fun w' hw => by simp [execOp, go_sem]; intro h; omega) hH ?_
                show wpAnyH _ _ _ _ _ _ _ ({ tmps := #[.agg A, .pointer (some ⟨B, 0, none⟩), .pointer (some ⟨B + 1, 0, none⟩), .pointer (some ⟨B + 1 + 1, 0, none⟩), .int .u8 (oe (al 4)), .int .i64 ((4 : Nat) : Int), u6, .int .i64 ((q + 4 : Nat) : Int), .int .u8 (oe a), .int .i64 (k : Int), .agg #[.int .u8 1, .int .u8 0, .int .u8 0, .int .u8 0, .int .u8 0], .int .i64 ((4 : Nat) : Int), .bool false, u13, u14, u15, u16, u17, u18, u19, u20, u21, u22, u23, u24, u25, u26, u27, u28, u29, u30, u31, u32, u33, u34, u35, u36, u37, u38, u39, .int .i64 ((q + 4 : Nat) : Int), .bool true, u42, u43, .int .i64 ((q + 4 : Nat) : Int), .pointer (some ⟨B, q + 4, none⟩), .int .u8 (oe a), .int .i64 (k : Int), .bool (decide ((k : Int) ≤ 4)), u49, u50, .int .i64 ((q + 4 : Nat) : Int), .int .i64 (q : Int), .int .i64 (k : Int), .int .i64 ((q + k : Nat) : Int), .int .i64 ((q + 4 : Nat) : Int), .int .i64 (q : Int), .int .i64 (k : Int), .int .i64 ((q + k : Nat) : Int), .pointer (some ⟨B, q + k, none⟩), u60, .int .u8 (oe a), .int .i64 (k : Int), .pointer (some ⟨B + 1 + 1, k, none⟩), u64, u65, u66, u67, undef, undef, undef, undef, undef, undef, undef, undef, undef], defers := [] } : Act) _
                refine take_pure 13 (v := .int .u8 (oe y)) rfl (by kernel_rfl) rfl (fun w' hw => by simp [execOp, go_sem, hw]) hH ?_
                show wpAnyH _ _ _ _ _ _ _ ({ tmps := #[.agg A, .pointer (some ⟨B, 0, none⟩), .pointer (some ⟨B + 1, 0, none⟩), .pointer (some ⟨B + 1 + 1, 0, none⟩), .int .u8 (oe (al 4)), .int .i64 ((4 : Nat) : Int), u6, .int .i64 ((q + 4 : Nat) : Int), .int .u8 (oe a), .int .i64 (k : Int), .agg #[.int .u8 1, .int .u8 0, .int .u8 0, .int .u8 0, .int .u8 0], .int .i64 ((4 : Nat) : Int), .bool false, u13, u14, u15, u16, u17, u18, u19, u20, u21, u22, u23, u24, u25, u26, u27, u28, u29, u30, u31, u32, u33, u34, u35, u36, u37, u38, u39, .int .i64 ((q + 4 : Nat) : Int), .bool true, u42, u43, .int .i64 ((q + 4 : Nat) : Int), .pointer (some ⟨B, q + 4, none⟩), .int .u8 (oe a), .int .i64 (k : Int), .bool (decide ((k : Int) ≤ 4)), u49, u50, .int .i64 ((q + 4 : Nat) : Int), .int .i64 (q : Int), .int .i64 (k : Int), .int .i64 ((q + k : Nat) : Int), .int .i64 ((q + 4 : Nat) : Int), .int .i64 (q : Int), .int .i64 (k : Int), .int .i64 ((q + k : Nat) : Int), .pointer (some ⟨B, q + k, none⟩), u60, .int .u8 (oe a), .int .i64 (k : Int), .pointer (some ⟨B + 1 + 1, k, none⟩), .int .u8 (oe y), u65, u66, u67, undef, undef, undef, undef, undef, undef, undef, undef, undef], defers := [] } : Act) _
                refine take_two 9 14 rfl rfl rfl rfl (by kernel_rfl) ?_ ?_
                · refine wp_yield (.int .u8 (oe x)) (by simp [execOp, go_sem, hcw]) ?_
                  refine ⟨hH, fun hH => ?_⟩
                  show wpAnyH _ _ _ _ _ _ _ ({ tmps := #[.agg A, .pointer (some ⟨B, 0, none⟩), .pointer (some ⟨B + 1, 0, none⟩), .pointer (some ⟨B + 1 + 1, 0, none⟩), .int .u8 (oe (al 4)), .int .i64 ((4 : Nat) : Int), u6, .int .i64 ((q + 4 : Nat) : Int), .int .u8 (oe a), .int .i64 (k : Int), .agg #[.int .u8 1, .int .u8 0, .int .u8 0, .int .u8 0, .int .u8 0], .int .i64 ((4 : Nat) : Int), .bool false, u13, u14, u15, u16, u17, u18, u19, u20, u21, u22, u23, u24, u25, u26, u27, u28, u29, u30, u31, u32, u33, u34, u35, u36, u37, u38, u39, .int .i64 ((q + 4 : Nat) : Int), .bool true, u42, u43, .int .i64 ((q + 4 : Nat) : Int), .pointer (some ⟨B, q + 4, none⟩), .int .u8 (oe a), .int .i64 (k : Int), .bool (decide ((k : Int) ≤ 4)), u49, u50, .int .i64 ((q + 4 : Nat) : Int), .int .i64 (q : Int), .int .i64 (k : Int), .int .i64 ((q + k : Nat) : Int), .int .i64 ((q + 4 : Nat) : Int), .int .i64 (q : Int), .int .i64 (k : Int), .int .i64 ((q + k : Nat) : Int), .pointer (some ⟨B, q + k, none⟩), .int .u8 (oe x), .int .u8 (oe a), .int .i64 (k : Int), .pointer (some ⟨B + 1 + 1, k, none⟩), .int .u8 (oe y), u65, u66, u67, undef, undef, undef, undef, undef, undef, undef, undef, undef], defers := [] } : Act) _
                  refine take_one 14 rfl rfl (by kernel_rfl) ?_
                  refine wp_contract 53 [.tmp 61, .tmp 64] _ rfl (enters_of Tryz.func53 (by kernel_rfl) rfl) [.int .u8 (oe a), .int .u8 (oe y)] rfl (HM.out _) ?_
                  rintro e X1 ⟨rfl, rfl⟩
                  refine ⟨_, rfl, hH, fun hH => ?_⟩
                  show wpAnyH _ _ _ _ _ _ _ ({ tmps := #[.agg A, .pointer (some ⟨B, 0, none⟩), .pointer (some ⟨B + 1, 0, none⟩), .pointer (some ⟨B + 1 + 1, 0, none⟩), .int .u8 (oe (al 4)), .int .i64 ((4 : Nat) : Int), u6, .int .i64 ((q + 4 : Nat) : Int), .int .u8 (oe a), .int .i64 (k : Int), .agg #[.int .u8 1, .int .u8 0, .int .u8 0, .int .u8 0, .int .u8 0], .int .i64 ((4 : Nat) : Int), .bool false, u13, u14, u15, u16, u17, u18, u19, u20, u21, u22, u23, u24, u25, u26, u27, u28, u29, u30, u31, u32, u33, u34, u35, u36, u37, u38, u39, .int .i64 ((q + 4 : Nat) : Int), .bool true, u42, u43, .int .i64 ((q + 4 : Nat) : Int), .pointer (some ⟨B, q + 4, none⟩), .int .u8 (oe a), .int .i64 (k : Int), .bool (decide ((k : Int) ≤ 4)), u49, u50, .int .i64 ((q + 4 : Nat) : Int), .int .i64 (q : Int), .int .i64 (k : Int), .int .i64 ((q + k : Nat) : Int), .int .i64 ((q + 4 : Nat) : Int), .int .i64 (q : Int), .int .i64 (k : Int), .int .i64 ((q + k : Nat) : Int), .pointer (some ⟨B, q + k, none⟩), .int .u8 (oe x), .int .u8 (oe a), .int .i64 (k : Int), .pointer (some ⟨B + 1 + 1, k, none⟩), .int .u8 (oe y), .int .u8 (oe z), u66, u67, undef, undef, undef, undef, undef, undef, undef, undef, undef], defers := [] } : Act) _
                  refine take_pure 15 (v := .int .u8 (oe (x ^^^ z))) rfl (by kernel_rfl) rfl (fun w' hw => by simp [execOp, go_sem, ex]) hH ?_
                  show wpAnyH _ _ _ _ _ _ _ ({ tmps := #[.agg A, .pointer (some ⟨B, 0, none⟩), .pointer (some ⟨B + 1, 0, none⟩), .pointer (some ⟨B + 1 + 1, 0, none⟩), .int .u8 (oe (al 4)), .int .i64 ((4 : Nat) : Int), u6, .int .i64 ((q + 4 : Nat) : Int), .int .u8 (oe a), .int .i64 (k : Int), .agg #[.int .u8 1, .int .u8 0, .int .u8 0, .int .u8 0, .int .u8 0], .int .i64 ((4 : Nat) : Int), .bool false, u13, u14, u15, u16, u17, u18, u19, u20, u21, u22, u23, u24, u25, u26, u27, u28, u29, u30, u31, u32, u33, u34, u35, u36, u37, u38, u39, .int .i64 ((q + 4 : Nat) : Int), .bool true, u42, u43, .int .i64 ((q + 4 : Nat) : Int), .pointer (some ⟨B, q + 4, none⟩), .int .u8 (oe a), .int .i64 (k : Int), .bool (decide ((k : Int) ≤ 4)), u49, u50, .int .i64 ((q + 4 : Nat) : Int), .int .i64 (q : Int), .int .i64 (k : Int), .int .i64 ((q + k : Nat) : Int), .int .i64 ((q + 4 : Nat) : Int), .int .i64 (q : Int), .int .i64 (k : Int), .int .i64 ((q + k : Nat) : Int), .pointer (some ⟨B, q + k, none⟩), .int .u8 (oe x), .int .u8 (oe a), .int .i64 (k : Int), .pointer (some ⟨B + 1 + 1, k, none⟩), .int .u8 (oe y), .int .u8 (oe z), .int .u8 (oe (x ^^^ z)), u67, undef, undef, undef, undef, undef, undef, undef, undef, undef], defers := [] } : Act) _
                  refine take_pure 16 (v := .pointer (some ⟨B, q + k, none⟩)) rfl (by kernel_rfl) rfl (fun w' hw => by simp [execOp, go_sem]; rw [if_pos ⟨by omega, by omega⟩, show ((q : Int) + (k : Int)).toNat = q + k by omega]) hH ?_
                  show wpAnyH _ _ _ _ _ _ _ ({ tmps := #[.agg A, .pointer (some ⟨B, 0, none⟩), .pointer (some ⟨B + 1, 0, none⟩), .pointer (some ⟨B + 1 + 1, 0, none⟩), .int .u8 (oe (al 4)), .int .i64 ((4 : Nat) : Int), u6, .int .i64 ((q + 4 : Nat) : Int), .int .u8 (oe a), .int .i64 (k : Int), .agg #[.int .u8 1, .int .u8 0, .int .u8 0, .int .u8 0, .int .u8 0], .int .i64 ((4 : Nat) : Int), .bool false, u13, u14, u15, u16, u17, u18, u19, u20, u21, u22, u23, u24, u25, u26, u27, u28, u29, u30, u31, u32, u33, u34, u35, u36, u37, u38, u39, .int .i64 ((q + 4 : Nat) : Int), .bool true, u42, u43, .int .i64 ((q + 4 : Nat) : Int), .pointer (some ⟨B, q + 4, none⟩), .int .u8 (oe a), .int .i64 (k : Int), .bool (decide ((k : Int) ≤ 4)), u49, u50, .int .i64 ((q + 4 : Nat) : Int), .int .i64 (q : Int), .int .i64 (k : Int), .int .i64 ((q + k : Nat) : Int), .int .i64 ((q + 4 : Nat) : Int), .int .i64 (q : Int), .int .i64 (k : Int), .int .i64 ((q + k : Nat) : Int), .pointer (some ⟨B, q + k, none⟩), .int .u8 (oe x), .int .u8 (oe a), .int .i64 (k : Int), .pointer (some ⟨B + 1 + 1, k, none⟩), .int .u8 (oe y), .int .u8 (oe z), .int .u8 (oe (x ^^^ z)), .pointer (some ⟨B, q + k, none⟩), undef, undef, undef, undef, undef, undef, undef, undef, undef], defers := [] } : Act) _
                  refine take_one 17 rfl rfl (by kernel_rfl) ?_
                  refine wp_store_cell 5 sz_u8r 67 66 rfl B (q + k) .u8 (oe (x ^^^ z)) _ rfl rfl hcw hfw ?_
                  refine ⟨(World.cell?_of_block (w := wr.drew) (a := ⟨B + 1 + 1, k, none⟩) (Below.heap_setCell wr.drew ⟨B, q + k, none⟩ _ (B + 1 + 1) (by simp; omega))).trans hH, fun hH => ?_⟩
                  show wpAnyH _ _ _ _ _ _ _ ({ tmps := #[.agg A, .pointer (some ⟨B, 0, none⟩), .pointer (some ⟨B + 1, 0, none⟩), .pointer (some ⟨B + 1 + 1, 0, none⟩), .int .u8 (oe (al 4)), .int .i64 ((4 : Nat) : Int), u6, .int .i64 ((q + 4 : Nat) : Int), .int .u8 (oe a), .int .i64 (k : Int), .agg #[.int .u8 1, .int .u8 0, .int .u8 0, .int .u8 0, .int .u8 0], .int .i64 ((4 : Nat) : Int), .bool false, u13, u14, u15, u16, u17, u18, u19, u20, u21, u22, u23, u24, u25, u26, u27, u28, u29, u30, u31, u32, u33, u34, u35, u36, u37, u38, u39, .int .i64 ((q + 4 : Nat) : Int), .bool true, u42, u43, .int .i64 ((q + 4 : Nat) : Int), .pointer (some ⟨B, q + 4, none⟩), .int .u8 (oe a), .int .i64 (k : Int), .bool (decide ((k : Int) ≤ 4)), u49, u50, .int .i64 ((q + 4 : Nat) : Int), .int .i64 (q : Int), .int .i64 (k : Int), .int .i64 ((q + k : Nat) : Int), .int .i64 ((q + 4 : Nat) : Int), .int .i64 (q : Int), .int .i64 (k : Int), .int .i64 ((q + k : Nat) : Int), .pointer (some ⟨B, q + k, none⟩), .int .u8 (oe x), .int .u8 (oe a), .int .i64 (k : Int), .pointer (some ⟨B + 1 + 1, k, none⟩), .int .u8 (oe y), .int .u8 (oe z), .int .u8 (oe (x ^^^ z)), .pointer (some ⟨B, q + k, none⟩), undef, undef, undef, undef, undef, undef, undef, undef, undef], defers := [] } : Act) _
                  exact wpAnyH_done (by kernel_rfl) ⟨rfl, rfl⟩ _
                · refine wp_contract 53 [.tmp 61, .tmp 64] _ rfl (enters_of Tryz.func53 (by kernel_rfl) rfl) [.int .u8 (oe a), .int .u8 (oe y)] rfl (HM.out _) ?_
                  rintro e X1 ⟨rfl, rfl⟩
                  refine ⟨_, rfl, hH, fun hH => ?_⟩
                  show wpAnyH _ _ _ _ _ _ _ ({ tmps := #[.agg A, .pointer (some ⟨B, 0, none⟩), .pointer (some ⟨B + 1, 0, none⟩), .pointer (some ⟨B + 1 + 1, 0, none⟩), .int .u8 (oe (al 4)), .int .i64 ((4 : Nat) : Int), u6, .int .i64 ((q + 4 : Nat) : Int), .int .u8 (oe a), .int .i64 (k : Int), .agg #[.int .u8 1, .int .u8 0, .int .u8 0, .int .u8 0, .int .u8 0], .int .i64 ((4 : Nat) : Int), .bool false, u13, u14, u15, u16, u17, u18, u19, u20, u21, u22, u23, u24, u25, u26, u27, u28, u29, u30, u31, u32, u33, u34, u35, u36, u37, u38, u39, .int .i64 ((q + 4 : Nat) : Int), .bool true, u42, u43, .int .i64 ((q + 4 : Nat) : Int), .pointer (some ⟨B, q + 4, none⟩), .int .u8 (oe a), .int .i64 (k : Int), .bool (decide ((k : Int) ≤ 4)), u49, u50, .int .i64 ((q + 4 : Nat) : Int), .int .i64 (q : Int), .int .i64 (k : Int), .int .i64 ((q + k : Nat) : Int), .int .i64 ((q + 4 : Nat) : Int), .int .i64 (q : Int), .int .i64 (k : Int), .int .i64 ((q + k : Nat) : Int), .pointer (some ⟨B, q + k, none⟩), u60, .int .u8 (oe a), .int .i64 (k : Int), .pointer (some ⟨B + 1 + 1, k, none⟩), .int .u8 (oe y), .int .u8 (oe z), u66, u67, undef, undef, undef, undef, undef, undef, undef, undef, undef], defers := [] } : Act) _
                  refine take_one 9 rfl rfl (by kernel_rfl) ?_
                  refine wp_yield (.int .u8 (oe x)) (by simp [execOp, go_sem, hcw]) ?_
                  refine ⟨hH, fun hH => ?_⟩
                  show wpAnyH _ _ _ _ _ _ _ ({ tmps := #[.agg A, .pointer (some ⟨B, 0, none⟩), .pointer (some ⟨B + 1, 0, none⟩), .pointer (some ⟨B + 1 + 1, 0, none⟩), .int .u8 (oe (al 4)), .int .i64 ((4 : Nat) : Int), u6, .int .i64 ((q + 4 : Nat) : Int), .int .u8 (oe a), .int .i64 (k : Int), .agg #[.int .u8 1, .int .u8 0, .int .u8 0, .int .u8 0, .int .u8 0], .int .i64 ((4 : Nat) : Int), .bool false, u13, u14, u15, u16, u17, u18, u19, u20, u21, u22, u23, u24, u25, u26, u27, u28, u29, u30, u31, u32, u33, u34, u35, u36, u37, u38, u39, .int .i64 ((q + 4 : Nat) : Int), .bool true, u42, u43, .int .i64 ((q + 4 : Nat) : Int), .pointer (some ⟨B, q + 4, none⟩), .int .u8 (oe a), .int .i64 (k : Int), .bool (decide ((k : Int) ≤ 4)), u49, u50, .int .i64 ((q + 4 : Nat) : Int), .int .i64 (q : Int), .int .i64 (k : Int), .int .i64 ((q + k : Nat) : Int), .int .i64 ((q + 4 : Nat) : Int), .int .i64 (q : Int), .int .i64 (k : Int), .int .i64 ((q + k : Nat) : Int), .pointer (some ⟨B, q + k, none⟩), .int .u8 (oe x), .int .u8 (oe a), .int .i64 (k : Int), .pointer (some ⟨B + 1 + 1, k, none⟩), .int .u8 (oe y), .int .u8 (oe z), u66, u67, undef, undef, undef, undef, undef, undef, undef, undef, undef], defers := [] } : Act) _
                  refine take_pure 15 (v := .int .u8 (oe (x ^^^ z))) rfl (by kernel_rfl) rfl (fun w' hw => by simp [execOp, go_sem, ex]) hH ?_
                  show wpAnyH _ _ _ _ _ _ _ ({ tmps := #[.agg A, .pointer (some ⟨B, 0, none⟩), .pointer (some ⟨B + 1, 0, none⟩), .pointer (some ⟨B + 1 + 1, 0, none⟩), .int .u8 (oe (al 4)), .int .i64 ((4 : Nat) : Int), u6, .int .i64 ((q + 4 : Nat) : Int), .int .u8 (oe a), .int .i64 (k : Int), .agg #[.int .u8 1, .int .u8 0, .int .u8 0, .int .u8 0, .int .u8 0], .int .i64 ((4 : Nat) : Int), .bool false, u13, u14, u15, u16, u17, u18, u19, u20, u21, u22, u23, u24, u25, u26, u27, u28, u29, u30, u31, u32, u33, u34, u35, u36, u37, u38, u39, .int .i64 ((q + 4 : Nat) : Int), .bool true, u42, u43, .int .i64 ((q + 4 : Nat) : Int), .pointer (some ⟨B, q + 4, none⟩), .int .u8 (oe a), .int .i64 (k : Int), .bool (decide ((k : Int) ≤ 4)), u49, u50, .int .i64 ((q + 4 : Nat) : Int), .int .i64 (q : Int), .int .i64 (k : Int), .int .i64 ((q + k : Nat) : Int), .int .i64 ((q + 4 : Nat) : Int), .int .i64 (q : Int), .int .i64 (k : Int), .int .i64 ((q + k : Nat) : Int), .pointer (some ⟨B, q + k, none⟩), .int .u8 (oe x), .int .u8 (oe a), .int .i64 (k : Int), .pointer (some ⟨B + 1 + 1, k, none⟩), .int .u8 (oe y), .int .u8 (oe z), .int .u8 (oe (x ^^^ z)), u67, undef, undef, undef, undef, undef, undef, undef, undef, undef], defers := [] } : Act) _
                  refine take_pure 16 (v := .pointer (some ⟨B, q + k, none⟩)) rfl (by kernel_rfl) rfl (fun w' hw => by simp [execOp, go_sem]; rw [if_pos ⟨by omega, by omega⟩, show ((q : Int) + (k : Int)).toNat = q + k by omega]) hH ?_
                  show wpAnyH _ _ _ _ _ _ _ ({ tmps := #[.agg A, .pointer (some ⟨B, 0, none⟩), .pointer (some ⟨B + 1, 0, none⟩), .pointer (some ⟨B + 1 + 1, 0, none⟩), .int .u8 (oe (al 4)), .int .i64 ((4 : Nat) : Int), u6, .int .i64 ((q + 4 : Nat) : Int), .int .u8 (oe a), .int .i64 (k : Int), .agg #[.int .u8 1, .int .u8 0, .int .u8 0, .int .u8 0, .int .u8 0], .int .i64 ((4 : Nat) : Int), .bool false, u13, u14, u15, u16, u17, u18, u19, u20, u21, u22, u23, u24, u25, u26, u27, u28, u29, u30, u31, u32, u33, u34, u35, u36, u37, u38, u39, .int .i64 ((q + 4 : Nat) : Int), .bool true, u42, u43, .int .i64 ((q + 4 : Nat) : Int), .pointer (some ⟨B, q + 4, none⟩), .int .u8 (oe a), .int .i64 (k : Int), .bool (decide ((k : Int) ≤ 4)), u49, u50, .int .i64 ((q + 4 : Nat) : Int), .int .i64 (q : Int), .int .i64 (k : Int), .int .i64 ((q + k : Nat) : Int), .int .i64 ((q + 4 : Nat) : Int), .int .i64 (q : Int), .int .i64 (k : Int), .int .i64 ((q + k : Nat) : Int), .pointer (some ⟨B, q + k, none⟩), .int .u8 (oe x), .int .u8 (oe a), .int .i64 (k : Int), .pointer (some ⟨B + 1 + 1, k, none⟩), .int .u8 (oe y), .int .u8 (oe z), .int .u8 (oe (x ^^^ z)), .pointer (some ⟨B, q + k, none⟩), undef, undef, undef, undef, undef, undef, undef, undef, undef], defers := [] } : Act) _
                  refine take_one 17 rfl rfl (by kernel_rfl) ?_
                  refine wp_store_cell 5 sz_u8r 67 66 rfl B (q + k) .u8 (oe (x ^^^ z)) _ rfl rfl hcw hfw ?_
                  refine ⟨(World.cell?_of_block (w := wr.drew) (a := ⟨B + 1 + 1, k, none⟩) (Below.heap_setCell wr.drew ⟨B, q + k, none⟩ _ (B + 1 + 1) (by simp; omega))).trans hH, fun hH => ?_⟩
                  show wpAnyH _ _ _ _ _ _ _ ({ tmps := #[.agg A, .pointer (some ⟨B, 0, none⟩), .pointer (some ⟨B + 1, 0, none⟩), .pointer (some ⟨B + 1 + 1, 0, none⟩), .int .u8 (oe (al 4)), .int .i64 ((4 : Nat) : Int), u6, .int .i64 ((q + 4 : Nat) : Int), .int .u8 (oe a), .int .i64 (k : Int), .agg #[.int .u8 1, .int .u8 0, .int .u8 0, .int .u8 0, .int .u8 0], .int .i64 ((4 : Nat) : Int), .bool false, u13, u14, u15, u16, u17, u18, u19, u20, u21, u22, u23, u24, u25, u26, u27, u28, u29, u30, u31, u32, u33, u34, u35, u36, u37, u38, u39, .int .i64 ((q + 4 : Nat) : Int), .bool true, u42, u43, .int .i64 ((q + 4 : Nat) : Int), .pointer (some ⟨B, q + 4, none⟩), .int .u8 (oe a), .int .i64 (k : Int), .bool (decide ((k : Int) ≤ 4)), u49, u50, .int .i64 ((q + 4 : Nat) : Int), .int .i64 (q : Int), .int .i64 (k : Int), .int .i64 ((q + k : Nat) : Int), .int .i64 ((q + 4 : Nat) : Int), .int .i64 (q : Int), .int .i64 (k : Int), .int .i64 ((q + k : Nat) : Int), .pointer (some ⟨B, q + k, none⟩), .int .u8 (oe x), .int .u8 (oe a), .int .i64 (k : Int), .pointer (some ⟨B + 1 + 1, k, none⟩), .int .u8 (oe y), .int .u8 (oe z), .int .u8 (oe (x ^^^ z)), .pointer (some ⟨B, q + k, none⟩), undef, undef, undef, undef, undef, undef, undef, undef, undef], defers := [] } : Act) _
                  exact wpAnyH_done (by kernel_rfl) ⟨rfl, rfl⟩ _
              rintro a' W' ⟨rfl, rfl⟩
              go_wp2
              go_roundw
              case rel => exact ⟨k + 1, by omega, by go_num, HN⟩
              case measure => simp [intOf]; omega
            · obtain rfl : k = 5 := by omega
              have HN : Hid (CkI B G (DV W0 (35 - q)) w wr) := HL.out.congrA fun p _ => by
                rw [HS.out p]
                by_cases e2 : q ≤ p ∧ p ≤ q + 4
                · rw [if_pos e2, if_pos (by omega)]
                · rw [if_neg e2, if_neg (by omega)]
              clear HL HJ HS HD Ha
              go_wp2
              go_roundw
              case rel => exact ⟨q, by omega, by first | rfl | go_num, HN⟩
              case measure => simp [intOf]; omega
        · obtain rfl : m = 0 := by omega
          obtain ⟨D, HD⟩ : ∃ D, Hid (DV W0 35 = D) := ⟨_, rfl⟩
          have HE := HJ.out
          rw [show 35 - 0 = 35 from rfl, HD.out] at HE
          have c0 := HE.a.arr 0 (by omega)
          have c1 := HE.a.arr 1 (by omega)
          have c2 := HE.a.arr 2 (by omega)
          have c3 := HE.a.arr 3 (by omega)
          have ht : wr.there (B + 1) 0 4 := by
            have := HE.o.there (G := fun _ => 0)
            simpa [arr_len] using this
          have HB : Hid (Below B w wr) := HE.below
          have i4 := info4r
          have harr : arr 4 D = [.int .u8 (oe (D 0)), .int .u8 (oe (D 1)), .int .u8 (oe (D 2)), .int .u8 (oe (D 3))] := rfl
          obtain ⟨d0, hd0⟩ : ∃ d, oe (D 0) = d := ⟨_, rfl⟩
          obtain ⟨d1, hd1⟩ : ∃ d, oe (D 1) = d := ⟨_, rfl⟩
          obtain ⟨d2, hd2⟩ : ∃ d, oe (D 2) = d := ⟨_, rfl⟩
          obtain ⟨d3, hd3⟩ : ∃ d, oe (D 3) = d := ⟨_, rfl⟩
          rw [hd0, hd1, hd2, hd3] at harr
          rw [hd0] at c0
          rw [hd1] at c1
          rw [hd2] at c2
          rw [hd3] at c3
          have HR : Hid (arr 4 (DV W0 35) = [.int .u8 d0, .int .u8 d1, .int .u8 d2, .int .u8 d3]) := by show _ = _; rw [← harr, HD.out]
          have hs : (wr.setCells (B + 1) 0 [.int .u8 d0, .int .u8 d1, .int .u8 d2, .int .u8 d3]).rangeAt (B + 1) 0 [.int .u8 d0, .int .u8 d1, .int .u8 d2, .int .u8 d3] := World.rangeAt_setCells_same wr _ 0 _ ht
          have hld := run_loadVar_mid (P := Tryz.prog) (wr.setCells (B + 1) 0 [.int .u8 d0, .int .u8 d1, .int .u8 d2, .int .u8 d3]) (B + 1) 0 50 [.int .u8 d0, .int .u8 d1, .int .u8 d2, .int .u8 d3] _ hs Tryz.underlying50 rfl i4
          clear HE HJ HK H0 HD HG harr hd0 hd1 hd2 hd3 hs
          go_wp2_with (refine wpList_store_mid rfl 50 _ _ rfl _ 0 #[.int .u8 d0, .int .u8 d1, .int .u8 d2, .int .u8 d3] rfl rfl ht i4 (by simp [Value.oneCell']) ?_)
          refine bodyPost_ret (v := .agg #[.int .u8 d0, .int .u8 d1, .int .u8 d2, .int .u8 d3]) ?_ rfl ⟨by rw [HR.out], by first | exact belows_put (by omega) _ 0 HB.out | (rw [hB]; exact belows_put (by omega) _ 0 HB.out)⟩
          simp [results, Tryz.f25, Act.put, asAddr, hld]
end Go.Proofs.YtoimbjbdkkohcaaGreatDoor
