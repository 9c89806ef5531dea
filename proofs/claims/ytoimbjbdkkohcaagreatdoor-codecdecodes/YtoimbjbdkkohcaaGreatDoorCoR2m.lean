/-
  The document's Chips: a word's verdict and data in the mode 2.
-/
import Derived.Test.YtoimbjbdkkohcaaGreatDoorM18
import Derived.Test.YtoimbjbdkkohcaaGreatDoorM20
import Derived.Test.YtoimbjbdkkohcaaGreatDoorM05
import Derived.Test.YtoimbjbdkkohcaaGreatDoorCoR1m
namespace Go.Proofs.YtoimbjbdkkohcaaGreatDoor
open Go.RowKit Go.Shelf
open Po (El toE)
attribute [local go_sem] Oper.semAt_some

/-- while the document reads a word: raw bytes in B, what is told in B + 1, the word's bytes in B + 2 -/
structure RcI (B : Nat) (R Z : Nat → Int) (w W : World) : Prop where
  r : Bk .u8 W B 72 R
  o : Bk .u8 W (B + 1) 32 (fun _ => 0)
  z : Bk .u8 W (B + 1 + 1) 36 Z
  below : Below B w W
theorem RcI.set {B : Nat} {R Z : Nat → Int} {w W : World} (H : RcI B R Z w W) (i : Nat) (e : Int) : RcI B R (fun j => if j = i then e else Z j) w (W.setCell ⟨B + 1 + 1, i, none⟩ (.int .u8 e)) :=
  ⟨H.r.other (by omega) i _, H.o.other (by omega) i _, H.z.set i e, H.below.setCell (p := ⟨B + 1 + 1, i, none⟩) (by simp; omega) _⟩
theorem RcI.congr {B : Nat} {R Z Z' : Nat → Int} {w W : World} (H : RcI B R Z w W) (h : ∀ i, i < 36 → Z i = Z' i) : RcI B R Z' w W := ⟨H.r, H.o, H.z.congr h, H.below⟩
/-- behind the verdict: it lies in N -/
structure RcJ (B N : Nat) (Z : Nat → Int) (K L U : Int) (w W : World) : Prop where
  o : Bk .u8 W (B + 1) 32 (fun _ => 0)
  z : Bk .u8 W (B + 1 + 1) 36 Z
  v : VdAt W N (.int .i64 K) (.int .i64 L) (.int .u8 U)
  lt : B + 1 + 1 < N
  below : Below B w W
section
variable {B N M : Nat} {R Z Z' X X' : Nat → Int} {K L U : Int} {w W W' : World}
theorem RcI.next (H : RcI B R Z w W) (e : Below W.heap.size W W') : RcI B R Z w W' := ⟨H.r.next e, H.o.next e, H.z.next e, H.below.trans (e.mono (by have := H.r.lt; omega))⟩
theorem RcJ.drew (H : RcJ B N Z K L U w W) : RcJ B N Z K L U w W.drew := ⟨H.o.drew, H.z.drew, H.v.next (below_drew1 W), H.lt, below_drewN H.below 1⟩
theorem RcJ.congr (H : RcJ B N Z K L U w W) (h : ∀ i, i < 36 → Z i = Z' i) : RcJ B N Z' K L U w W := ⟨H.o, H.z.congr h, H.v, H.lt, H.below⟩
theorem RcJ.set (H : RcJ B N Z K L U w W) (i : Nat) (e : Int) : RcJ B N (fun j => if j = i then e else Z j) K L U w (W.setCell ⟨B + 1 + 1, i, none⟩ (.int .u8 e)) :=
  ⟨H.o.other (by omega) i _, H.z.set i e, H.v.of (Below.heap_setCell W ⟨B + 1 + 1, i, none⟩ _ N (by have := H.lt; simp; omega)), H.lt, H.below.setCell (p := ⟨B + 1 + 1, i, none⟩) (by simp; omega) _⟩
/-- while the data are copied into M -/
structure RcM (B N M : Nat) (Z : Nat → Int) (K L U : Int) (X : Nat → Int) (w W : World) : Prop where
  j : RcJ B N Z K L U w W
  x : Bk .u8 W M 32 X
  lt : N < M
theorem RcM.set (H : RcM B N M Z K L U X w W) (i : Nat) (e : Int) : RcM B N M Z K L U (fun j => if j = i then e else X j) w (W.setCell ⟨M, i, none⟩ (.int .u8 e)) := by
  have h1 := H.lt
  have h2 := H.j.lt
  exact ⟨⟨H.j.o.other (by omega) i _, H.j.z.other (by omega) i _, H.j.v.of (Below.heap_setCell W ⟨M, i, none⟩ _ N (by simp; omega)), h2, H.j.below.setCell (p := ⟨M, i, none⟩) (by simp; omega) _⟩, H.x.set i e, h1⟩
theorem RcM.congr (H : RcM B N M Z K L U X w W) (h : ∀ i, i < 32 → X i = X' i) : RcM B N M Z K L U X' w W := ⟨H.j, H.x.congr h, H.lt⟩
theorem RcM.new (H : RcJ B N Z K L U w W) (t : TypeId) : RcM B N W.heap.size Z K L U (fun _ => 0) w (W.alloc (.cells (ints .u8 32 fun _ => 0).toArray t)) :=
  ⟨⟨H.o.alloc _, H.z.alloc _, H.v.alloc _, H.lt, H.below.alloc (by have := H.o.lt; omega) _⟩, Bk.new .u8 W 32 _ t, H.v.lt⟩
end
theorem infoVr : (Tryz.prog.info? 110).map (·.size) = some 3 := by kernel_rfl
set_option maxRecDepth 100000 in
set_option maxHeartbeats 2000000 in
theorem refChips10_any (R : Nat → Int) (hR : Byts 72 R) (k : Nat) (hk : k < 2) (ix : Int) (w : World) :
    Calls Tryz.prog 27 #[.agg (ints .u8 72 R).toArray, .int .i64 (k : Int), .int .i64 ix] w fun e w' => e = .returned (.tuple #[.agg (ints .u8 32 (fun i => lC R (vir ix false) (32 * k + i))).toArray, .int .i64 (vC R (vir ix false) k)]) ∧ Below w.heap.size w w' := by
  have hz := zero36
  have hz2 := zero32
  obtain ⟨A, hA⟩ : ∃ A, (ints .u8 72 R).toArray = A := ⟨_, rfl⟩
  obtain ⟨Z1, hZ1⟩ : ∃ A, (arr 36 fun _ => 0).toArray = A := ⟨_, rfl⟩
  obtain ⟨Z2, hZ2⟩ : ∃ A, (arr 32 fun _ => 0).toArray = A := ⟨_, rfl⟩
  rw [hZ1] at hz
  rw [hZ2] at hz2
  have hzv := zeroV
  have HZ2 : Hid ((ints .u8 32 fun _ => 0).toArray = Z2) := by show _ = _; rw [← hZ2]; rfl
  have hrw : (ints .u8 36 fun j => R (36 * k + j)) = arr 36 (Co.rw R k) := ints_arr10 36 _ fun j hj => hR _ (by omega)
  have cV : Hid (∀ W : World, Calls Tryz.prog 24 #[.int .i64 ix, .bool false] W fun e w' => e = .returned (.agg (arr 3 (vir ix false)).toArray) ∧ Below W.heap.size W w') := fun W => by rw [vir_arr]; exact refVirtual_any ix false W
  have cW : Hid (∀ W : World, Calls Tryz.prog 23 #[.agg (ints .u8 36 fun j => R (36 * k + j)).toArray, .agg (arr 3 (vir ix false)).toArray] W fun e w' => e = .returned (.agg (arr 39 (wd (Co.rw R k) (vir ix false))).toArray) ∧ Below W.heap.size W w') := fun W => by rw [hrw]; exact refWord_any _ _ W
  have cS : Hid (∀ W : World, Calls Tryz.prog 22 #[.agg (arr 39 (wd (Co.rw R k) (vir ix false))).toArray] W fun e w' => e = .returned (.agg (arr 4 (Co.sC R (vir ix false) k)).toArray) ∧ Below W.heap.size W w') := fun W => refValues_any _ W
  obtain ⟨s, hs⟩ : ∃ s, Co.sC R (vir ix false) k = s := ⟨_, rfl⟩
  have hvC : vC R (vir ix false) k = Co.kC s := by unfold vC; rw [hs]
  have hlC := fun i hi => lC_at R (vir ix false) k i hi
  rw [hs] at cS
  simp only [hs] at hlC
  have cL : Hid (∀ W : World, Calls Tryz.prog 55 #[.agg (arr 4 s).toArray] W fun e w' => e = .returned (.agg #[.int .i64 (vk s), .int .i64 (vp s), .int .u8 (oe (vv s))]) ∧ Below W.heap.size W w') := fun W => refLocate_any s W
  have hone := vk_one s
  have hkC : Co.kC s = if vk s = 0 then 0 else if vk s = 1 then 1 else if vk s = 2 ∧ vp s = 38 ∧ oe (vv s) = 128 then 2 else 3 := rfl
  have hmn : ∀ i, mnd (Co.rw R k) s i = if vk s = 1 ∧ (i : Int) = vp s then Co.rw R k i ^^^ vv s else Co.rw R k i := fun i => rfl
  have hkk : vk s = 0 ∨ vk s = 1 ∨ vk s = 2 ∨ vk s = 3 := by
    rcases vways s with ⟨_, h, _⟩ | ⟨_, _, h, _⟩ | ⟨_, i, _, _, _, h, _⟩
    · exact .inl h
    · exact .inr (.inr (.inr h))
    · rw [h]; by_cases h36 : i < 36
      · rw [if_pos h36]; exact .inr (.inl rfl)
      · rw [if_neg h36]; exact .inr (.inr (.inl rfl))
  obtain ⟨K, hK⟩ : ∃ K, vk s = K := ⟨_, rfl⟩
  obtain ⟨L, hL⟩ : ∃ L, vp s = L := ⟨_, rfl⟩
  obtain ⟨U, hU⟩ : ∃ U, vv s = U := ⟨_, rfl⟩
  rw [hK, hL, hU] at cL hone hkC
  rw [hK] at hkk
  simp only [hK, hL, hU] at hmn
  rw [hvC]
  have HF : Hid ((∀ i, i < 32 → lC R (vir ix false) (32 * k + i) = oe (mnd (Co.rw R k) s (4 + i))) ∧ (Co.kC s = if K = 0 then 0 else if K = 1 then 1 else if K = 2 ∧ L = 38 ∧ oe U = 128 then 2 else 3) ∧ (∀ i, mnd (Co.rw R k) s i = if K = 1 ∧ (i : Int) = L then Co.rw R k i ^^^ U else Co.rw R k i) ∧ (K = 0 ∨ K = 1 ∨ K = 2 ∨ K = 3) ∧ (K = 1 → ∃ i : Nat, i < 36 ∧ Rm.At s i ∧ L = (i : Int) ∧ U = s 0)) := ⟨hlC, hkC, hmn, hkk, hone⟩
  obtain ⟨A3, hA3⟩ : ∃ A, arr 3 (vir ix false) = A := ⟨_, rfl⟩
  obtain ⟨A4, hA4⟩ : ∃ A, arr 4 s = A := ⟨_, rfl⟩
  obtain ⟨A9, hA9⟩ : ∃ A, arr 39 (wd (Co.rw R k) (vir ix false)) = A := ⟨_, rfl⟩
  obtain ⟨LW, hLW⟩ : ∃ A, (ints .u8 36 fun j => R (36 * k + j)) = A := ⟨_, rfl⟩
  have iW : (Tryz.prog.info? 49).map (·.size) = some LW.length := by rw [← hLW, ints_len]; exact info36
  obtain ⟨LV, hLV⟩ : ∃ L' : List Value, [.int .i64 K, .int .i64 L, .int .u8 (oe U)] = L' := ⟨_, rfl⟩
  have jV : (Tryz.prog.info? 110).map (·.size) = some LV.toArray.size := by rw [← hLV]; exact infoVr
  have oV : LV.toArray.all (·.oneCell') = true := by rw [← hLV]; simp [Value.oneCell']
  have HLW : Hid ((ints .u8 36 fun j => R (36 * k + j)) = LW ∧ [.int .i64 K, .int .i64 L, .int .u8 (oe U)] = LV) := ⟨hLW, hLV⟩
  rw [show (#[.int .i64 K, .int .i64 L, .int .u8 (oe U)] : Array Value) = LV.toArray from by rw [← hLV]] at cL
  rw [hA3] at cV cW
  rw [hLW] at cW
  rw [hA9] at cW cS
  rw [hA4] at cS cL
  obtain ⟨RV, hRV⟩ : ∃ RV, (ints .u8 32 fun i => lC R (vir ix false) (32 * k + i)) = RV := ⟨_, rfl⟩
  have HRV : Hid ((ints .u8 32 fun i => lC R (vir ix false) (32 * k + i)) = RV) := hRV
  obtain ⟨kc, hkc⟩ : ∃ kc, Co.kC s = kc := ⟨_, rfl⟩
  rw [hkc] at HF
  rw [hRV, hkc]
  clear hrw hone hkC hmn hkk hlC hvC hK hL hU hA3 hA4 hA9 hLW hLV hs hRV hkc
  have HI : Hid (∀ V, V = ((w.alloc (.cells A 26)).alloc (.cells Z2 58)).alloc (.cells Z1 49) → RcI w.heap.size R (fun _ => 0) w V) := fun V hV => by
    subst hV
    have e1 : (ints .u8 36 fun _ => 0).toArray = Z1 := by rw [← hZ1]; rfl
    have e2 : (ints .u8 32 fun _ => 0).toArray = Z2 := by rw [← hZ2]; rfl
    rw [← hA, ← e1, ← e2]
    have h1 := Bk.new .u8 w 72 R 26
    have h2 := Bk.new .u8 (w.alloc (.cells (ints .u8 72 R).toArray 26)) 32 (fun _ => 0) 58
    have h3 := Bk.new .u8 ((w.alloc (.cells (ints .u8 72 R).toArray 26)).alloc (.cells (ints .u8 32 fun _ => 0).toArray 58)) 36 (fun _ => 0) 49
    simp only [World.size_alloc] at h2 h3
    exact ⟨(h1.alloc _).alloc _, h2.alloc _, h3, (((Below.refl _ w).alloc (Nat.le_refl _) _).alloc (by simp) _).alloc (by simp <;> omega) _⟩
  have HR : Hid (Byts 72 R) := hR
  rw [hA]
  clear hA hZ1 hZ2 hR
  go_enter Tryz.func27, Tryz.ntmps27
  go_wp2
  obtain ⟨V, hV⟩ : ∃ V, ((w.alloc (.cells A 26)).alloc (.cells Z2 58)).alloc (.cells Z1 49) = V := ⟨_, rfl⟩
  have H0 : Hid (RcI w.heap.size R (fun _ => 0) w V) := HI.out V hV.symm
  rw [hV]
  clear hV HI
  obtain ⟨B, hB⟩ : ∃ B, w.heap.size = B := ⟨_, rfl⟩
  rw [hB] at H0 ⊢
  go_loopw [9] (fun i wr => ∃ n : Nat, n ≤ 36 ∧ i = .int .i64 (n : Int) ∧ Hid (RcI B R (fun j => if j < n then R (36 * k + j) else 0) w wr)) (fun i _ => 36 - (intOf i).toNat)
  case atStart => exact ⟨0, by omega, rfl, H0.out.congr fun i _ => by rw [if_neg (by omega)]⟩
  case round =>
    obtain ⟨n, hn, rfl, HK⟩ := hrel
    by_cases hlt : n < 36
    · obtain ⟨x, Hx⟩ : ∃ x, Hid (R (36 * k + n) = x) := ⟨_, rfl⟩
      have c0 := HK.out.r.cell (36 * k + n) (by omega)
      rw [Hx.out] at c0
      have cz := HK.out.z.cell n (by omega)
      have fz := HK.out.z.free n
      have HN : Hid (RcI B R (fun j => if j < n + 1 then R (36 * k + j) else 0) w (wr.setCell ⟨B + 1 + 1, n, none⟩ (.int .u8 x))) := (HK.out.set n x).congr fun i _ => by
        show (if i = n then x else if i < n then R (36 * k + i) else 0) = if i < n + 1 then R (36 * k + i) else 0
        by_cases h : i = n
        · rw [if_pos h, if_pos (by omega), h, Hx.out]
        · rw [if_neg h]
          by_cases h2 : i < n
          · rw [if_pos h2, if_pos (by omega)]
          · rw [if_neg h2, if_neg (by omega)]
      clear Hx
      go_wp2
      go_roundw
      case rel => exact ⟨n + 1, by omega, by go_num, HN⟩
      case measure => simp [intOf]; omega
    · obtain rfl : n = 36 := by omega
      have HE : Hid (RcI B R (fun j => R (36 * k + j)) w wr) := HK.out.congr fun i hi => by rw [if_pos hi]
      clear HK
      go_upto_region 6 with (fail)
      refine region_ends (by kernel_rfl) (fun W => RcI B R (fun j => R (36 * k + j)) w W) (fun a' W' => ∃ N, a' = ({ tmps := #[.agg A, .int .i64 (k : Int), .int .i64 ix, .pointer (some ⟨B, 0, none⟩), undef, undef, .pointer (some ⟨B + 1, 0, none⟩), .int .i64 0, .pointer (some ⟨B + 1 + 1, 0, none⟩), .int .i64 (36 : Int), .pointer (some ⟨N, 0, none⟩), undef, undef, .int .i64 (36 : Int), .bool false, u15, u16, u17, u18, u19, u20, u21, u22, u23, u24, .agg LW.toArray, .int .i64 ix, .agg A3.toArray, .agg A9.toArray, .agg A4.toArray, .agg LV.toArray, undef, undef, undef, undef, undef, undef, undef, undef, undef, undef, undef, undef, undef, undef, undef, undef, undef, undef, undef, undef, undef, undef, undef, undef, undef, undef, undef, undef, undef, undef, undef, undef, undef, undef, undef, undef, undef, undef, undef, undef], defers := [] } : Act) ∧ RcJ B N (fun j => R (36 * k + j)) K L (oe U) w W') (HE.out.next (below_drew1 wr)) (fun hH => ?reg6) ?_
      case reg6 =>
        refine take_if 0 (v := .agg LW.toArray) rfl (by kernel_rfl) (yieldsIf_load_mid (by rfl) _ _ rfl (B + 1 + 1) 0 rfl LW _ (fun w' hw => by rw [← HLW.out.1]; exact hw.z.range) Tryz.underlying49 rfl iW) hH ?_
        show wpAnyH _ _ _ _ _ _ _ ({ tmps := #[.agg A, .int .i64 (k : Int), .int .i64 ix, .pointer (some ⟨B, 0, none⟩), undef, undef, .pointer (some ⟨B + 1, 0, none⟩), .int .i64 0, .pointer (some ⟨B + 1 + 1, 0, none⟩), .int .i64 (36 : Int), undef, undef, undef, .int .i64 (36 : Int), .bool false, u15, u16, u17, u18, u19, u20, u21, u22, u23, u24, .agg LW.toArray, undef, undef, undef, undef, undef, undef, undef, undef, undef, undef, undef, undef, undef, undef, undef, undef, undef, undef, undef, undef, undef, undef, undef, undef, undef, undef, undef, undef, undef, undef, undef, undef, undef, undef, undef, undef, undef, undef, undef, undef, undef, undef, undef, undef, undef], defers := [] } : Act) _
        refine take_pure 1 (v := .int .i64 ix) rfl (by kernel_rfl) rfl (fun w' hw => by simp [execOp, go_sem]) hH ?_
        show wpAnyH _ _ _ _ _ _ _ ({ tmps := #[.agg A, .int .i64 (k : Int), .int .i64 ix, .pointer (some ⟨B, 0, none⟩), undef, undef, .pointer (some ⟨B + 1, 0, none⟩), .int .i64 0, .pointer (some ⟨B + 1 + 1, 0, none⟩), .int .i64 (36 : Int), undef, undef, undef, .int .i64 (36 : Int), .bool false, u15, u16, u17, u18, u19, u20, u21, u22, u23, u24, .agg LW.toArray, .int .i64 ix, undef, undef, undef, undef, undef, undef, undef, undef, undef, undef, undef, undef, undef, undef, undef, undef, undef, undef, undef, undef, undef, undef, undef, undef, undef, undef, undef, undef, undef, undef, undef, undef, undef, undef, undef, undef, undef, undef, undef, undef, undef, undef, undef, undef], defers := [] } : Act) _
        refine take_two 2 6 rfl rfl rfl rfl (by kernel_rfl) ?_ ?_
        · refine wp_contract 24 [.tmp 26, .const (.bool false)] _ rfl (enters_of Tryz.func24 (by kernel_rfl) rfl) [.int .i64 ix, .bool false] rfl (cV.out _) ?_
          rintro e X1 ⟨rfl, b5⟩
          refine ⟨_, rfl, hH.next b5, fun hH => ?_⟩
          clear b5
          show wpAnyH _ _ _ _ _ _ _ ({ tmps := #[.agg A, .int .i64 (k : Int), .int .i64 ix, .pointer (some ⟨B, 0, none⟩), undef, undef, .pointer (some ⟨B + 1, 0, none⟩), .int .i64 0, .pointer (some ⟨B + 1 + 1, 0, none⟩), .int .i64 (36 : Int), undef, undef, undef, .int .i64 (36 : Int), .bool false, u15, u16, u17, u18, u19, u20, u21, u22, u23, u24, .agg LW.toArray, .int .i64 ix, .agg A3.toArray, undef, undef, undef, undef, undef, undef, undef, undef, undef, undef, undef, undef, undef, undef, undef, undef, undef, undef, undef, undef, undef, undef, undef, undef, undef, undef, undef, undef, undef, undef, undef, undef, undef, undef, undef, undef, undef, undef, undef, undef, undef, undef, undef], defers := [] } : Act) _
          refine take_two 3 6 rfl rfl rfl rfl (by kernel_rfl) ?_ ?_
          · refine wp_contract 23 [.tmp 25, .tmp 27] _ rfl (enters_of Tryz.func23 (by kernel_rfl) rfl) [.agg LW.toArray, .agg A3.toArray] rfl (cW.out _) ?_
            rintro e X2 ⟨rfl, b5⟩
            refine ⟨_, rfl, hH.next b5, fun hH => ?_⟩
            clear b5
            show wpAnyH _ _ _ _ _ _ _ ({ tmps := #[.agg A, .int .i64 (k : Int), .int .i64 ix, .pointer (some ⟨B, 0, none⟩), undef, undef, .pointer (some ⟨B + 1, 0, none⟩), .int .i64 0, .pointer (some ⟨B + 1 + 1, 0, none⟩), .int .i64 (36 : Int), undef, undef, undef, .int .i64 (36 : Int), .bool false, u15, u16, u17, u18, u19, u20, u21, u22, u23, u24, .agg LW.toArray, .int .i64 ix, .agg A3.toArray, .agg A9.toArray, undef, undef, undef, undef, undef, undef, undef, undef, undef, undef, undef, undef, undef, undef, undef, undef, undef, undef, undef, undef, undef, undef, undef, undef, undef, undef, undef, undef, undef, undef, undef, undef, undef, undef, undef, undef, undef, undef, undef, undef, undef, undef], defers := [] } : Act) _
            refine take_two 4 6 rfl rfl rfl rfl (by kernel_rfl) ?_ ?_
            · refine wp_contract 22 [.tmp 28] _ rfl (enters_of Tryz.func22 (by kernel_rfl) rfl) [.agg A9.toArray] rfl (cS.out _) ?_
              rintro e X3 ⟨rfl, b5⟩
              refine ⟨_, rfl, hH.next b5, fun hH => ?_⟩
              clear b5
              show wpAnyH _ _ _ _ _ _ _ ({ tmps := #[.agg A, .int .i64 (k : Int), .int .i64 ix, .pointer (some ⟨B, 0, none⟩), undef, undef, .pointer (some ⟨B + 1, 0, none⟩), .int .i64 0, .pointer (some ⟨B + 1 + 1, 0, none⟩), .int .i64 (36 : Int), undef, undef, undef, .int .i64 (36 : Int), .bool false, u15, u16, u17, u18, u19, u20, u21, u22, u23, u24, .agg LW.toArray, .int .i64 ix, .agg A3.toArray, .agg A9.toArray, .agg A4.toArray, undef, undef, undef, undef, undef, undef, undef, undef, undef, undef, undef, undef, undef, undef, undef, undef, undef, undef, undef, undef, undef, undef, undef, undef, undef, undef, undef, undef, undef, undef, undef, undef, undef, undef, undef, undef, undef, undef, undef, undef, undef], defers := [] } : Act) _
              refine take_two 5 6 rfl rfl rfl rfl (by kernel_rfl) ?_ ?_
              · refine wp_contract 55 [.tmp 29] _ rfl (enters_of Tryz.func55 (by kernel_rfl) rfl) [.agg A4.toArray] rfl (cL.out _) ?_
                rintro e X4 ⟨rfl, b5⟩
                refine ⟨_, rfl, hH.next b5, fun hH => ?_⟩
                clear b5
                show wpAnyH _ _ _ _ _ _ _ ({ tmps := #[.agg A, .int .i64 (k : Int), .int .i64 ix, .pointer (some ⟨B, 0, none⟩), undef, undef, .pointer (some ⟨B + 1, 0, none⟩), .int .i64 0, .pointer (some ⟨B + 1 + 1, 0, none⟩), .int .i64 (36 : Int), undef, undef, undef, .int .i64 (36 : Int), .bool false, u15, u16, u17, u18, u19, u20, u21, u22, u23, u24, .agg LW.toArray, .int .i64 ix, .agg A3.toArray, .agg A9.toArray, .agg A4.toArray, .agg LV.toArray, undef, undef, undef, undef, undef, undef, undef, undef, undef, undef, undef, undef, undef, undef, undef, undef, undef, undef, undef, undef, undef, undef, undef, undef, undef, undef, undef, undef, undef, undef, undef, undef, undef, undef, undef, undef, undef, undef, undef, undef], defers := [] } : Act) _
                refine take_one 6 rfl rfl (by kernel_rfl) ?_
                refine wp_alloc_agg 110 rfl _ hzv ?_
                obtain ⟨N, hNe⟩ : ∃ N, (X4).heap.size = N := ⟨_, rfl⟩
                obtain ⟨X5, hX5⟩ : ∃ V, (X4).alloc (.cells #[.int .i64 0, .int .i64 0, .int .u8 0] 110) = V := ⟨_, rfl⟩
                have b5 : Below (X4).heap.size (X4) X5 := by rw [← hX5]; exact (Below.refl _ _).alloc (Nat.le_refl _) _
                have lN : B + 1 + 1 < N := by rw [← hNe]; exact hH.z.lt
                have HN : Hid (VdAt X5 N (.int .i64 0) (.int .i64 0) (.int .u8 0)) := by rw [← hX5, ← hNe]; exact VdAt.new _ _ _ _ _
                rw [hNe, hX5]
                refine ⟨hH.next b5, fun hH => ?_⟩
                clear b5 hNe hX5
                show wpAnyH _ _ _ _ _ _ _ ({ tmps := #[.agg A, .int .i64 (k : Int), .int .i64 ix, .pointer (some ⟨B, 0, none⟩), undef, undef, .pointer (some ⟨B + 1, 0, none⟩), .int .i64 0, .pointer (some ⟨B + 1 + 1, 0, none⟩), .int .i64 (36 : Int), .pointer (some ⟨N, 0, none⟩), undef, undef, .int .i64 (36 : Int), .bool false, u15, u16, u17, u18, u19, u20, u21, u22, u23, u24, .agg LW.toArray, .int .i64 ix, .agg A3.toArray, .agg A9.toArray, .agg A4.toArray, .agg LV.toArray, undef, undef, undef, undef, undef, undef, undef, undef, undef, undef, undef, undef, undef, undef, undef, undef, undef, undef, undef, undef, undef, undef, undef, undef, undef, undef, undef, undef, undef, undef, undef, undef, undef, undef, undef, undef, undef, undef, undef, undef], defers := [] } : Act) _
                refine take_one 7 rfl rfl (by kernel_rfl) ?_
                refine wp_store_mid 110 _ _ rfl N 0 LV.toArray rfl rfl (by rw [← HLW.out.2]; exact HN.out.there) jV oV ?_
                have hb5 := HN.out.puts (.int .i64 K) (.int .i64 L) (.int .u8 (oe U))
                rw [HLW.out.2] at hb5
                have hJ : RcJ B N (fun j => R (36 * k + j)) K L (oe U) w _ := ⟨hH.o.putOther (c := N) (by omega) 0 LV, hH.z.putOther (c := N) (by omega) 0 LV, hb5, lN, belows_put (by omega) LV 0 hH.below⟩
                have hH2 : RcI B R (fun j => R (36 * k + j)) w _ := ⟨hH.r.putOther (c := N) (by omega) 0 LV, hH.o.putOther (c := N) (by omega) 0 LV, hH.z.putOther (c := N) (by omega) 0 LV, belows_put (by omega) LV 0 hH.below⟩
                refine ⟨hH2, fun hH => ?_⟩
                show wpAnyH _ _ _ _ _ _ _ ({ tmps := #[.agg A, .int .i64 (k : Int), .int .i64 ix, .pointer (some ⟨B, 0, none⟩), undef, undef, .pointer (some ⟨B + 1, 0, none⟩), .int .i64 0, .pointer (some ⟨B + 1 + 1, 0, none⟩), .int .i64 (36 : Int), .pointer (some ⟨N, 0, none⟩), undef, undef, .int .i64 (36 : Int), .bool false, u15, u16, u17, u18, u19, u20, u21, u22, u23, u24, .agg LW.toArray, .int .i64 ix, .agg A3.toArray, .agg A9.toArray, .agg A4.toArray, .agg LV.toArray, undef, undef, undef, undef, undef, undef, undef, undef, undef, undef, undef, undef, undef, undef, undef, undef, undef, undef, undef, undef, undef, undef, undef, undef, undef, undef, undef, undef, undef, undef, undef, undef, undef, undef, undef, undef, undef, undef, undef, undef], defers := [] } : Act) _
                exact wpAnyH_done (by kernel_rfl) ⟨N, rfl, hJ⟩ _
              · refine wp_alloc_agg 110 rfl _ hzv ?_
                obtain ⟨N, hNe⟩ : ∃ N, (X3).heap.size = N := ⟨_, rfl⟩
                obtain ⟨X6, hX6⟩ : ∃ V, (X3).alloc (.cells #[.int .i64 0, .int .i64 0, .int .u8 0] 110) = V := ⟨_, rfl⟩
                have b5 : Below (X3).heap.size (X3) X6 := by rw [← hX6]; exact (Below.refl _ _).alloc (Nat.le_refl _) _
                have lN : B + 1 + 1 < N := by rw [← hNe]; exact hH.z.lt
                have HN : Hid (VdAt X6 N (.int .i64 0) (.int .i64 0) (.int .u8 0)) := by rw [← hX6, ← hNe]; exact VdAt.new _ _ _ _ _
                rw [hNe, hX6]
                refine ⟨hH.next b5, fun hH => ?_⟩
                clear b5 hNe hX6
                show wpAnyH _ _ _ _ _ _ _ ({ tmps := #[.agg A, .int .i64 (k : Int), .int .i64 ix, .pointer (some ⟨B, 0, none⟩), undef, undef, .pointer (some ⟨B + 1, 0, none⟩), .int .i64 0, .pointer (some ⟨B + 1 + 1, 0, none⟩), .int .i64 (36 : Int), .pointer (some ⟨N, 0, none⟩), undef, undef, .int .i64 (36 : Int), .bool false, u15, u16, u17, u18, u19, u20, u21, u22, u23, u24, .agg LW.toArray, .int .i64 ix, .agg A3.toArray, .agg A9.toArray, .agg A4.toArray, undef, undef, undef, undef, undef, undef, undef, undef, undef, undef, undef, undef, undef, undef, undef, undef, undef, undef, undef, undef, undef, undef, undef, undef, undef, undef, undef, undef, undef, undef, undef, undef, undef, undef, undef, undef, undef, undef, undef, undef, undef], defers := [] } : Act) _
                refine take_one 5 rfl rfl (by kernel_rfl) ?_
                refine wp_contract 55 [.tmp 29] _ rfl (enters_of Tryz.func55 (by kernel_rfl) rfl) [.agg A4.toArray] rfl (cL.out _) ?_
                rintro e X7 ⟨rfl, b5⟩
                replace HN : Hid (VdAt X7 N (.int .i64 0) (.int .i64 0) (.int .u8 0)) := HN.out.next b5
                refine ⟨_, rfl, hH.next b5, fun hH => ?_⟩
                clear b5
                show wpAnyH _ _ _ _ _ _ _ ({ tmps := #[.agg A, .int .i64 (k : Int), .int .i64 ix, .pointer (some ⟨B, 0, none⟩), undef, undef, .pointer (some ⟨B + 1, 0, none⟩), .int .i64 0, .pointer (some ⟨B + 1 + 1, 0, none⟩), .int .i64 (36 : Int), .pointer (some ⟨N, 0, none⟩), undef, undef, .int .i64 (36 : Int), .bool false, u15, u16, u17, u18, u19, u20, u21, u22, u23, u24, .agg LW.toArray, .int .i64 ix, .agg A3.toArray, .agg A9.toArray, .agg A4.toArray, .agg LV.toArray, undef, undef, undef, undef, undef, undef, undef, undef, undef, undef, undef, undef, undef, undef, undef, undef, undef, undef, undef, undef, undef, undef, undef, undef, undef, undef, undef, undef, undef, undef, undef, undef, undef, undef, undef, undef, undef, undef, undef, undef], defers := [] } : Act) _
                refine take_one 7 rfl rfl (by kernel_rfl) ?_
                refine wp_store_mid 110 _ _ rfl N 0 LV.toArray rfl rfl (by rw [← HLW.out.2]; exact HN.out.there) jV oV ?_
                have hb5 := HN.out.puts (.int .i64 K) (.int .i64 L) (.int .u8 (oe U))
                rw [HLW.out.2] at hb5
                have hJ : RcJ B N (fun j => R (36 * k + j)) K L (oe U) w _ := ⟨hH.o.putOther (c := N) (by omega) 0 LV, hH.z.putOther (c := N) (by omega) 0 LV, hb5, lN, belows_put (by omega) LV 0 hH.below⟩
                have hH2 : RcI B R (fun j => R (36 * k + j)) w _ := ⟨hH.r.putOther (c := N) (by omega) 0 LV, hH.o.putOther (c := N) (by omega) 0 LV, hH.z.putOther (c := N) (by omega) 0 LV, belows_put (by omega) LV 0 hH.below⟩
                refine ⟨hH2, fun hH => ?_⟩
                show wpAnyH _ _ _ _ _ _ _ ({ tmps := #[.agg A, .int .i64 (k : Int), .int .i64 ix, .pointer (some ⟨B, 0, none⟩), undef, undef, .pointer (some ⟨B + 1, 0, none⟩), .int .i64 0, .pointer (some ⟨B + 1 + 1, 0, none⟩), .int .i64 (36 : Int), .pointer (some ⟨N, 0, none⟩), undef, undef, .int .i64 (36 : Int), .bool false, u15, u16, u17, u18, u19, u20, u21, u22, u23, u24, .agg LW.toArray, .int .i64 ix, .agg A3.toArray, .agg A9.toArray, .agg A4.toArray, .agg LV.toArray, undef, undef, undef, undef, undef, undef, undef, undef, undef, undef, undef, undef, undef, undef, undef, undef, undef, undef, undef, undef, undef, undef, undef, undef, undef, undef, undef, undef, undef, undef, undef, undef, undef, undef, undef, undef, undef, undef, undef, undef], defers := [] } : Act) _
                exact wpAnyH_done (by kernel_rfl) ⟨N, rfl, hJ⟩ _
            · refine wp_alloc_agg 110 rfl _ hzv ?_
              obtain ⟨N, hNe⟩ : ∃ N, (X2).heap.size = N := ⟨_, rfl⟩
              obtain ⟨X8, hX8⟩ : ∃ V, (X2).alloc (.cells #[.int .i64 0, .int .i64 0, .int .u8 0] 110) = V := ⟨_, rfl⟩
              have b5 : Below (X2).heap.size (X2) X8 := by rw [← hX8]; exact (Below.refl _ _).alloc (Nat.le_refl _) _
              have lN : B + 1 + 1 < N := by rw [← hNe]; exact hH.z.lt
              have HN : Hid (VdAt X8 N (.int .i64 0) (.int .i64 0) (.int .u8 0)) := by rw [← hX8, ← hNe]; exact VdAt.new _ _ _ _ _
              rw [hNe, hX8]
              refine ⟨hH.next b5, fun hH => ?_⟩
              clear b5 hNe hX8
              show wpAnyH _ _ _ _ _ _ _ ({ tmps := #[.agg A, .int .i64 (k : Int), .int .i64 ix, .pointer (some ⟨B, 0, none⟩), undef, undef, .pointer (some ⟨B + 1, 0, none⟩), .int .i64 0, .pointer (some ⟨B + 1 + 1, 0, none⟩), .int .i64 (36 : Int), .pointer (some ⟨N, 0, none⟩), undef, undef, .int .i64 (36 : Int), .bool false, u15, u16, u17, u18, u19, u20, u21, u22, u23, u24, .agg LW.toArray, .int .i64 ix, .agg A3.toArray, .agg A9.toArray, undef, undef, undef, undef, undef, undef, undef, undef, undef, undef, undef, undef, undef, undef, undef, undef, undef, undef, undef, undef, undef, undef, undef, undef, undef, undef, undef, undef, undef, undef, undef, undef, undef, undef, undef, undef, undef, undef, undef, undef, undef, undef], defers := [] } : Act) _
              refine take_one 4 rfl rfl (by kernel_rfl) ?_
              refine wp_contract 22 [.tmp 28] _ rfl (enters_of Tryz.func22 (by kernel_rfl) rfl) [.agg A9.toArray] rfl (cS.out _) ?_
              rintro e X9 ⟨rfl, b5⟩
              replace HN : Hid (VdAt X9 N (.int .i64 0) (.int .i64 0) (.int .u8 0)) := HN.out.next b5
              refine ⟨_, rfl, hH.next b5, fun hH => ?_⟩
              clear b5
              show wpAnyH _ _ _ _ _ _ _ ({ tmps := #[.agg A, .int .i64 (k : Int), .int .i64 ix, .pointer (some ⟨B, 0, none⟩), undef, undef, .pointer (some ⟨B + 1, 0, none⟩), .int .i64 0, .pointer (some ⟨B + 1 + 1, 0, none⟩), .int .i64 (36 : Int), .pointer (some ⟨N, 0, none⟩), undef, undef, .int .i64 (36 : Int), .bool false, u15, u16, u17, u18, u19, u20, u21, u22, u23, u24, .agg LW.toArray, .int .i64 ix, .agg A3.toArray, .agg A9.toArray, .agg A4.toArray, undef, undef, undef, undef, undef, undef, undef, undef, undef, undef, undef, undef, undef, undef, undef, undef, undef, undef, undef, undef, undef, undef, undef, undef, undef, undef, undef, undef, undef, undef, undef, undef, undef, undef, undef, undef, undef, undef, undef, undef, undef], defers := [] } : Act) _
              refine take_one 5 rfl rfl (by kernel_rfl) ?_
              refine wp_contract 55 [.tmp 29] _ rfl (enters_of Tryz.func55 (by kernel_rfl) rfl) [.agg A4.toArray] rfl (cL.out _) ?_
              rintro e X10 ⟨rfl, b5⟩
              replace HN : Hid (VdAt X10 N (.int .i64 0) (.int .i64 0) (.int .u8 0)) := HN.out.next b5
              refine ⟨_, rfl, hH.next b5, fun hH => ?_⟩
              clear b5
              show wpAnyH _ _ _ _ _ _ _ ({ tmps := #[.agg A, .int .i64 (k : Int), .int .i64 ix, .pointer (some ⟨B, 0, none⟩), undef, undef, .pointer (some ⟨B + 1, 0, none⟩), .int .i64 0, .pointer (some ⟨B + 1 + 1, 0, none⟩), .int .i64 (36 : Int), .pointer (some ⟨N, 0, none⟩), undef, undef, .int .i64 (36 : Int), .bool false, u15, u16, u17, u18, u19, u20, u21, u22, u23, u24, .agg LW.toArray, .int .i64 ix, .agg A3.toArray, .agg A9.toArray, .agg A4.toArray, .agg LV.toArray, undef, undef, undef, undef, undef, undef, undef, undef, undef, undef, undef, undef, undef, undef, undef, undef, undef, undef, undef, undef, undef, undef, undef, undef, undef, undef, undef, undef, undef, undef, undef, undef, undef, undef, undef, undef, undef, undef, undef, undef], defers := [] } : Act) _
              refine take_one 7 rfl rfl (by kernel_rfl) ?_
              refine wp_store_mid 110 _ _ rfl N 0 LV.toArray rfl rfl (by rw [← HLW.out.2]; exact HN.out.there) jV oV ?_
              have hb5 := HN.out.puts (.int .i64 K) (.int .i64 L) (.int .u8 (oe U))
              rw [HLW.out.2] at hb5
              have hJ : RcJ B N (fun j => R (36 * k + j)) K L (oe U) w _ := ⟨hH.o.putOther (c := N) (by omega) 0 LV, hH.z.putOther (c := N) (by omega) 0 LV, hb5, lN, belows_put (by omega) LV 0 hH.below⟩
              have hH2 : RcI B R (fun j => R (36 * k + j)) w _ := ⟨hH.r.putOther (c := N) (by omega) 0 LV, hH.o.putOther (c := N) (by omega) 0 LV, hH.z.putOther (c := N) (by omega) 0 LV, belows_put (by omega) LV 0 hH.below⟩
              refine ⟨hH2, fun hH => ?_⟩
              show wpAnyH _ _ _ _ _ _ _ ({ tmps := #[.agg A, .int .i64 (k : Int), .int .i64 ix, .pointer (some ⟨B, 0, none⟩), undef, undef, .pointer (some ⟨B + 1, 0, none⟩), .int .i64 0, .pointer (some ⟨B + 1 + 1, 0, none⟩), .int .i64 (36 : Int), .pointer (some ⟨N, 0, none⟩), undef, undef, .int .i64 (36 : Int), .bool false, u15, u16, u17, u18, u19, u20, u21, u22, u23, u24, .agg LW.toArray, .int .i64 ix, .agg A3.toArray, .agg A9.toArray, .agg A4.toArray, .agg LV.toArray, undef, undef, undef, undef, undef, undef, undef, undef, undef, undef, undef, undef, undef, undef, undef, undef, undef, undef, undef, undef, undef, undef, undef, undef, undef, undef, undef, undef, undef, undef, undef, undef, undef, undef, undef, undef, undef, undef, undef, undef], defers := [] } : Act) _
              exact wpAnyH_done (by kernel_rfl) ⟨N, rfl, hJ⟩ _
          · refine wp_alloc_agg 110 rfl _ hzv ?_
            obtain ⟨N, hNe⟩ : ∃ N, (X1).heap.size = N := ⟨_, rfl⟩
            obtain ⟨X11, hX11⟩ : ∃ V, (X1).alloc (.cells #[.int .i64 0, .int .i64 0, .int .u8 0] 110) = V := ⟨_, rfl⟩
            have b5 : Below (X1).heap.size (X1) X11 := by rw [← hX11]; exact (Below.refl _ _).alloc (Nat.le_refl _) _
            have lN : B + 1 + 1 < N := by rw [← hNe]; exact hH.z.lt
            have HN : Hid (VdAt X11 N (.int .i64 0) (.int .i64 0) (.int .u8 0)) := by rw [← hX11, ← hNe]; exact VdAt.new _ _ _ _ _
            rw [hNe, hX11]
            refine ⟨hH.next b5, fun hH => ?_⟩
            clear b5 hNe hX11
            show wpAnyH _ _ _ _ _ _ _ ({ tmps := #[.agg A, .int .i64 (k : Int), .int .i64 ix, .pointer (some ⟨B, 0, none⟩), undef, undef, .pointer (some ⟨B + 1, 0, none⟩), .int .i64 0, .pointer (some ⟨B + 1 + 1, 0, none⟩), .int .i64 (36 : Int), .pointer (some ⟨N, 0, none⟩), undef, undef, .int .i64 (36 : Int), .bool false, u15, u16, u17, u18, u19, u20, u21, u22, u23, u24, .agg LW.toArray, .int .i64 ix, .agg A3.toArray, undef, undef, undef, undef, undef, undef, undef, undef, undef, undef, undef, undef, undef, undef, undef, undef, undef, undef, undef, undef, undef, undef, undef, undef, undef, undef, undef, undef, undef, undef, undef, undef, undef, undef, undef, undef, undef, undef, undef, undef, undef, undef, undef], defers := [] } : Act) _
            refine take_one 3 rfl rfl (by kernel_rfl) ?_
            refine wp_contract 23 [.tmp 25, .tmp 27] _ rfl (enters_of Tryz.func23 (by kernel_rfl) rfl) [.agg LW.toArray, .agg A3.toArray] rfl (cW.out _) ?_
            rintro e X12 ⟨rfl, b5⟩
            replace HN : Hid (VdAt X12 N (.int .i64 0) (.int .i64 0) (.int .u8 0)) := HN.out.next b5
            refine ⟨_, rfl, hH.next b5, fun hH => ?_⟩
            clear b5
            show wpAnyH _ _ _ _ _ _ _ ({ tmps := #[.agg A, .int .i64 (k : Int), .int .i64 ix, .pointer (some ⟨B, 0, none⟩), undef, undef, .pointer (some ⟨B + 1, 0, none⟩), .int .i64 0, .pointer (some ⟨B + 1 + 1, 0, none⟩), .int .i64 (36 : Int), .pointer (some ⟨N, 0, none⟩), undef, undef, .int .i64 (36 : Int), .bool false, u15, u16, u17, u18, u19, u20, u21, u22, u23, u24, .agg LW.toArray, .int .i64 ix, .agg A3.toArray, .agg A9.toArray, undef, undef, undef, undef, undef, undef, undef, undef, undef, undef, undef, undef, undef, undef, undef, undef, undef, undef, undef, undef, undef, undef, undef, undef, undef, undef, undef, undef, undef, undef, undef, undef, undef, undef, undef, undef, undef, undef, undef, undef, undef, undef], defers := [] } : Act) _
            refine take_one 4 rfl rfl (by kernel_rfl) ?_
            refine wp_contract 22 [.tmp 28] _ rfl (enters_of Tryz.func22 (by kernel_rfl) rfl) [.agg A9.toArray] rfl (cS.out _) ?_
            rintro e X13 ⟨rfl, b5⟩
            replace HN : Hid (VdAt X13 N (.int .i64 0) (.int .i64 0) (.int .u8 0)) := HN.out.next b5
            refine ⟨_, rfl, hH.next b5, fun hH => ?_⟩
            clear b5
            show wpAnyH _ _ _ _ _ _ _ ({ tmps := #[.agg A, .int .i64 (k : Int), .int .i64 ix, .pointer (some ⟨B, 0, none⟩), undef, undef, .pointer (some ⟨B + 1, 0, none⟩), .int .i64 0, .pointer (some ⟨B + 1 + 1, 0, none⟩), .int .i64 (36 : Int), .pointer (some ⟨N, 0, none⟩), undef, undef, .int .i64 (36 : Int), .bool false, u15, u16, u17, u18, u19, u20, u21, u22, u23, u24, .agg LW.toArray, .int .i64 ix, .agg A3.toArray, .agg A9.toArray, .agg A4.toArray, undef, undef, undef, undef, undef, undef, undef, undef, undef, undef, undef, undef, undef, undef, undef, undef, undef, undef, undef, undef, undef, undef, undef, undef, undef, undef, undef, undef, undef, undef, undef, undef, undef, undef, undef, undef, undef, undef, undef, undef, undef], defers := [] } : Act) _
            refine take_one 5 rfl rfl (by kernel_rfl) ?_
            refine wp_contract 55 [.tmp 29] _ rfl (enters_of Tryz.func55 (by kernel_rfl) rfl) [.agg A4.toArray] rfl (cL.out _) ?_
            rintro e X14 ⟨rfl, b5⟩
            replace HN : Hid (VdAt X14 N (.int .i64 0) (.int .i64 0) (.int .u8 0)) := HN.out.next b5
            refine ⟨_, rfl, hH.next b5, fun hH => ?_⟩
            clear b5
            show wpAnyH _ _ _ _ _ _ _ ({ tmps := #[.agg A, .int .i64 (k : Int), .int .i64 ix, .pointer (some ⟨B, 0, none⟩), undef, undef, .pointer (some ⟨B + 1, 0, none⟩), .int .i64 0, .pointer (some ⟨B + 1 + 1, 0, none⟩), .int .i64 (36 : Int), .pointer (some ⟨N, 0, none⟩), undef, undef, .int .i64 (36 : Int), .bool false, u15, u16, u17, u18, u19, u20, u21, u22, u23, u24, .agg LW.toArray, .int .i64 ix, .agg A3.toArray, .agg A9.toArray, .agg A4.toArray, .agg LV.toArray, undef, undef, undef, undef, undef, undef, undef, undef, undef, undef, undef, undef, undef, undef, undef, undef, undef, undef, undef, undef, undef, undef, undef, undef, undef, undef, undef, undef, undef, undef, undef, undef, undef, undef, undef, undef, undef, undef, undef, undef], defers := [] } : Act) _
            refine take_one 7 rfl rfl (by kernel_rfl) ?_
            refine wp_store_mid 110 _ _ rfl N 0 LV.toArray rfl rfl (by rw [← HLW.out.2]; exact HN.out.there) jV oV ?_
            have hb5 := HN.out.puts (.int .i64 K) (.int .i64 L) (.int .u8 (oe U))
            rw [HLW.out.2] at hb5
            have hJ : RcJ B N (fun j => R (36 * k + j)) K L (oe U) w _ := ⟨hH.o.putOther (c := N) (by omega) 0 LV, hH.z.putOther (c := N) (by omega) 0 LV, hb5, lN, belows_put (by omega) LV 0 hH.below⟩
            have hH2 : RcI B R (fun j => R (36 * k + j)) w _ := ⟨hH.r.putOther (c := N) (by omega) 0 LV, hH.o.putOther (c := N) (by omega) 0 LV, hH.z.putOther (c := N) (by omega) 0 LV, belows_put (by omega) LV 0 hH.below⟩
            refine ⟨hH2, fun hH => ?_⟩
            show wpAnyH _ _ _ _ _ _ _ ({ tmps := #[.agg A, .int .i64 (k : Int), .int .i64 ix, .pointer (some ⟨B, 0, none⟩), undef, undef, .pointer (some ⟨B + 1, 0, none⟩), .int .i64 0, .pointer (some ⟨B + 1 + 1, 0, none⟩), .int .i64 (36 : Int), .pointer (some ⟨N, 0, none⟩), undef, undef, .int .i64 (36 : Int), .bool false, u15, u16, u17, u18, u19, u20, u21, u22, u23, u24, .agg LW.toArray, .int .i64 ix, .agg A3.toArray, .agg A9.toArray, .agg A4.toArray, .agg LV.toArray, undef, undef, undef, undef, undef, undef, undef, undef, undef, undef, undef, undef, undef, undef, undef, undef, undef, undef, undef, undef, undef, undef, undef, undef, undef, undef, undef, undef, undef, undef, undef, undef, undef, undef, undef, undef, undef, undef, undef, undef], defers := [] } : Act) _
            exact wpAnyH_done (by kernel_rfl) ⟨N, rfl, hJ⟩ _
        · refine wp_alloc_agg 110 rfl _ hzv ?_
          obtain ⟨N, hNe⟩ : ∃ N, (wr.drew).heap.size = N := ⟨_, rfl⟩
          obtain ⟨X15, hX15⟩ : ∃ V, (wr.drew).alloc (.cells #[.int .i64 0, .int .i64 0, .int .u8 0] 110) = V := ⟨_, rfl⟩
          have b5 : Below (wr.drew).heap.size (wr.drew) X15 := by rw [← hX15]; exact (Below.refl _ _).alloc (Nat.le_refl _) _
          have lN : B + 1 + 1 < N := by rw [← hNe]; exact hH.z.lt
          have HN : Hid (VdAt X15 N (.int .i64 0) (.int .i64 0) (.int .u8 0)) := by rw [← hX15, ← hNe]; exact VdAt.new _ _ _ _ _
          rw [hNe, hX15]
          refine ⟨hH.next b5, fun hH => ?_⟩
          clear b5 hNe hX15
          show wpAnyH _ _ _ _ _ _ _ ({ tmps := #[.agg A, .int .i64 (k : Int), .int .i64 ix, .pointer (some ⟨B, 0, none⟩), undef, undef, .pointer (some ⟨B + 1, 0, none⟩), .int .i64 0, .pointer (some ⟨B + 1 + 1, 0, none⟩), .int .i64 (36 : Int), .pointer (some ⟨N, 0, none⟩), undef, undef, .int .i64 (36 : Int), .bool false, u15, u16, u17, u18, u19, u20, u21, u22, u23, u24, .agg LW.toArray, .int .i64 ix, undef, undef, undef, undef, undef, undef, undef, undef, undef, undef, undef, undef, undef, undef, undef, undef, undef, undef, undef, undef, undef, undef, undef, undef, undef, undef, undef, undef, undef, undef, undef, undef, undef, undef, undef, undef, undef, undef, undef, undef, undef, undef, undef, undef], defers := [] } : Act) _
          refine take_one 2 rfl rfl (by kernel_rfl) ?_
          refine wp_contract 24 [.tmp 26, .const (.bool false)] _ rfl (enters_of Tryz.func24 (by kernel_rfl) rfl) [.int .i64 ix, .bool false] rfl (cV.out _) ?_
          rintro e X16 ⟨rfl, b5⟩
          replace HN : Hid (VdAt X16 N (.int .i64 0) (.int .i64 0) (.int .u8 0)) := HN.out.next b5
          refine ⟨_, rfl, hH.next b5, fun hH => ?_⟩
          clear b5
          show wpAnyH _ _ _ _ _ _ _ ({ tmps := #[.agg A, .int .i64 (k : Int), .int .i64 ix, .pointer (some ⟨B, 0, none⟩), undef, undef, .pointer (some ⟨B + 1, 0, none⟩), .int .i64 0, .pointer (some ⟨B + 1 + 1, 0, none⟩), .int .i64 (36 : Int), .pointer (some ⟨N, 0, none⟩), undef, undef, .int .i64 (36 : Int), .bool false, u15, u16, u17, u18, u19, u20, u21, u22, u23, u24, .agg LW.toArray, .int .i64 ix, .agg A3.toArray, undef, undef, undef, undef, undef, undef, undef, undef, undef, undef, undef, undef, undef, undef, undef, undef, undef, undef, undef, undef, undef, undef, undef, undef, undef, undef, undef, undef, undef, undef, undef, undef, undef, undef, undef, undef, undef, undef, undef, undef, undef, undef, undef], defers := [] } : Act) _
          refine take_one 3 rfl rfl (by kernel_rfl) ?_
          refine wp_contract 23 [.tmp 25, .tmp 27] _ rfl (enters_of Tryz.func23 (by kernel_rfl) rfl) [.agg LW.toArray, .agg A3.toArray] rfl (cW.out _) ?_
          rintro e X17 ⟨rfl, b5⟩
          replace HN : Hid (VdAt X17 N (.int .i64 0) (.int .i64 0) (.int .u8 0)) := HN.out.next b5
          refine ⟨_, rfl, hH.next b5, fun hH => ?_⟩
          clear b5
          show wpAnyH _ _ _ _ _ _ _ ({ tmps := #[.agg A, .int .i64 (k : Int), .int .i64 ix, .pointer (some ⟨B, 0, none⟩), undef, undef, .pointer (some ⟨B + 1, 0, none⟩), .int .i64 0, .pointer (some ⟨B + 1 + 1, 0, none⟩), .int .i64 (36 : Int), .pointer (some ⟨N, 0, none⟩), undef, undef, .int .i64 (36 : Int), .bool false, u15, u16, u17, u18, u19, u20, u21, u22, u23, u24, .agg LW.toArray, .int .i64 ix, .agg A3.toArray, .agg A9.toArray, undef, undef, undef, undef, undef, undef, undef, undef, undef, undef, undef, undef, undef, undef, undef, undef, undef, undef, undef, undef, undef, undef, undef, undef, undef, undef, undef, undef, undef, undef, undef, undef, undef, undef, undef, undef, undef, undef, undef, undef, undef, undef], defers := [] } : Act) _
          refine take_one 4 rfl rfl (by kernel_rfl) ?_
          refine wp_contract 22 [.tmp 28] _ rfl (enters_of Tryz.func22 (by kernel_rfl) rfl) [.agg A9.toArray] rfl (cS.out _) ?_
          rintro e X18 ⟨rfl, b5⟩
          replace HN : Hid (VdAt X18 N (.int .i64 0) (.int .i64 0) (.int .u8 0)) := HN.out.next b5
          refine ⟨_, rfl, hH.next b5, fun hH => ?_⟩
          clear b5
          show wpAnyH _ _ _ _ _ _ _ ({ tmps := #[.agg A, .int .i64 (k : Int), .int .i64 ix, .pointer (some ⟨B, 0, none⟩), undef, undef, .pointer (some ⟨B + 1, 0, none⟩), .int .i64 0, .pointer (some ⟨B + 1 + 1, 0, none⟩), .int .i64 (36 : Int), .pointer (some ⟨N, 0, none⟩), undef, undef, .int .i64 (36 : Int), .bool false, u15, u16, u17, u18, u19, u20, u21, u22, u23, u24, .agg LW.toArray, .int .i64 ix, .agg A3.toArray, .agg A9.toArray, .agg A4.toArray, undef, undef, undef, undef, undef, undef, undef, undef, undef, undef, undef, undef, undef, undef, undef, undef, undef, undef, undef, undef, undef, undef, undef, undef, undef, undef, undef, undef, undef, undef, undef, undef, undef, undef, undef, undef, undef, undef, undef, undef, undef], defers := [] } : Act) _
          refine take_one 5 rfl rfl (by kernel_rfl) ?_
          refine wp_contract 55 [.tmp 29] _ rfl (enters_of Tryz.func55 (by kernel_rfl) rfl) [.agg A4.toArray] rfl (cL.out _) ?_
          rintro e X19 ⟨rfl, b5⟩
          replace HN : Hid (VdAt X19 N (.int .i64 0) (.int .i64 0) (.int .u8 0)) := HN.out.next b5
          refine ⟨_, rfl, hH.next b5, fun hH => ?_⟩
          clear b5
          show wpAnyH _ _ _ _ _ _ _ ({ tmps := #[.agg A, .int .i64 (k : Int), .int .i64 ix, .pointer (some ⟨B, 0, none⟩), undef, undef, .pointer (some ⟨B + 1, 0, none⟩), .int .i64 0, .pointer (some ⟨B + 1 + 1, 0, none⟩), .int .i64 (36 : Int), .pointer (some ⟨N, 0, none⟩), undef, undef, .int .i64 (36 : Int), .bool false, u15, u16, u17, u18, u19, u20, u21, u22, u23, u24, .agg LW.toArray, .int .i64 ix, .agg A3.toArray, .agg A9.toArray, .agg A4.toArray, .agg LV.toArray, undef, undef, undef, undef, undef, undef, undef, undef, undef, undef, undef, undef, undef, undef, undef, undef, undef, undef, undef, undef, undef, undef, undef, undef, undef, undef, undef, undef, undef, undef, undef, undef, undef, undef, undef, undef, undef, undef, undef, undef], defers := [] } : Act) _
          refine take_one 7 rfl rfl (by kernel_rfl) ?_
          refine wp_store_mid 110 _ _ rfl N 0 LV.toArray rfl rfl (by rw [← HLW.out.2]; exact HN.out.there) jV oV ?_
          have hb5 := HN.out.puts (.int .i64 K) (.int .i64 L) (.int .u8 (oe U))
          rw [HLW.out.2] at hb5
          have hJ : RcJ B N (fun j => R (36 * k + j)) K L (oe U) w _ := ⟨hH.o.putOther (c := N) (by omega) 0 LV, hH.z.putOther (c := N) (by omega) 0 LV, hb5, lN, belows_put (by omega) LV 0 hH.below⟩
          have hH2 : RcI B R (fun j => R (36 * k + j)) w _ := ⟨hH.r.putOther (c := N) (by omega) 0 LV, hH.o.putOther (c := N) (by omega) 0 LV, hH.z.putOther (c := N) (by omega) 0 LV, belows_put (by omega) LV 0 hH.below⟩
          refine ⟨hH2, fun hH => ?_⟩
          show wpAnyH _ _ _ _ _ _ _ ({ tmps := #[.agg A, .int .i64 (k : Int), .int .i64 ix, .pointer (some ⟨B, 0, none⟩), undef, undef, .pointer (some ⟨B + 1, 0, none⟩), .int .i64 0, .pointer (some ⟨B + 1 + 1, 0, none⟩), .int .i64 (36 : Int), .pointer (some ⟨N, 0, none⟩), undef, undef, .int .i64 (36 : Int), .bool false, u15, u16, u17, u18, u19, u20, u21, u22, u23, u24, .agg LW.toArray, .int .i64 ix, .agg A3.toArray, .agg A9.toArray, .agg A4.toArray, .agg LV.toArray, undef, undef, undef, undef, undef, undef, undef, undef, undef, undef, undef, undef, undef, undef, undef, undef, undef, undef, undef, undef, undef, undef, undef, undef, undef, undef, undef, undef, undef, undef, undef, undef, undef, undef, undef, undef, undef, undef, undef, undef], defers := [] } : Act) _
          exact wpAnyH_done (by kernel_rfl) ⟨N, rfl, hJ⟩ _
      rintro a' W2 ⟨N, rfl, hJ⟩
      have HJ : Hid (RcJ B N (fun j => R (36 * k + j)) K L (oe U) w W2) := hJ
      clear hJ HE cV cW cS cL
      have v0 := HJ.out.v.c0
      have v1 := HJ.out.v.c1
      have v2 := HJ.out.v.c2
      by_cases hK1 : K = 1
      · obtain ⟨i, hi, hat0, hLi, hU0⟩ := HF.out.2.2.2.2 hK1
        clear hat0 hU0
        subst hLi
        subst hK1
        obtain ⟨x, Hx⟩ : ∃ x, Hid (R (36 * k + i) = x) := ⟨_, rfl⟩
        have cz := HJ.out.z.cell i hi
        rw [Hx.out] at cz
        have fz := HJ.out.z.free i
        have hex : bits .xor .u8 x (oe U) = oe (Co.rw R k i ^^^ U) := by
          have hb := HR.out (36 * k + i) (by omega)
          rw [← Hx.out, ← oe_xor]
          unfold Co.rw
          rw [show oe (toE (R (36 * k + i))) = R (36 * k + i) from ofE_toE _ hb.1 hb.2]
        have HJ2 : Hid (RcJ B N (fun p => oe (mnd (Co.rw R k) s p)) 1 (i : Int) (oe U) w (W2.setCell ⟨B + 1 + 1, i, none⟩ (.int .u8 (oe (Co.rw R k i ^^^ U)))).drew) := ((HJ.out.set i _).congr fun p hp => by
          rw [HF.out.2.2.1 p]
          show (if p = i then oe (Co.rw R k i ^^^ U) else R (36 * k + p)) = _
          by_cases e : p = i
          · rw [if_pos e, if_pos ⟨rfl, by rw [e]⟩, e]
          · rw [if_neg e, if_neg (fun h => e (by have := h.2; omega))]
            have hb := HR.out (36 * k + p) (by omega)
            exact (ofE_toE _ hb.1 hb.2).symm).drew
        have hkc : kc = 1 := by rw [HF.out.2.1]; rfl
        have HD : Hid (∀ i, i < 32 → lC R (vir ix false) (32 * k + i) = oe (mnd (Co.rw R k) s (4 + i))) := HF.out.1
        have Hkc : Hid (kc = 1) := hkc
        clear HF Hx hkc
        go_wp2
        go_region
        try rw [hex]
        clear hex
        obtain ⟨W4, hW4⟩ : ∃ V, (W2.setCell ⟨B + 1 + 1, i, none⟩ (.int .u8 (oe (Co.rw R k i ^^^ U)))).drew = V := ⟨_, rfl⟩
        rw [hW4] at HJ2
        rw [hW4]
        clear hW4 HJ cz fz v0 v1 v2
        obtain ⟨Z, hZ⟩ : ∃ Z : Nat → Int, (fun p => oe (mnd (Co.rw R k) s p)) = Z := ⟨_, rfl⟩
        rw [hZ] at HJ2
        have HZ : Hid (∀ p, Z p = oe (mnd (Co.rw R k) s p)) := fun p => by rw [← hZ]
        clear hZ
        go_upto_region 10 with (fail)
        obtain ⟨M, hM⟩ : ∃ M, W4.heap.size = M := ⟨_, rfl⟩
        obtain ⟨W5, hW5⟩ : ∃ V, W4.alloc (.cells Z2 58) = V := ⟨_, rfl⟩
        have HM : Hid (RcM B N M Z 1 (i : Int) (oe U) (fun _ => 0) w W5) := by
          have h := RcM.new HJ2.out 58
          rw [show (ints .u8 32 fun _ => 0).toArray = Z2 from HZ2.out, hW5, hM] at h
          exact h
        rw [hM, hW5]
        clear hM hW5 HJ2
        go_wp2
        go_loopw [12] (fun ii wr => ∃ n : Nat, n ≤ 32 ∧ ii = .int .i64 (n : Int) ∧ Hid (RcM B N M Z 1 (i : Int) (oe U) (fun j => if j < n then Z (4 + j) else 0) w wr)) (fun ii _ => 32 - (intOf ii).toNat)
        case atStart => exact ⟨0, by omega, rfl, HM.out.congr fun q _ => by rw [if_neg (by omega)]⟩
        case round =>
          obtain ⟨n, hn, rfl, HK⟩ := hrel
          by_cases hlt : n < 32
          · obtain ⟨x, Hx⟩ : ∃ x, Hid (Z (4 + n) = x) := ⟨_, rfl⟩
            have c0 := HK.out.j.z.cell (4 + n) (by omega)
            rw [Hx.out] at c0
            have cz := HK.out.x.cell n (by omega)
            have fz := HK.out.x.free n
            have HN : Hid (RcM B N M Z 1 (i : Int) (oe U) (fun j => if j < n + 1 then Z (4 + j) else 0) w (wr.setCell ⟨M, n, none⟩ (.int .u8 x))) := (HK.out.set n x).congr fun q _ => by
              show (if q = n then x else if q < n then Z (4 + q) else 0) = if q < n + 1 then Z (4 + q) else 0
              by_cases h : q = n
              · rw [if_pos h, if_pos (by omega), h, Hx.out]
              · rw [if_neg h]
                by_cases h2 : q < n
                · rw [if_pos h2, if_pos (by omega)]
                · rw [if_neg h2, if_neg (by omega)]
            clear Hx HM
            go_wp2
            go_roundw
            case rel => exact ⟨n + 1, by omega, by go_num, HN⟩
            case measure => simp [intOf]; omega
          · obtain rfl : n = 32 := by omega
            have HE : RcM B N M Z 1 (i : Int) (oe U) (fun q => lC R (vir ix false) (32 * k + q)) w wr := HK.out.congr fun q hq => by
              rw [if_pos hq, HD.out q hq, HZ.out (4 + q)]
            have v0 := HE.j.v.c0
            have v1 := HE.j.v.c1
            have v2 := HE.j.v.c2
            have hr := HE.x.range
            rw [HRV.out] at hr
            have ht := HE.j.o.there .u8 (fun i => lC R (vir ix false) (32 * k + i))
            rw [HRV.out] at ht
            have hi9 : (Tryz.prog.info? 58).map (·.size) = some RV.length := by rw [← HRV.out, ints_len]; exact info32
            have hj9 : (Tryz.prog.info? 58).map (·.size) = some RV.toArray.size := by simpa using hi9
            have hone : RV.toArray.all (·.oneCell') = true := by rw [← HRV.out]; exact ints_one .u8 32 _
            have HB : Hid (Below B w wr) := HE.j.below
            have hs : (wr.setCells (B + 1) 0 RV).rangeAt (B + 1) 0 RV := World.rangeAt_setCells_same wr _ 0 RV (by simpa using ht)
            have hs2 : (wr.drew.setCells (B + 1) 0 RV).rangeAt (B + 1) 0 RV := World.rangeAt_setCells_same wr.drew _ 0 RV (by simpa using ht)
            have hld := run_loadVar_mid (P := Tryz.prog) (wr.setCells (B + 1) 0 RV) (B + 1) 0 58 RV _ hs Tryz.underlying58 rfl hi9
            have hld2 := run_loadVar_mid (P := Tryz.prog) (wr.drew.setCells (B + 1) 0 RV) (B + 1) 0 58 RV _ hs2 Tryz.underlying58 rfl hi9
            have HLT : Hid (B + 1 + 1 < N ∧ N < M) := ⟨HE.j.lt, HE.lt⟩
            clear HE HM hs hs2 HD HZ
            have hlt1 := HLT.out.1
            have hlt2 := HLT.out.2
            go_upto_region 16 with (fail)
            refine region_ends (by kernel_rfl) (fun W => W.rangeAt M 0 RV ∧ W.cell? ⟨N, 0, none⟩ = some (.int .i64 1)) (fun a' W' => a' = ({ tmps := #[.agg A, .int .i64 (k : Int), .int .i64 ix, .pointer (some ⟨B, 0, none⟩), undef, undef, .pointer (some ⟨B + 1, 0, none⟩), .int .i64 1, .pointer (some ⟨B + 1 + 1, 0, none⟩), .int .i64 36, .pointer (some ⟨N, 0, none⟩), .pointer (some ⟨M, 0, none⟩), .int .i64 (32 : Int), .int .i64 36, .bool false, u15, u16, u17, u18, u19, u20, u21, u22, u23, u24, .agg LW.toArray, .int .i64 ix, .agg A3.toArray, .agg A9.toArray, .agg A4.toArray, .agg LV.toArray, .pointer (some ⟨N, 0, none⟩), .int .i64 1, .bool true, .pointer (some ⟨N, 1, none⟩), .int .i64 (i : Int), .pointer (some ⟨N, 1, none⟩), .int .i64 (i : Int), .pointer (some ⟨B + 1 + 1, i, none⟩), .int .u8 x, .pointer (some ⟨N, 2, none⟩), .int .u8 (oe U), .int .u8 (oe (Co.rw R k i ^^^ U)), .pointer (some ⟨B + 1 + 1, i, none⟩), .int .i64 (32 : Int), .bool false, u46, u47, u48, u49, u50, u51, u52, u53, .pointer (some ⟨N, 0, none⟩), .int .i64 1, .bool false, .bool false, undef, undef, undef, undef, undef, undef, undef, undef, .bool false, undef, .agg RV.toArray, .pointer (some ⟨N, 0, none⟩), .int .i64 1], defers := [] } : Act) ∧ W' = wr.drew.setCells (B + 1) 0 RV) ⟨hr, v0⟩ (fun hH => ?rg16) ?_
            case rg16 =>
              refine take_if 0 (v := .agg RV.toArray) rfl (by kernel_rfl) (yieldsIf_load_mid (by rfl) _ _ rfl M 0 rfl RV _ (fun w' hw => hw.1) Tryz.underlying58 rfl hi9) hH ?_
              show wpAnyH _ _ _ _ _ _ _ ({ tmps := #[.agg A, .int .i64 (k : Int), .int .i64 ix, .pointer (some ⟨B, 0, none⟩), undef, undef, .pointer (some ⟨B + 1, 0, none⟩), .int .i64 0, .pointer (some ⟨B + 1 + 1, 0, none⟩), .int .i64 36, .pointer (some ⟨N, 0, none⟩), .pointer (some ⟨M, 0, none⟩), .int .i64 (32 : Int), .int .i64 36, .bool false, u15, u16, u17, u18, u19, u20, u21, u22, u23, u24, .agg LW.toArray, .int .i64 ix, .agg A3.toArray, .agg A9.toArray, .agg A4.toArray, .agg LV.toArray, .pointer (some ⟨N, 0, none⟩), .int .i64 1, .bool true, .pointer (some ⟨N, 1, none⟩), .int .i64 (i : Int), .pointer (some ⟨N, 1, none⟩), .int .i64 (i : Int), .pointer (some ⟨B + 1 + 1, i, none⟩), .int .u8 x, .pointer (some ⟨N, 2, none⟩), .int .u8 (oe U), .int .u8 (oe (Co.rw R k i ^^^ U)), .pointer (some ⟨B + 1 + 1, i, none⟩), .int .i64 (32 : Int), .bool false, u46, u47, u48, u49, u50, u51, u52, u53, .pointer (some ⟨N, 0, none⟩), .int .i64 1, .bool false, .bool false, undef, undef, undef, undef, undef, undef, undef, undef, .bool false, undef, .agg RV.toArray, undef, undef], defers := [] } : Act) _
              refine take_pure 1 (v := .pointer (some ⟨N, 0, none⟩)) rfl (by kernel_rfl) rfl (fun w' hw => by simp [execOp, go_sem]) hH ?_
              show wpAnyH _ _ _ _ _ _ _ ({ tmps := #[.agg A, .int .i64 (k : Int), .int .i64 ix, .pointer (some ⟨B, 0, none⟩), undef, undef, .pointer (some ⟨B + 1, 0, none⟩), .int .i64 0, .pointer (some ⟨B + 1 + 1, 0, none⟩), .int .i64 36, .pointer (some ⟨N, 0, none⟩), .pointer (some ⟨M, 0, none⟩), .int .i64 (32 : Int), .int .i64 36, .bool false, u15, u16, u17, u18, u19, u20, u21, u22, u23, u24, .agg LW.toArray, .int .i64 ix, .agg A3.toArray, .agg A9.toArray, .agg A4.toArray, .agg LV.toArray, .pointer (some ⟨N, 0, none⟩), .int .i64 1, .bool true, .pointer (some ⟨N, 1, none⟩), .int .i64 (i : Int), .pointer (some ⟨N, 1, none⟩), .int .i64 (i : Int), .pointer (some ⟨B + 1 + 1, i, none⟩), .int .u8 x, .pointer (some ⟨N, 2, none⟩), .int .u8 (oe U), .int .u8 (oe (Co.rw R k i ^^^ U)), .pointer (some ⟨B + 1 + 1, i, none⟩), .int .i64 (32 : Int), .bool false, u46, u47, u48, u49, u50, u51, u52, u53, .pointer (some ⟨N, 0, none⟩), .int .i64 1, .bool false, .bool false, undef, undef, undef, undef, undef, undef, undef, undef, .bool false, undef, .agg RV.toArray, .pointer (some ⟨N, 0, none⟩), undef], defers := [] } : Act) _
              refine take_pure 2 (v := .int .i64 1) rfl (by kernel_rfl) rfl (fun w' hw => by simp [execOp, go_sem, hw.2]) hH ?_
              show wpAnyH _ _ _ _ _ _ _ ({ tmps := #[.agg A, .int .i64 (k : Int), .int .i64 ix, .pointer (some ⟨B, 0, none⟩), undef, undef, .pointer (some ⟨B + 1, 0, none⟩), .int .i64 0, .pointer (some ⟨B + 1 + 1, 0, none⟩), .int .i64 36, .pointer (some ⟨N, 0, none⟩), .pointer (some ⟨M, 0, none⟩), .int .i64 (32 : Int), .int .i64 36, .bool false, u15, u16, u17, u18, u19, u20, u21, u22, u23, u24, .agg LW.toArray, .int .i64 ix, .agg A3.toArray, .agg A9.toArray, .agg A4.toArray, .agg LV.toArray, .pointer (some ⟨N, 0, none⟩), .int .i64 1, .bool true, .pointer (some ⟨N, 1, none⟩), .int .i64 (i : Int), .pointer (some ⟨N, 1, none⟩), .int .i64 (i : Int), .pointer (some ⟨B + 1 + 1, i, none⟩), .int .u8 x, .pointer (some ⟨N, 2, none⟩), .int .u8 (oe U), .int .u8 (oe (Co.rw R k i ^^^ U)), .pointer (some ⟨B + 1 + 1, i, none⟩), .int .i64 (32 : Int), .bool false, u46, u47, u48, u49, u50, u51, u52, u53, .pointer (some ⟨N, 0, none⟩), .int .i64 1, .bool false, .bool false, undef, undef, undef, undef, undef, undef, undef, undef, .bool false, undef, .agg RV.toArray, .pointer (some ⟨N, 0, none⟩), .int .i64 1], defers := [] } : Act) _
              refine take_one 3 rfl rfl (by kernel_rfl) ?_
              refine wp_store_mid 58 _ _ rfl (B + 1) 0 RV.toArray rfl rfl (by exact ht) hj9 hone ?_
              refine ⟨⟨World.rangeAt_setCells_apart hH.1 _ 0 _ (.inl (by omega)), (World.cell?_of_block (w := wr.drew) (a := ⟨N, 0, none⟩) (heap_puts (B + 1) RV 0 wr.drew N (by omega))).trans hH.2⟩, fun hH => ?_⟩
              show wpAnyH _ _ _ _ _ _ _ ({ tmps := #[.agg A, .int .i64 (k : Int), .int .i64 ix, .pointer (some ⟨B, 0, none⟩), undef, undef, .pointer (some ⟨B + 1, 0, none⟩), .int .i64 0, .pointer (some ⟨B + 1 + 1, 0, none⟩), .int .i64 36, .pointer (some ⟨N, 0, none⟩), .pointer (some ⟨M, 0, none⟩), .int .i64 (32 : Int), .int .i64 36, .bool false, u15, u16, u17, u18, u19, u20, u21, u22, u23, u24, .agg LW.toArray, .int .i64 ix, .agg A3.toArray, .agg A9.toArray, .agg A4.toArray, .agg LV.toArray, .pointer (some ⟨N, 0, none⟩), .int .i64 1, .bool true, .pointer (some ⟨N, 1, none⟩), .int .i64 (i : Int), .pointer (some ⟨N, 1, none⟩), .int .i64 (i : Int), .pointer (some ⟨B + 1 + 1, i, none⟩), .int .u8 x, .pointer (some ⟨N, 2, none⟩), .int .u8 (oe U), .int .u8 (oe (Co.rw R k i ^^^ U)), .pointer (some ⟨B + 1 + 1, i, none⟩), .int .i64 (32 : Int), .bool false, u46, u47, u48, u49, u50, u51, u52, u53, .pointer (some ⟨N, 0, none⟩), .int .i64 1, .bool false, .bool false, undef, undef, undef, undef, undef, undef, undef, undef, .bool false, undef, .agg RV.toArray, .pointer (some ⟨N, 0, none⟩), .int .i64 1], defers := [] } : Act) _
              refine take_pure 4 (v := .int .i64 1) rfl (by kernel_rfl) rfl (fun w' hw => by simp [execOp, go_sem]) hH ?_
              show wpAnyH _ _ _ _ _ _ _ ({ tmps := #[.agg A, .int .i64 (k : Int), .int .i64 ix, .pointer (some ⟨B, 0, none⟩), undef, undef, .pointer (some ⟨B + 1, 0, none⟩), .int .i64 1, .pointer (some ⟨B + 1 + 1, 0, none⟩), .int .i64 36, .pointer (some ⟨N, 0, none⟩), .pointer (some ⟨M, 0, none⟩), .int .i64 (32 : Int), .int .i64 36, .bool false, u15, u16, u17, u18, u19, u20, u21, u22, u23, u24, .agg LW.toArray, .int .i64 ix, .agg A3.toArray, .agg A9.toArray, .agg A4.toArray, .agg LV.toArray, .pointer (some ⟨N, 0, none⟩), .int .i64 1, .bool true, .pointer (some ⟨N, 1, none⟩), .int .i64 (i : Int), .pointer (some ⟨N, 1, none⟩), .int .i64 (i : Int), .pointer (some ⟨B + 1 + 1, i, none⟩), .int .u8 x, .pointer (some ⟨N, 2, none⟩), .int .u8 (oe U), .int .u8 (oe (Co.rw R k i ^^^ U)), .pointer (some ⟨B + 1 + 1, i, none⟩), .int .i64 (32 : Int), .bool false, u46, u47, u48, u49, u50, u51, u52, u53, .pointer (some ⟨N, 0, none⟩), .int .i64 1, .bool false, .bool false, undef, undef, undef, undef, undef, undef, undef, undef, .bool false, undef, .agg RV.toArray, .pointer (some ⟨N, 0, none⟩), .int .i64 1], defers := [] } : Act) _
              exact wpAnyH_done (by kernel_rfl) ⟨rfl, rfl⟩ _
            rintro a' W' ⟨rfl, rfl⟩
            go_wp2
            refine bodyPost_ret (v := .tuple #[.agg RV.toArray, .int .i64 1]) ?_ rfl ⟨by rw [Hkc.out], by first | exact belows_put (by omega) RV 0 (below_drewN HB.out 1) | (rw [hB]; exact belows_put (by omega) RV 0 (below_drewN HB.out 1))⟩
            simp [results, Tryz.f27, asAddr, hld2]
      · have hZ : RcJ B N (fun p => oe (mnd (Co.rw R k) s p)) K L (oe U) w W2 := HJ.out.congr fun p hp => by
          rw [HF.out.2.2.1 p, if_neg (fun h => hK1 h.1)]
          have hb := HR.out (36 * k + p) (by omega)
          exact (ofE_toE _ hb.1 hb.2).symm
        have hd1 : (K == 1) = false := by simpa using hK1
        obtain ⟨W4, hW4⟩ : ∃ V, W2 = V := ⟨_, rfl⟩
        rw [hW4] at hZ v0 v1 v2
        rw [hW4]
        obtain ⟨Z, hZd⟩ : ∃ Z : Nat → Int, (fun p => oe (mnd (Co.rw R k) s p)) = Z := ⟨_, rfl⟩
        rw [hZd] at hZ
        have HJ2 : Hid (RcJ B N Z K L (oe U) w W4) := hZ
        have HZ : Hid (∀ p, Z p = oe (mnd (Co.rw R k) s p)) := fun p => by rw [← hZd]
        have HD : Hid (∀ i, i < 32 → lC R (vir ix false) (32 * k + i) = oe (mnd (Co.rw R k) s (4 + i))) := HF.out.1
        have HKc : Hid ((K = 0 ∧ kc = 0) ∨ (K = 2 ∧ L = 38 ∧ oe U = 128 ∧ kc = 2) ∨ (K = 2 ∧ (¬ L = 38 ∨ ¬ oe U = 128) ∧ kc = 3) ∨ (K = 3 ∧ kc = 3)) := by
          show _ ∨ _
          have h1 := HF.out.2.1
          rcases HF.out.2.2.2.1 with h | h | h | h
          · exact .inl ⟨h, by rw [h1, if_pos h]⟩
          · exact absurd h hK1
          · rw [if_neg (by omega), if_neg hK1] at h1
            by_cases hl : L = 38
            · by_cases hu : oe U = 128
              · exact .inr (.inl ⟨h, hl, hu, by rw [h1, if_pos ⟨h, hl, hu⟩]⟩)
              · exact .inr (.inr (.inl ⟨h, .inr hu, by rw [h1, if_neg (fun e => hu e.2.2)]⟩))
            · exact .inr (.inr (.inl ⟨h, .inl hl, by rw [h1, if_neg (fun e => hl e.2.1)]⟩))
          · exact .inr (.inr (.inr ⟨h, by rw [h1, if_neg (by omega), if_neg hK1, if_neg (by omega)]⟩))
        clear HF hZd hW4 hZ HJ hK1
        go_wp2
        go_upto_region 10 with (fail)
        obtain ⟨M, hM⟩ : ∃ M, W4.heap.size = M := ⟨_, rfl⟩
        obtain ⟨W5, hW5⟩ : ∃ V, W4.alloc (.cells Z2 58) = V := ⟨_, rfl⟩
        have HM : Hid (RcM B N M Z K L (oe U) (fun _ => 0) w W5) := by
          have h := RcM.new HJ2.out 58
          rw [show (ints .u8 32 fun _ => 0).toArray = Z2 from HZ2.out, hW5, hM] at h
          exact h
        rw [hM, hW5]
        clear hM hW5 HJ2
        go_wp2
        go_loopw [12] (fun ii wr => ∃ n : Nat, n ≤ 32 ∧ ii = .int .i64 (n : Int) ∧ Hid (RcM B N M Z K L (oe U) (fun j => if j < n then Z (4 + j) else 0) w wr)) (fun ii _ => 32 - (intOf ii).toNat)
        case atStart => exact ⟨0, by omega, rfl, HM.out.congr fun q _ => by rw [if_neg (by omega)]⟩
        case round =>
          obtain ⟨n, hn, rfl, HK⟩ := hrel
          by_cases hlt : n < 32
          · obtain ⟨x, Hx⟩ : ∃ x, Hid (Z (4 + n) = x) := ⟨_, rfl⟩
            have c0 := HK.out.j.z.cell (4 + n) (by omega)
            rw [Hx.out] at c0
            have cz := HK.out.x.cell n (by omega)
            have fz := HK.out.x.free n
            have HN : Hid (RcM B N M Z K L (oe U) (fun j => if j < n + 1 then Z (4 + j) else 0) w (wr.setCell ⟨M, n, none⟩ (.int .u8 x))) := (HK.out.set n x).congr fun q _ => by
              show (if q = n then x else if q < n then Z (4 + q) else 0) = if q < n + 1 then Z (4 + q) else 0
              by_cases h : q = n
              · rw [if_pos h, if_pos (by omega), h, Hx.out]
              · rw [if_neg h]
                by_cases h2 : q < n
                · rw [if_pos h2, if_pos (by omega)]
                · rw [if_neg h2, if_neg (by omega)]
            clear Hx HM
            go_wp2
            go_roundw
            case rel => exact ⟨n + 1, by omega, by go_num, HN⟩
            case measure => simp [intOf]; omega
          · obtain rfl : n = 32 := by omega
            have HE : RcM B N M Z K L (oe U) (fun q => lC R (vir ix false) (32 * k + q)) w wr := HK.out.congr fun q hq => by
              rw [if_pos hq, HD.out q hq, HZ.out (4 + q)]
            have v0 := HE.j.v.c0
            have v1 := HE.j.v.c1
            have v2 := HE.j.v.c2
            have hr := HE.x.range
            rw [HRV.out] at hr
            have ht := HE.j.o.there .u8 (fun i => lC R (vir ix false) (32 * k + i))
            rw [HRV.out] at ht
            have hi9 : (Tryz.prog.info? 58).map (·.size) = some RV.length := by rw [← HRV.out, ints_len]; exact info32
            have hj9 : (Tryz.prog.info? 58).map (·.size) = some RV.toArray.size := by simpa using hi9
            have hone : RV.toArray.all (·.oneCell') = true := by rw [← HRV.out]; exact ints_one .u8 32 _
            have HB : Hid (Below B w wr) := HE.j.below
            have hs : (wr.setCells (B + 1) 0 RV).rangeAt (B + 1) 0 RV := World.rangeAt_setCells_same wr _ 0 RV (by simpa using ht)
            have hs2 : (wr.drew.setCells (B + 1) 0 RV).rangeAt (B + 1) 0 RV := World.rangeAt_setCells_same wr.drew _ 0 RV (by simpa using ht)
            have hld := run_loadVar_mid (P := Tryz.prog) (wr.setCells (B + 1) 0 RV) (B + 1) 0 58 RV _ hs Tryz.underlying58 rfl hi9
            have hld2 := run_loadVar_mid (P := Tryz.prog) (wr.drew.setCells (B + 1) 0 RV) (B + 1) 0 58 RV _ hs2 Tryz.underlying58 rfl hi9
            have HLT : Hid (B + 1 + 1 < N ∧ N < M) := ⟨HE.j.lt, HE.lt⟩
            clear HE HM hs hs2 HD HZ
            have hlt1 := HLT.out.1
            have hlt2 := HLT.out.2
            rcases HKc.out with ⟨hk, hc⟩ | ⟨hk, hl, hu, hc⟩ | ⟨hk, hlu, hc⟩ | ⟨hk, hc⟩
            · have Hkc : Hid (kc = 0) := hc
              clear hc HKc
              subst hk
              go_upto_region 16 with (fail)
              refine region_ends (by kernel_rfl) (fun W => W.rangeAt M 0 RV ∧ W.cell? ⟨N, 0, none⟩ = some (.int .i64 0)) (fun a' W' => a' = ({ tmps := #[.agg A, .int .i64 (k : Int), .int .i64 ix, .pointer (some ⟨B, 0, none⟩), undef, undef, .pointer (some ⟨B + 1, 0, none⟩), .int .i64 0, .pointer (some ⟨B + 1 + 1, 0, none⟩), .int .i64 36, .pointer (some ⟨N, 0, none⟩), .pointer (some ⟨M, 0, none⟩), .int .i64 (32 : Int), .int .i64 36, .bool false, u15, u16, u17, u18, u19, u20, u21, u22, u23, u24, .agg LW.toArray, .int .i64 ix, .agg A3.toArray, .agg A9.toArray, .agg A4.toArray, .agg LV.toArray, .pointer (some ⟨N, 0, none⟩), .int .i64 0, .bool false, undef, undef, undef, undef, undef, undef, undef, undef, undef, undef, .int .i64 (32 : Int), .bool false, u46, u47, u48, u49, u50, u51, u52, u53, .pointer (some ⟨N, 0, none⟩), .int .i64 0, .bool false, .bool false, undef, undef, undef, undef, undef, undef, undef, undef, .bool false, undef, .agg RV.toArray, .pointer (some ⟨N, 0, none⟩), .int .i64 0], defers := [] } : Act) ∧ W' = wr.drew.setCells (B + 1) 0 RV) ⟨hr, v0⟩ (fun hH => ?rg16) ?_
              case rg16 =>
                refine take_if 0 (v := .agg RV.toArray) rfl (by kernel_rfl) (yieldsIf_load_mid (by rfl) _ _ rfl M 0 rfl RV _ (fun w' hw => hw.1) Tryz.underlying58 rfl hi9) hH ?_
                show wpAnyH _ _ _ _ _ _ _ ({ tmps := #[.agg A, .int .i64 (k : Int), .int .i64 ix, .pointer (some ⟨B, 0, none⟩), undef, undef, .pointer (some ⟨B + 1, 0, none⟩), .int .i64 0, .pointer (some ⟨B + 1 + 1, 0, none⟩), .int .i64 36, .pointer (some ⟨N, 0, none⟩), .pointer (some ⟨M, 0, none⟩), .int .i64 (32 : Int), .int .i64 36, .bool false, u15, u16, u17, u18, u19, u20, u21, u22, u23, u24, .agg LW.toArray, .int .i64 ix, .agg A3.toArray, .agg A9.toArray, .agg A4.toArray, .agg LV.toArray, .pointer (some ⟨N, 0, none⟩), .int .i64 0, .bool false, undef, undef, undef, undef, undef, undef, undef, undef, undef, undef, .int .i64 (32 : Int), .bool false, u46, u47, u48, u49, u50, u51, u52, u53, .pointer (some ⟨N, 0, none⟩), .int .i64 0, .bool false, .bool false, undef, undef, undef, undef, undef, undef, undef, undef, .bool false, undef, .agg RV.toArray, undef, undef], defers := [] } : Act) _
                refine take_pure 1 (v := .pointer (some ⟨N, 0, none⟩)) rfl (by kernel_rfl) rfl (fun w' hw => by simp [execOp, go_sem]) hH ?_
                show wpAnyH _ _ _ _ _ _ _ ({ tmps := #[.agg A, .int .i64 (k : Int), .int .i64 ix, .pointer (some ⟨B, 0, none⟩), undef, undef, .pointer (some ⟨B + 1, 0, none⟩), .int .i64 0, .pointer (some ⟨B + 1 + 1, 0, none⟩), .int .i64 36, .pointer (some ⟨N, 0, none⟩), .pointer (some ⟨M, 0, none⟩), .int .i64 (32 : Int), .int .i64 36, .bool false, u15, u16, u17, u18, u19, u20, u21, u22, u23, u24, .agg LW.toArray, .int .i64 ix, .agg A3.toArray, .agg A9.toArray, .agg A4.toArray, .agg LV.toArray, .pointer (some ⟨N, 0, none⟩), .int .i64 0, .bool false, undef, undef, undef, undef, undef, undef, undef, undef, undef, undef, .int .i64 (32 : Int), .bool false, u46, u47, u48, u49, u50, u51, u52, u53, .pointer (some ⟨N, 0, none⟩), .int .i64 0, .bool false, .bool false, undef, undef, undef, undef, undef, undef, undef, undef, .bool false, undef, .agg RV.toArray, .pointer (some ⟨N, 0, none⟩), undef], defers := [] } : Act) _
                refine take_pure 2 (v := .int .i64 0) rfl (by kernel_rfl) rfl (fun w' hw => by simp [execOp, go_sem, hw.2]) hH ?_
                show wpAnyH _ _ _ _ _ _ _ ({ tmps := #[.agg A, .int .i64 (k : Int), .int .i64 ix, .pointer (some ⟨B, 0, none⟩), undef, undef, .pointer (some ⟨B + 1, 0, none⟩), .int .i64 0, .pointer (some ⟨B + 1 + 1, 0, none⟩), .int .i64 36, .pointer (some ⟨N, 0, none⟩), .pointer (some ⟨M, 0, none⟩), .int .i64 (32 : Int), .int .i64 36, .bool false, u15, u16, u17, u18, u19, u20, u21, u22, u23, u24, .agg LW.toArray, .int .i64 ix, .agg A3.toArray, .agg A9.toArray, .agg A4.toArray, .agg LV.toArray, .pointer (some ⟨N, 0, none⟩), .int .i64 0, .bool false, undef, undef, undef, undef, undef, undef, undef, undef, undef, undef, .int .i64 (32 : Int), .bool false, u46, u47, u48, u49, u50, u51, u52, u53, .pointer (some ⟨N, 0, none⟩), .int .i64 0, .bool false, .bool false, undef, undef, undef, undef, undef, undef, undef, undef, .bool false, undef, .agg RV.toArray, .pointer (some ⟨N, 0, none⟩), .int .i64 0], defers := [] } : Act) _
                refine take_one 3 rfl rfl (by kernel_rfl) ?_
                refine wp_store_mid 58 _ _ rfl (B + 1) 0 RV.toArray rfl rfl (by exact ht) hj9 hone ?_
                refine ⟨⟨World.rangeAt_setCells_apart hH.1 _ 0 _ (.inl (by omega)), (World.cell?_of_block (w := wr.drew) (a := ⟨N, 0, none⟩) (heap_puts (B + 1) RV 0 wr.drew N (by omega))).trans hH.2⟩, fun hH => ?_⟩
                show wpAnyH _ _ _ _ _ _ _ ({ tmps := #[.agg A, .int .i64 (k : Int), .int .i64 ix, .pointer (some ⟨B, 0, none⟩), undef, undef, .pointer (some ⟨B + 1, 0, none⟩), .int .i64 0, .pointer (some ⟨B + 1 + 1, 0, none⟩), .int .i64 36, .pointer (some ⟨N, 0, none⟩), .pointer (some ⟨M, 0, none⟩), .int .i64 (32 : Int), .int .i64 36, .bool false, u15, u16, u17, u18, u19, u20, u21, u22, u23, u24, .agg LW.toArray, .int .i64 ix, .agg A3.toArray, .agg A9.toArray, .agg A4.toArray, .agg LV.toArray, .pointer (some ⟨N, 0, none⟩), .int .i64 0, .bool false, undef, undef, undef, undef, undef, undef, undef, undef, undef, undef, .int .i64 (32 : Int), .bool false, u46, u47, u48, u49, u50, u51, u52, u53, .pointer (some ⟨N, 0, none⟩), .int .i64 0, .bool false, .bool false, undef, undef, undef, undef, undef, undef, undef, undef, .bool false, undef, .agg RV.toArray, .pointer (some ⟨N, 0, none⟩), .int .i64 0], defers := [] } : Act) _
                refine take_pure 4 (v := .int .i64 0) rfl (by kernel_rfl) rfl (fun w' hw => by simp [execOp, go_sem]) hH ?_
                show wpAnyH _ _ _ _ _ _ _ ({ tmps := #[.agg A, .int .i64 (k : Int), .int .i64 ix, .pointer (some ⟨B, 0, none⟩), undef, undef, .pointer (some ⟨B + 1, 0, none⟩), .int .i64 0, .pointer (some ⟨B + 1 + 1, 0, none⟩), .int .i64 36, .pointer (some ⟨N, 0, none⟩), .pointer (some ⟨M, 0, none⟩), .int .i64 (32 : Int), .int .i64 36, .bool false, u15, u16, u17, u18, u19, u20, u21, u22, u23, u24, .agg LW.toArray, .int .i64 ix, .agg A3.toArray, .agg A9.toArray, .agg A4.toArray, .agg LV.toArray, .pointer (some ⟨N, 0, none⟩), .int .i64 0, .bool false, undef, undef, undef, undef, undef, undef, undef, undef, undef, undef, .int .i64 (32 : Int), .bool false, u46, u47, u48, u49, u50, u51, u52, u53, .pointer (some ⟨N, 0, none⟩), .int .i64 0, .bool false, .bool false, undef, undef, undef, undef, undef, undef, undef, undef, .bool false, undef, .agg RV.toArray, .pointer (some ⟨N, 0, none⟩), .int .i64 0], defers := [] } : Act) _
                exact wpAnyH_done (by kernel_rfl) ⟨rfl, rfl⟩ _
              rintro a' W' ⟨rfl, rfl⟩
              go_wp2
              refine bodyPost_ret (v := .tuple #[.agg RV.toArray, .int .i64 0]) ?_ rfl ⟨by rw [Hkc.out], by first | exact belows_put (by omega) RV 0 (below_drewN HB.out 1) | (rw [hB]; exact belows_put (by omega) RV 0 (below_drewN HB.out 1))⟩
              simp [results, Tryz.f27, asAddr, hld2]
            · have Hkc : Hid (kc = 2) := hc
              clear hc HKc
              subst hk
              subst hl
              rw [hu] at v2
              clear hu
              go_upto_region 16 with (fail)
              refine region_ends (by kernel_rfl) (fun W => W.rangeAt M 0 RV ∧ W.cell? ⟨N, 0, none⟩ = some (.int .i64 2)) (fun a' W' => a' = ({ tmps := #[.agg A, .int .i64 (k : Int), .int .i64 ix, .pointer (some ⟨B, 0, none⟩), undef, undef, .pointer (some ⟨B + 1, 0, none⟩), .int .i64 2, .pointer (some ⟨B + 1 + 1, 0, none⟩), .int .i64 36, .pointer (some ⟨N, 0, none⟩), .pointer (some ⟨M, 0, none⟩), .int .i64 (32 : Int), .int .i64 36, .bool false, u15, u16, u17, u18, u19, u20, u21, u22, u23, u24, .agg LW.toArray, .int .i64 ix, .agg A3.toArray, .agg A9.toArray, .agg A4.toArray, .agg LV.toArray, .pointer (some ⟨N, 0, none⟩), .int .i64 2, .bool false, undef, undef, undef, undef, undef, undef, undef, undef, undef, undef, .int .i64 (32 : Int), .bool false, u46, u47, u48, u49, u50, u51, u52, u53, .pointer (some ⟨N, 0, none⟩), .int .i64 2, .bool true, .bool true, .pointer (some ⟨N, 1, none⟩), .int .i64 38, .bool false, .bool false, .pointer (some ⟨N, 2, none⟩), .int .u8 128, .bool false, .bool false, .bool false, undef, .agg RV.toArray, .pointer (some ⟨N, 0, none⟩), .int .i64 2], defers := [] } : Act) ∧ W' = wr.drew.setCells (B + 1) 0 RV) ⟨hr, v0⟩ (fun hH => ?rg16) ?_
              case rg16 =>
                refine take_if 0 (v := .agg RV.toArray) rfl (by kernel_rfl) (yieldsIf_load_mid (by rfl) _ _ rfl M 0 rfl RV _ (fun w' hw => hw.1) Tryz.underlying58 rfl hi9) hH ?_
                show wpAnyH _ _ _ _ _ _ _ ({ tmps := #[.agg A, .int .i64 (k : Int), .int .i64 ix, .pointer (some ⟨B, 0, none⟩), undef, undef, .pointer (some ⟨B + 1, 0, none⟩), .int .i64 0, .pointer (some ⟨B + 1 + 1, 0, none⟩), .int .i64 36, .pointer (some ⟨N, 0, none⟩), .pointer (some ⟨M, 0, none⟩), .int .i64 (32 : Int), .int .i64 36, .bool false, u15, u16, u17, u18, u19, u20, u21, u22, u23, u24, .agg LW.toArray, .int .i64 ix, .agg A3.toArray, .agg A9.toArray, .agg A4.toArray, .agg LV.toArray, .pointer (some ⟨N, 0, none⟩), .int .i64 2, .bool false, undef, undef, undef, undef, undef, undef, undef, undef, undef, undef, .int .i64 (32 : Int), .bool false, u46, u47, u48, u49, u50, u51, u52, u53, .pointer (some ⟨N, 0, none⟩), .int .i64 2, .bool true, .bool true, .pointer (some ⟨N, 1, none⟩), .int .i64 38, .bool false, .bool false, .pointer (some ⟨N, 2, none⟩), .int .u8 128, .bool false, .bool false, .bool false, undef, .agg RV.toArray, undef, undef], defers := [] } : Act) _
                refine take_pure 1 (v := .pointer (some ⟨N, 0, none⟩)) rfl (by kernel_rfl) rfl (fun w' hw => by simp [execOp, go_sem]) hH ?_
                show wpAnyH _ _ _ _ _ _ _ ({ tmps := #[.agg A, .int .i64 (k : Int), .int .i64 ix, .pointer (some ⟨B, 0, none⟩), undef, undef, .pointer (some ⟨B + 1, 0, none⟩), .int .i64 0, .pointer (some ⟨B + 1 + 1, 0, none⟩), .int .i64 36, .pointer (some ⟨N, 0, none⟩), .pointer (some ⟨M, 0, none⟩), .int .i64 (32 : Int), .int .i64 36, .bool false, u15, u16, u17, u18, u19, u20, u21, u22, u23, u24, .agg LW.toArray, .int .i64 ix, .agg A3.toArray, .agg A9.toArray, .agg A4.toArray, .agg LV.toArray, .pointer (some ⟨N, 0, none⟩), .int .i64 2, .bool false, undef, undef, undef, undef, undef, undef, undef, undef, undef, undef, .int .i64 (32 : Int), .bool false, u46, u47, u48, u49, u50, u51, u52, u53, .pointer (some ⟨N, 0, none⟩), .int .i64 2, .bool true, .bool true, .pointer (some ⟨N, 1, none⟩), .int .i64 38, .bool false, .bool false, .pointer (some ⟨N, 2, none⟩), .int .u8 128, .bool false, .bool false, .bool false, undef, .agg RV.toArray, .pointer (some ⟨N, 0, none⟩), undef], defers := [] } : Act) _
                refine take_pure 2 (v := .int .i64 2) rfl (by kernel_rfl) rfl (fun w' hw => by simp [execOp, go_sem, hw.2]) hH ?_
                show wpAnyH _ _ _ _ _ _ _ ({ tmps := #[.agg A, .int .i64 (k : Int), .int .i64 ix, .pointer (some ⟨B, 0, none⟩), undef, undef, .pointer (some ⟨B + 1, 0, none⟩), .int .i64 0, .pointer (some ⟨B + 1 + 1, 0, none⟩), .int .i64 36, .pointer (some ⟨N, 0, none⟩), .pointer (some ⟨M, 0, none⟩), .int .i64 (32 : Int), .int .i64 36, .bool false, u15, u16, u17, u18, u19, u20, u21, u22, u23, u24, .agg LW.toArray, .int .i64 ix, .agg A3.toArray, .agg A9.toArray, .agg A4.toArray, .agg LV.toArray, .pointer (some ⟨N, 0, none⟩), .int .i64 2, .bool false, undef, undef, undef, undef, undef, undef, undef, undef, undef, undef, .int .i64 (32 : Int), .bool false, u46, u47, u48, u49, u50, u51, u52, u53, .pointer (some ⟨N, 0, none⟩), .int .i64 2, .bool true, .bool true, .pointer (some ⟨N, 1, none⟩), .int .i64 38, .bool false, .bool false, .pointer (some ⟨N, 2, none⟩), .int .u8 128, .bool false, .bool false, .bool false, undef, .agg RV.toArray, .pointer (some ⟨N, 0, none⟩), .int .i64 2], defers := [] } : Act) _
                refine take_one 3 rfl rfl (by kernel_rfl) ?_
                refine wp_store_mid 58 _ _ rfl (B + 1) 0 RV.toArray rfl rfl (by exact ht) hj9 hone ?_
                refine ⟨⟨World.rangeAt_setCells_apart hH.1 _ 0 _ (.inl (by omega)), (World.cell?_of_block (w := wr.drew) (a := ⟨N, 0, none⟩) (heap_puts (B + 1) RV 0 wr.drew N (by omega))).trans hH.2⟩, fun hH => ?_⟩
                show wpAnyH _ _ _ _ _ _ _ ({ tmps := #[.agg A, .int .i64 (k : Int), .int .i64 ix, .pointer (some ⟨B, 0, none⟩), undef, undef, .pointer (some ⟨B + 1, 0, none⟩), .int .i64 0, .pointer (some ⟨B + 1 + 1, 0, none⟩), .int .i64 36, .pointer (some ⟨N, 0, none⟩), .pointer (some ⟨M, 0, none⟩), .int .i64 (32 : Int), .int .i64 36, .bool false, u15, u16, u17, u18, u19, u20, u21, u22, u23, u24, .agg LW.toArray, .int .i64 ix, .agg A3.toArray, .agg A9.toArray, .agg A4.toArray, .agg LV.toArray, .pointer (some ⟨N, 0, none⟩), .int .i64 2, .bool false, undef, undef, undef, undef, undef, undef, undef, undef, undef, undef, .int .i64 (32 : Int), .bool false, u46, u47, u48, u49, u50, u51, u52, u53, .pointer (some ⟨N, 0, none⟩), .int .i64 2, .bool true, .bool true, .pointer (some ⟨N, 1, none⟩), .int .i64 38, .bool false, .bool false, .pointer (some ⟨N, 2, none⟩), .int .u8 128, .bool false, .bool false, .bool false, undef, .agg RV.toArray, .pointer (some ⟨N, 0, none⟩), .int .i64 2], defers := [] } : Act) _
                refine take_pure 4 (v := .int .i64 2) rfl (by kernel_rfl) rfl (fun w' hw => by simp [execOp, go_sem]) hH ?_
                show wpAnyH _ _ _ _ _ _ _ ({ tmps := #[.agg A, .int .i64 (k : Int), .int .i64 ix, .pointer (some ⟨B, 0, none⟩), undef, undef, .pointer (some ⟨B + 1, 0, none⟩), .int .i64 2, .pointer (some ⟨B + 1 + 1, 0, none⟩), .int .i64 36, .pointer (some ⟨N, 0, none⟩), .pointer (some ⟨M, 0, none⟩), .int .i64 (32 : Int), .int .i64 36, .bool false, u15, u16, u17, u18, u19, u20, u21, u22, u23, u24, .agg LW.toArray, .int .i64 ix, .agg A3.toArray, .agg A9.toArray, .agg A4.toArray, .agg LV.toArray, .pointer (some ⟨N, 0, none⟩), .int .i64 2, .bool false, undef, undef, undef, undef, undef, undef, undef, undef, undef, undef, .int .i64 (32 : Int), .bool false, u46, u47, u48, u49, u50, u51, u52, u53, .pointer (some ⟨N, 0, none⟩), .int .i64 2, .bool true, .bool true, .pointer (some ⟨N, 1, none⟩), .int .i64 38, .bool false, .bool false, .pointer (some ⟨N, 2, none⟩), .int .u8 128, .bool false, .bool false, .bool false, undef, .agg RV.toArray, .pointer (some ⟨N, 0, none⟩), .int .i64 2], defers := [] } : Act) _
                exact wpAnyH_done (by kernel_rfl) ⟨rfl, rfl⟩ _
              rintro a' W' ⟨rfl, rfl⟩
              go_wp2
              refine bodyPost_ret (v := .tuple #[.agg RV.toArray, .int .i64 2]) ?_ rfl ⟨by rw [Hkc.out], by first | exact belows_put (by omega) RV 0 (below_drewN HB.out 1) | (rw [hB]; exact belows_put (by omega) RV 0 (below_drewN HB.out 1))⟩
              simp [results, Tryz.f27, asAddr, hld2]
            · have Hkc : Hid (kc = 3) := hc
              clear hc HKc
              subst hk
              by_cases hl : L = 38
              · have hu : ¬ oe U = 128 := by rcases hlu with h | h; exact absurd hl h; exact h
                subst hl
                clear hlu
                have hq : (oe U != 128) = true := by simpa [bne] using hu
                clear hu
                go_wp2_with (first | refine wpList_load_mid rfl 58 _ rfl _ 0 rfl RV _ hr Tryz.underlying58 rfl hi9 ?_ | refine wpList_store_mid rfl 58 _ _ rfl _ 0 RV.toArray rfl rfl ht hj9 hone ?_)
                refine bodyPost_ret (v := .tuple #[.agg RV.toArray, .int .i64 3]) ?_ rfl ⟨by rw [Hkc.out], by first | exact belows_put (by omega) RV 0 HB.out | (rw [hB]; exact belows_put (by omega) RV 0 HB.out)⟩
                simp [results, Tryz.f27, asAddr, hld]
              · have hq : (L != 38) = true := by simpa [bne] using hl
                clear hlu hl
                go_wp2_with (first | refine wpList_load_mid rfl 58 _ rfl _ 0 rfl RV _ hr Tryz.underlying58 rfl hi9 ?_ | refine wpList_store_mid rfl 58 _ _ rfl _ 0 RV.toArray rfl rfl ht hj9 hone ?_)
                refine bodyPost_ret (v := .tuple #[.agg RV.toArray, .int .i64 3]) ?_ rfl ⟨by rw [Hkc.out], by first | exact belows_put (by omega) RV 0 HB.out | (rw [hB]; exact belows_put (by omega) RV 0 HB.out)⟩
                simp [results, Tryz.f27, asAddr, hld]
            · have Hkc : Hid (kc = 3) := hc
              clear hc HKc
              subst hk
              go_upto_region 16 with (fail)
              refine region_ends (by kernel_rfl) (fun W => W.rangeAt M 0 RV ∧ W.cell? ⟨N, 0, none⟩ = some (.int .i64 3)) (fun a' W' => a' = ({ tmps := #[.agg A, .int .i64 (k : Int), .int .i64 ix, .pointer (some ⟨B, 0, none⟩), undef, undef, .pointer (some ⟨B + 1, 0, none⟩), .int .i64 3, .pointer (some ⟨B + 1 + 1, 0, none⟩), .int .i64 36, .pointer (some ⟨N, 0, none⟩), .pointer (some ⟨M, 0, none⟩), .int .i64 (32 : Int), .int .i64 36, .bool false, u15, u16, u17, u18, u19, u20, u21, u22, u23, u24, .agg LW.toArray, .int .i64 ix, .agg A3.toArray, .agg A9.toArray, .agg A4.toArray, .agg LV.toArray, .pointer (some ⟨N, 0, none⟩), .int .i64 3, .bool false, undef, undef, undef, undef, undef, undef, undef, undef, undef, undef, .int .i64 (32 : Int), .bool false, u46, u47, u48, u49, u50, u51, u52, u53, .pointer (some ⟨N, 0, none⟩), .int .i64 3, .bool false, .bool false, undef, undef, undef, undef, undef, undef, undef, undef, .bool false, undef, .agg RV.toArray, .pointer (some ⟨N, 0, none⟩), .int .i64 3], defers := [] } : Act) ∧ W' = wr.drew.setCells (B + 1) 0 RV) ⟨hr, v0⟩ (fun hH => ?rg16) ?_
              case rg16 =>
                refine take_if 0 (v := .agg RV.toArray) rfl (by kernel_rfl) (yieldsIf_load_mid (by rfl) _ _ rfl M 0 rfl RV _ (fun w' hw => hw.1) Tryz.underlying58 rfl hi9) hH ?_
                show wpAnyH _ _ _ _ _ _ _ ({ tmps := #[.agg A, .int .i64 (k : Int), .int .i64 ix, .pointer (some ⟨B, 0, none⟩), undef, undef, .pointer (some ⟨B + 1, 0, none⟩), .int .i64 0, .pointer (some ⟨B + 1 + 1, 0, none⟩), .int .i64 36, .pointer (some ⟨N, 0, none⟩), .pointer (some ⟨M, 0, none⟩), .int .i64 (32 : Int), .int .i64 36, .bool false, u15, u16, u17, u18, u19, u20, u21, u22, u23, u24, .agg LW.toArray, .int .i64 ix, .agg A3.toArray, .agg A9.toArray, .agg A4.toArray, .agg LV.toArray, .pointer (some ⟨N, 0, none⟩), .int .i64 3, .bool false, undef, undef, undef, undef, undef, undef, undef, undef, undef, undef, .int .i64 (32 : Int), .bool false, u46, u47, u48, u49, u50, u51, u52, u53, .pointer (some ⟨N, 0, none⟩), .int .i64 3, .bool false, .bool false, undef, undef, undef, undef, undef, undef, undef, undef, .bool false, undef, .agg RV.toArray, undef, undef], defers := [] } : Act) _
                refine take_pure 1 (v := .pointer (some ⟨N, 0, none⟩)) rfl (by kernel_rfl) rfl (fun w' hw => by simp [execOp, go_sem]) hH ?_
                show wpAnyH _ _ _ _ _ _ _ ({ tmps := #[.agg A, .int .i64 (k : Int), .int .i64 ix, .pointer (some ⟨B, 0, none⟩), undef, undef, .pointer (some ⟨B + 1, 0, none⟩), .int .i64 0, .pointer (some ⟨B + 1 + 1, 0, none⟩), .int .i64 36, .pointer (some ⟨N, 0, none⟩), .pointer (some ⟨M, 0, none⟩), .int .i64 (32 : Int), .int .i64 36, .bool false, u15, u16, u17, u18, u19, u20, u21, u22, u23, u24, .agg LW.toArray, .int .i64 ix, .agg A3.toArray, .agg A9.toArray, .agg A4.toArray, .agg LV.toArray, .pointer (some ⟨N, 0, none⟩), .int .i64 3, .bool false, undef, undef, undef, undef, undef, undef, undef, undef, undef, undef, .int .i64 (32 : Int), .bool false, u46, u47, u48, u49, u50, u51, u52, u53, .pointer (some ⟨N, 0, none⟩), .int .i64 3, .bool false, .bool false, undef, undef, undef, undef, undef, undef, undef, undef, .bool false, undef, .agg RV.toArray, .pointer (some ⟨N, 0, none⟩), undef], defers := [] } : Act) _
                refine take_pure 2 (v := .int .i64 3) rfl (by kernel_rfl) rfl (fun w' hw => by simp [execOp, go_sem, hw.2]) hH ?_
                show wpAnyH _ _ _ _ _ _ _ ({ tmps := #[.agg A, .int .i64 (k : Int), .int .i64 ix, .pointer (some ⟨B, 0, none⟩), undef, undef, .pointer (some ⟨B + 1, 0, none⟩), .int .i64 0, .pointer (some ⟨B + 1 + 1, 0, none⟩), .int .i64 36, .pointer (some ⟨N, 0, none⟩), .pointer (some ⟨M, 0, none⟩), .int .i64 (32 : Int), .int .i64 36, .bool false, u15, u16, u17, u18, u19, u20, u21, u22, u23, u24, .agg LW.toArray, .int .i64 ix, .agg A3.toArray, .agg A9.toArray, .agg A4.toArray, .agg LV.toArray, .pointer (some ⟨N, 0, none⟩), .int .i64 3, .bool false, undef, undef, undef, undef, undef, undef, undef, undef, undef, undef, .int .i64 (32 : Int), .bool false, u46, u47, u48, u49, u50, u51, u52, u53, .pointer (some ⟨N, 0, none⟩), .int .i64 3, .bool false, .bool false, undef, undef, undef, undef, undef, undef, undef, undef, .bool false, undef, .agg RV.toArray, .pointer (some ⟨N, 0, none⟩), .int .i64 3], defers := [] } : Act) _
                refine take_one 3 rfl rfl (by kernel_rfl) ?_
                refine wp_store_mid 58 _ _ rfl (B + 1) 0 RV.toArray rfl rfl (by exact ht) hj9 hone ?_
                refine ⟨⟨World.rangeAt_setCells_apart hH.1 _ 0 _ (.inl (by omega)), (World.cell?_of_block (w := wr.drew) (a := ⟨N, 0, none⟩) (heap_puts (B + 1) RV 0 wr.drew N (by omega))).trans hH.2⟩, fun hH => ?_⟩
                show wpAnyH _ _ _ _ _ _ _ ({ tmps := #[.agg A, .int .i64 (k : Int), .int .i64 ix, .pointer (some ⟨B, 0, none⟩), undef, undef, .pointer (some ⟨B + 1, 0, none⟩), .int .i64 0, .pointer (some ⟨B + 1 + 1, 0, none⟩), .int .i64 36, .pointer (some ⟨N, 0, none⟩), .pointer (some ⟨M, 0, none⟩), .int .i64 (32 : Int), .int .i64 36, .bool false, u15, u16, u17, u18, u19, u20, u21, u22, u23, u24, .agg LW.toArray, .int .i64 ix, .agg A3.toArray, .agg A9.toArray, .agg A4.toArray, .agg LV.toArray, .pointer (some ⟨N, 0, none⟩), .int .i64 3, .bool false, undef, undef, undef, undef, undef, undef, undef, undef, undef, undef, .int .i64 (32 : Int), .bool false, u46, u47, u48, u49, u50, u51, u52, u53, .pointer (some ⟨N, 0, none⟩), .int .i64 3, .bool false, .bool false, undef, undef, undef, undef, undef, undef, undef, undef, .bool false, undef, .agg RV.toArray, .pointer (some ⟨N, 0, none⟩), .int .i64 3], defers := [] } : Act) _
                refine take_pure 4 (v := .int .i64 3) rfl (by kernel_rfl) rfl (fun w' hw => by simp [execOp, go_sem]) hH ?_
                show wpAnyH _ _ _ _ _ _ _ ({ tmps := #[.agg A, .int .i64 (k : Int), .int .i64 ix, .pointer (some ⟨B, 0, none⟩), undef, undef, .pointer (some ⟨B + 1, 0, none⟩), .int .i64 3, .pointer (some ⟨B + 1 + 1, 0, none⟩), .int .i64 36, .pointer (some ⟨N, 0, none⟩), .pointer (some ⟨M, 0, none⟩), .int .i64 (32 : Int), .int .i64 36, .bool false, u15, u16, u17, u18, u19, u20, u21, u22, u23, u24, .agg LW.toArray, .int .i64 ix, .agg A3.toArray, .agg A9.toArray, .agg A4.toArray, .agg LV.toArray, .pointer (some ⟨N, 0, none⟩), .int .i64 3, .bool false, undef, undef, undef, undef, undef, undef, undef, undef, undef, undef, .int .i64 (32 : Int), .bool false, u46, u47, u48, u49, u50, u51, u52, u53, .pointer (some ⟨N, 0, none⟩), .int .i64 3, .bool false, .bool false, undef, undef, undef, undef, undef, undef, undef, undef, .bool false, undef, .agg RV.toArray, .pointer (some ⟨N, 0, none⟩), .int .i64 3], defers := [] } : Act) _
                exact wpAnyH_done (by kernel_rfl) ⟨rfl, rfl⟩ _
              rintro a' W' ⟨rfl, rfl⟩
              go_wp2
              refine bodyPost_ret (v := .tuple #[.agg RV.toArray, .int .i64 3]) ?_ rfl ⟨by rw [Hkc.out], by first | exact belows_put (by omega) RV 0 (below_drewN HB.out 1) | (rw [hB]; exact belows_put (by omega) RV 0 (below_drewN HB.out 1))⟩
              simp [results, Tryz.f27, asAddr, hld2]
end Go.Proofs.YtoimbjbdkkohcaaGreatDoor
