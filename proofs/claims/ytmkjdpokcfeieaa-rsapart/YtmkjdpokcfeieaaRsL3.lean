/-
  RsSyndromes.
-/
import Derived.Test.YtmkjdpokcfeieaaRsL2
import Derived.Test.YtmkjdpokcfeieaaRsW18
namespace Go.Proofs.Ytmkjdpokcfeieaa
open Go.RowKit Go.Shelf
open Gf (gI eI dI lI)
open Po (El mu pwr ev S cf toE cv Low rts)
open Rm (al sy At IsCode)
attribute [local go_sem] Oper.semAt_some

/-- while RsSyndromes works: data, virtual symbols, a word, virtual symbols; the own word in J -/
structure SnS (B J c b : Nat) (D G F U X : Nat → El) (w W : World) : Prop where
  d : Blk W B 32 D
  v : Blk W (B + 1) 3 G
  f : Blk W (B + 1 + 1) 36 F
  u : Blk W (B + 1 + 1 + 1) 3 U
  o : Blk W J 36 X
  code : CdAt W c b
  below : Below B w W
section
variable {B J c b : Nat} {D G F U X : Nat → El} {w W W' : World}
theorem SnS.next (h : SnS B J c b D G F U X w W) (k : Below W.heap.size W W') : SnS B J c b D G F U X w W' :=
  ⟨h.d.next k, h.v.next k, h.f.next k, h.u.next k, h.o.next k, h.code.next k, h.below.trans (k.mono (Nat.le_of_lt h.d.lt))⟩
theorem SnS.drew (h : SnS B J c b D G F U X w W) : SnS B J c b D G F U X w W.drew := h.next (below_stay (Below.refl _ W) (Stay.drewN _ W 1) (Nat.le_refl _))
theorem SnS.setO (h : SnS B J c b D G F U X w W) (hJ : B + 1 + 1 + 1 < J) (hc : c ≠ J ∧ b ≠ J) (i : Nat) (e : El) : SnS B J c b D G F U (fun k => if k = i then e else X k) w (W.setCell ⟨J, i, none⟩ (.int .u8 (oe e))) :=
  ⟨h.d.other (by omega) _ _, h.v.other (by omega) _ _, h.f.other (by omega) _ _, h.u.other (by omega) _ _, h.o.set i e, h.code.of (Below.heap_setCell W ⟨J, i, none⟩ _ c hc.1) (Below.heap_setCell W ⟨J, i, none⟩ _ b hc.2), h.below.setCell (p := ⟨J, i, none⟩) (by simp; omega) _⟩
theorem SnS.setV (h : SnS B J c b D G F U X w W) (hJ : B + 1 + 1 + 1 < J) (hc : B + 1 + 1 + 1 < c ∧ B + 1 + 1 + 1 < b) (i : Nat) (e : El) : SnS B J c b D (fun k => if k = i then e else G k) F U X w (W.setCell ⟨B + 1, i, none⟩ (.int .u8 (oe e))) :=
  ⟨h.d.other (by omega) _ _, h.v.set i e, h.f.other (by omega) _ _, h.u.other (by omega) _ _, h.o.other (by omega) _ _, h.code.of (Below.heap_setCell W ⟨B + 1, i, none⟩ _ c (by simp; omega)) (Below.heap_setCell W ⟨B + 1, i, none⟩ _ b (by simp; omega)), h.below.setCell (p := ⟨B + 1, i, none⟩) (by simp) _⟩
theorem SnS.congrO (h : SnS B J c b D G F U X w W) {Y : Nat → El} (k : ∀ i, i < 36 → X i = Y i) : SnS B J c b D G F U Y w W := ⟨h.d, h.v, h.f, h.u, h.o.congr k, h.code, h.below⟩
theorem SnS.congrV (h : SnS B J c b D G F U X w W) {H : Nat → El} (k : ∀ i, i < 3 → G i = H i) : SnS B J c b D H F U X w W := ⟨h.d, h.v.congr k, h.f, h.u, h.o, h.code, h.below⟩
end
/-- the first k symbols are summed -/
def xrU (X F : Nat → El) (k i : Nat) : El := if i < k then X i ^^^ F i else X i
theorem xrU_step (X F : Nat → El) (k i : Nat) : (if i = k then X k ^^^ F k else xrU X F k i) = xrU X F (k + 1) i := by
  unfold xrU
  by_cases h : i = k
  · rw [if_pos h, if_pos (by omega), h]
  · rw [if_neg h]
    by_cases h2 : i < k
    · rw [if_pos h2, if_pos (by omega)]
    · rw [if_neg h2, if_neg (by omega)]
theorem xrU_at (X F : Nat → El) (k : Nat) : xrU X F k k = X k := if_neg (by omega)
theorem xrU_zero (X F : Nat → El) (i : Nat) : xrU X F 0 i = X i := if_neg (by omega)
theorem sy_sum {X G : Nat → El} (hc : IsCode (wd X G)) (F U : Nat → El) : ∀ j, j < 4 → sy (wd (xrU X F 36) (xrU G U 3)) j = sy (wd F U) j := fun j hj => by
  rw [sy_congr (U := fun i => wd X G i ^^^ wd F U i) fun i hi => ?_, sy_xor]
  · show sy (wd X G) j ^^^ _ = _
    rw [show sy (wd X G) j = 0 from hc j hj, Po.z0]
  · unfold wd xrU
    by_cases h : i < 36
    · rw [if_pos h, if_pos h, if_pos h, if_pos h]
    · rw [if_neg h, if_neg h, if_neg h, if_pos (by omega)]

set_option maxRecDepth 100000 in
set_option maxHeartbeats 2000000 in
theorem rsSyndromes_core (D G F U : Nat → El) (w : World) :
    Calls Try.prog 9 #[.agg (arr 32 D).toArray, .agg (arr 3 G).toArray, .agg (arr 36 F).toArray, .agg (arr 3 U).toArray] w fun e w' => e = .returned (.bool true) ∧ Below w.heap.size w w' := by
  have hz36 := zero36
  have cW : Hid (∀ c b W, CdAt W c b → Calls Try.prog 13 #[.pointer (some ⟨c, 0, none⟩), .agg (arr 32 D).toArray, .agg (arr 3 G).toArray] W fun e w' => ∃ K, e = .returned (.agg (arr 36 (ck K D)).toArray) ∧ IsCode (wd (ck K D) G) ∧ Below W.heap.size W w') := fun c b W h => word_any c b D G W h
  have hgd : Try.prog.eqGuardType Try.prog.depth 27 = false := by kernel_rfl
  obtain ⟨A0, hA0⟩ : ∃ A, arr 32 D = A := ⟨_, rfl⟩
  obtain ⟨A1, hA1⟩ : ∃ A, arr 3 G = A := ⟨_, rfl⟩
  obtain ⟨A2, hA2⟩ : ∃ A, arr 36 F = A := ⟨_, rfl⟩
  obtain ⟨A3, hA3⟩ : ∃ A, arr 3 U = A := ⟨_, rfl⟩
  obtain ⟨A5, hA5⟩ : ∃ A, (arr 36 fun _ => 0) = A := ⟨_, rfl⟩
  have i32 : (Try.prog.info? 22).map (·.size) = some A0.length := by rw [← hA0, arr_len]; kernel_rfl
  have i3 : (Try.prog.info? 23).map (·.size) = some A1.length := by rw [← hA1, arr_len]; kernel_rfl
  have i36 : (Try.prog.info? 24).map (·.size) = some A2.length := by rw [← hA2, arr_len]; kernel_rfl
  have j3 : (Try.prog.info? 23).map (·.size) = some A3.length := by rw [← hA3, arr_len]; kernel_rfl
  rw [hA5] at hz36
  rw [hA0, hA1] at cW
  rw [hA0, hA1, hA2, hA3]
  go_enter Try.func9, Try.ntmps9
  go_upto_region 1 with (fail)
  obtain ⟨B, hB⟩ : ∃ B, w.heap.size = B := ⟨_, rfl⟩
  obtain ⟨V0, hV0⟩ : ∃ V, (((w.alloc (.cells A0.toArray 22)).alloc (.cells A1.toArray 23)).alloc (.cells A2.toArray 24)).alloc (.cells A3.toArray 23) = V := ⟨_, rfl⟩
  have H0 : Hid (Blk V0 B 32 D ∧ Blk V0 (B + 1) 3 G ∧ Blk V0 (B + 1 + 1) 36 F ∧ Blk V0 (B + 1 + 1 + 1) 3 U ∧ Below B w V0) := by
    have h0 := Blk.new w 32 D 22
    have h1 := Blk.new (w.alloc (.cells A0.toArray 22)) 3 G 23
    have h2 := Blk.new ((w.alloc (.cells A0.toArray 22)).alloc (.cells A1.toArray 23)) 36 F 24
    have h3 := Blk.new (((w.alloc (.cells A0.toArray 22)).alloc (.cells A1.toArray 23)).alloc (.cells A2.toArray 24)) 3 U 23
    simp only [World.size_alloc] at h1 h2 h3
    rw [hA0] at h0
    rw [hA1] at h1
    rw [hA2] at h2
    rw [hA3] at h3
    rw [← hB, ← hV0]
    exact ⟨((h0.alloc _).alloc _).alloc _, (h1.alloc _).alloc _, h2.alloc _, h3, ((((Below.refl _ w).alloc (Nat.le_refl _) _).alloc (by simp) _).alloc (by simp; omega) _).alloc (by simp; omega) _⟩
  rw [hV0, hB]
  clear hV0
  go_upto_region 4 with (go_at_call 10; refine (coded_any _).mono ?_; rintro e V1 ⟨c, b, rfl, hC, hB1, hcn, hbn⟩)
  have H1 : Hid (Blk V1 B 32 D ∧ Blk V1 (B + 1) 3 G ∧ Blk V1 (B + 1 + 1) 36 F ∧ Blk V1 (B + 1 + 1 + 1) 3 U ∧ CdAt V1 c b ∧ Below B w V1) := by
    obtain ⟨h1, h2, h3, h4, h5⟩ := H0.out
    exact ⟨h1.next hB1, h2.next hB1, h3.next hB1, h4.next hB1, hC, h5.trans (hB1.mono (Nat.le_of_lt h1.lt))⟩
  have hcB : B + 1 + 1 + 1 < c ∧ B + 1 + 1 + 1 < b := by have := H0.out.2.2.2.1.lt; omega
  have r0 : V1.rangeAt B 0 A0 := by rw [← hA0]; exact H1.out.1.range
  have r1 : V1.rangeAt (B + 1) 0 A1 := by rw [← hA1]; exact H1.out.2.1.range
  clear H0 hC hB1 hcn hbn
  go_upto_region 5 with (first | refine wpList_load_mid rfl 22 _ rfl B 0 rfl A0 _ r0 Try.underlying22 rfl i32 ?_ | refine wpList_load_mid rfl 23 _ rfl (B + 1) 0 rfl A1 _ r1 Try.underlying23 rfl i3 ?_ | (go_at_call 13; refine (cW.out c b _ H1.out.2.2.2.2.1).mono ?_; rintro e V2 ⟨K, rfl, hcode, hB2⟩) | refine wpList_store_mid rfl 24 _ _ rfl _ 0 (arr 36 (ck K D)).toArray rfl rfl (new36 hA5 _ _ _) (by rw [show (arr 36 (ck K D)).toArray.size = 36 from by simp [arr_len]]; exact info36) (arr_one 36 _) ?_)
  obtain ⟨J, hJ⟩ : ∃ J, V2.heap.size = J := ⟨_, rfl⟩
  obtain ⟨V3, hV3⟩ : ∃ V, (V2.alloc (.cells A5.toArray 24)).setCells V2.heap.size 0 (arr 36 (ck K D)) = V := ⟨_, rfl⟩
  obtain ⟨X, HX⟩ : ∃ X, Hid (ck K D = X) := ⟨_, rfl⟩
  have H3 : Hid (SnS B J c b D G F U X w V3) := by
    obtain ⟨h1, h2, h3, h4, h5, h6⟩ := H1.out
    have b3 : Below V1.heap.size V1 V3 := by rw [← hV3]; exact below_puts (hB2.alloc hB2.size _) hB2.size 0 _
    refine ⟨h1.next b3, h2.next b3, h3.next b3, h4.next b3, ?_, h5.next b3, h6.trans (b3.mono (Nat.le_of_lt h1.lt))⟩
    have h := Blk.new V2 36 (fun _ => 0) 24
    rw [hA5] at h
    have h2 := h.put (ck K D)
    rw [hV3, hJ] at h2
    rw [← HX.out]; exact h2
  have sJ : B + 1 + 1 + 1 < J := by have := H1.out.2.2.2.1.lt; have := hB2.size; omega
  have hcJ : c ≠ J ∧ b ≠ J := by have := H1.out.2.2.2.2.1.lt; have := H1.out.2.2.2.2.1.fld.lt; have := hB2.size; omega
  have hsum := sy_sum hcode F U
  rw [HX.out] at hsum
  have HS : Hid (∀ j, j < 4 → sy (wd (xrU X F 36) (xrU G U 3)) j = sy (wd F U) j) := hsum
  rw [hV3, hJ, HX.out]
  simp only [Act.put]
  clear hV3 hJ hcode hB2 H1 r0 r1 cW hsum HX i32 i3
  go_wp2
  go_loopw [20] (fun i wr => ∃ k : Nat, k ≤ 36 ∧ i = .int .i64 (k : Int) ∧ Hid (SnS B J c b D G F U (xrU X F k) w wr)) (fun i _ => 36 - (intOf i).toNat)
  case atStart => exact ⟨0, by omega, rfl, H3.out.congrO fun i _ => (xrU_zero X F i).symm⟩
  case round =>
    obtain ⟨k, hk, rfl, HK⟩ := hrel
    by_cases hlt : k < 36
    · have c0 := HK.out.o.arr k hlt
      have f0 := HK.out.o.free k
      have c1 := HK.out.f.arr k hlt
      rw [xrU_at] at c0
      have ex := oe_xor (X k) (F k)
      have nJ : J ≠ B + 1 + 1 := by omega
      have HN : Hid (SnS B J c b D G F U (xrU X F (k + 1)) w (wr.setCell ⟨J, k, none⟩ (.int .u8 (oe (X k ^^^ F k)))).drew) := ((HK.out.setO sJ hcJ k (X k ^^^ F k)).congrO fun i _ => xrU_step X F k i).drew
      clear HS
      go_wp2
      go_region
      go_wp2
      go_roundw
      case rel => exact ⟨k + 1, by omega, by go_num, HN⟩
      case measure => simp [intOf]; omega
    · obtain rfl : k = 36 := by omega
      clear H3
      go_wp2
      go_loopw [32] (fun i wr => ∃ k : Nat, k ≤ 3 ∧ i = .int .i64 (k : Int) ∧ Hid (SnS B J c b D (xrU G U k) F U (xrU X F 36) w wr)) (fun i _ => 3 - (intOf i).toNat)
      case atStart => exact ⟨0, by omega, rfl, HK.out.congrV fun i _ => (xrU_zero G U i).symm⟩
      case round =>
        obtain ⟨k, hk, rfl, HK⟩ := hrel
        by_cases hlt : k < 3
        · have c0 := HK.out.v.arr k hlt
          have f0 := HK.out.v.free k
          have c1 := HK.out.u.arr k hlt
          rw [xrU_at] at c0
          have ex := oe_xor (G k) (U k)
          have nJ : B + 1 ≠ B + 1 + 1 + 1 := by omega
          have HN : Hid (SnS B J c b D (xrU G U (k + 1)) F U (xrU X F 36) w (wr.setCell ⟨B + 1, k, none⟩ (.int .u8 (oe (G k ^^^ U k)))).drew) := ((HK.out.setV sJ hcB k (G k ^^^ U k)).congrV fun i _ => xrU_step G U k i).drew
          clear HS
          go_wp2
          go_region
          go_wp2
          go_roundw
          case rel => exact ⟨k + 1, by omega, by go_num, HN⟩
          case measure => simp [intOf]; omega
        · obtain rfl : k = 3 := by omega
          obtain ⟨Y, HY⟩ : ∃ Y, Hid (xrU X F 36 = Y) := ⟨_, rfl⟩
          obtain ⟨Z, HZ⟩ : ∃ Z, Hid (xrU G U 3 = Z) := ⟨_, rfl⟩
          go_upto_region 15 with (fail)
          rw [HY.out, HZ.out] at HK HS
          obtain ⟨s, hs⟩ : ∃ s, sy (wd F U) = s := ⟨_, rfl⟩
          have cS1 : Hid (∀ W, CdAt W c b → Calls Try.prog 15 #[.pointer (some ⟨c, 0, none⟩), .agg (arr 36 Y).toArray, .agg (arr 3 Z).toArray] W fun e w' => e = .returned (.agg (arr 4 s).toArray) ∧ Below W.heap.size W w') := fun W h => by
            have := syndromes_any c b Y Z W h
            rw [arr_congr 4 _ (sy (wd F U)) HS.out, hs] at this; exact this
          have cS2 : Hid (∀ W, CdAt W c b → Calls Try.prog 15 #[.pointer (some ⟨c, 0, none⟩), .agg A2.toArray, .agg A3.toArray] W fun e w' => e = .returned (.agg (arr 4 s).toArray) ∧ Below W.heap.size W w') := fun W h => by
            rw [← hA2, ← hA3, ← hs]; exact syndromes_any c b F U W h
          have cL : Hid (∀ W, CdAt W c b → Calls Try.prog 18 #[.pointer (some ⟨c, 0, none⟩), .agg (arr 4 s).toArray] W fun e w' => e = .returned (.agg (vd s)) ∧ Below W.heap.size W w') := fun W h => locate_any c b s W h
          have cV : Hid (∀ W, CdAt W c b → Calls Try.prog 23 #[.pointer (some ⟨c, 0, none⟩), .agg (arr 36 Y).toArray, .agg (arr 3 Z).toArray] W fun e w' => e = .returned (.agg (vd s)) ∧ Below W.heap.size W w') := fun W h => by
            have := verdict_any c b Y Z W h
            rw [vd_congr HS.out, hs] at this; exact this
          have heq : ∀ w, (binOp .eql 27 (.agg (arr 4 s).toArray) (.agg (arr 4 s).toArray)).run Try.prog w = .ok (.bool true) w := fun w => eql_arr 27 4 Try.underlying27 _ _ true ⟨fun _ _ _ => rfl, fun _ => rfl⟩ w
          unfold vd at cL cV
          obtain ⟨k, hk⟩ : ∃ k, vk s = k := ⟨_, rfl⟩
          obtain ⟨p, hp⟩ : ∃ p, vp s = p := ⟨_, rfl⟩
          obtain ⟨v, hv⟩ : ∃ v, oe (vv s) = v := ⟨_, rfl⟩
          rw [hk, hp, hv] at cL cV
          obtain ⟨L, hL⟩ : ∃ L, arr 4 s = L := ⟨_, rfl⟩
          obtain ⟨LX, hLX⟩ : ∃ L, arr 36 Y = L := ⟨_, rfl⟩
          obtain ⟨LZ, hLZ⟩ : ∃ L, arr 3 Z = L := ⟨_, rfl⟩
          rw [hL] at cS1 cS2 cL heq
          rw [hLX, hLZ] at cS1 cV
          have k36 : (Try.prog.info? 24).map (·.size) = some LX.length := by rw [← hLX, arr_len]; kernel_rfl
          have k3 : (Try.prog.info? 23).map (·.size) = some LZ.length := by rw [← hLZ, arr_len]; kernel_rfl
          have HQ : SnS B J c b D Z F U Y w wr := HK.out
          clear HS hs hk hp hv HK
          refine region_ends (by kernel_rfl) (fun w' => SnS B J c b D Z F U Y w w') (fun a' w' => a' = ({ tmps := #[.agg A0.toArray, .agg A1.toArray, .agg A2.toArray, .agg A3.toArray, .pointer (some ⟨B, 0, none⟩), .pointer (some ⟨B + 1, 0, none⟩), .pointer (some ⟨B + 1 + 1, 0, none⟩), .pointer (some ⟨B + 1 + 1 + 1, 0, none⟩), .bool true, .pointer (some ⟨c, 0, none⟩), .pointer (some ⟨J, 0, none⟩), u11, u12, .pointer (some ⟨c, 0, none⟩), .pointer (some ⟨c, 0, none⟩), .bool false, .pointer (some ⟨c, 0, none⟩), .agg A0.toArray, .agg A1.toArray, .agg (arr 36 X).toArray, .int .i64 ((36 : Nat) : Int), .bool false, u22, u23, u24, u25, u26, u27, u28, u29, u30, u31, .int .i64 ((3 : Nat) : Int), .bool false, u34, u35, u36, u37, u38, u39, u40, u41, u42, u43, .pointer (some ⟨c, 0, none⟩), .agg LX.toArray, .agg LZ.toArray, .agg L.toArray, .pointer (some ⟨c, 0, none⟩), .agg A2.toArray, .agg A3.toArray, .agg L.toArray, .bool true, .bool true, .pointer (some ⟨c, 0, none⟩), .pointer (some ⟨c, 0, none⟩), .agg A2.toArray, .agg A3.toArray, .agg L.toArray, .agg #[.int .i64 k, .int .i64 p, .int .u8 v], .pointer (some ⟨c, 0, none⟩), .agg LX.toArray, .agg LZ.toArray, .agg #[.int .i64 k, .int .i64 p, .int .u8 v], .bool true, .bool true], defers := [] } : Act) ∧ Below B w w') HQ.drew (fun hH => ?_) (fun a' w' hr => ?_)
          · refine take_pure 0 (v := .pointer (some ⟨c, 0, none⟩)) rfl (by kernel_rfl) rfl (fun w' hw => by simp [execOp, go_sem]) hH ?_
            show wpAnyH _ _ _ _ _ _ _ ({ tmps := #[.agg A0.toArray, .agg A1.toArray, .agg A2.toArray, .agg A3.toArray, .pointer (some ⟨B, 0, none⟩), .pointer (some ⟨B + 1, 0, none⟩), .pointer (some ⟨B + 1 + 1, 0, none⟩), .pointer (some ⟨B + 1 + 1 + 1, 0, none⟩), .bool false, .pointer (some ⟨c, 0, none⟩), .pointer (some ⟨J, 0, none⟩), u11, u12, .pointer (some ⟨c, 0, none⟩), .pointer (some ⟨c, 0, none⟩), .bool false, .pointer (some ⟨c, 0, none⟩), .agg A0.toArray, .agg A1.toArray, .agg (arr 36 X).toArray, .int .i64 ((36 : Nat) : Int), .bool false, u22, u23, u24, u25, u26, u27, u28, u29, u30, u31, .int .i64 ((3 : Nat) : Int), .bool false, u34, u35, u36, u37, u38, u39, u40, u41, u42, u43, .pointer (some ⟨c, 0, none⟩), undef, undef, undef, undef, undef, undef, undef, undef, undef, undef, undef, undef, undef, undef, undef, undef, undef, undef, undef, undef, undef], defers := [] } : Act) _
            refine take_if 1 (v := .agg LX.toArray) rfl (by kernel_rfl) (yieldsIf_load_mid (by rfl) _ _ rfl J 0 rfl LX _ (fun w' hw => by rw [← hLX]; exact hw.o.range) Try.underlying24 rfl k36) hH ?_
            show wpAnyH _ _ _ _ _ _ _ ({ tmps := #[.agg A0.toArray, .agg A1.toArray, .agg A2.toArray, .agg A3.toArray, .pointer (some ⟨B, 0, none⟩), .pointer (some ⟨B + 1, 0, none⟩), .pointer (some ⟨B + 1 + 1, 0, none⟩), .pointer (some ⟨B + 1 + 1 + 1, 0, none⟩), .bool false, .pointer (some ⟨c, 0, none⟩), .pointer (some ⟨J, 0, none⟩), u11, u12, .pointer (some ⟨c, 0, none⟩), .pointer (some ⟨c, 0, none⟩), .bool false, .pointer (some ⟨c, 0, none⟩), .agg A0.toArray, .agg A1.toArray, .agg (arr 36 X).toArray, .int .i64 ((36 : Nat) : Int), .bool false, u22, u23, u24, u25, u26, u27, u28, u29, u30, u31, .int .i64 ((3 : Nat) : Int), .bool false, u34, u35, u36, u37, u38, u39, u40, u41, u42, u43, .pointer (some ⟨c, 0, none⟩), .agg LX.toArray, undef, undef, undef, undef, undef, undef, undef, undef, undef, undef, undef, undef, undef, undef, undef, undef, undef, undef, undef, undef], defers := [] } : Act) _
            refine take_if 2 (v := .agg LZ.toArray) rfl (by kernel_rfl) (yieldsIf_load_mid (by rfl) _ _ rfl (B + 1) 0 rfl LZ _ (fun w' hw => by rw [← hLZ]; exact hw.v.range) Try.underlying23 rfl k3) hH ?_
            show wpAnyH _ _ _ _ _ _ _ ({ tmps := #[.agg A0.toArray, .agg A1.toArray, .agg A2.toArray, .agg A3.toArray, .pointer (some ⟨B, 0, none⟩), .pointer (some ⟨B + 1, 0, none⟩), .pointer (some ⟨B + 1 + 1, 0, none⟩), .pointer (some ⟨B + 1 + 1 + 1, 0, none⟩), .bool false, .pointer (some ⟨c, 0, none⟩), .pointer (some ⟨J, 0, none⟩), u11, u12, .pointer (some ⟨c, 0, none⟩), .pointer (some ⟨c, 0, none⟩), .bool false, .pointer (some ⟨c, 0, none⟩), .agg A0.toArray, .agg A1.toArray, .agg (arr 36 X).toArray, .int .i64 ((36 : Nat) : Int), .bool false, u22, u23, u24, u25, u26, u27, u28, u29, u30, u31, .int .i64 ((3 : Nat) : Int), .bool false, u34, u35, u36, u37, u38, u39, u40, u41, u42, u43, .pointer (some ⟨c, 0, none⟩), .agg LX.toArray, .agg LZ.toArray, undef, undef, undef, undef, undef, undef, undef, undef, undef, undef, undef, undef, undef, undef, undef, undef, undef, undef, undef], defers := [] } : Act) _
            refine take_pure 4 (v := .pointer (some ⟨c, 0, none⟩)) rfl (by kernel_rfl) rfl (fun w' hw => by simp [execOp, go_sem]) hH ?_
            show wpAnyH _ _ _ _ _ _ _ ({ tmps := #[.agg A0.toArray, .agg A1.toArray, .agg A2.toArray, .agg A3.toArray, .pointer (some ⟨B, 0, none⟩), .pointer (some ⟨B + 1, 0, none⟩), .pointer (some ⟨B + 1 + 1, 0, none⟩), .pointer (some ⟨B + 1 + 1 + 1, 0, none⟩), .bool false, .pointer (some ⟨c, 0, none⟩), .pointer (some ⟨J, 0, none⟩), u11, u12, .pointer (some ⟨c, 0, none⟩), .pointer (some ⟨c, 0, none⟩), .bool false, .pointer (some ⟨c, 0, none⟩), .agg A0.toArray, .agg A1.toArray, .agg (arr 36 X).toArray, .int .i64 ((36 : Nat) : Int), .bool false, u22, u23, u24, u25, u26, u27, u28, u29, u30, u31, .int .i64 ((3 : Nat) : Int), .bool false, u34, u35, u36, u37, u38, u39, u40, u41, u42, u43, .pointer (some ⟨c, 0, none⟩), .agg LX.toArray, .agg LZ.toArray, undef, .pointer (some ⟨c, 0, none⟩), undef, undef, undef, undef, undef, undef, undef, undef, undef, undef, undef, undef, undef, undef, undef, undef, undef], defers := [] } : Act) _
            refine take_if 5 (v := .agg A2.toArray) rfl (by kernel_rfl) (yieldsIf_load_mid (by rfl) _ _ rfl (B + 1 + 1) 0 rfl A2 _ (fun w' hw => by rw [← hA2]; exact hw.f.range) Try.underlying24 rfl i36) hH ?_
            show wpAnyH _ _ _ _ _ _ _ ({ tmps := #[.agg A0.toArray, .agg A1.toArray, .agg A2.toArray, .agg A3.toArray, .pointer (some ⟨B, 0, none⟩), .pointer (some ⟨B + 1, 0, none⟩), .pointer (some ⟨B + 1 + 1, 0, none⟩), .pointer (some ⟨B + 1 + 1 + 1, 0, none⟩), .bool false, .pointer (some ⟨c, 0, none⟩), .pointer (some ⟨J, 0, none⟩), u11, u12, .pointer (some ⟨c, 0, none⟩), .pointer (some ⟨c, 0, none⟩), .bool false, .pointer (some ⟨c, 0, none⟩), .agg A0.toArray, .agg A1.toArray, .agg (arr 36 X).toArray, .int .i64 ((36 : Nat) : Int), .bool false, u22, u23, u24, u25, u26, u27, u28, u29, u30, u31, .int .i64 ((3 : Nat) : Int), .bool false, u34, u35, u36, u37, u38, u39, u40, u41, u42, u43, .pointer (some ⟨c, 0, none⟩), .agg LX.toArray, .agg LZ.toArray, undef, .pointer (some ⟨c, 0, none⟩), .agg A2.toArray, undef, undef, undef, undef, undef, undef, undef, undef, undef, undef, undef, undef, undef, undef, undef, undef], defers := [] } : Act) _
            refine take_if 6 (v := .agg A3.toArray) rfl (by kernel_rfl) (yieldsIf_load_mid (by rfl) _ _ rfl (B + 1 + 1 + 1) 0 rfl A3 _ (fun w' hw => by rw [← hA3]; exact hw.u.range) Try.underlying23 rfl j3) hH ?_
            show wpAnyH _ _ _ _ _ _ _ ({ tmps := #[.agg A0.toArray, .agg A1.toArray, .agg A2.toArray, .agg A3.toArray, .pointer (some ⟨B, 0, none⟩), .pointer (some ⟨B + 1, 0, none⟩), .pointer (some ⟨B + 1 + 1, 0, none⟩), .pointer (some ⟨B + 1 + 1 + 1, 0, none⟩), .bool false, .pointer (some ⟨c, 0, none⟩), .pointer (some ⟨J, 0, none⟩), u11, u12, .pointer (some ⟨c, 0, none⟩), .pointer (some ⟨c, 0, none⟩), .bool false, .pointer (some ⟨c, 0, none⟩), .agg A0.toArray, .agg A1.toArray, .agg (arr 36 X).toArray, .int .i64 ((36 : Nat) : Int), .bool false, u22, u23, u24, u25, u26, u27, u28, u29, u30, u31, .int .i64 ((3 : Nat) : Int), .bool false, u34, u35, u36, u37, u38, u39, u40, u41, u42, u43, .pointer (some ⟨c, 0, none⟩), .agg LX.toArray, .agg LZ.toArray, undef, .pointer (some ⟨c, 0, none⟩), .agg A2.toArray, .agg A3.toArray, undef, undef, undef, undef, undef, undef, undef, undef, undef, undef, undef, undef, undef, undef, undef], defers := [] } : Act) _
            refine take_one 3 rfl rfl (by kernel_rfl) ?_
            refine wp_contract 15 [.tmp 44, .tmp 45, .tmp 46] _ rfl (enters_of Try.func15 (by kernel_rfl) rfl) [.pointer (some ⟨c, 0, none⟩), .agg LX.toArray, .agg LZ.toArray] rfl (cS1.out _ hH.code) ?_
            rintro e W' ⟨rfl, hB1⟩
            refine ⟨_, rfl, hH.next hB1, fun hH => ?_⟩
            show wpAnyH _ _ _ _ _ _ _ ({ tmps := #[.agg A0.toArray, .agg A1.toArray, .agg A2.toArray, .agg A3.toArray, .pointer (some ⟨B, 0, none⟩), .pointer (some ⟨B + 1, 0, none⟩), .pointer (some ⟨B + 1 + 1, 0, none⟩), .pointer (some ⟨B + 1 + 1 + 1, 0, none⟩), .bool false, .pointer (some ⟨c, 0, none⟩), .pointer (some ⟨J, 0, none⟩), u11, u12, .pointer (some ⟨c, 0, none⟩), .pointer (some ⟨c, 0, none⟩), .bool false, .pointer (some ⟨c, 0, none⟩), .agg A0.toArray, .agg A1.toArray, .agg (arr 36 X).toArray, .int .i64 ((36 : Nat) : Int), .bool false, u22, u23, u24, u25, u26, u27, u28, u29, u30, u31, .int .i64 ((3 : Nat) : Int), .bool false, u34, u35, u36, u37, u38, u39, u40, u41, u42, u43, .pointer (some ⟨c, 0, none⟩), .agg LX.toArray, .agg LZ.toArray, .agg L.toArray, .pointer (some ⟨c, 0, none⟩), .agg A2.toArray, .agg A3.toArray, undef, undef, undef, undef, undef, undef, undef, undef, undef, undef, undef, undef, undef, undef, undef], defers := [] } : Act) _
            refine take_one 7 rfl rfl (by kernel_rfl) ?_
            refine wp_contract 15 [.tmp 48, .tmp 49, .tmp 50] _ rfl (enters_of Try.func15 (by kernel_rfl) rfl) [.pointer (some ⟨c, 0, none⟩), .agg A2.toArray, .agg A3.toArray] rfl (cS2.out _ hH.code) ?_
            rintro e W' ⟨rfl, hB1⟩
            refine ⟨_, rfl, hH.next hB1, fun hH => ?_⟩
            show wpAnyH _ _ _ _ _ _ _ ({ tmps := #[.agg A0.toArray, .agg A1.toArray, .agg A2.toArray, .agg A3.toArray, .pointer (some ⟨B, 0, none⟩), .pointer (some ⟨B + 1, 0, none⟩), .pointer (some ⟨B + 1 + 1, 0, none⟩), .pointer (some ⟨B + 1 + 1 + 1, 0, none⟩), .bool false, .pointer (some ⟨c, 0, none⟩), .pointer (some ⟨J, 0, none⟩), u11, u12, .pointer (some ⟨c, 0, none⟩), .pointer (some ⟨c, 0, none⟩), .bool false, .pointer (some ⟨c, 0, none⟩), .agg A0.toArray, .agg A1.toArray, .agg (arr 36 X).toArray, .int .i64 ((36 : Nat) : Int), .bool false, u22, u23, u24, u25, u26, u27, u28, u29, u30, u31, .int .i64 ((3 : Nat) : Int), .bool false, u34, u35, u36, u37, u38, u39, u40, u41, u42, u43, .pointer (some ⟨c, 0, none⟩), .agg LX.toArray, .agg LZ.toArray, .agg L.toArray, .pointer (some ⟨c, 0, none⟩), .agg A2.toArray, .agg A3.toArray, .agg L.toArray, undef, undef, undef, undef, undef, undef, undef, undef, undef, undef, undef, undef, undef, undef], defers := [] } : Act) _
            refine take_pure 8 (v := .bool true) rfl (by kernel_rfl) rfl (fun w' hw => by simp [execOp, go_sem, heq, hgd]) hH ?_
            show wpAnyH _ _ _ _ _ _ _ ({ tmps := #[.agg A0.toArray, .agg A1.toArray, .agg A2.toArray, .agg A3.toArray, .pointer (some ⟨B, 0, none⟩), .pointer (some ⟨B + 1, 0, none⟩), .pointer (some ⟨B + 1 + 1, 0, none⟩), .pointer (some ⟨B + 1 + 1 + 1, 0, none⟩), .bool false, .pointer (some ⟨c, 0, none⟩), .pointer (some ⟨J, 0, none⟩), u11, u12, .pointer (some ⟨c, 0, none⟩), .pointer (some ⟨c, 0, none⟩), .bool false, .pointer (some ⟨c, 0, none⟩), .agg A0.toArray, .agg A1.toArray, .agg (arr 36 X).toArray, .int .i64 ((36 : Nat) : Int), .bool false, u22, u23, u24, u25, u26, u27, u28, u29, u30, u31, .int .i64 ((3 : Nat) : Int), .bool false, u34, u35, u36, u37, u38, u39, u40, u41, u42, u43, .pointer (some ⟨c, 0, none⟩), .agg LX.toArray, .agg LZ.toArray, .agg L.toArray, .pointer (some ⟨c, 0, none⟩), .agg A2.toArray, .agg A3.toArray, .agg L.toArray, .bool true, undef, undef, undef, undef, undef, undef, undef, undef, undef, undef, undef, undef, undef], defers := [] } : Act) _
            refine take_pure 9 (v := .bool true) rfl (by kernel_rfl) rfl (fun w' hw => by simp [execOp, go_sem]) hH ?_
            show wpAnyH _ _ _ _ _ _ _ ({ tmps := #[.agg A0.toArray, .agg A1.toArray, .agg A2.toArray, .agg A3.toArray, .pointer (some ⟨B, 0, none⟩), .pointer (some ⟨B + 1, 0, none⟩), .pointer (some ⟨B + 1 + 1, 0, none⟩), .pointer (some ⟨B + 1 + 1 + 1, 0, none⟩), .bool false, .pointer (some ⟨c, 0, none⟩), .pointer (some ⟨J, 0, none⟩), u11, u12, .pointer (some ⟨c, 0, none⟩), .pointer (some ⟨c, 0, none⟩), .bool false, .pointer (some ⟨c, 0, none⟩), .agg A0.toArray, .agg A1.toArray, .agg (arr 36 X).toArray, .int .i64 ((36 : Nat) : Int), .bool false, u22, u23, u24, u25, u26, u27, u28, u29, u30, u31, .int .i64 ((3 : Nat) : Int), .bool false, u34, u35, u36, u37, u38, u39, u40, u41, u42, u43, .pointer (some ⟨c, 0, none⟩), .agg LX.toArray, .agg LZ.toArray, .agg L.toArray, .pointer (some ⟨c, 0, none⟩), .agg A2.toArray, .agg A3.toArray, .agg L.toArray, .bool true, .bool true, undef, undef, undef, undef, undef, undef, undef, undef, undef, undef, undef, undef], defers := [] } : Act) _
            refine take_if 10 (v := .pointer (some ⟨c, 0, none⟩)) rfl (by kernel_rfl) (.inl ⟨by rfl, fun w' hw => by simp [execOp, go_sem]⟩) hH ?_
            show wpAnyH _ _ _ _ _ _ _ ({ tmps := #[.agg A0.toArray, .agg A1.toArray, .agg A2.toArray, .agg A3.toArray, .pointer (some ⟨B, 0, none⟩), .pointer (some ⟨B + 1, 0, none⟩), .pointer (some ⟨B + 1 + 1, 0, none⟩), .pointer (some ⟨B + 1 + 1 + 1, 0, none⟩), .bool false, .pointer (some ⟨c, 0, none⟩), .pointer (some ⟨J, 0, none⟩), u11, u12, .pointer (some ⟨c, 0, none⟩), .pointer (some ⟨c, 0, none⟩), .bool false, .pointer (some ⟨c, 0, none⟩), .agg A0.toArray, .agg A1.toArray, .agg (arr 36 X).toArray, .int .i64 ((36 : Nat) : Int), .bool false, u22, u23, u24, u25, u26, u27, u28, u29, u30, u31, .int .i64 ((3 : Nat) : Int), .bool false, u34, u35, u36, u37, u38, u39, u40, u41, u42, u43, .pointer (some ⟨c, 0, none⟩), .agg LX.toArray, .agg LZ.toArray, .agg L.toArray, .pointer (some ⟨c, 0, none⟩), .agg A2.toArray, .agg A3.toArray, .agg L.toArray, .bool true, .bool true, .pointer (some ⟨c, 0, none⟩), undef, undef, undef, undef, undef, undef, undef, undef, undef, undef, undef], defers := [] } : Act) _
            refine take_if 11 (v := .pointer (some ⟨c, 0, none⟩)) rfl (by kernel_rfl) (.inl ⟨by rfl, fun w' hw => by simp [execOp, go_sem]⟩) hH ?_
            show wpAnyH _ _ _ _ _ _ _ ({ tmps := #[.agg A0.toArray, .agg A1.toArray, .agg A2.toArray, .agg A3.toArray, .pointer (some ⟨B, 0, none⟩), .pointer (some ⟨B + 1, 0, none⟩), .pointer (some ⟨B + 1 + 1, 0, none⟩), .pointer (some ⟨B + 1 + 1 + 1, 0, none⟩), .bool false, .pointer (some ⟨c, 0, none⟩), .pointer (some ⟨J, 0, none⟩), u11, u12, .pointer (some ⟨c, 0, none⟩), .pointer (some ⟨c, 0, none⟩), .bool false, .pointer (some ⟨c, 0, none⟩), .agg A0.toArray, .agg A1.toArray, .agg (arr 36 X).toArray, .int .i64 ((36 : Nat) : Int), .bool false, u22, u23, u24, u25, u26, u27, u28, u29, u30, u31, .int .i64 ((3 : Nat) : Int), .bool false, u34, u35, u36, u37, u38, u39, u40, u41, u42, u43, .pointer (some ⟨c, 0, none⟩), .agg LX.toArray, .agg LZ.toArray, .agg L.toArray, .pointer (some ⟨c, 0, none⟩), .agg A2.toArray, .agg A3.toArray, .agg L.toArray, .bool true, .bool true, .pointer (some ⟨c, 0, none⟩), .pointer (some ⟨c, 0, none⟩), undef, undef, undef, undef, undef, undef, undef, undef, undef, undef], defers := [] } : Act) _
            refine take_if 12 (v := .agg A2.toArray) rfl (by kernel_rfl) (yieldsIf_load_mid (by rfl) _ _ rfl (B + 1 + 1) 0 rfl A2 _ (fun w' hw => by rw [← hA2]; exact hw.f.range) Try.underlying24 rfl i36) hH ?_
            show wpAnyH _ _ _ _ _ _ _ ({ tmps := #[.agg A0.toArray, .agg A1.toArray, .agg A2.toArray, .agg A3.toArray, .pointer (some ⟨B, 0, none⟩), .pointer (some ⟨B + 1, 0, none⟩), .pointer (some ⟨B + 1 + 1, 0, none⟩), .pointer (some ⟨B + 1 + 1 + 1, 0, none⟩), .bool false, .pointer (some ⟨c, 0, none⟩), .pointer (some ⟨J, 0, none⟩), u11, u12, .pointer (some ⟨c, 0, none⟩), .pointer (some ⟨c, 0, none⟩), .bool false, .pointer (some ⟨c, 0, none⟩), .agg A0.toArray, .agg A1.toArray, .agg (arr 36 X).toArray, .int .i64 ((36 : Nat) : Int), .bool false, u22, u23, u24, u25, u26, u27, u28, u29, u30, u31, .int .i64 ((3 : Nat) : Int), .bool false, u34, u35, u36, u37, u38, u39, u40, u41, u42, u43, .pointer (some ⟨c, 0, none⟩), .agg LX.toArray, .agg LZ.toArray, .agg L.toArray, .pointer (some ⟨c, 0, none⟩), .agg A2.toArray, .agg A3.toArray, .agg L.toArray, .bool true, .bool true, .pointer (some ⟨c, 0, none⟩), .pointer (some ⟨c, 0, none⟩), .agg A2.toArray, undef, undef, undef, undef, undef, undef, undef, undef, undef], defers := [] } : Act) _
            refine take_if 13 (v := .agg A3.toArray) rfl (by kernel_rfl) (yieldsIf_load_mid (by rfl) _ _ rfl (B + 1 + 1 + 1) 0 rfl A3 _ (fun w' hw => by rw [← hA3]; exact hw.u.range) Try.underlying23 rfl j3) hH ?_
            show wpAnyH _ _ _ _ _ _ _ ({ tmps := #[.agg A0.toArray, .agg A1.toArray, .agg A2.toArray, .agg A3.toArray, .pointer (some ⟨B, 0, none⟩), .pointer (some ⟨B + 1, 0, none⟩), .pointer (some ⟨B + 1 + 1, 0, none⟩), .pointer (some ⟨B + 1 + 1 + 1, 0, none⟩), .bool false, .pointer (some ⟨c, 0, none⟩), .pointer (some ⟨J, 0, none⟩), u11, u12, .pointer (some ⟨c, 0, none⟩), .pointer (some ⟨c, 0, none⟩), .bool false, .pointer (some ⟨c, 0, none⟩), .agg A0.toArray, .agg A1.toArray, .agg (arr 36 X).toArray, .int .i64 ((36 : Nat) : Int), .bool false, u22, u23, u24, u25, u26, u27, u28, u29, u30, u31, .int .i64 ((3 : Nat) : Int), .bool false, u34, u35, u36, u37, u38, u39, u40, u41, u42, u43, .pointer (some ⟨c, 0, none⟩), .agg LX.toArray, .agg LZ.toArray, .agg L.toArray, .pointer (some ⟨c, 0, none⟩), .agg A2.toArray, .agg A3.toArray, .agg L.toArray, .bool true, .bool true, .pointer (some ⟨c, 0, none⟩), .pointer (some ⟨c, 0, none⟩), .agg A2.toArray, .agg A3.toArray, undef, undef, undef, undef, undef, undef, undef, undef], defers := [] } : Act) _
            refine take_if 16 (v := .pointer (some ⟨c, 0, none⟩)) rfl (by kernel_rfl) (.inl ⟨by rfl, fun w' hw => by simp [execOp, go_sem]⟩) hH ?_
            show wpAnyH _ _ _ _ _ _ _ ({ tmps := #[.agg A0.toArray, .agg A1.toArray, .agg A2.toArray, .agg A3.toArray, .pointer (some ⟨B, 0, none⟩), .pointer (some ⟨B + 1, 0, none⟩), .pointer (some ⟨B + 1 + 1, 0, none⟩), .pointer (some ⟨B + 1 + 1 + 1, 0, none⟩), .bool false, .pointer (some ⟨c, 0, none⟩), .pointer (some ⟨J, 0, none⟩), u11, u12, .pointer (some ⟨c, 0, none⟩), .pointer (some ⟨c, 0, none⟩), .bool false, .pointer (some ⟨c, 0, none⟩), .agg A0.toArray, .agg A1.toArray, .agg (arr 36 X).toArray, .int .i64 ((36 : Nat) : Int), .bool false, u22, u23, u24, u25, u26, u27, u28, u29, u30, u31, .int .i64 ((3 : Nat) : Int), .bool false, u34, u35, u36, u37, u38, u39, u40, u41, u42, u43, .pointer (some ⟨c, 0, none⟩), .agg LX.toArray, .agg LZ.toArray, .agg L.toArray, .pointer (some ⟨c, 0, none⟩), .agg A2.toArray, .agg A3.toArray, .agg L.toArray, .bool true, .bool true, .pointer (some ⟨c, 0, none⟩), .pointer (some ⟨c, 0, none⟩), .agg A2.toArray, .agg A3.toArray, undef, undef, .pointer (some ⟨c, 0, none⟩), undef, undef, undef, undef, undef], defers := [] } : Act) _
            refine take_if 17 (v := .agg LX.toArray) rfl (by kernel_rfl) (yieldsIf_load_mid (by rfl) _ _ rfl J 0 rfl LX _ (fun w' hw => by rw [← hLX]; exact hw.o.range) Try.underlying24 rfl k36) hH ?_
            show wpAnyH _ _ _ _ _ _ _ ({ tmps := #[.agg A0.toArray, .agg A1.toArray, .agg A2.toArray, .agg A3.toArray, .pointer (some ⟨B, 0, none⟩), .pointer (some ⟨B + 1, 0, none⟩), .pointer (some ⟨B + 1 + 1, 0, none⟩), .pointer (some ⟨B + 1 + 1 + 1, 0, none⟩), .bool false, .pointer (some ⟨c, 0, none⟩), .pointer (some ⟨J, 0, none⟩), u11, u12, .pointer (some ⟨c, 0, none⟩), .pointer (some ⟨c, 0, none⟩), .bool false, .pointer (some ⟨c, 0, none⟩), .agg A0.toArray, .agg A1.toArray, .agg (arr 36 X).toArray, .int .i64 ((36 : Nat) : Int), .bool false, u22, u23, u24, u25, u26, u27, u28, u29, u30, u31, .int .i64 ((3 : Nat) : Int), .bool false, u34, u35, u36, u37, u38, u39, u40, u41, u42, u43, .pointer (some ⟨c, 0, none⟩), .agg LX.toArray, .agg LZ.toArray, .agg L.toArray, .pointer (some ⟨c, 0, none⟩), .agg A2.toArray, .agg A3.toArray, .agg L.toArray, .bool true, .bool true, .pointer (some ⟨c, 0, none⟩), .pointer (some ⟨c, 0, none⟩), .agg A2.toArray, .agg A3.toArray, undef, undef, .pointer (some ⟨c, 0, none⟩), .agg LX.toArray, undef, undef, undef, undef], defers := [] } : Act) _
            refine take_if 18 (v := .agg LZ.toArray) rfl (by kernel_rfl) (yieldsIf_load_mid (by rfl) _ _ rfl (B + 1) 0 rfl LZ _ (fun w' hw => by rw [← hLZ]; exact hw.v.range) Try.underlying23 rfl k3) hH ?_
            show wpAnyH _ _ _ _ _ _ _ ({ tmps := #[.agg A0.toArray, .agg A1.toArray, .agg A2.toArray, .agg A3.toArray, .pointer (some ⟨B, 0, none⟩), .pointer (some ⟨B + 1, 0, none⟩), .pointer (some ⟨B + 1 + 1, 0, none⟩), .pointer (some ⟨B + 1 + 1 + 1, 0, none⟩), .bool false, .pointer (some ⟨c, 0, none⟩), .pointer (some ⟨J, 0, none⟩), u11, u12, .pointer (some ⟨c, 0, none⟩), .pointer (some ⟨c, 0, none⟩), .bool false, .pointer (some ⟨c, 0, none⟩), .agg A0.toArray, .agg A1.toArray, .agg (arr 36 X).toArray, .int .i64 ((36 : Nat) : Int), .bool false, u22, u23, u24, u25, u26, u27, u28, u29, u30, u31, .int .i64 ((3 : Nat) : Int), .bool false, u34, u35, u36, u37, u38, u39, u40, u41, u42, u43, .pointer (some ⟨c, 0, none⟩), .agg LX.toArray, .agg LZ.toArray, .agg L.toArray, .pointer (some ⟨c, 0, none⟩), .agg A2.toArray, .agg A3.toArray, .agg L.toArray, .bool true, .bool true, .pointer (some ⟨c, 0, none⟩), .pointer (some ⟨c, 0, none⟩), .agg A2.toArray, .agg A3.toArray, undef, undef, .pointer (some ⟨c, 0, none⟩), .agg LX.toArray, .agg LZ.toArray, undef, undef, undef], defers := [] } : Act) _
            refine take_oneG 14 rfl (by rfl) (by kernel_rfl) ?_
            refine wp_contract 15 [.tmp 55, .tmp 56, .tmp 57] _ rfl (enters_of Try.func15 (by kernel_rfl) rfl) [.pointer (some ⟨c, 0, none⟩), .agg A2.toArray, .agg A3.toArray] rfl (cS2.out _ hH.code) ?_
            rintro e W' ⟨rfl, hB1⟩
            refine ⟨_, rfl, hH.next hB1, fun hH => ?_⟩
            show wpAnyH _ _ _ _ _ _ _ ({ tmps := #[.agg A0.toArray, .agg A1.toArray, .agg A2.toArray, .agg A3.toArray, .pointer (some ⟨B, 0, none⟩), .pointer (some ⟨B + 1, 0, none⟩), .pointer (some ⟨B + 1 + 1, 0, none⟩), .pointer (some ⟨B + 1 + 1 + 1, 0, none⟩), .bool false, .pointer (some ⟨c, 0, none⟩), .pointer (some ⟨J, 0, none⟩), u11, u12, .pointer (some ⟨c, 0, none⟩), .pointer (some ⟨c, 0, none⟩), .bool false, .pointer (some ⟨c, 0, none⟩), .agg A0.toArray, .agg A1.toArray, .agg (arr 36 X).toArray, .int .i64 ((36 : Nat) : Int), .bool false, u22, u23, u24, u25, u26, u27, u28, u29, u30, u31, .int .i64 ((3 : Nat) : Int), .bool false, u34, u35, u36, u37, u38, u39, u40, u41, u42, u43, .pointer (some ⟨c, 0, none⟩), .agg LX.toArray, .agg LZ.toArray, .agg L.toArray, .pointer (some ⟨c, 0, none⟩), .agg A2.toArray, .agg A3.toArray, .agg L.toArray, .bool true, .bool true, .pointer (some ⟨c, 0, none⟩), .pointer (some ⟨c, 0, none⟩), .agg A2.toArray, .agg A3.toArray, .agg L.toArray, undef, .pointer (some ⟨c, 0, none⟩), .agg LX.toArray, .agg LZ.toArray, undef, undef, undef], defers := [] } : Act) _
            refine take_oneG 15 rfl (by rfl) (by kernel_rfl) ?_
            refine wp_contract 18 [.tmp 54, .tmp 58] _ rfl (enters_of Try.func18 (by kernel_rfl) rfl) [.pointer (some ⟨c, 0, none⟩), .agg L.toArray] rfl (cL.out _ hH.code) ?_
            rintro e W' ⟨rfl, hB1⟩
            refine ⟨_, rfl, hH.next hB1, fun hH => ?_⟩
            show wpAnyH _ _ _ _ _ _ _ ({ tmps := #[.agg A0.toArray, .agg A1.toArray, .agg A2.toArray, .agg A3.toArray, .pointer (some ⟨B, 0, none⟩), .pointer (some ⟨B + 1, 0, none⟩), .pointer (some ⟨B + 1 + 1, 0, none⟩), .pointer (some ⟨B + 1 + 1 + 1, 0, none⟩), .bool false, .pointer (some ⟨c, 0, none⟩), .pointer (some ⟨J, 0, none⟩), u11, u12, .pointer (some ⟨c, 0, none⟩), .pointer (some ⟨c, 0, none⟩), .bool false, .pointer (some ⟨c, 0, none⟩), .agg A0.toArray, .agg A1.toArray, .agg (arr 36 X).toArray, .int .i64 ((36 : Nat) : Int), .bool false, u22, u23, u24, u25, u26, u27, u28, u29, u30, u31, .int .i64 ((3 : Nat) : Int), .bool false, u34, u35, u36, u37, u38, u39, u40, u41, u42, u43, .pointer (some ⟨c, 0, none⟩), .agg LX.toArray, .agg LZ.toArray, .agg L.toArray, .pointer (some ⟨c, 0, none⟩), .agg A2.toArray, .agg A3.toArray, .agg L.toArray, .bool true, .bool true, .pointer (some ⟨c, 0, none⟩), .pointer (some ⟨c, 0, none⟩), .agg A2.toArray, .agg A3.toArray, .agg L.toArray, .agg #[.int .i64 k, .int .i64 p, .int .u8 v], .pointer (some ⟨c, 0, none⟩), .agg LX.toArray, .agg LZ.toArray, undef, undef, undef], defers := [] } : Act) _
            refine take_oneG 19 rfl (by rfl) (by kernel_rfl) ?_
            refine wp_contract 23 [.tmp 60, .tmp 61, .tmp 62] _ rfl (enters_of Try.func23 (by kernel_rfl) rfl) [.pointer (some ⟨c, 0, none⟩), .agg LX.toArray, .agg LZ.toArray] rfl (cV.out _ hH.code) ?_
            rintro e W' ⟨rfl, hB1⟩
            refine ⟨_, rfl, hH.next hB1, fun hH => ?_⟩
            show wpAnyH _ _ _ _ _ _ _ ({ tmps := #[.agg A0.toArray, .agg A1.toArray, .agg A2.toArray, .agg A3.toArray, .pointer (some ⟨B, 0, none⟩), .pointer (some ⟨B + 1, 0, none⟩), .pointer (some ⟨B + 1 + 1, 0, none⟩), .pointer (some ⟨B + 1 + 1 + 1, 0, none⟩), .bool false, .pointer (some ⟨c, 0, none⟩), .pointer (some ⟨J, 0, none⟩), u11, u12, .pointer (some ⟨c, 0, none⟩), .pointer (some ⟨c, 0, none⟩), .bool false, .pointer (some ⟨c, 0, none⟩), .agg A0.toArray, .agg A1.toArray, .agg (arr 36 X).toArray, .int .i64 ((36 : Nat) : Int), .bool false, u22, u23, u24, u25, u26, u27, u28, u29, u30, u31, .int .i64 ((3 : Nat) : Int), .bool false, u34, u35, u36, u37, u38, u39, u40, u41, u42, u43, .pointer (some ⟨c, 0, none⟩), .agg LX.toArray, .agg LZ.toArray, .agg L.toArray, .pointer (some ⟨c, 0, none⟩), .agg A2.toArray, .agg A3.toArray, .agg L.toArray, .bool true, .bool true, .pointer (some ⟨c, 0, none⟩), .pointer (some ⟨c, 0, none⟩), .agg A2.toArray, .agg A3.toArray, .agg L.toArray, .agg #[.int .i64 k, .int .i64 p, .int .u8 v], .pointer (some ⟨c, 0, none⟩), .agg LX.toArray, .agg LZ.toArray, .agg #[.int .i64 k, .int .i64 p, .int .u8 v], undef, undef], defers := [] } : Act) _
            refine take_if 20 (v := .bool true) rfl (by kernel_rfl) (.inl ⟨by rfl, fun w' hw => by simp [execOp, go_sem]⟩) hH ?_
            show wpAnyH _ _ _ _ _ _ _ ({ tmps := #[.agg A0.toArray, .agg A1.toArray, .agg A2.toArray, .agg A3.toArray, .pointer (some ⟨B, 0, none⟩), .pointer (some ⟨B + 1, 0, none⟩), .pointer (some ⟨B + 1 + 1, 0, none⟩), .pointer (some ⟨B + 1 + 1 + 1, 0, none⟩), .bool false, .pointer (some ⟨c, 0, none⟩), .pointer (some ⟨J, 0, none⟩), u11, u12, .pointer (some ⟨c, 0, none⟩), .pointer (some ⟨c, 0, none⟩), .bool false, .pointer (some ⟨c, 0, none⟩), .agg A0.toArray, .agg A1.toArray, .agg (arr 36 X).toArray, .int .i64 ((36 : Nat) : Int), .bool false, u22, u23, u24, u25, u26, u27, u28, u29, u30, u31, .int .i64 ((3 : Nat) : Int), .bool false, u34, u35, u36, u37, u38, u39, u40, u41, u42, u43, .pointer (some ⟨c, 0, none⟩), .agg LX.toArray, .agg LZ.toArray, .agg L.toArray, .pointer (some ⟨c, 0, none⟩), .agg A2.toArray, .agg A3.toArray, .agg L.toArray, .bool true, .bool true, .pointer (some ⟨c, 0, none⟩), .pointer (some ⟨c, 0, none⟩), .agg A2.toArray, .agg A3.toArray, .agg L.toArray, .agg #[.int .i64 k, .int .i64 p, .int .u8 v], .pointer (some ⟨c, 0, none⟩), .agg LX.toArray, .agg LZ.toArray, .agg #[.int .i64 k, .int .i64 p, .int .u8 v], .bool true, undef], defers := [] } : Act) _
            refine take_pure 21 (v := .bool true) rfl (by kernel_rfl) rfl (fun w' hw => by simp [execOp, go_sem]) hH ?_
            show wpAnyH _ _ _ _ _ _ _ ({ tmps := #[.agg A0.toArray, .agg A1.toArray, .agg A2.toArray, .agg A3.toArray, .pointer (some ⟨B, 0, none⟩), .pointer (some ⟨B + 1, 0, none⟩), .pointer (some ⟨B + 1 + 1, 0, none⟩), .pointer (some ⟨B + 1 + 1 + 1, 0, none⟩), .bool false, .pointer (some ⟨c, 0, none⟩), .pointer (some ⟨J, 0, none⟩), u11, u12, .pointer (some ⟨c, 0, none⟩), .pointer (some ⟨c, 0, none⟩), .bool false, .pointer (some ⟨c, 0, none⟩), .agg A0.toArray, .agg A1.toArray, .agg (arr 36 X).toArray, .int .i64 ((36 : Nat) : Int), .bool false, u22, u23, u24, u25, u26, u27, u28, u29, u30, u31, .int .i64 ((3 : Nat) : Int), .bool false, u34, u35, u36, u37, u38, u39, u40, u41, u42, u43, .pointer (some ⟨c, 0, none⟩), .agg LX.toArray, .agg LZ.toArray, .agg L.toArray, .pointer (some ⟨c, 0, none⟩), .agg A2.toArray, .agg A3.toArray, .agg L.toArray, .bool true, .bool true, .pointer (some ⟨c, 0, none⟩), .pointer (some ⟨c, 0, none⟩), .agg A2.toArray, .agg A3.toArray, .agg L.toArray, .agg #[.int .i64 k, .int .i64 p, .int .u8 v], .pointer (some ⟨c, 0, none⟩), .agg LX.toArray, .agg LZ.toArray, .agg #[.int .i64 k, .int .i64 p, .int .u8 v], .bool true, .bool true], defers := [] } : Act) _
            refine take_pure 22 (v := .bool true) rfl (by kernel_rfl) rfl (fun w' hw => by simp [execOp, go_sem]) hH ?_
            show wpAnyH _ _ _ _ _ _ _ ({ tmps := #[.agg A0.toArray, .agg A1.toArray, .agg A2.toArray, .agg A3.toArray, .pointer (some ⟨B, 0, none⟩), .pointer (some ⟨B + 1, 0, none⟩), .pointer (some ⟨B + 1 + 1, 0, none⟩), .pointer (some ⟨B + 1 + 1 + 1, 0, none⟩), .bool true, .pointer (some ⟨c, 0, none⟩), .pointer (some ⟨J, 0, none⟩), u11, u12, .pointer (some ⟨c, 0, none⟩), .pointer (some ⟨c, 0, none⟩), .bool false, .pointer (some ⟨c, 0, none⟩), .agg A0.toArray, .agg A1.toArray, .agg (arr 36 X).toArray, .int .i64 ((36 : Nat) : Int), .bool false, u22, u23, u24, u25, u26, u27, u28, u29, u30, u31, .int .i64 ((3 : Nat) : Int), .bool false, u34, u35, u36, u37, u38, u39, u40, u41, u42, u43, .pointer (some ⟨c, 0, none⟩), .agg LX.toArray, .agg LZ.toArray, .agg L.toArray, .pointer (some ⟨c, 0, none⟩), .agg A2.toArray, .agg A3.toArray, .agg L.toArray, .bool true, .bool true, .pointer (some ⟨c, 0, none⟩), .pointer (some ⟨c, 0, none⟩), .agg A2.toArray, .agg A3.toArray, .agg L.toArray, .agg #[.int .i64 k, .int .i64 p, .int .u8 v], .pointer (some ⟨c, 0, none⟩), .agg LX.toArray, .agg LZ.toArray, .agg #[.int .i64 k, .int .i64 p, .int .u8 v], .bool true, .bool true], defers := [] } : Act) _
            exact wpAnyH_done (by kernel_rfl) ⟨rfl, hH.below⟩ _
          · obtain ⟨ha, hbel⟩ := hr
            rw [ha]
            clear ha a'
            go_wp2
            go_ret
            exact ⟨rfl, by first | exact hbel | (rw [hB]; exact hbel)⟩
theorem rsSyndromes_walk (a0 : Nat → Int) (a1 : Nat → Int) (a2 : Nat → Int) (a3 : Nat → Int) (w0 : ∀ i, i < 32 → (Lit.int .u8 (a0 i)).wf = true) (w1 : ∀ i, i < 3 → (Lit.int .u8 (a1 i)).wf = true) (w2 : ∀ i, i < 36 → (Lit.int .u8 (a2 i)).wf = true) (w3 : ∀ i, i < 3 → (Lit.int .u8 (a3 i)).wf = true) (w : World) :
    Calls Try.prog 9 #[.agg (ints .u8 32 a0).toArray, .agg (ints .u8 3 a1).toArray, .agg (ints .u8 36 a2).toArray, .agg (ints .u8 3 a3).toArray] w fun e w' => e = .returned (.bool true) ∧ Below w.heap.size w w' := by
  rw [ints_arr 32 a0 w0, ints_arr 3 a1 w1, ints_arr 36 a2 w2, ints_arr 3 a3 w3]
  exact rsSyndromes_core _ _ _ _ w
end Go.Proofs.Ytmkjdpokcfeieaa
