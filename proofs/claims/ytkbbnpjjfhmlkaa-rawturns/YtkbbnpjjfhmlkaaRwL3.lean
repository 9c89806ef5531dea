/-
  RawTurns.
-/
import Derived.Test.YtkbbnpjjfhmlkaaRwL2
import Derived.Test.YtkbbnpjjfhmlkaaRwW12
namespace Go.Proofs.Ytkbbnpjjfhmlkaa
open Go.RowKit Go.Shelf
attribute [local go_sem] Oper.semAt_some

theorem flR_byts (F : Nat → Int) (hF : Byts 72 F) (i : Nat) : Byts 72 (flR F i) := fun j hj => by
  have := flp_byt (pc F 0 72) i (fun j => pc_byt F 0 72 j hF (by omega)) j
  unfold flR; omega
theorem frR_byts (F : Nat → Int) (hF : Byts 72 F) (i v : Nat) (hv : v ≤ 1) : Byts 72 (frR F i v) := fun j hj => by
  have h := hF j hj
  unfold frR
  split
  · have := fc_lt (F j).toNat (by omega) (i % 8) (by omega) v (by omega); omega
  · exact h
theorem ex_flip {m n k : Int} (h : Md m n k) (h0 : 0 < n) (F : Nat → Int) (hF : Byts 72 F) (i : Nat) (hi : i < 576) : ex m n k (flR F i) F = 1 := by
  have hb := hF (i / 8) (by omega)
  have hd : ∀ m, Rw.dl m (flR F i (i / 8)) (F (i / 8)) = 1 := fun m => by
    rw [flR_at F hF i _ (by omega), if_pos rfl]
    have := Rw.dl_flip m (F (i / 8)).toNat (i % 8) (by omega) (by omega)
    rwa [show (((F (i / 8)).toNat : Nat) : Int) = F (i / 8) by omega] at this
  have hne : ∀ j, j < 72 → j ≠ i / 8 → flR F i j = F j := fun j hj e => by rw [flR_at F hF i j hj, if_neg e]
  rcases h with ⟨rfl, rfl, rfl⟩ | ⟨rfl, rfl, rfl⟩ | ⟨_, _, rfl, rfl⟩
  · exact (Rw.mx_one 1 _ _ 9 8 (i / 8) (by omega) (by omega) fun j hj e => hne j (by omega) e).trans (hd 1)
  · exact (Rw.mx_one 2 _ _ 36 2 (i / 8) (by omega) (by omega) fun j hj e => hne j (by omega) e).trans (hd 2)
  · omega

/-- what RawTurns holds: what it was given in B, turned in P, as it should be in Q -/
structure Tr (B P Q : Nat) (F Y Z : Nat → Int) (w W : World) : Prop where
  a : Bk .u8 W B 72 F
  f : Bk .u8 W P 72 Y
  q : Bk .u8 W Q 72 Z
  below : Below B w W
theorem Tr.next {B P Q : Nat} {F Y Z : Nat → Int} {w W W' : World} (h : Tr B P Q F Y Z w W) (k : Below W.heap.size W W') : Tr B P Q F Y Z w W' :=
  ⟨h.a.next k, h.f.next k, h.q.next k, h.below.trans (k.mono (Nat.le_of_lt h.a.lt))⟩

set_option maxRecDepth 100000 in
set_option maxHeartbeats 400000 in
theorem rawTurns_yes (m b value c v : Int) (F : Nat → Int) (hF : Byts 72 F) (hv : 0 ≤ v ∧ v < 256) (hb0 : 0 ≤ b) (hb : b < 576) (w : World) :
    Calls Try.prog 5 #[.int .i64 m, .agg (ints .u8 72 F).toArray, .int .i64 b, .int .i64 value, .int .i64 c, .int .u8 v] w fun e w' => e = .returned (.bool true) ∧ Below w.heap.size w w' := by
  obtain ⟨n, k, hm⟩ := md_any m
  have cA : Hid (∀ W : World, Calls Try.prog 8 #[] W fun e w' => e = .returned (.bool true) ∧ Below W.heap.size W w') := anchor9_any
  have cR : Hid (∀ W : World, Calls Try.prog 9 #[.int .i64 m] W fun e w' => e = .returned (.int .i64 n) ∧ w' = W) := refChips_any hm
  have hC := chp_byts n.toNat c F v hF hv
  have cC := chipR_any hm F v c
  have cD := refChip_any hm F v c
  obtain ⟨i, rfl⟩ : ∃ i : Nat, b = (i : Int) := ⟨b.toNat, by omega⟩
  have hi : i < 576 := by omega
  obtain ⟨v9, hv9, hv9le⟩ : ∃ v9 : Nat, bits .and .i64 value 1 = (v9 : Int) ∧ v9 ≤ 1 := ⟨(value % 2).toNat, by rw [i64_and1]; omega, by omega⟩
  have cFl := flipR_yes F hF i hi
  have cFo := forceR_yes F hF i hi value v9 hv9 hv9le
  have cG := refForce_yes F hF i hi value v9 hv9 hv9le
  have hY := flR_byts F hF i
  have hV9 := frR_byts F hF i v9 hv9le
  have hg := gb_le (pc F 0 72) i
  have cGet := fun (B : Nat) (W : World) (h : Bk .u8 W B 72 F) => refGet_any (some ⟨B, 0, none⟩) 72 72 (pc F 0 72) i (by omega) (by omega) W (all_sl F W B hF h)
  have cWant := refForce_yes F hF i hi ((1 - gb (pc F 0 72) i : Nat) : Int) (1 - gb (pc F 0 72) i) (by rw [i64_and1]; omega) (by omega)
  rw [← ints_congr .u8 72 (flR F i) (frR F i (1 - gb (pc F 0 72) i)) (fun j hj => frR_flip F hF i hi j hj)] at cWant
  obtain ⟨g, hgg⟩ : ∃ g, gb (pc F 0 72) i = g := ⟨_, rfl⟩
  rw [hgg] at hg cWant cGet
  have hgi : (1 : Int) - (g : Int) = ((1 - g : Nat) : Int) := by omega
  obtain ⟨z, hzz⟩ : ∃ z : Nat, 1 - g = z := ⟨_, rfl⟩
  rw [hzz] at cWant hgi
  have hEx : 0 < n → ex m n k (flR F i) F = 1 := fun h0 => ex_flip hm h0 F hF i hi
  have cEx := exposure_any hm (flR F i) F hY hF
  obtain ⟨Y, hYY⟩ : ∃ Y, flR F i = Y := ⟨_, rfl⟩
  obtain ⟨V9, hVV⟩ : ∃ V9, frR F i v9 = V9 := ⟨_, rfl⟩
  rw [hYY] at cFl hY cWant hEx cEx
  rw [hVV] at cFo cG hV9

  obtain ⟨A0, hA0⟩ : ∃ A, ints .u8 72 F = A := ⟨_, rfl⟩
  obtain ⟨A1, hA1⟩ : ∃ A, ints .u8 72 Y = A := ⟨_, rfl⟩
  obtain ⟨A2, hA2⟩ : ∃ A, ints .u8 72 V9 = A := ⟨_, rfl⟩
  obtain ⟨A3, hA3⟩ : ∃ A, ints .u8 72 (Rw.chp n.toNat c F v) = A := ⟨_, rfl⟩
  obtain ⟨Z, hZ⟩ : ∃ A, (ints .u8 72 fun _ => 0).toArray = A := ⟨_, rfl⟩
  have i0 : (Try.prog.info? 23).map (·.size) = some A0.length := by rw [← hA0, ints_len]; exact infoR
  have i1 : (Try.prog.info? 23).map (·.size) = some A1.length := by rw [← hA1, ints_len]; exact infoR
  have j0 : (Try.prog.info? 23).map (·.size) = some A0.toArray.size := by simpa using i0
  have j1 : (Try.prog.info? 23).map (·.size) = some A1.toArray.size := by simpa using i1
  have o0 : A0.toArray.all (·.oneCell') = true := by rw [← hA0]; exact ints_one .u8 72 _
  have o1 : A1.toArray.all (·.oneCell') = true := by rw [← hA1]; exact ints_one .u8 72 _
  have n1 : ∀ w, (binOp .neq 23 (.agg A1.toArray) (.agg A1.toArray)).run Try.prog w = .ok (.bool false) w := fun w => by rw [← hA1]; exact neqR Y Y hY hY true ⟨fun _ _ _ => rfl, fun _ => rfl⟩ w
  have n2 : ∀ w, (binOp .neq 23 (.agg A2.toArray) (.agg A2.toArray)).run Try.prog w = .ok (.bool false) w := fun w => by rw [← hA2]; exact neqR V9 V9 hV9 hV9 true ⟨fun _ _ _ => rfl, fun _ => rfl⟩ w
  have n3 : ∀ w, (binOp .neq 23 (.agg A3.toArray) (.agg A3.toArray)).run Try.prog w = .ok (.bool false) w := fun w => by rw [← hA3]; exact neqR _ _ hC hC true ⟨fun _ _ _ => rfl, fun _ => rfl⟩ w
  have hz := zeroR
  rw [hZ] at hz
  rw [hA0, hA3] at cC cD
  rw [hA0, hA1] at cFl
  rw [hA0, hA2] at cFo cG
  have CC : Hid (∀ W : World, Calls Try.prog 22 #[.agg A0.toArray, .int .i64 m, .int .i64 c, .int .u8 v] W fun e w' => e = .returned (.agg A3.toArray) ∧ Below W.heap.size W w') := cC
  have CD : Hid (∀ W : World, Calls Try.prog 23 #[.int .i64 m, .agg A0.toArray, .int .i64 c, .int .u8 v] W fun e w' => e = .returned (.agg A3.toArray) ∧ Below W.heap.size W w') := cD
  have CFl : Hid (∀ W : World, Calls Try.prog 18 #[.agg A0.toArray, .int .i64 (i : Int)] W fun e w' => e = .returned (.agg A1.toArray) ∧ Below W.heap.size W w') := cFl
  have CFo : Hid (∀ W : World, Calls Try.prog 21 #[.agg A0.toArray, .int .i64 (i : Int), .int .i64 value] W fun e w' => e = .returned (.agg A2.toArray) ∧ Below W.heap.size W w') := cFo
  have CG : Hid (∀ W : World, Calls Try.prog 19 #[.agg A0.toArray, .int .i64 (i : Int), .int .i64 value] W fun e w' => e = .returned (.agg A2.toArray) ∧ Below W.heap.size W w') := cG
  have HA : Hid (ints .u8 72 F = A0 ∧ ints .u8 72 Y = A1 ∧ (ints .u8 72 fun _ => 0).toArray = Z) := ⟨hA0, hA1, hZ⟩
  have gd := gdR
  rw [hA0]
  have HN : Hid (Bk .u8 (w.alloc (.cells A0.toArray 23)) w.heap.size 72 F ∧ Below w.heap.size w (w.alloc (.cells A0.toArray 23))) := by
    rw [← hA0]
    exact ⟨Bk.new .u8 w 72 F _, (Below.refl _ w).alloc (Nat.le_refl _) _⟩
  rw [hA0, hA1] at cWant
  rw [hA1, hA0] at cEx
  have CW : Hid (∀ W : World, Calls Try.prog 19 #[.agg A0.toArray, .int .i64 (i : Int), .int .i64 (z : Int)] W fun e w' => e = .returned (.agg A1.toArray) ∧ Below W.heap.size W w') := cWant
  have CGet : Hid (∀ (B : Nat) (W : World), Bk .u8 W B 72 F → Calls Try.prog 20 #[.slice (some ⟨B, 0, none⟩) 72 72, .int .i64 (i : Int)] W fun e w' => e = .returned (.int .i64 (g : Int)) ∧ w' = W) := cGet
  have CEx : Hid (0 < n → ∀ W : World, Calls Try.prog 16 #[.int .i64 m, .agg A1.toArray, .agg A0.toArray] W fun e w' => e = .returned (.int .i64 1) ∧ Below W.heap.size W w') := fun h0 W => by have := cEx W; rwa [hEx h0] at this
  have HM : Hid (Md m n k) := hm
  clear cC cD cFl cFo cG cWant cGet cEx hA0 hA1 hA2 hA3 hZ hF hC hY hV9 hYY hVV hgg hzz hEx hv9 hm
  go_enter Try.func5, Try.ntmps5
  go_wp2_with fail
  obtain ⟨V, hV⟩ : ∃ V, w.alloc (.cells A0.toArray 23) = V := ⟨_, rfl⟩
  obtain ⟨B, hB⟩ : ∃ B, w.heap.size = B := ⟨_, rfl⟩
  rw [hV] at HN ⊢
  rw [hB] at HN ⊢
  refine (cA.out _).mono ?_
  rintro e V1 ⟨rfl, b1⟩
  replace HN : Hid (Bk .u8 V1 B 72 F ∧ Below B w V1) := ⟨HN.out.1.next b1, HN.out.2.trans (b1.mono (Nat.le_of_lt HN.out.1.lt))⟩
  clear b1 hV V
  have r0 := HN.out.1.range
  rw [HA.out.1] at r0
  go_wp2_with (first | refine wpList_load_mid rfl 23 _ rfl B 0 rfl A0 _ r0 Try.underlying23 rfl i0 ?_ | (go_at_call 9; refine (cR.out _).mono ?_; rintro e w' ⟨rfl, hw2⟩; rw [hw2]; clear hw2 w'))
  refine (CFl.out _).mono ?_
  rintro e V2 ⟨rfl, b2⟩
  replace HN : Hid (Bk .u8 V2 B 72 F ∧ Below B w V2) := ⟨HN.out.1.next b2, HN.out.2.trans (b2.mono (Nat.le_of_lt HN.out.1.lt))⟩
  clear b2 r0 CFl
  have ht : (V2.alloc (.cells Z 23)).there V2.heap.size 0 A1.toArray.size := by
    rw [← HA.out.2.2, ← HA.out.2.1]
    exact (Bk.new .u8 V2 72 (fun _ => 0) 23).there .u8 Y
  go_upto_region 6 with (first | refine wpList_store_mid rfl 23 _ _ rfl _ 0 A1.toArray rfl rfl ht j1 o1 ?_)
  obtain ⟨V3, hV3⟩ : ∃ V3, (V2.alloc (.cells Z 23)).setCells V2.heap.size 0 A1 = V3 := ⟨_, rfl⟩
  have HR0 : Rc B V2.heap.size F Y w V3 := by
    have hlt := HN.out.1.lt
    rw [← hV3, ← HA.out.2.2, ← HA.out.2.1]
    exact ⟨(HN.out.1.alloc _).putOther (by omega) 0 _, (Bk.new .u8 V2 72 (fun _ => 0) 23).put Y, belows_put (by omega) _ 0 (HN.out.2.alloc (by omega) _)⟩
  have hne : B < V2.heap.size := HN.out.1.lt
  obtain ⟨P, hP⟩ : ∃ P, V2.heap.size = P := ⟨_, rfl⟩
  rw [hV3]
  rw [hP] at HR0 hne ⊢
  obtain ⟨Q, hQ⟩ : ∃ Q, V3.heap.size = Q := ⟨_, rfl⟩
  have nQ : B < Q ∧ P < Q := by have h1 := HR0.a.lt; have h2 := HR0.x.lt; omega
  have HR : Hid (Rc B P F Y w V3) := HR0
  clear HR0 hV3 ht HN hP hne V2
  have ra : Hid (∀ W, Bk .u8 W B 72 F → W.rangeAt B 0 A0) := fun W h => by rw [← HA.out.1]; exact h.range
  have rp : Hid (∀ W, Bk .u8 W P 72 Y → W.rangeAt P 0 A1) := fun W h => by rw [← HA.out.2.1]; exact h.range
  have ht : (V3.alloc (.cells Z 23)).there Q 0 A0.toArray.size := by
    rw [← hQ, ← HA.out.2.2, ← HA.out.1]
    exact (Bk.new .u8 V3 72 (fun _ => 0) 23).there .u8 F
  have r3 := ra.out _ HR.out.a
  go_upto_region 8 with (first | refine wpList_load_mid rfl 23 _ rfl B 0 rfl A0 _ r3 Try.underlying23 rfl i0 ?_ | refine wpList_store_mid rfl 23 _ _ rfl _ 0 A0.toArray rfl rfl ht j0 o0 ?_)
  obtain ⟨V4, hV4⟩ : ∃ V4, (V3.alloc (.cells Z 23)).setCells Q 0 A0 = V4 := ⟨_, rfl⟩
  have HT : Hid (Tr B P Q F Y F w V4) := by
    have hn := Bk.new .u8 V3 72 (fun _ => 0) 23
    rw [hQ, HA.out.2.2] at hn
    have hp := hn.put F
    rw [HA.out.1] at hp
    rw [← hV4]
    exact ⟨(HR.out.a.alloc _).putOther (by omega) 0 _, (HR.out.x.alloc _).putOther (by omega) 0 _, hp, belows_put (by omega) _ 0 (HR.out.below.alloc (by omega) _)⟩
  rw [hV4]
  clear hV4 hQ ht r3 HR hz
  have hwz : IntKind.i64.wrap ((1 : Int) - (g : Int)) = (z : Int) := by rw [hgi, IntKind.wrap_i64]; omega
  have hct := cut0R B
  refine region_ends (by kernel_rfl) (fun W => W.rangeAt B 0 A0) (fun a' W => a' = ({ tmps := #[.int .i64 m, .agg A0.toArray, .int .i64 (i : Int), .int .i64 value, .int .i64 c, .int .u8 v, undef, .pointer (some ⟨B, 0, none⟩), undef, undef, undef, undef, .bool false, .int .i64 n, .bool true, .pointer (some ⟨P, 0, none⟩), .pointer (some ⟨Q, 0, none⟩), undef, undef, undef, .bool true, .bool false, .int .i64 m, .int .i64 n, .int .i64 (i : Int), .bool true, .bool true, .int .i64 (i : Int), .bool true, .bool true, .agg A0.toArray, .int .i64 (i : Int), .agg A1.toArray, .agg A0.toArray, .bool true, .agg A0.toArray, .int .i64 (i : Int), .slice (some ⟨B, 0, none⟩) 72 72, .int .i64 (i : Int), .int .i64 (g : Int), .int .i64 (z : Int), .agg A1.toArray, undef, undef, undef, undef, undef, undef, undef, undef, undef, undef, undef, undef, undef, undef, undef, undef, undef, undef, undef, undef, undef, undef, undef, undef, undef, undef, undef, undef, undef, undef, undef, undef, undef, undef, undef, undef, undef, undef, undef, undef, undef, undef, undef, undef, undef, undef, undef, undef, undef, undef, undef, undef, undef, undef, undef, undef, undef, undef, undef, undef, undef, undef, undef, undef, undef, undef, undef, undef, undef, undef, undef, undef, undef, undef, undef, undef, undef, undef], defers := [] } : Act) ∧ Hid (Tr B P Q F Y Y w W)) (ra.out _ HT.out.a.drew) (fun hH => ?_) ?_
  · skip
    refine take_if 0 (v := .agg A0.toArray) rfl (by kernel_rfl) (yieldsIf_load_mid (by rfl) _ _ rfl B 0 rfl A0 _ (fun w' hw => hw) Try.underlying23 rfl i0) hH ?_
    show wpAnyH _ _ _ _ _ _ _ ({ tmps := #[.int .i64 m, .agg A0.toArray, .int .i64 (i : Int), .int .i64 value, .int .i64 c, .int .u8 v, undef, .pointer (some ⟨B, 0, none⟩), undef, undef, undef, undef, .bool false, .int .i64 n, .bool true, .pointer (some ⟨P, 0, none⟩), .pointer (some ⟨Q, 0, none⟩), undef, undef, undef, .bool true, .bool false, .int .i64 m, .int .i64 n, .int .i64 (i : Int), .bool true, .bool true, .int .i64 (i : Int), .bool true, .bool true, .agg A0.toArray, .int .i64 (i : Int), .agg A1.toArray, .agg A0.toArray, .bool true, .agg A0.toArray, undef, undef, undef, undef, undef, undef, undef, undef, undef, undef, undef, undef, undef, undef, undef, undef, undef, undef, undef, undef, undef, undef, undef, undef, undef, undef, undef, undef, undef, undef, undef, undef, undef, undef, undef, undef, undef, undef, undef, undef, undef, undef, undef, undef, undef, undef, undef, undef, undef, undef, undef, undef, undef, undef, undef, undef, undef, undef, undef, undef, undef, undef, undef, undef, undef, undef, undef, undef, undef, undef, undef, undef, undef, undef, undef, undef, undef, undef, undef, undef, undef, undef, undef, undef], defers := [] } : Act) _
    refine take_pure 1 (v := .int .i64 (i : Int)) rfl (by kernel_rfl) rfl (fun w' hw => by simp [execOp, go_sem]) hH ?_
    show wpAnyH _ _ _ _ _ _ _ ({ tmps := #[.int .i64 m, .agg A0.toArray, .int .i64 (i : Int), .int .i64 value, .int .i64 c, .int .u8 v, undef, .pointer (some ⟨B, 0, none⟩), undef, undef, undef, undef, .bool false, .int .i64 n, .bool true, .pointer (some ⟨P, 0, none⟩), .pointer (some ⟨Q, 0, none⟩), undef, undef, undef, .bool true, .bool false, .int .i64 m, .int .i64 n, .int .i64 (i : Int), .bool true, .bool true, .int .i64 (i : Int), .bool true, .bool true, .agg A0.toArray, .int .i64 (i : Int), .agg A1.toArray, .agg A0.toArray, .bool true, .agg A0.toArray, .int .i64 (i : Int), undef, undef, undef, undef, undef, undef, undef, undef, undef, undef, undef, undef, undef, undef, undef, undef, undef, undef, undef, undef, undef, undef, undef, undef, undef, undef, undef, undef, undef, undef, undef, undef, undef, undef, undef, undef, undef, undef, undef, undef, undef, undef, undef, undef, undef, undef, undef, undef, undef, undef, undef, undef, undef, undef, undef, undef, undef, undef, undef, undef, undef, undef, undef, undef, undef, undef, undef, undef, undef, undef, undef, undef, undef, undef, undef, undef, undef, undef, undef, undef, undef, undef, undef], defers := [] } : Act) _
    refine take_pure 2 (v := .slice (some ⟨B, 0, none⟩) 72 72) rfl (by kernel_rfl) rfl (fun w' hw => exec_sliceR _ _ rfl _ _ rfl hct w') hH ?_
    show wpAnyH _ _ _ _ _ _ _ ({ tmps := #[.int .i64 m, .agg A0.toArray, .int .i64 (i : Int), .int .i64 value, .int .i64 c, .int .u8 v, undef, .pointer (some ⟨B, 0, none⟩), undef, undef, undef, undef, .bool false, .int .i64 n, .bool true, .pointer (some ⟨P, 0, none⟩), .pointer (some ⟨Q, 0, none⟩), undef, undef, undef, .bool true, .bool false, .int .i64 m, .int .i64 n, .int .i64 (i : Int), .bool true, .bool true, .int .i64 (i : Int), .bool true, .bool true, .agg A0.toArray, .int .i64 (i : Int), .agg A1.toArray, .agg A0.toArray, .bool true, .agg A0.toArray, .int .i64 (i : Int), .slice (some ⟨B, 0, none⟩) 72 72, undef, undef, undef, undef, undef, undef, undef, undef, undef, undef, undef, undef, undef, undef, undef, undef, undef, undef, undef, undef, undef, undef, undef, undef, undef, undef, undef, undef, undef, undef, undef, undef, undef, undef, undef, undef, undef, undef, undef, undef, undef, undef, undef, undef, undef, undef, undef, undef, undef, undef, undef, undef, undef, undef, undef, undef, undef, undef, undef, undef, undef, undef, undef, undef, undef, undef, undef, undef, undef, undef, undef, undef, undef, undef, undef, undef, undef, undef, undef, undef, undef, undef], defers := [] } : Act) _
    refine take_pure 3 (v := .int .i64 (i : Int)) rfl (by kernel_rfl) rfl (fun w' hw => by simp [execOp, go_sem]) hH ?_
    show wpAnyH _ _ _ _ _ _ _ ({ tmps := #[.int .i64 m, .agg A0.toArray, .int .i64 (i : Int), .int .i64 value, .int .i64 c, .int .u8 v, undef, .pointer (some ⟨B, 0, none⟩), undef, undef, undef, undef, .bool false, .int .i64 n, .bool true, .pointer (some ⟨P, 0, none⟩), .pointer (some ⟨Q, 0, none⟩), undef, undef, undef, .bool true, .bool false, .int .i64 m, .int .i64 n, .int .i64 (i : Int), .bool true, .bool true, .int .i64 (i : Int), .bool true, .bool true, .agg A0.toArray, .int .i64 (i : Int), .agg A1.toArray, .agg A0.toArray, .bool true, .agg A0.toArray, .int .i64 (i : Int), .slice (some ⟨B, 0, none⟩) 72 72, .int .i64 (i : Int), undef, undef, undef, undef, undef, undef, undef, undef, undef, undef, undef, undef, undef, undef, undef, undef, undef, undef, undef, undef, undef, undef, undef, undef, undef, undef, undef, undef, undef, undef, undef, undef, undef, undef, undef, undef, undef, undef, undef, undef, undef, undef, undef, undef, undef, undef, undef, undef, undef, undef, undef, undef, undef, undef, undef, undef, undef, undef, undef, undef, undef, undef, undef, undef, undef, undef, undef, undef, undef, undef, undef, undef, undef, undef, undef, undef, undef, undef, undef, undef, undef], defers := [] } : Act) _
    refine take_one 4 rfl rfl (by kernel_rfl) ?_
    refine wp_contract 20 [.tmp 37, .tmp 38] _ rfl (enters_of Try.func20 (by kernel_rfl) rfl) [.slice (some ⟨B, 0, none⟩) 72 72, .int .i64 (i : Int)] rfl (CGet.out B V4.drew HT.out.a.drew) ?_
    rintro e W' ⟨rfl, hw5⟩
    refine ⟨_, rfl, (by rw [hw5]; exact hH), fun hH => ?_⟩
    show wpAnyH _ _ _ _ _ _ _ ({ tmps := #[.int .i64 m, .agg A0.toArray, .int .i64 (i : Int), .int .i64 value, .int .i64 c, .int .u8 v, undef, .pointer (some ⟨B, 0, none⟩), undef, undef, undef, undef, .bool false, .int .i64 n, .bool true, .pointer (some ⟨P, 0, none⟩), .pointer (some ⟨Q, 0, none⟩), undef, undef, undef, .bool true, .bool false, .int .i64 m, .int .i64 n, .int .i64 (i : Int), .bool true, .bool true, .int .i64 (i : Int), .bool true, .bool true, .agg A0.toArray, .int .i64 (i : Int), .agg A1.toArray, .agg A0.toArray, .bool true, .agg A0.toArray, .int .i64 (i : Int), .slice (some ⟨B, 0, none⟩) 72 72, .int .i64 (i : Int), .int .i64 (g : Int), undef, undef, undef, undef, undef, undef, undef, undef, undef, undef, undef, undef, undef, undef, undef, undef, undef, undef, undef, undef, undef, undef, undef, undef, undef, undef, undef, undef, undef, undef, undef, undef, undef, undef, undef, undef, undef, undef, undef, undef, undef, undef, undef, undef, undef, undef, undef, undef, undef, undef, undef, undef, undef, undef, undef, undef, undef, undef, undef, undef, undef, undef, undef, undef, undef, undef, undef, undef, undef, undef, undef, undef, undef, undef, undef, undef, undef, undef, undef, undef], defers := [] } : Act) _
    have HT5 : Hid (Tr B P Q F Y F w W') := by rw [hw5]; exact HT.out.next (below_drew1 V4)
    clear hw5
    refine take_pure 5 (v := .int .i64 (z : Int)) rfl (by kernel_rfl) rfl (fun w' hw => by simp [execOp, go_sem, hwz]) hH ?_
    show wpAnyH _ _ _ _ _ _ _ ({ tmps := #[.int .i64 m, .agg A0.toArray, .int .i64 (i : Int), .int .i64 value, .int .i64 c, .int .u8 v, undef, .pointer (some ⟨B, 0, none⟩), undef, undef, undef, undef, .bool false, .int .i64 n, .bool true, .pointer (some ⟨P, 0, none⟩), .pointer (some ⟨Q, 0, none⟩), undef, undef, undef, .bool true, .bool false, .int .i64 m, .int .i64 n, .int .i64 (i : Int), .bool true, .bool true, .int .i64 (i : Int), .bool true, .bool true, .agg A0.toArray, .int .i64 (i : Int), .agg A1.toArray, .agg A0.toArray, .bool true, .agg A0.toArray, .int .i64 (i : Int), .slice (some ⟨B, 0, none⟩) 72 72, .int .i64 (i : Int), .int .i64 (g : Int), .int .i64 (z : Int), undef, undef, undef, undef, undef, undef, undef, undef, undef, undef, undef, undef, undef, undef, undef, undef, undef, undef, undef, undef, undef, undef, undef, undef, undef, undef, undef, undef, undef, undef, undef, undef, undef, undef, undef, undef, undef, undef, undef, undef, undef, undef, undef, undef, undef, undef, undef, undef, undef, undef, undef, undef, undef, undef, undef, undef, undef, undef, undef, undef, undef, undef, undef, undef, undef, undef, undef, undef, undef, undef, undef, undef, undef, undef, undef, undef, undef, undef, undef], defers := [] } : Act) _
    refine take_one 6 rfl rfl (by kernel_rfl) ?_
    refine wp_contract 19 [.tmp 35, .tmp 36, .tmp 40] _ rfl (enters_of Try.func19 (by kernel_rfl) rfl) [.agg A0.toArray, .int .i64 (i : Int), .int .i64 (z : Int)] rfl (CW.out _) ?_
    rintro e W' ⟨rfl, b6⟩
    refine ⟨_, rfl, ra.out _ (HT5.out.next b6).a, fun hH => ?_⟩
    show wpAnyH _ _ _ _ _ _ _ ({ tmps := #[.int .i64 m, .agg A0.toArray, .int .i64 (i : Int), .int .i64 value, .int .i64 c, .int .u8 v, undef, .pointer (some ⟨B, 0, none⟩), undef, undef, undef, undef, .bool false, .int .i64 n, .bool true, .pointer (some ⟨P, 0, none⟩), .pointer (some ⟨Q, 0, none⟩), undef, undef, undef, .bool true, .bool false, .int .i64 m, .int .i64 n, .int .i64 (i : Int), .bool true, .bool true, .int .i64 (i : Int), .bool true, .bool true, .agg A0.toArray, .int .i64 (i : Int), .agg A1.toArray, .agg A0.toArray, .bool true, .agg A0.toArray, .int .i64 (i : Int), .slice (some ⟨B, 0, none⟩) 72 72, .int .i64 (i : Int), .int .i64 (g : Int), .int .i64 (z : Int), .agg A1.toArray, undef, undef, undef, undef, undef, undef, undef, undef, undef, undef, undef, undef, undef, undef, undef, undef, undef, undef, undef, undef, undef, undef, undef, undef, undef, undef, undef, undef, undef, undef, undef, undef, undef, undef, undef, undef, undef, undef, undef, undef, undef, undef, undef, undef, undef, undef, undef, undef, undef, undef, undef, undef, undef, undef, undef, undef, undef, undef, undef, undef, undef, undef, undef, undef, undef, undef, undef, undef, undef, undef, undef, undef, undef, undef, undef, undef, undef, undef], defers := [] } : Act) _
    have HT6 : Hid (Tr B P Q F Y F w W') := HT5.out.next b6
    clear b6
    refine take_one 7 rfl rfl (by kernel_rfl) ?_
    have ht7 : Value.agg A1.toArray = Value.agg A1.toArray → W'.there Q 0 A1.toArray.size := fun _ => by rw [← HA.out.2.1]; exact HT6.out.q.there .u8 Y
    refine wp_store_mid 23 _ _ rfl Q 0 A1.toArray rfl rfl (ht7 rfl) j1 o1 ?_
    have HT7 : Hid (Tr B P Q F Y Y w (W'.setCells Q 0 A1.toArray.toList)) := by
      have hp := HT6.out.q.put Y
      rw [HA.out.2.1] at hp
      exact ⟨HT6.out.a.putOther (by omega) 0 _, HT6.out.f.putOther (by omega) 0 _, hp, belows_put (by omega) _ 0 HT6.out.below⟩
    refine ⟨ra.out _ HT7.out.a, fun hH => ?_⟩
    exact wpAnyH_done (by kernel_rfl) ⟨rfl, HT7⟩ _
  rintro _ W7 ⟨rfl, HT7⟩
  clear HT CW CGet hwz hct
  simp only []
  go_upto_region 9 with (fail)
  refine region_calm (by kernel_rfl) (by kernel_rfl) (fun W => Below W7.heap.size W7 W) (below_drew1 W7) ?_
  intro U hU f hf hof
  have HU : Hid (∀ x W, Below (f x).heap.size (f x) W → ∃ y, W = f y) := fun x W h => hof W ((hf x).trans (h.mono (hf x).size))
  have HE : Hid (∀ u, Tr B P Q F Y Y w (f u)) := fun u => HT7.out.next (hf u)
  have rq : Hid (∀ W, Bk .u8 W Q 72 Y → W.rangeAt Q 0 A1) := fun W h => by rw [← HA.out.2.1]; exact h.range
  clear hf hof
  repeat (first
    | (refine quiet_load (by rfl) 23 _ rfl B 0 rfl A0 _ (by rintro _ ⟨u, rfl⟩; exact ra.out _ (HE.out u).a) Try.underlying23 rfl i0 ?_; simp only [Act.put, List.setIfInBounds_toArray, List.set_cons_zero, List.set_cons_succ])
    | (refine quiet_load (by rfl) 23 _ rfl P 0 rfl A1 _ (by rintro _ ⟨u, rfl⟩; exact rp.out _ (HE.out u).f) Try.underlying23 rfl i1 ?_; simp only [Act.put, List.setIfInBounds_toArray, List.set_cons_zero, List.set_cons_succ])
    | (refine quiet_load (by rfl) 23 _ rfl Q 0 rfl A1 _ (by rintro _ ⟨u, rfl⟩; exact rq.out _ (HE.out u).q) Try.underlying23 rfl i1 ?_; simp only [Act.put, List.setIfInBounds_toArray, List.set_cons_zero, List.set_cons_succ])
    | (refine quiet_one (by rfl) (.bool false) (exec_neqA _ _ _ _ rfl A1.toArray A1.toArray _ rfl rfl gd n1) ?_; simp only [Act.put, List.setIfInBounds_toArray, List.set_cons_zero, List.set_cons_succ])
    | (refine quiet_one (by rfl) (.bool false) (exec_neqA _ _ _ _ rfl A2.toArray A2.toArray _ rfl rfl gd n2) ?_; simp only [Act.put, List.setIfInBounds_toArray, List.set_cons_zero, List.set_cons_succ])
    | (refine quiet_one (by rfl) (.bool false) (exec_neqA _ _ _ _ rfl A3.toArray A3.toArray _ rfl rfl gd n3) ?_; simp only [Act.put, List.setIfInBounds_toArray, List.set_cons_zero, List.set_cons_succ])
    | go_big_quiet_step ((first | (go_at_call 21; exact calm_next HU.out (CFo.out _)) | (go_at_call 19; exact calm_next HU.out (CG.out _)) | (go_at_call 22; exact calm_next HU.out (CC.out _)) | (go_at_call 23; exact calm_next HU.out (CD.out _)))))
  refine wpQuiet_nil ?_
  rintro _ ⟨u9, rfl⟩
  have HT8 : Hid (Tr B P Q F Y Y w (f u9)) := HE.out u9
  obtain ⟨W8, hW8⟩ : ∃ W, f u9 = W := ⟨_, rfl⟩
  rw [hW8] at HT8 ⊢
  clear hW8 HU HE hU HT7 CC CD CFo CG n1 n2 n3 rq
  rcases md_cases HM.out with ⟨rfl, rfl, rfl⟩ | ⟨rfl, rfl, rfl⟩ | ⟨h1, h2, rfl, rfl⟩
  · skip
    have hx0 : 0 ≤ (i : Int) / 8 := by omega
    have hx1 : (i : Int) / 8 < 72 := by omega
    have q1 : (i : Int).tdiv 8 = (i : Int) / 8 := Int.tdiv_eq_ediv_of_nonneg (by omega)
    have CWh : Hid (∀ w, Calls Try.prog 24 #[.int .i64 1, .int .i64 (i : Int)] w fun e w' => e = .returned (.tuple #[.int .i64 ((i : Int) / 8 / 9), .int .i64 ((i : Int) / 8 % 9), .int .i64 0]) ∧ ∃ q, w' = w.drewN q) := whose_yes .bits (i : Int) (by omega) (by omega) (by omega)
    have CE9 : Hid (∀ W : World, Calls Try.prog 16 #[.int .i64 1, .agg A1.toArray, .agg A0.toArray] W fun e w' => e = .returned (.int .i64 1) ∧ Below W.heap.size W w') := CEx.out (by omega)
    obtain ⟨x, hx⟩ : ∃ x, (i : Int) / 8 = x := ⟨_, rfl⟩
    rw [hx] at CWh hx0 hx1 q1
    obtain ⟨y, hy, hy0, hy1⟩ : ∃ y, x / 9 = y ∧ 0 ≤ y ∧ y ≤ 8 := ⟨_, rfl, by omega, by omega⟩
    obtain ⟨z2, hz2, hz0, hz1⟩ : ∃ z, x % 9 = z ∧ 0 ≤ z ∧ z < 9 := ⟨_, rfl, by omega, by omega⟩
    have hyz : (y * 9 + z2 == x) = true := by simp; omega
    rw [hy, hz2] at CWh
    clear CEx hy hz2 HM
    go_wp2_with fail
    refine (CWh.out _).mono ?_
    rintro e W9 ⟨rfl, q9, hq9⟩
    replace HT8 : Hid (Tr B P Q F Y Y w W9) := by
      rw [hq9]
      exact HT8.out.next (below_stay (Below.refl _ W8) (Stay.drewN _ W8 q9) (Nat.le_refl _))
    clear hq9
    go_wp2_with (first
      | refine wpList_load_g (by rfl) 23 _ rfl P 0 rfl A1 _ (by exact rp.out _ HT8.out.f) Try.underlying23 rfl i1 ?_
      | refine wpList_load_g (by rfl) 23 _ rfl B 0 rfl A0 _ (by exact ra.out _ HT8.out.a) Try.underlying23 rfl i0 ?_
      | (go_at_call 16; refine (CE9.out _).mono ?_; rintro e W4 ⟨rfl, b4⟩; replace HT8 : Hid (Tr B P Q F Y Y w W4) := HT8.out.next b4; clear b4))
    go_ret
    exact ⟨rfl, by rw [hB]; exact HT8.out.below⟩
  · skip
    have hx0 : 0 ≤ (i : Int) / 8 := by omega
    have hx1 : (i : Int) / 8 < 72 := by omega
    have q1 : (i : Int).tdiv 8 = (i : Int) / 8 := Int.tdiv_eq_ediv_of_nonneg (by omega)
    have CWh : Hid (∀ w, Calls Try.prog 24 #[.int .i64 2, .int .i64 (i : Int)] w fun e w' => e = .returned (.tuple #[.int .i64 ((i : Int) / 8 / 36), .int .i64 ((i : Int) / 8 % 36), .int .i64 0]) ∧ ∃ q, w' = w.drewN q) := whose_yes .chips (i : Int) (by omega) (by omega) (by omega)
    have CE9 : Hid (∀ W : World, Calls Try.prog 16 #[.int .i64 2, .agg A1.toArray, .agg A0.toArray] W fun e w' => e = .returned (.int .i64 1) ∧ Below W.heap.size W w') := CEx.out (by omega)
    obtain ⟨x, hx⟩ : ∃ x, (i : Int) / 8 = x := ⟨_, rfl⟩
    rw [hx] at CWh hx0 hx1 q1
    obtain ⟨y, hy, hy0, hy1⟩ : ∃ y, x / 36 = y ∧ 0 ≤ y ∧ y ≤ 8 := ⟨_, rfl, by omega, by omega⟩
    obtain ⟨z2, hz2, hz0, hz1⟩ : ∃ z, x % 36 = z ∧ 0 ≤ z ∧ z < 36 := ⟨_, rfl, by omega, by omega⟩
    have hyz : (y * 36 + z2 == x) = true := by simp; omega
    rw [hy, hz2] at CWh
    clear CEx hy hz2 HM
    go_wp2_with fail
    refine (CWh.out _).mono ?_
    rintro e W9 ⟨rfl, q9, hq9⟩
    replace HT8 : Hid (Tr B P Q F Y Y w W9) := by
      rw [hq9]
      exact HT8.out.next (below_stay (Below.refl _ W8) (Stay.drewN _ W8 q9) (Nat.le_refl _))
    clear hq9
    go_wp2_with (first
      | refine wpList_load_g (by rfl) 23 _ rfl P 0 rfl A1 _ (by exact rp.out _ HT8.out.f) Try.underlying23 rfl i1 ?_
      | refine wpList_load_g (by rfl) 23 _ rfl B 0 rfl A0 _ (by exact ra.out _ HT8.out.a) Try.underlying23 rfl i0 ?_
      | (go_at_call 16; refine (CE9.out _).mono ?_; rintro e W4 ⟨rfl, b4⟩; replace HT8 : Hid (Tr B P Q F Y Y w W4) := HT8.out.next b4; clear b4))
    go_ret
    exact ⟨rfl, by rw [hB]; exact HT8.out.below⟩
  · have CWh : Hid (∀ w, Calls Try.prog 24 #[.int .i64 m, .int .i64 (i : Int)] w fun e w' => e = .returned (.tuple #[.int .i64 0, .int .i64 0, .int .i64 12]) ∧ w' = w) := whose_no HM.out (i : Int) (.inl rfl)
    clear CEx HM h1 h2
    go_wp2_with (go_at_call 24; refine (CWh.out _).mono ?_; rintro e W9 ⟨rfl, hw9⟩; rw [hw9]; clear hw9 W9)
    go_ret
    exact ⟨rfl, by rw [hB]; exact HT8.out.below⟩

set_option maxRecDepth 100000 in
set_option maxHeartbeats 400000 in
theorem rawTurns_neg (m b value c v : Int) (F : Nat → Int) (hF : Byts 72 F) (hv : 0 ≤ v ∧ v < 256) (hb : b < 0) (hb2 : b ≤ 9223372036854775807) (w : World) :
    Calls Try.prog 5 #[.int .i64 m, .agg (ints .u8 72 F).toArray, .int .i64 b, .int .i64 value, .int .i64 c, .int .u8 v] w fun e w' => e = .returned (.bool true) ∧ Below w.heap.size w w' := by
  obtain ⟨n, k, hm⟩ := md_any m
  have cA : Hid (∀ W : World, Calls Try.prog 8 #[] W fun e w' => e = .returned (.bool true) ∧ Below W.heap.size W w') := anchor9_any
  have cR : Hid (∀ W : World, Calls Try.prog 9 #[.int .i64 m] W fun e w' => e = .returned (.int .i64 n) ∧ w' = W) := refChips_any hm
  have hC := chp_byts n.toNat c F v hF hv
  have cC := chipR_any hm F v c
  have cD := refChip_any hm F v c
  obtain ⟨Y, hYY⟩ : ∃ Y, F = Y := ⟨_, rfl⟩
  obtain ⟨V9, hVV⟩ : ∃ V9, F = V9 := ⟨_, rfl⟩
  have hY : Byts 72 Y := by rw [← hYY]; exact hF
  have hV9 : Byts 72 V9 := by rw [← hVV]; exact hF
  have cFl : ∀ w : World, Calls Try.prog 18 #[.agg (ints .u8 72 F).toArray, .int .i64 b] w fun e w' => e = .returned (.agg (ints .u8 72 Y).toArray) ∧ Below w.heap.size w w' := fun w => by
    have := flipR_no F hF b (by omega) hb2 w
    rwa [show (Value.agg (ints .u8 72 Y).toArray) = .agg (ints .u8 72 F).toArray by rw [hYY]]
  have cFo : ∀ w : World, Calls Try.prog 21 #[.agg (ints .u8 72 F).toArray, .int .i64 b, .int .i64 value] w fun e w' => e = .returned (.agg (ints .u8 72 V9).toArray) ∧ Below w.heap.size w w' := fun w => by
    have := forceR_no F hF b (by omega) hb2 value w
    rwa [show (Value.agg (ints .u8 72 V9).toArray) = .agg (ints .u8 72 F).toArray by rw [hVV]]
  have cG : ∀ w : World, Calls Try.prog 19 #[.agg (ints .u8 72 F).toArray, .int .i64 b, .int .i64 value] w fun e w' => e = .returned (.agg (ints .u8 72 V9).toArray) ∧ Below w.heap.size w w' := fun w => by
    have := refForce_no F b value (by omega) w
    rwa [show (Value.agg (ints .u8 72 V9).toArray) = .agg (ints .u8 72 F).toArray by rw [hVV]]

  obtain ⟨A0, hA0⟩ : ∃ A, ints .u8 72 F = A := ⟨_, rfl⟩
  obtain ⟨A1, hA1⟩ : ∃ A, ints .u8 72 Y = A := ⟨_, rfl⟩
  obtain ⟨A2, hA2⟩ : ∃ A, ints .u8 72 V9 = A := ⟨_, rfl⟩
  obtain ⟨A3, hA3⟩ : ∃ A, ints .u8 72 (Rw.chp n.toNat c F v) = A := ⟨_, rfl⟩
  obtain ⟨Z, hZ⟩ : ∃ A, (ints .u8 72 fun _ => 0).toArray = A := ⟨_, rfl⟩
  have i0 : (Try.prog.info? 23).map (·.size) = some A0.length := by rw [← hA0, ints_len]; exact infoR
  have i1 : (Try.prog.info? 23).map (·.size) = some A1.length := by rw [← hA1, ints_len]; exact infoR
  have j0 : (Try.prog.info? 23).map (·.size) = some A0.toArray.size := by simpa using i0
  have j1 : (Try.prog.info? 23).map (·.size) = some A1.toArray.size := by simpa using i1
  have o0 : A0.toArray.all (·.oneCell') = true := by rw [← hA0]; exact ints_one .u8 72 _
  have o1 : A1.toArray.all (·.oneCell') = true := by rw [← hA1]; exact ints_one .u8 72 _
  have n1 : ∀ w, (binOp .neq 23 (.agg A1.toArray) (.agg A1.toArray)).run Try.prog w = .ok (.bool false) w := fun w => by rw [← hA1]; exact neqR Y Y hY hY true ⟨fun _ _ _ => rfl, fun _ => rfl⟩ w
  have n2 : ∀ w, (binOp .neq 23 (.agg A2.toArray) (.agg A2.toArray)).run Try.prog w = .ok (.bool false) w := fun w => by rw [← hA2]; exact neqR V9 V9 hV9 hV9 true ⟨fun _ _ _ => rfl, fun _ => rfl⟩ w
  have n3 : ∀ w, (binOp .neq 23 (.agg A3.toArray) (.agg A3.toArray)).run Try.prog w = .ok (.bool false) w := fun w => by rw [← hA3]; exact neqR _ _ hC hC true ⟨fun _ _ _ => rfl, fun _ => rfl⟩ w
  have hz := zeroR
  rw [hZ] at hz
  rw [hA0, hA3] at cC cD
  rw [hA0, hA1] at cFl
  rw [hA0, hA2] at cFo cG
  have CC : Hid (∀ W : World, Calls Try.prog 22 #[.agg A0.toArray, .int .i64 m, .int .i64 c, .int .u8 v] W fun e w' => e = .returned (.agg A3.toArray) ∧ Below W.heap.size W w') := cC
  have CD : Hid (∀ W : World, Calls Try.prog 23 #[.int .i64 m, .agg A0.toArray, .int .i64 c, .int .u8 v] W fun e w' => e = .returned (.agg A3.toArray) ∧ Below W.heap.size W w') := cD
  have CFl : Hid (∀ W : World, Calls Try.prog 18 #[.agg A0.toArray, .int .i64 b] W fun e w' => e = .returned (.agg A1.toArray) ∧ Below W.heap.size W w') := cFl
  have CFo : Hid (∀ W : World, Calls Try.prog 21 #[.agg A0.toArray, .int .i64 b, .int .i64 value] W fun e w' => e = .returned (.agg A2.toArray) ∧ Below W.heap.size W w') := cFo
  have CG : Hid (∀ W : World, Calls Try.prog 19 #[.agg A0.toArray, .int .i64 b, .int .i64 value] W fun e w' => e = .returned (.agg A2.toArray) ∧ Below W.heap.size W w') := cG
  have HA : Hid (ints .u8 72 F = A0 ∧ ints .u8 72 Y = A1 ∧ (ints .u8 72 fun _ => 0).toArray = Z) := ⟨hA0, hA1, hZ⟩
  have gd := gdR
  rw [hA0]
  have HN : Hid (Bk .u8 (w.alloc (.cells A0.toArray 23)) w.heap.size 72 F ∧ Below w.heap.size w (w.alloc (.cells A0.toArray 23))) := by
    rw [← hA0]
    exact ⟨Bk.new .u8 w 72 F _, (Below.refl _ w).alloc (Nat.le_refl _) _⟩
  have HYY : Hid (F = Y) := hYY
  have HM : Hid (Md m n k) := hm
  clear cC cD cFl cFo cG hA0 hA1 hA2 hA3 hZ hF hC hY hV9 hYY hVV hm
  have d1 : decide (0 ≤ b) = false := by simpa using hb
  go_enter Try.func5, Try.ntmps5
  go_wp2_with fail
  obtain ⟨V, hV⟩ : ∃ V, w.alloc (.cells A0.toArray 23) = V := ⟨_, rfl⟩
  obtain ⟨B, hB⟩ : ∃ B, w.heap.size = B := ⟨_, rfl⟩
  rw [hV] at HN ⊢
  rw [hB] at HN ⊢
  refine (cA.out _).mono ?_
  rintro e V1 ⟨rfl, b1⟩
  replace HN : Hid (Bk .u8 V1 B 72 F ∧ Below B w V1) := ⟨HN.out.1.next b1, HN.out.2.trans (b1.mono (Nat.le_of_lt HN.out.1.lt))⟩
  clear b1 hV V
  have r0 := HN.out.1.range
  rw [HA.out.1] at r0
  go_wp2_with (first | refine wpList_load_mid rfl 23 _ rfl B 0 rfl A0 _ r0 Try.underlying23 rfl i0 ?_ | (go_at_call 9; refine (cR.out _).mono ?_; rintro e w' ⟨rfl, hw2⟩; rw [hw2]; clear hw2 w'))
  refine (CFl.out _).mono ?_
  rintro e V2 ⟨rfl, b2⟩
  replace HN : Hid (Bk .u8 V2 B 72 F ∧ Below B w V2) := ⟨HN.out.1.next b2, HN.out.2.trans (b2.mono (Nat.le_of_lt HN.out.1.lt))⟩
  clear b2 r0 CFl
  have ht : (V2.alloc (.cells Z 23)).there V2.heap.size 0 A1.toArray.size := by
    rw [← HA.out.2.2, ← HA.out.2.1]
    exact (Bk.new .u8 V2 72 (fun _ => 0) 23).there .u8 Y
  go_upto_region 6 with (first | refine wpList_store_mid rfl 23 _ _ rfl _ 0 A1.toArray rfl rfl ht j1 o1 ?_)
  obtain ⟨V3, hV3⟩ : ∃ V3, (V2.alloc (.cells Z 23)).setCells V2.heap.size 0 A1 = V3 := ⟨_, rfl⟩
  have HR0 : Rc B V2.heap.size F Y w V3 := by
    have hlt := HN.out.1.lt
    rw [← hV3, ← HA.out.2.2, ← HA.out.2.1]
    exact ⟨(HN.out.1.alloc _).putOther (by omega) 0 _, (Bk.new .u8 V2 72 (fun _ => 0) 23).put Y, belows_put (by omega) _ 0 (HN.out.2.alloc (by omega) _)⟩
  have hne : B < V2.heap.size := HN.out.1.lt
  obtain ⟨P, hP⟩ : ∃ P, V2.heap.size = P := ⟨_, rfl⟩
  rw [hV3]
  rw [hP] at HR0 hne ⊢
  obtain ⟨Q, hQ⟩ : ∃ Q, V3.heap.size = Q := ⟨_, rfl⟩
  have nQ : B < Q ∧ P < Q := by have h1 := HR0.a.lt; have h2 := HR0.x.lt; omega
  have HR : Hid (Rc B P F Y w V3) := HR0
  clear HR0 hV3 ht HN hP hne V2
  have ra : Hid (∀ W, Bk .u8 W B 72 F → W.rangeAt B 0 A0) := fun W h => by rw [← HA.out.1]; exact h.range
  have rp : Hid (∀ W, Bk .u8 W P 72 Y → W.rangeAt P 0 A1) := fun W h => by rw [← HA.out.2.1]; exact h.range
  have ht : (V3.alloc (.cells Z 23)).there Q 0 A0.toArray.size := by
    rw [← hQ, ← HA.out.2.2, ← HA.out.1]
    exact (Bk.new .u8 V3 72 (fun _ => 0) 23).there .u8 F
  have r3 := ra.out _ HR.out.a
  go_upto_region 9 with (first | refine wpList_load_mid rfl 23 _ rfl B 0 rfl A0 _ r3 Try.underlying23 rfl i0 ?_ | refine wpList_store_mid rfl 23 _ _ rfl _ 0 A0.toArray rfl rfl ht j0 o0 ?_)
  obtain ⟨V4, hV4⟩ : ∃ V4, (V3.alloc (.cells Z 23)).setCells Q 0 A0 = V4 := ⟨_, rfl⟩
  have HT : Hid (Tr B P Q F Y F w V4) := by
    have hn := Bk.new .u8 V3 72 (fun _ => 0) 23
    rw [hQ, HA.out.2.2] at hn
    have hp := hn.put F
    rw [HA.out.1] at hp
    rw [← hV4]
    exact ⟨(HR.out.a.alloc _).putOther (by omega) 0 _, (HR.out.x.alloc _).putOther (by omega) 0 _, hp, belows_put (by omega) _ 0 (HR.out.below.alloc (by omega) _)⟩
  rw [hV4]
  clear hV4 hQ ht r3 HR hz
  have HT7 := HT
  obtain ⟨W7, hW7⟩ : ∃ W7, V4 = W7 := ⟨_, rfl⟩
  rw [hW7] at HT7 ⊢
  clear hW7 HT
  refine region_calm (by kernel_rfl) (by kernel_rfl) (fun W => Below W7.heap.size W7 W) (below_drew1 W7) ?_
  intro U hU f hf hof
  have HU : Hid (∀ x W, Below (f x).heap.size (f x) W → ∃ y, W = f y) := fun x W h => hof W ((hf x).trans (h.mono (hf x).size))
  have HE : Hid (∀ u, Tr B P Q F Y F w (f u)) := fun u => HT7.out.next (hf u)
  have rq : Hid (∀ W, Bk .u8 W Q 72 F → W.rangeAt Q 0 A1) := fun W h => by rw [← HA.out.2.1, ← HYY.out]; exact h.range
  clear hf hof
  repeat (first
    | (refine quiet_load (by rfl) 23 _ rfl B 0 rfl A0 _ (by rintro _ ⟨u, rfl⟩; exact ra.out _ (HE.out u).a) Try.underlying23 rfl i0 ?_; simp only [Act.put, List.setIfInBounds_toArray, List.set_cons_zero, List.set_cons_succ])
    | (refine quiet_load (by rfl) 23 _ rfl P 0 rfl A1 _ (by rintro _ ⟨u, rfl⟩; exact rp.out _ (HE.out u).f) Try.underlying23 rfl i1 ?_; simp only [Act.put, List.setIfInBounds_toArray, List.set_cons_zero, List.set_cons_succ])
    | (refine quiet_load (by rfl) 23 _ rfl Q 0 rfl A1 _ (by rintro _ ⟨u, rfl⟩; exact rq.out _ (HE.out u).q) Try.underlying23 rfl i1 ?_; simp only [Act.put, List.setIfInBounds_toArray, List.set_cons_zero, List.set_cons_succ])
    | (refine quiet_one (by rfl) (.bool false) (exec_neqA _ _ _ _ rfl A1.toArray A1.toArray _ rfl rfl gd n1) ?_; simp only [Act.put, List.setIfInBounds_toArray, List.set_cons_zero, List.set_cons_succ])
    | (refine quiet_one (by rfl) (.bool false) (exec_neqA _ _ _ _ rfl A2.toArray A2.toArray _ rfl rfl gd n2) ?_; simp only [Act.put, List.setIfInBounds_toArray, List.set_cons_zero, List.set_cons_succ])
    | (refine quiet_one (by rfl) (.bool false) (exec_neqA _ _ _ _ rfl A3.toArray A3.toArray _ rfl rfl gd n3) ?_; simp only [Act.put, List.setIfInBounds_toArray, List.set_cons_zero, List.set_cons_succ])
    | go_big_quiet_step ((first | (go_at_call 21; exact calm_next HU.out (CFo.out _)) | (go_at_call 19; exact calm_next HU.out (CG.out _)) | (go_at_call 22; exact calm_next HU.out (CC.out _)) | (go_at_call 23; exact calm_next HU.out (CD.out _)))))
  refine wpQuiet_nil ?_
  rintro _ ⟨u9, rfl⟩
  have HT8 : Hid (Tr B P Q F Y F w (f u9)) := HE.out u9
  obtain ⟨W8, hW8⟩ : ∃ W, f u9 = W := ⟨_, rfl⟩
  rw [hW8] at HT8 ⊢
  clear hW8 HU HE hU HT7 CC CD CFo CG n1 n2 n3 rq
  have CWh : Hid (∀ w, Calls Try.prog 24 #[.int .i64 m, .int .i64 b] w fun e w' => e = .returned (.tuple #[.int .i64 0, .int .i64 0, .int .i64 12]) ∧ w' = w) := whose_no HM.out b (.inr (by omega))
  clear HM
  go_wp2_with (go_at_call 24; refine (CWh.out _).mono ?_; rintro e W9 ⟨rfl, hw9⟩; rw [hw9]; clear hw9 W9)
  go_ret
  exact ⟨rfl, by rw [hB]; exact HT8.out.below⟩

set_option maxRecDepth 100000 in
set_option maxHeartbeats 400000 in
theorem rawTurns_big (m b value c v : Int) (F : Nat → Int) (hF : Byts 72 F) (hv : 0 ≤ v ∧ v < 256) (hb : 576 ≤ b) (hb2 : b ≤ 9223372036854775807) (w : World) :
    Calls Try.prog 5 #[.int .i64 m, .agg (ints .u8 72 F).toArray, .int .i64 b, .int .i64 value, .int .i64 c, .int .u8 v] w fun e w' => e = .returned (.bool true) ∧ Below w.heap.size w w' := by
  obtain ⟨n, k, hm⟩ := md_any m
  have cA : Hid (∀ W : World, Calls Try.prog 8 #[] W fun e w' => e = .returned (.bool true) ∧ Below W.heap.size W w') := anchor9_any
  have cR : Hid (∀ W : World, Calls Try.prog 9 #[.int .i64 m] W fun e w' => e = .returned (.int .i64 n) ∧ w' = W) := refChips_any hm
  have hC := chp_byts n.toNat c F v hF hv
  have cC := chipR_any hm F v c
  have cD := refChip_any hm F v c
  obtain ⟨Y, hYY⟩ : ∃ Y, F = Y := ⟨_, rfl⟩
  obtain ⟨V9, hVV⟩ : ∃ V9, F = V9 := ⟨_, rfl⟩
  have hY : Byts 72 Y := by rw [← hYY]; exact hF
  have hV9 : Byts 72 V9 := by rw [← hVV]; exact hF
  have cFl : ∀ w : World, Calls Try.prog 18 #[.agg (ints .u8 72 F).toArray, .int .i64 b] w fun e w' => e = .returned (.agg (ints .u8 72 Y).toArray) ∧ Below w.heap.size w w' := fun w => by
    have := flipR_no F hF b (by omega) hb2 w
    rwa [show (Value.agg (ints .u8 72 Y).toArray) = .agg (ints .u8 72 F).toArray by rw [hYY]]
  have cFo : ∀ w : World, Calls Try.prog 21 #[.agg (ints .u8 72 F).toArray, .int .i64 b, .int .i64 value] w fun e w' => e = .returned (.agg (ints .u8 72 V9).toArray) ∧ Below w.heap.size w w' := fun w => by
    have := forceR_no F hF b (by omega) hb2 value w
    rwa [show (Value.agg (ints .u8 72 V9).toArray) = .agg (ints .u8 72 F).toArray by rw [hVV]]
  have cG : ∀ w : World, Calls Try.prog 19 #[.agg (ints .u8 72 F).toArray, .int .i64 b, .int .i64 value] w fun e w' => e = .returned (.agg (ints .u8 72 V9).toArray) ∧ Below w.heap.size w w' := fun w => by
    have := refForce_no F b value (by omega) w
    rwa [show (Value.agg (ints .u8 72 V9).toArray) = .agg (ints .u8 72 F).toArray by rw [hVV]]

  obtain ⟨A0, hA0⟩ : ∃ A, ints .u8 72 F = A := ⟨_, rfl⟩
  obtain ⟨A1, hA1⟩ : ∃ A, ints .u8 72 Y = A := ⟨_, rfl⟩
  obtain ⟨A2, hA2⟩ : ∃ A, ints .u8 72 V9 = A := ⟨_, rfl⟩
  obtain ⟨A3, hA3⟩ : ∃ A, ints .u8 72 (Rw.chp n.toNat c F v) = A := ⟨_, rfl⟩
  obtain ⟨Z, hZ⟩ : ∃ A, (ints .u8 72 fun _ => 0).toArray = A := ⟨_, rfl⟩
  have i0 : (Try.prog.info? 23).map (·.size) = some A0.length := by rw [← hA0, ints_len]; exact infoR
  have i1 : (Try.prog.info? 23).map (·.size) = some A1.length := by rw [← hA1, ints_len]; exact infoR
  have j0 : (Try.prog.info? 23).map (·.size) = some A0.toArray.size := by simpa using i0
  have j1 : (Try.prog.info? 23).map (·.size) = some A1.toArray.size := by simpa using i1
  have o0 : A0.toArray.all (·.oneCell') = true := by rw [← hA0]; exact ints_one .u8 72 _
  have o1 : A1.toArray.all (·.oneCell') = true := by rw [← hA1]; exact ints_one .u8 72 _
  have n1 : ∀ w, (binOp .neq 23 (.agg A1.toArray) (.agg A1.toArray)).run Try.prog w = .ok (.bool false) w := fun w => by rw [← hA1]; exact neqR Y Y hY hY true ⟨fun _ _ _ => rfl, fun _ => rfl⟩ w
  have n2 : ∀ w, (binOp .neq 23 (.agg A2.toArray) (.agg A2.toArray)).run Try.prog w = .ok (.bool false) w := fun w => by rw [← hA2]; exact neqR V9 V9 hV9 hV9 true ⟨fun _ _ _ => rfl, fun _ => rfl⟩ w
  have n3 : ∀ w, (binOp .neq 23 (.agg A3.toArray) (.agg A3.toArray)).run Try.prog w = .ok (.bool false) w := fun w => by rw [← hA3]; exact neqR _ _ hC hC true ⟨fun _ _ _ => rfl, fun _ => rfl⟩ w
  have hz := zeroR
  rw [hZ] at hz
  rw [hA0, hA3] at cC cD
  rw [hA0, hA1] at cFl
  rw [hA0, hA2] at cFo cG
  have CC : Hid (∀ W : World, Calls Try.prog 22 #[.agg A0.toArray, .int .i64 m, .int .i64 c, .int .u8 v] W fun e w' => e = .returned (.agg A3.toArray) ∧ Below W.heap.size W w') := cC
  have CD : Hid (∀ W : World, Calls Try.prog 23 #[.int .i64 m, .agg A0.toArray, .int .i64 c, .int .u8 v] W fun e w' => e = .returned (.agg A3.toArray) ∧ Below W.heap.size W w') := cD
  have CFl : Hid (∀ W : World, Calls Try.prog 18 #[.agg A0.toArray, .int .i64 b] W fun e w' => e = .returned (.agg A1.toArray) ∧ Below W.heap.size W w') := cFl
  have CFo : Hid (∀ W : World, Calls Try.prog 21 #[.agg A0.toArray, .int .i64 b, .int .i64 value] W fun e w' => e = .returned (.agg A2.toArray) ∧ Below W.heap.size W w') := cFo
  have CG : Hid (∀ W : World, Calls Try.prog 19 #[.agg A0.toArray, .int .i64 b, .int .i64 value] W fun e w' => e = .returned (.agg A2.toArray) ∧ Below W.heap.size W w') := cG
  have HA : Hid (ints .u8 72 F = A0 ∧ ints .u8 72 Y = A1 ∧ (ints .u8 72 fun _ => 0).toArray = Z) := ⟨hA0, hA1, hZ⟩
  have gd := gdR
  rw [hA0]
  have HN : Hid (Bk .u8 (w.alloc (.cells A0.toArray 23)) w.heap.size 72 F ∧ Below w.heap.size w (w.alloc (.cells A0.toArray 23))) := by
    rw [← hA0]
    exact ⟨Bk.new .u8 w 72 F _, (Below.refl _ w).alloc (Nat.le_refl _) _⟩
  have HYY : Hid (F = Y) := hYY
  have HM : Hid (Md m n k) := hm
  clear cC cD cFl cFo cG hA0 hA1 hA2 hA3 hZ hF hC hY hV9 hYY hVV hm
  have d1 : decide (0 ≤ b) = true := by simp; omega
  have d2 : decide (b < 576) = false := by simpa using hb
  go_enter Try.func5, Try.ntmps5
  go_wp2_with fail
  obtain ⟨V, hV⟩ : ∃ V, w.alloc (.cells A0.toArray 23) = V := ⟨_, rfl⟩
  obtain ⟨B, hB⟩ : ∃ B, w.heap.size = B := ⟨_, rfl⟩
  rw [hV] at HN ⊢
  rw [hB] at HN ⊢
  refine (cA.out _).mono ?_
  rintro e V1 ⟨rfl, b1⟩
  replace HN : Hid (Bk .u8 V1 B 72 F ∧ Below B w V1) := ⟨HN.out.1.next b1, HN.out.2.trans (b1.mono (Nat.le_of_lt HN.out.1.lt))⟩
  clear b1 hV V
  have r0 := HN.out.1.range
  rw [HA.out.1] at r0
  go_wp2_with (first | refine wpList_load_mid rfl 23 _ rfl B 0 rfl A0 _ r0 Try.underlying23 rfl i0 ?_ | (go_at_call 9; refine (cR.out _).mono ?_; rintro e w' ⟨rfl, hw2⟩; rw [hw2]; clear hw2 w'))
  refine (CFl.out _).mono ?_
  rintro e V2 ⟨rfl, b2⟩
  replace HN : Hid (Bk .u8 V2 B 72 F ∧ Below B w V2) := ⟨HN.out.1.next b2, HN.out.2.trans (b2.mono (Nat.le_of_lt HN.out.1.lt))⟩
  clear b2 r0 CFl
  have ht : (V2.alloc (.cells Z 23)).there V2.heap.size 0 A1.toArray.size := by
    rw [← HA.out.2.2, ← HA.out.2.1]
    exact (Bk.new .u8 V2 72 (fun _ => 0) 23).there .u8 Y
  go_upto_region 6 with (first | refine wpList_store_mid rfl 23 _ _ rfl _ 0 A1.toArray rfl rfl ht j1 o1 ?_)
  obtain ⟨V3, hV3⟩ : ∃ V3, (V2.alloc (.cells Z 23)).setCells V2.heap.size 0 A1 = V3 := ⟨_, rfl⟩
  have HR0 : Rc B V2.heap.size F Y w V3 := by
    have hlt := HN.out.1.lt
    rw [← hV3, ← HA.out.2.2, ← HA.out.2.1]
    exact ⟨(HN.out.1.alloc _).putOther (by omega) 0 _, (Bk.new .u8 V2 72 (fun _ => 0) 23).put Y, belows_put (by omega) _ 0 (HN.out.2.alloc (by omega) _)⟩
  have hne : B < V2.heap.size := HN.out.1.lt
  obtain ⟨P, hP⟩ : ∃ P, V2.heap.size = P := ⟨_, rfl⟩
  rw [hV3]
  rw [hP] at HR0 hne ⊢
  obtain ⟨Q, hQ⟩ : ∃ Q, V3.heap.size = Q := ⟨_, rfl⟩
  have nQ : B < Q ∧ P < Q := by have h1 := HR0.a.lt; have h2 := HR0.x.lt; omega
  have HR : Hid (Rc B P F Y w V3) := HR0
  clear HR0 hV3 ht HN hP hne V2
  have ra : Hid (∀ W, Bk .u8 W B 72 F → W.rangeAt B 0 A0) := fun W h => by rw [← HA.out.1]; exact h.range
  have rp : Hid (∀ W, Bk .u8 W P 72 Y → W.rangeAt P 0 A1) := fun W h => by rw [← HA.out.2.1]; exact h.range
  have ht : (V3.alloc (.cells Z 23)).there Q 0 A0.toArray.size := by
    rw [← hQ, ← HA.out.2.2, ← HA.out.1]
    exact (Bk.new .u8 V3 72 (fun _ => 0) 23).there .u8 F
  have r3 := ra.out _ HR.out.a
  go_upto_region 9 with (first | refine wpList_load_mid rfl 23 _ rfl B 0 rfl A0 _ r3 Try.underlying23 rfl i0 ?_ | refine wpList_store_mid rfl 23 _ _ rfl _ 0 A0.toArray rfl rfl ht j0 o0 ?_)
  obtain ⟨V4, hV4⟩ : ∃ V4, (V3.alloc (.cells Z 23)).setCells Q 0 A0 = V4 := ⟨_, rfl⟩
  have HT : Hid (Tr B P Q F Y F w V4) := by
    have hn := Bk.new .u8 V3 72 (fun _ => 0) 23
    rw [hQ, HA.out.2.2] at hn
    have hp := hn.put F
    rw [HA.out.1] at hp
    rw [← hV4]
    exact ⟨(HR.out.a.alloc _).putOther (by omega) 0 _, (HR.out.x.alloc _).putOther (by omega) 0 _, hp, belows_put (by omega) _ 0 (HR.out.below.alloc (by omega) _)⟩
  rw [hV4]
  clear hV4 hQ ht r3 HR hz
  have HT7 := HT
  obtain ⟨W7, hW7⟩ : ∃ W7, V4 = W7 := ⟨_, rfl⟩
  rw [hW7] at HT7 ⊢
  clear hW7 HT
  refine region_calm (by kernel_rfl) (by kernel_rfl) (fun W => Below W7.heap.size W7 W) (below_drew1 W7) ?_
  intro U hU f hf hof
  have HU : Hid (∀ x W, Below (f x).heap.size (f x) W → ∃ y, W = f y) := fun x W h => hof W ((hf x).trans (h.mono (hf x).size))
  have HE : Hid (∀ u, Tr B P Q F Y F w (f u)) := fun u => HT7.out.next (hf u)
  have rq : Hid (∀ W, Bk .u8 W Q 72 F → W.rangeAt Q 0 A1) := fun W h => by rw [← HA.out.2.1, ← HYY.out]; exact h.range
  clear hf hof
  repeat (first
    | (refine quiet_load (by rfl) 23 _ rfl B 0 rfl A0 _ (by rintro _ ⟨u, rfl⟩; exact ra.out _ (HE.out u).a) Try.underlying23 rfl i0 ?_; simp only [Act.put, List.setIfInBounds_toArray, List.set_cons_zero, List.set_cons_succ])
    | (refine quiet_load (by rfl) 23 _ rfl P 0 rfl A1 _ (by rintro _ ⟨u, rfl⟩; exact rp.out _ (HE.out u).f) Try.underlying23 rfl i1 ?_; simp only [Act.put, List.setIfInBounds_toArray, List.set_cons_zero, List.set_cons_succ])
    | (refine quiet_load (by rfl) 23 _ rfl Q 0 rfl A1 _ (by rintro _ ⟨u, rfl⟩; exact rq.out _ (HE.out u).q) Try.underlying23 rfl i1 ?_; simp only [Act.put, List.setIfInBounds_toArray, List.set_cons_zero, List.set_cons_succ])
    | (refine quiet_one (by rfl) (.bool false) (exec_neqA _ _ _ _ rfl A1.toArray A1.toArray _ rfl rfl gd n1) ?_; simp only [Act.put, List.setIfInBounds_toArray, List.set_cons_zero, List.set_cons_succ])
    | (refine quiet_one (by rfl) (.bool false) (exec_neqA _ _ _ _ rfl A2.toArray A2.toArray _ rfl rfl gd n2) ?_; simp only [Act.put, List.setIfInBounds_toArray, List.set_cons_zero, List.set_cons_succ])
    | (refine quiet_one (by rfl) (.bool false) (exec_neqA _ _ _ _ rfl A3.toArray A3.toArray _ rfl rfl gd n3) ?_; simp only [Act.put, List.setIfInBounds_toArray, List.set_cons_zero, List.set_cons_succ])
    | go_big_quiet_step ((first | (go_at_call 21; exact calm_next HU.out (CFo.out _)) | (go_at_call 19; exact calm_next HU.out (CG.out _)) | (go_at_call 22; exact calm_next HU.out (CC.out _)) | (go_at_call 23; exact calm_next HU.out (CD.out _)))))
  refine wpQuiet_nil ?_
  rintro _ ⟨u9, rfl⟩
  have HT8 : Hid (Tr B P Q F Y F w (f u9)) := HE.out u9
  obtain ⟨W8, hW8⟩ : ∃ W, f u9 = W := ⟨_, rfl⟩
  rw [hW8] at HT8 ⊢
  clear hW8 HU HE hU HT7 CC CD CFo CG n1 n2 n3 rq
  have CWh : Hid (∀ w, Calls Try.prog 24 #[.int .i64 m, .int .i64 b] w fun e w' => e = .returned (.tuple #[.int .i64 0, .int .i64 0, .int .i64 12]) ∧ w' = w) := whose_no HM.out b (.inr (by omega))
  clear HM
  go_wp2_with (go_at_call 24; refine (CWh.out _).mono ?_; rintro e W9 ⟨rfl, hw9⟩; rw [hw9]; clear hw9 W9)
  go_ret
  exact ⟨rfl, by rw [hB]; exact HT8.out.below⟩

theorem rawTurns_walk (a0 : Int) (a1 : Nat → Int) (a2 a3 a4 a5 : Int) (_w0 : (Lit.int .i64 a0).wf = true) (w1 : ∀ i, i < 72 → (Lit.int .u8 (a1 i)).wf = true) (w2 : (Lit.int .i64 a2).wf = true) (_w3 : (Lit.int .i64 a3).wf = true) (_w4 : (Lit.int .i64 a4).wf = true) (w5 : (Lit.int .u8 a5).wf = true) (w : World) :
    Calls Try.prog 5 #[.int .i64 a0, .agg (ints .u8 72 a1).toArray, .int .i64 a2, .int .i64 a3, .int .i64 a4, .int .u8 a5] w fun e w' => e = .returned (.bool true) ∧ Below w.heap.size w w' := by
  have hv : 0 ≤ a5 ∧ a5 < 256 := by have := bounds_u8 w5; omega
  have hb2 : a2 ≤ 9223372036854775807 := by have := bounds_i64 w2; omega
  by_cases h0 : a2 < 0
  · exact rawTurns_neg a0 a2 a3 a4 a5 a1 (args_byts 72 _ w1) hv h0 hb2 w
  · by_cases h1 : a2 < 576
    · exact rawTurns_yes a0 a2 a3 a4 a5 a1 (args_byts 72 _ w1) hv (by omega) h1 w
    · exact rawTurns_big a0 a2 a3 a4 a5 a1 (args_byts 72 _ w1) hv (by omega) hb2 w
end Go.Proofs.Ytkbbnpjjfhmlkaa
