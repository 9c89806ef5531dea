/-
  The syndromes, by a range over the roots.
-/
import Derived.Test.YtdjknaafefnlcaaDoorRsW7
import Derived.Test.YtdjknaafefnlcaaDoorRound
namespace Go.Proofs.YtdjknaafefnlcaaDoor
open Go.RowKit Go.Shelf
open Gf (gI eI)
open Po (El mu pwr ev S cf toE cv Low rts)
open Rm (al sy)
attribute [local go_sem] Oper.semAt_some

theorem pwr_two (x : Nat) : pwr 2 x = al x := rfl
theorem below_shut {B D : Nat} {w W : World} (hK : W.heap[D]? = some (.deferred (some []))) (hD : B ≤ D) (h : Below B w W) : Below B w (W.putObj D (.deferred none)) :=
  below_stay h (Stay.putObj (B := D) _ hK rfl (Nat.le_refl _)) hD
theorem size_sets (b : Nat) : ∀ (vs : List Value) (o : Nat) (W : World), (W.setCells b o vs).heap.size = W.heap.size
  | [], _, _ => rfl
  | v :: vs, o, W => (size_sets b vs (o + 1) _).trans (by simp)
/-- Eval of a block of bytes -/
theorem evalB_any (b g n c : Nat) (F : Nat → El) (x : El) (hn : n ≤ 4000) (w : World) (hf : FldAt w b) (hb : Blk w g n F) :
    Calls Tryd.prog 89 #[.pointer (some ⟨b, 0, none⟩), .slice (some ⟨g, 0, none⟩) n c, .int .u8 (oe x)] w fun e w' => e = .returned (.int .u8 (oe (ev n F x))) ∧ ∃ k, w' = w.drewN k := by
  have h := eval_any b (some ⟨g, 0, none⟩) c n (lst n F) (oe x) w hf (.inr ⟨g, 0, rfl, hb.lt, fun i hi => by
    rw [lst_len] at hi
    rw [Nat.zero_add, lst_get n F i hi]; exact hb.arr i hi⟩) (lst_byt n F) (by unfold maxLen; omega) (lst_len n F) (oe_bd x)
  have e1 : ev (lst n F).length (cf (lst n F)) (toE (oe x)) = ev n F x := by
    rw [lst_len, show toE (oe x) = x from toE_ofE x]
    unfold ev
    refine Po.S_congr _ _ _ fun i hi => ?_
    rw [lst_cf n F i hi]
  rw [e1] at h
  exact h

/-- between two rounds: B the first block of the call, J the word's, the syndromes' is J + 1 -/
structure SmI (B J c b : Nat) (X : Nat → El) (w : World) (x : Nat) (W : World) : Prop where
  pc : Box W B (.pointer (some ⟨c, 0, none⟩))
  code : CdAt W c b
  r : Blk W (B + 1 + 1 + 1) 4 (fun _ => 0)
  j : Blk W J 39 X
  s : Blk W (J + 1) 4 (fun i => if i < x then sy X i else 0)
  below : Below B w W

set_option maxRecDepth 100000 in
set_option maxHeartbeats 2000000 in
theorem syndromes_any (c b : Nat) (F G : Nat → El) (w : World) (hc : CdAt w c b) :
    Calls Tryd.prog 73 #[.pointer (some ⟨c, 0, none⟩), .agg (arr 36 F).toArray, .agg (arr 3 G).toArray] w fun e w' => e = .returned (.agg (arr 4 (sy (wd F G))).toArray) ∧ Below w.heap.size w w' := by
  have hz4 := zero4
  have hz39 := zero39
  have cJ : Hid (∀ w, Calls Tryd.prog 66 #[.agg (arr 36 F).toArray, .agg (arr 3 G).toArray] w fun e w' => e = .returned (.agg (arr 39 (wd F G)).toArray) ∧ Below w.heap.size w w') := fun w => join_any F G w
  obtain ⟨X, HX⟩ : ∃ X, Hid (wd F G = X) := ⟨_, rfl⟩
  rw [HX.out] at cJ ⊢
  obtain ⟨A0, hA0⟩ : ∃ A, arr 36 F = A := ⟨_, rfl⟩
  obtain ⟨A1, hA1⟩ : ∃ A, arr 3 G = A := ⟨_, rfl⟩
  obtain ⟨A2, hA2⟩ : ∃ A, (arr 4 fun _ => 0) = A := ⟨_, rfl⟩
  obtain ⟨A3, hA3⟩ : ∃ A, (arr 39 fun _ => 0) = A := ⟨_, rfl⟩
  obtain ⟨A4, hA4⟩ : ∃ A, arr 39 X = A := ⟨_, rfl⟩
  have i36 : (Tryd.prog.info? 93).map (·.size) = some A0.length := by rw [← hA0, arr_len]; kernel_rfl
  have i3 : (Tryd.prog.info? 37).map (·.size) = some A1.length := by rw [← hA1, arr_len]; kernel_rfl
  have i39 : (Tryd.prog.info? 123).map (·.size) = some A4.length := by rw [← hA4, arr_len]; kernel_rfl
  have o39 : A4.toArray.all (·.oneCell') = true := by rw [← hA4]; exact arr_one 39 X
  rw [hA2] at hz4
  rw [hA3] at hz39
  rw [hA0, hA1] at cJ ⊢
  rw [hA4] at cJ
  have HC : Hid (CdAt w c b) := hc
  have hcl := hc.lt
  clear hc
  refine (callsIn_wide (n := 10)).1 ?_
  refine callsIn_of_wp_marks Tryd.func73 rfl trivial ?_ rfl
  simp only [Tryd.ntmps73, List.size_toArray, List.length_cons, List.length_nil, Nat.reduceAdd, Nat.reduceSub, Array.replicate_succ, Array.replicate_zero, List.push_toArray, List.append_toArray, List.nil_append, List.cons_append]
  refine wpIn_wide.2 ?_
  go_upto_region 1 with (fail)
  obtain ⟨B, hB⟩ : ∃ B, w.heap.size = B := ⟨_, rfl⟩
  obtain ⟨V0, hV0⟩ : ∃ V, (((w.alloc (.cells #[.pointer (some ⟨c, 0, none⟩)] 56)).alloc (.cells A0.toArray 93)).alloc (.cells A1.toArray 37)).alloc (.cells A2.toArray 73) = V := ⟨_, rfl⟩
  have H0 : Hid (Box V0 B (.pointer (some ⟨c, 0, none⟩)) ∧ Blk V0 (B + 1 + 1 + 1) 4 (fun _ => 0) ∧ Below B w V0 ∧ CdAt V0 c b) := by
    have hb : Below B w V0 := by rw [← hV0, ← hB]; exact ((((Below.refl _ w).alloc (Nat.le_refl _) _).alloc (by simp) _).alloc (by simp; omega) _).alloc (by simp; omega) _
    refine ⟨?_, ?_, hb, HC.out.next (by rw [hB]; exact hb)⟩
    · rw [← hV0, ← hB]; exact (((Box.new w _ _).alloc _).alloc _).alloc _
    · have h3 := Blk.new (((w.alloc (.cells #[.pointer (some ⟨c, 0, none⟩)] 56)).alloc (.cells A0.toArray 93)).alloc (.cells A1.toArray 37)) 4 (fun _ => 0) 73
      simp only [World.size_alloc] at h3
      rw [hA2, hV0, hB] at h3; exact h3
  have r0 : V0.rangeAt (B + 1) 0 A0 := by
    have h := Blk.new (w.alloc (.cells #[.pointer (some ⟨c, 0, none⟩)] 56)) 36 F 93
    simp only [World.size_alloc] at h
    have h2 := (h.alloc (.cells A1.toArray 37)).alloc (.cells A2.toArray 73)
    rw [hA0, hV0, hB] at h2
    rw [← hA0]; exact h2.range
  have r1 : V0.rangeAt (B + 1 + 1) 0 A1 := by
    have h := Blk.new ((w.alloc (.cells #[.pointer (some ⟨c, 0, none⟩)] 56)).alloc (.cells A0.toArray 93)) 3 G 37
    simp only [World.size_alloc] at h
    have h2 := h.alloc (.cells A2.toArray 73)
    rw [hA1, hV0, hB] at h2
    rw [← hA1]; exact h2.range
  have n39 : Hid (∀ W : World, (W.alloc (.cells A3.toArray 123)).there W.heap.size 0 A4.toArray.size) := fun W => by
    have h := Blk.new W 39 (fun _ => 0) 123
    rw [hA3] at h
    rw [← hA4]; exact h.there
  have sV0 : B + 1 + 1 + 1 < V0.heap.size := by rw [← hV0, ← hB]; simp
  rw [hV0, hB]
  clear HC hV0
  go_upto_region 3 with (first | refine wpList_load_mid rfl 93 _ rfl _ 0 rfl A0 _ r0 Tryd.underlying93 rfl i36 ?_ | refine wpList_load_mid rfl 37 _ rfl _ 0 rfl A1 _ r1 Tryd.underlying37 rfl i3 ?_ | (go_at_call 66; refine (cJ.out _).mono ?_; rintro e V1 ⟨rfl, hB1⟩) | refine wpList_store_mid rfl 123 _ _ rfl _ 0 A4.toArray rfl rfl (n39.out _) i39 o39 ?_)
  rw [size_sets, World.size_alloc]
  obtain ⟨J, hJ⟩ : ∃ J, V1.heap.size = J := ⟨_, rfl⟩
  obtain ⟨V2, hV2⟩ : ∃ V, ((V1.alloc (.cells A3.toArray 123)).setCells V1.heap.size 0 A4).alloc (.cells A2.toArray 73) = V := ⟨_, rfl⟩
  have sJ : B + 1 + 1 + 1 < J := by have := hB1.size; omega
  have sV2 : Hid (V2.heap.size = J + 1 + 1) := by show _ = _; rw [← hV2, World.size_alloc, size_sets, World.size_alloc, hJ]
  have hB2 : Below V0.heap.size V0 V2 := by
    rw [← hV2]
    exact (below_puts (hB1.alloc hB1.size _) hB1.size 0 A4).alloc (by rw [size_sets]; have := hB1.size; simp; omega) _
  obtain ⟨p1, p2, p3, p4⟩ := H0.out
  have H2 : Hid (SmI B J c b X w 0 V2) := by
    refine ⟨p1.below hB2 p1.lt, p4.next hB2, p2.next hB2, ?_, ?_, p3.trans (hB2.mono (by omega))⟩
    · have h := Blk.new V1 39 (fun _ => 0) 123
      rw [hA3] at h
      have h2 := (h.put X).alloc (.cells A2.toArray 73)
      rw [hA4, hV2, hJ] at h2; exact h2
    · have h := Blk.new ((V1.alloc (.cells A3.toArray 123)).setCells V1.heap.size 0 A4) 4 (fun _ => 0) 73
      rw [hA2, hV2, size_sets, World.size_alloc, hJ] at h
      exact h.congr fun i _ => by rw [if_neg (by omega)]
  have hbl : b < J := Nat.lt_of_lt_of_le p4.fld.lt (by rw [← hJ]; exact hB1.size)
  have q0 := H2.out.pc.1
  rw [hV2, hJ]
  clear hV2 hB1 hB2 p1 p2 p3 p4 H0 r0 r1 n39 sV0 i36 i3 i39 o39 hz4 hz39 cJ hJ
  go_wp2_with (go_at_call 57; refine (roots_fn c b _ H2.out.code.f H2.out.code.fld).mono ?_; rintro e V3 ⟨rfl, hO⟩)
  obtain ⟨N, hN⟩ : ∃ N, V2.heap.size = N := ⟨_, rfl⟩
  have eN : N = J + 1 + 1 := by rw [← hN]; exact sV2.out
  have hS3 := hO.stay
  have s3 := hO.size
  have c0 := hO.c0
  have c1 := hO.c1
  have c2 := hO.c2
  rw [hN] at hS3 s3 c0 c1 c2 ⊢
  have hb3 : b ≠ N := by omega
  have hI3 : SmI B J c b X w 0 V3 := by
    obtain ⟨h1, h2, h3, h4, h5, h6⟩ := H2.out
    exact ⟨h1.stay hS3, h2.stay hS3, h3.stay hS3, h4.stay hS3, h5.stay hS3, below_stay h6 hS3 (by omega)⟩
  clear hO H2 q0 sV2
  refine (wpIn_wide (n := 10)).1 (rangeC rfl (enters_of Tryd.func94 (by kernel_rfl) rfl) (powers_seq (N + 1 + 1) N (N + 1) b 4 2 (by omega) V3 c2 c0 c1 hI3.code.fld) (fun _ => rfl)
    (fun x => x = J + 1) (by rintro x rfl; constructor <;> omega) (by rintro x (rfl | rfl | rfl) <;> omega)
    (SmI B J c b X w) (fun _ _ _ => False)
    (by rintro x A C ⟨h1, h2, h3, h4, h5, h6⟩ hs; exact ⟨h1.stay hs, h2.stay hs, h3.stay hs, h4.stay hs, h5.stay hs, below_stay h6 hs (by omega)⟩)
    (fun _ _ _ _ h _ => h.elim) hI3
    (fun x W _ hp _ => absurd trivial hp) ?round ?done (fun _ _ _ _ _ _ _ h => h.elim))
  case round =>
    rintro l x W W2 hx hp ⟨h1, h2, h3, h4, h5, h6⟩
    have cell := h5.arr x hx
    have free := h5.free x
    have q0 := h1.1
    have qf := h2.f
    have ce : Hid (∀ k, Calls Tryd.prog 89 #[.pointer (some ⟨b, 0, none⟩), .slice (some ⟨J, 0, none⟩) 39 39, .int .u8 (oe (pwr 2 x))] (W2.drewN k) fun e w' => e = .returned (.int .u8 (oe (sy X x))) ∧ ∃ q, w' = (W2.drewN k).drewN q) := fun k =>
      evalB_any b J 39 39 X (pwr 2 x) (by omega) _ (h2.fld.drewN k) h4
    obtain ⟨y, Hy⟩ : ∃ y, Hid (sy X x = y) := ⟨_, rfl⟩
    obtain ⟨p, Hp⟩ : ∃ p, Hid (pwr 2 x = p) := ⟨_, rfl⟩
    obtain ⟨z, Hz⟩ : ∃ z, Hid ((if x < x then sy X x else 0) = z) := ⟨_, rfl⟩
    rw [Hy.out, Hp.out] at ce
    rw [Hz.out] at cell
    have HR : Hid (SmI B J c b X w x W2) := ⟨h1, h2, h3, h4, h5, h6⟩
    have hbx : B ≠ J + 1 := by omega
    have hcx : c ≠ J + 1 := by omega
    clear h1 h2 h3 h4 h5 h6
    try simp only []
    rw [Hp.out]
    gi_wp2
    try (refine ⟨trivial, ?_⟩)
    try gi_wp2
    obtain ⟨fu, Hfu⟩ : ∃ fu, Hid (Value.func (.func 94) #[] #[.pointer (some ⟨J + 1 + 1 + 1 + 1, 0, none⟩), .pointer (some ⟨J + 1 + 1, 0, none⟩), .pointer (some ⟨J + 1 + 1 + 1, 0, none⟩)] = fu) := ⟨_, rfl⟩
    rw [Hfu.out]
    refine region_round (by kernel_rfl) (by kernel_rfl) (fun w' => w'.cell? ⟨B, 0, none⟩ = some (.pointer (some ⟨c, 0, none⟩)) ∧ w'.cell? ⟨c, 0, none⟩ = some (.pointer (some ⟨b, 0, none⟩))) (fun _ w' => Keep (fun x => x = J + 1) W2 w' ∧ SmI B J c b X w (x + 1) w') ⟨q0, qf⟩ (fun hH => ?reg) (fun a' w' hr => ?aft)
    case aft =>
      gi_wp2
      exact hr
    refine take_pure 0 (v := .int .i64 (x : Int)) rfl (by kernel_rfl) rfl (fun w' hw => by simp [execOp, go_sem]) hH ?_
    show wpAnyH _ _ _ _ _ _ _ ({ tmps := #[.pointer (some ⟨c, 0, none⟩), .agg A0.toArray, .agg A1.toArray, .pointer (some ⟨B, 0, none⟩), .pointer (some ⟨B + 1, 0, none⟩), .pointer (some ⟨B + 1 + 1, 0, none⟩), .pointer (some ⟨B + 1 + 1 + 1, 0, none⟩), .pointer (some ⟨J, 0, none⟩), .pointer (some ⟨J + 1, 0, none⟩), .int .i64 (x : Int), .int .u8 (oe p), .agg A0.toArray, .agg A1.toArray, .agg A4.toArray, .pointer (some ⟨c, 0, none⟩), fu, .int .i64 (x : Int), .int .u8 (oe p), .int .i64 (x : Int), undef, undef, undef, undef, undef, undef, undef, undef, undef], defers := [] } : Act) _
    refine take_pure 1 (v := .pointer (some ⟨c, 0, none⟩)) rfl (by kernel_rfl) rfl (fun w' hw => by simp [execOp, go_sem, hw.1]) hH ?_
    show wpAnyH _ _ _ _ _ _ _ ({ tmps := #[.pointer (some ⟨c, 0, none⟩), .agg A0.toArray, .agg A1.toArray, .pointer (some ⟨B, 0, none⟩), .pointer (some ⟨B + 1, 0, none⟩), .pointer (some ⟨B + 1 + 1, 0, none⟩), .pointer (some ⟨B + 1 + 1 + 1, 0, none⟩), .pointer (some ⟨J, 0, none⟩), .pointer (some ⟨J + 1, 0, none⟩), .int .i64 (x : Int), .int .u8 (oe p), .agg A0.toArray, .agg A1.toArray, .agg A4.toArray, .pointer (some ⟨c, 0, none⟩), fu, .int .i64 (x : Int), .int .u8 (oe p), .int .i64 (x : Int), .pointer (some ⟨c, 0, none⟩), undef, undef, undef, undef, undef, undef, undef, undef], defers := [] } : Act) _
    refine take_pure 2 (v := .pointer (some ⟨c, 0, none⟩)) rfl (by kernel_rfl) rfl (fun w' hw => by simp [execOp, go_sem]) hH ?_
    show wpAnyH _ _ _ _ _ _ _ ({ tmps := #[.pointer (some ⟨c, 0, none⟩), .agg A0.toArray, .agg A1.toArray, .pointer (some ⟨B, 0, none⟩), .pointer (some ⟨B + 1, 0, none⟩), .pointer (some ⟨B + 1 + 1, 0, none⟩), .pointer (some ⟨B + 1 + 1 + 1, 0, none⟩), .pointer (some ⟨J, 0, none⟩), .pointer (some ⟨J + 1, 0, none⟩), .int .i64 (x : Int), .int .u8 (oe p), .agg A0.toArray, .agg A1.toArray, .agg A4.toArray, .pointer (some ⟨c, 0, none⟩), fu, .int .i64 (x : Int), .int .u8 (oe p), .int .i64 (x : Int), .pointer (some ⟨c, 0, none⟩), .pointer (some ⟨c, 0, none⟩), undef, undef, undef, undef, undef, undef, undef], defers := [] } : Act) _
    refine take_pure 3 (v := .pointer (some ⟨c, 0, none⟩)) rfl (by kernel_rfl) rfl (fun w' hw => by simp [execOp, go_sem]) hH ?_
    show wpAnyH _ _ _ _ _ _ _ ({ tmps := #[.pointer (some ⟨c, 0, none⟩), .agg A0.toArray, .agg A1.toArray, .pointer (some ⟨B, 0, none⟩), .pointer (some ⟨B + 1, 0, none⟩), .pointer (some ⟨B + 1 + 1, 0, none⟩), .pointer (some ⟨B + 1 + 1 + 1, 0, none⟩), .pointer (some ⟨J, 0, none⟩), .pointer (some ⟨J + 1, 0, none⟩), .int .i64 (x : Int), .int .u8 (oe p), .agg A0.toArray, .agg A1.toArray, .agg A4.toArray, .pointer (some ⟨c, 0, none⟩), fu, .int .i64 (x : Int), .int .u8 (oe p), .int .i64 (x : Int), .pointer (some ⟨c, 0, none⟩), .pointer (some ⟨c, 0, none⟩), .pointer (some ⟨c, 0, none⟩), undef, undef, undef, undef, undef, undef], defers := [] } : Act) _
    refine take_pure 4 (v := .pointer (some ⟨b, 0, none⟩)) rfl (by kernel_rfl) rfl (fun w' hw => by simp [execOp, go_sem, hw.2]) hH ?_
    show wpAnyH _ _ _ _ _ _ _ ({ tmps := #[.pointer (some ⟨c, 0, none⟩), .agg A0.toArray, .agg A1.toArray, .pointer (some ⟨B, 0, none⟩), .pointer (some ⟨B + 1, 0, none⟩), .pointer (some ⟨B + 1 + 1, 0, none⟩), .pointer (some ⟨B + 1 + 1 + 1, 0, none⟩), .pointer (some ⟨J, 0, none⟩), .pointer (some ⟨J + 1, 0, none⟩), .int .i64 (x : Int), .int .u8 (oe p), .agg A0.toArray, .agg A1.toArray, .agg A4.toArray, .pointer (some ⟨c, 0, none⟩), fu, .int .i64 (x : Int), .int .u8 (oe p), .int .i64 (x : Int), .pointer (some ⟨c, 0, none⟩), .pointer (some ⟨c, 0, none⟩), .pointer (some ⟨c, 0, none⟩), .pointer (some ⟨b, 0, none⟩), undef, undef, undef, undef, undef], defers := [] } : Act) _
    refine take_pure 5 (v := .slice (some ⟨J, 0, none⟩) 39 39) rfl (by kernel_rfl) rfl (fun w' hw => by simp [execOp, go_sem]) hH ?_
    show wpAnyH _ _ _ _ _ _ _ ({ tmps := #[.pointer (some ⟨c, 0, none⟩), .agg A0.toArray, .agg A1.toArray, .pointer (some ⟨B, 0, none⟩), .pointer (some ⟨B + 1, 0, none⟩), .pointer (some ⟨B + 1 + 1, 0, none⟩), .pointer (some ⟨B + 1 + 1 + 1, 0, none⟩), .pointer (some ⟨J, 0, none⟩), .pointer (some ⟨J + 1, 0, none⟩), .int .i64 (x : Int), .int .u8 (oe p), .agg A0.toArray, .agg A1.toArray, .agg A4.toArray, .pointer (some ⟨c, 0, none⟩), fu, .int .i64 (x : Int), .int .u8 (oe p), .int .i64 (x : Int), .pointer (some ⟨c, 0, none⟩), .pointer (some ⟨c, 0, none⟩), .pointer (some ⟨c, 0, none⟩), .pointer (some ⟨b, 0, none⟩), .slice (some ⟨J, 0, none⟩) 39 39, undef, undef, undef, undef], defers := [] } : Act) _
    refine take_pure 6 (v := .int .u8 (oe p)) rfl (by kernel_rfl) rfl (fun w' hw => by simp [execOp, go_sem]) hH ?_
    show wpAnyH _ _ _ _ _ _ _ ({ tmps := #[.pointer (some ⟨c, 0, none⟩), .agg A0.toArray, .agg A1.toArray, .pointer (some ⟨B, 0, none⟩), .pointer (some ⟨B + 1, 0, none⟩), .pointer (some ⟨B + 1 + 1, 0, none⟩), .pointer (some ⟨B + 1 + 1 + 1, 0, none⟩), .pointer (some ⟨J, 0, none⟩), .pointer (some ⟨J + 1, 0, none⟩), .int .i64 (x : Int), .int .u8 (oe p), .agg A0.toArray, .agg A1.toArray, .agg A4.toArray, .pointer (some ⟨c, 0, none⟩), fu, .int .i64 (x : Int), .int .u8 (oe p), .int .i64 (x : Int), .pointer (some ⟨c, 0, none⟩), .pointer (some ⟨c, 0, none⟩), .pointer (some ⟨c, 0, none⟩), .pointer (some ⟨b, 0, none⟩), .slice (some ⟨J, 0, none⟩) 39 39, .int .u8 (oe p), undef, undef, undef], defers := [] } : Act) _
    refine take_one 7 rfl rfl (by kernel_rfl) ?_
    refine wp_contract 89 [.tmp 22, .tmp 23, .tmp 24] _ rfl (enters_of Tryd.func89 (by kernel_rfl) rfl) [.pointer (some ⟨b, 0, none⟩), .slice (some ⟨J, 0, none⟩) 39 39, .int .u8 (oe p)] rfl (ce.out 1) ?_
    rintro e W4 ⟨rfl, q, rfl⟩
    refine ⟨_, rfl, ⟨q0, qf⟩, fun hH => ?_⟩
    show wpAnyH _ _ _ _ _ _ _ ({ tmps := #[.pointer (some ⟨c, 0, none⟩), .agg A0.toArray, .agg A1.toArray, .pointer (some ⟨B, 0, none⟩), .pointer (some ⟨B + 1, 0, none⟩), .pointer (some ⟨B + 1 + 1, 0, none⟩), .pointer (some ⟨B + 1 + 1 + 1, 0, none⟩), .pointer (some ⟨J, 0, none⟩), .pointer (some ⟨J + 1, 0, none⟩), .int .i64 (x : Int), .int .u8 (oe p), .agg A0.toArray, .agg A1.toArray, .agg A4.toArray, .pointer (some ⟨c, 0, none⟩), fu, .int .i64 (x : Int), .int .u8 (oe p), .int .i64 (x : Int), .pointer (some ⟨c, 0, none⟩), .pointer (some ⟨c, 0, none⟩), .pointer (some ⟨c, 0, none⟩), .pointer (some ⟨b, 0, none⟩), .slice (some ⟨J, 0, none⟩) 39 39, .int .u8 (oe p), .int .u8 (oe y), undef, undef], defers := [] } : Act) _
    refine take_pure 8 (v := .pointer (some ⟨J + 1, x, none⟩)) rfl (by kernel_rfl) rfl (fun w' hw => by simp [execOp, go_sem]; intro h; omega) hH ?_
    show wpAnyH _ _ _ _ _ _ _ ({ tmps := #[.pointer (some ⟨c, 0, none⟩), .agg A0.toArray, .agg A1.toArray, .pointer (some ⟨B, 0, none⟩), .pointer (some ⟨B + 1, 0, none⟩), .pointer (some ⟨B + 1 + 1, 0, none⟩), .pointer (some ⟨B + 1 + 1 + 1, 0, none⟩), .pointer (some ⟨J, 0, none⟩), .pointer (some ⟨J + 1, 0, none⟩), .int .i64 (x : Int), .int .u8 (oe p), .agg A0.toArray, .agg A1.toArray, .agg A4.toArray, .pointer (some ⟨c, 0, none⟩), fu, .int .i64 (x : Int), .int .u8 (oe p), .int .i64 (x : Int), .pointer (some ⟨c, 0, none⟩), .pointer (some ⟨c, 0, none⟩), .pointer (some ⟨c, 0, none⟩), .pointer (some ⟨b, 0, none⟩), .slice (some ⟨J, 0, none⟩) 39 39, .int .u8 (oe p), .int .u8 (oe y), .pointer (some ⟨J + 1, x, none⟩), undef], defers := [] } : Act) _
    refine take_one 9 rfl rfl (by kernel_rfl) ?_
    have cell' : ((W2.drewN 1).drewN q).cell? ⟨J + 1, x, none⟩ = some (.int .u8 (oe z)) := cell
    have free' : ((W2.drewN 1).drewN q).frozen? ⟨J + 1, x, none⟩ = false := free
    obtain ⟨W5, hW5⟩ : ∃ W5, (W2.drewN 1).drewN q = W5 := ⟨_, rfl⟩
    rw [hW5] at cell' free' ⊢
    have fin : Keep (fun x => x = J + 1) W2 (W5.setCell ⟨J + 1, x, none⟩ (.int .u8 (oe y))) ∧ SmI B J c b X w (x + 1) (W5.setCell ⟨J + 1, x, none⟩ (.int .u8 (oe y))) := by
      obtain ⟨h1, h2, h3, h4, h5, h6⟩ := HR.out
      have k5 : Keep (fun x => x = J + 1) W2 W5 := by rw [← hW5]; exact ((Keep.refl _ W2).drewN 1).drewN q
      have s5 : Stay W2.heap.size W2 W5 := by rw [← hW5]; exact (Stay.drewN _ W2 1).trans (Stay.drewN _ _ q)
      have kk : Keep (fun x => x = J + 1) W5 (W5.setCell ⟨J + 1, x, none⟩ (.int .u8 (oe y))) := ⟨by simp, fun k _ hm => Below.heap_setCell W5 ⟨J + 1, x, none⟩ _ k hm⟩
      refine ⟨k5.trans kk, kk.box (h1.stay s5) (by omega), ?_, (h3.stay s5).other (by omega) _ _, (h4.stay s5).other (by omega) _ _, ?_, (below_stay h6 s5 (by have := h1.lt; omega)).setCell (p := ⟨J + 1, x, none⟩) (by simp; omega) _⟩
      · exact (h2.stay s5).of (Below.heap_setCell W5 ⟨J + 1, x, none⟩ _ c (by simp; omega)) (Below.heap_setCell W5 ⟨J + 1, x, none⟩ _ b (by simp; omega))
      · refine ((h5.stay s5).set x y).congr fun i hi => ?_
        by_cases e : i = x
        · rw [if_pos e, if_pos (by omega), e]; exact Hy.out.symm
        · rw [if_neg e]
          by_cases e2 : i < x
          · rw [if_pos e2, if_pos (by omega)]
          · rw [if_neg e2, if_neg (by omega)]
    have Fin : Hid _ := fin
    rw [hW5] at hH
    clear fin HR hW5
    simp [Oper.wp, execOp, go_sem, Oper.upon, cell', free']
    exact ⟨hH, fun _ _ => wpAnyH_done (by kernel_rfl) Fin.out _⟩
  case done =>
    rintro D W hD ⟨h1, h2, h3, h4, h5, h6⟩ hK
    have ge : Blk W (J + 1) 4 (sy X) := h5.congr fun i hi => if_pos hi
    have hr := ge.range
    have ht : W.there (B + 1 + 1 + 1) 0 (arr 4 (sy X)).toArray.size := h3.there
    have hi4 : (Tryd.prog.info? 73).map (·.size) = some (arr 4 (sy X)).length := by rw [arr_len]; exact info4
    have hone := arr_one 4 (sy X)
    obtain ⟨L, hL⟩ : ∃ L, arr 4 (sy X) = L := ⟨_, rfl⟩
    rw [hL] at hr ht hi4 hone
    have HL : Hid (arr 4 (sy X) = L) := hL
    have hs : (W.setCells (B + 1 + 1 + 1) 0 L).rangeAt (B + 1 + 1 + 1) 0 L := World.rangeAt_setCells_same W _ 0 L (by simpa using ht)
    have hK2 : (W.setCells (B + 1 + 1 + 1) 0 L).heap[D]? = some (.deferred (some [])) := (heap_put _ L 0 W D (by omega)).trans hK
    have fin : Hid ((W.setCells (B + 1 + 1 + 1) 0 L).heap[D]? = some (.deferred (some [])) ∧ ((W.setCells (B + 1 + 1 + 1) 0 L).putObj D (.deferred none)).rangeAt (B + 1 + 1 + 1) 0 L ∧ Below B w ((W.setCells (B + 1 + 1 + 1) 0 L).putObj D (.deferred none))) :=
      ⟨hK2, range_of hs (World.putObj_heap_other (by omega)), below_shut hK2 (by omega) (below_puts h6 (by omega) 0 L)⟩
    clear h1 h2 h3 h4 h5 h6 hK hK2 hL ge hs
    go_wp2_with (first | refine wpList_load_mid rfl 73 _ rfl _ 0 rfl L _ hr Tryd.underlying73 rfl hi4 ?_ | refine wpList_store_mid rfl 73 _ _ rfl _ 0 L.toArray rfl rfl ht hi4 hone ?_)
    refine ⟨by simp, .inl ⟨_, _, rfl, run_takeDeferred fin.out.1, ?_⟩⟩
    have hld := run_loadVar_mid (P := Tryd.prog) _ (B + 1 + 1 + 1) 0 73 L _ fin.out.2.1 Tryd.underlying73 rfl hi4
    refine ⟨.agg L.toArray, ?_, by rw [HL.out], by rw [hB]; exact fin.out.2.2⟩
    simp [results, Tryd.f73, Act.put, asAddr, hld]
end Go.Proofs.YtdjknaafefnlcaaDoor
