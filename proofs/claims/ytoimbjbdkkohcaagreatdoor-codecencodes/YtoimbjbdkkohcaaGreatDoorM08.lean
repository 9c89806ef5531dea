/-
  Texts of one family, one behind another: RsW11, RsW12, RsW13.
-/
import Derived.Test.YtoimbjbdkkohcaaGreatDoorM07
import Derived.BigRegion

/-
  'only', by a range over the powers of a quotient.
-/
namespace Go.Proofs.YtoimbjbdkkohcaaGreatDoor
open Go.RowKit Go.Shelf
open Gf (gI eI dI lI)
open Po (El mu pwr ev S cf toE cv Low rts)
open Rm (al sy At)
attribute [local go_sem] Oper.semAt_some

/-- between two rounds: B the first block of the call, A the block of what one symbol alone has -/
structure OnI (B A c b : Nat) (s : Nat → El) (E : El) (w : World) (x : Nat) (W : World) : Prop where
  pc : Box W B (.pointer (some ⟨c, 0, none⟩))
  code : CdAt W c b
  sb : Blk W (B + 1) 4 s
  al : Blk W A 4 (fun i => if i < x then mu (s 0) (pwr E i) else 0)
  below : Below B w W

set_option maxRecDepth 100000 in
set_option maxHeartbeats 2000000 in
theorem only_any (c b : Nat) (s : Nat → El) (w : World) (hc : CdAt w c b) :
    Calls Tryz.prog 95 #[.pointer (some ⟨c, 0, none⟩), .agg (arr 4 s).toArray] w fun e w' => e = .returned (.int .i64 (plc s 39 0)) ∧ Below w.heap.size w w' := by
  have hw := only_ways s
  have hz4 := zero4
  obtain ⟨P, hP⟩ : ∃ P, plc s 39 0 = P := ⟨_, rfl⟩
  rw [hP] at hw ⊢
  clear hP
  obtain ⟨A0, hA0⟩ : ∃ A, arr 4 s = A := ⟨_, rfl⟩
  obtain ⟨A2, hA2⟩ : ∃ A, (arr 4 fun _ => 0) = A := ⟨_, rfl⟩
  rw [hA2] at hz4
  rw [hA0]
  refine (callsIn_wide (n := 10)).1 ?_
  refine callsIn_of_wp_marks Tryz.func95 rfl trivial ?_ rfl
  simp only [Tryz.ntmps95, List.size_toArray, List.length_cons, List.length_nil, Nat.reduceAdd, Nat.reduceSub, Array.replicate_succ, Array.replicate_zero, List.push_toArray, List.append_toArray, List.nil_append, List.cons_append]
  refine wpIn_wide.2 ?_
  go_upto_region 1 with (fail)
  obtain ⟨B, hB⟩ : ∃ B, w.heap.size = B := ⟨_, rfl⟩
  obtain ⟨V0, hV0⟩ : ∃ V, (w.alloc (.cells #[.pointer (some ⟨c, 0, none⟩)] 63)).alloc (.cells A0.toArray 50) = V := ⟨_, rfl⟩
  have sV0 : Hid (V0.heap.size = B + 1 + 1) := by show _ = _; rw [← hV0, ← hB]; simp
  have hb0 : Below B w V0 := by rw [← hV0, ← hB]; exact ((Below.refl _ w).alloc (Nat.le_refl _) _).alloc (by simp) _
  have p0 : Box V0 B (.pointer (some ⟨c, 0, none⟩)) := by rw [← hV0, ← hB]; exact (Box.new w _ _).alloc _
  have p1 : CdAt V0 c b := hc.next (by rw [hB]; exact hb0)
  have p2 : Blk V0 (B + 1) 4 s := by
    have h := Blk.new (w.alloc (.cells #[.pointer (some ⟨c, 0, none⟩)] 63)) 4 s 50
    simp only [World.size_alloc] at h
    rw [hA0, hV0, hB] at h; exact h
  have hcl : c < B ∧ b < B := by rw [← hB]; exact ⟨hc.lt, hc.fld.lt⟩
  rw [hV0, hB]
  have q0 := p0.1
  have q1 := p1.f
  have q2 := p2.arr 0 (by omega)
  have q3 := p2.arr 1 (by omega)
  have HV : Hid (CdAt V0 c b ∧ Blk V0 (B + 1) 4 s ∧ Box V0 B (.pointer (some ⟨c, 0, none⟩)) ∧ Below B w V0) := ⟨p1, p2, p0, hb0⟩
  have hf : Hid (FldAt V0 b) := p1.fld
  have b0 := oe_bd (s 0)
  have b1 := oe_bd (s 1)
  clear hV0 p0 p1 p2 hb0 hc
  rcases hw with ⟨h0, rfl⟩ | ⟨h0, hd, rfl⟩ | ⟨h0, E, n, hE0, hd, hn, hl, hw⟩
  · rw [h0, oe_zero] at q2
    clear b0
    go_quiet ((go_at_call 105; exact Calls.quiet_of_same (div_zero b _ _)))
    go_wp2
    exact ⟨_, results_tmp rfl _ _ _, rfl, by rw [hB]; exact below_drewN HV.out.2.2.2 _⟩
  · have hp : 0 < oe (s 0) := by
      have : oe (s 0) ≠ 0 := fun e => h0 (oe_inj (e.trans oe_zero.symm))
      omega
    have cD : Hid (∀ k, Calls Tryz.prog 105 #[.pointer (some ⟨b, 0, none⟩), .int .u8 (oe (s 1)), .int .u8 (oe (s 0))] (V0.drewN k) fun e w' => e = .returned (.tuple #[.int .u8 0, .int .i64 0]) ∧ ∃ q, w' = (V0.drewN k).drewN q) := fun k => by
      have := div_any b (oe (s 1)) (oe (s 0)) b1.1 b1.2 hp b0.2 (V0.drewN k) (hf.out.drewN k)
      rw [hd] at this; exact this
    go_quiet ((go_at_call 105; exact Calls.quiet_of (cD.out _)))
    go_wp2_with (go_at_call 106; refine (log_zero b _).mono ?_; rintro e w' ⟨rfl, rfl⟩)
    exact ⟨_, results_tmp rfl _ _ _, rfl, by rw [hB]; exact below_drewN HV.out.2.2.2 _⟩
  · have hp : 0 < oe (s 0) := by
      have : oe (s 0) ≠ 0 := fun e => h0 (oe_inj (e.trans oe_zero.symm))
      omega
    have hEp : 0 < oe E := by
      have := oe_bd E
      have : oe E ≠ 0 := fun e => hE0 (oe_inj (e.trans oe_zero.symm))
      omega
    have hEb := oe_bd E
    have cD : Hid (∀ k, Calls Tryz.prog 105 #[.pointer (some ⟨b, 0, none⟩), .int .u8 (oe (s 1)), .int .u8 (oe (s 0))] (V0.drewN k) fun e w' => e = .returned (.tuple #[.int .u8 (oe E), .int .i64 0]) ∧ ∃ q, w' = (V0.drewN k).drewN q) := fun k => by
      have := div_any b (oe (s 1)) (oe (s 0)) b1.1 b1.2 hp b0.2 (V0.drewN k) (hf.out.drewN k)
      rw [hd] at this; exact this
    have cL : Hid (∀ k, Calls Tryz.prog 106 #[.pointer (some ⟨b, 0, none⟩), .int .u8 (oe E)] (V0.drewN k) fun e w' => e = .returned (.tuple #[.int .i64 (n : Int), .int .i64 0]) ∧ w' = V0.drewN k) := fun k => by
      have := log_any b (oe E) hEp hEb.2 (V0.drewN k) (hf.out.drewN k)
      rw [hl] at this; exact this
    clear hd hl hE0
    go_quiet ((go_at_call 105; exact Calls.quiet_of (cD.out _)))
    have hw2 : (39 ≤ n ∧ P = -1) ∨ (n < 39 ∧ ∃ t : Bool, (t = true ↔ ∀ j, j < 4 → mu (s 0) (pwr E j) = s j) ∧ P = if t = true then (n : Int) else -1) := by
      rcases hw with h | ⟨h1, h2, h3⟩ | ⟨h1, h2, h3⟩
      · exact .inl h
      · exact .inr ⟨h1, false, ⟨(fun e => by cases e), fun e => absurd e h2⟩, h3⟩
      · exact .inr ⟨h1, true, ⟨fun _ => h2, fun _ => rfl⟩, h3⟩
    clear hw
    rcases hw2 with ⟨hn39, rfl⟩ | ⟨hn39, t, ht, hP⟩
    · go_wp2_with (go_at_call 106; refine (cL.out _).mono ?_; rintro e w' ⟨rfl, rfl⟩)
      exact ⟨_, results_tmp rfl _ _ _, rfl, by rw [hB]; exact below_drewN HV.out.2.2.2 _⟩
    · have Ht : Hid (t = true ↔ ∀ j, j < 4 → mu (s 0) (pwr E j) = s j) := ht
      have HP : Hid (P = if t = true then (n : Int) else -1) := hP
      clear ht hP
      go_upto_region 8 with (go_at_call 106; refine (cL.out _).mono ?_; rintro e w' ⟨rfl, rfl⟩)
      obtain ⟨A, hA⟩ : ∃ A, B + 1 + 1 = A := ⟨_, rfl⟩
      have sz : (V0.drewN nq).heap.size = A := by rw [← hA]; exact sV0.out
      obtain ⟨V2, hV2⟩ : ∃ V, (V0.drewN nq).alloc (.cells A2.toArray 50) = V := ⟨_, rfl⟩
      have sV2 : Hid (V2.heap.size = A + 1) := by show _ = _; rw [← hV2, World.size_alloc, sz]
      have H2 : Hid (OnI B A c b s E w 0 V2) := by
        obtain ⟨p1, p2, p0, hb0⟩ := HV.out
        have st : Stay B V0 V2 := by rw [← hV2]; exact (Stay.drewN _ V0 nq).trans (Stay.alloc _ _ _ (by rw [sz]; omega))
        refine ⟨p0.stay st, p1.stay st, p2.stay st, ?_, below_stay hb0 st (Nat.le_refl _)⟩
        have h := Blk.new (V0.drewN nq) 4 (fun _ => 0) 50
        rw [hA2, hV2, sz] at h
        exact h.congr fun i _ => by rw [if_neg (by omega)]
      have r0 := H2.out.pc.1
      have r1 := H2.out.code.f
      have sz0 : V0.heap.size = A := sz
      rw [hV2, sz0]
      clear hV2 HV q0 q1 q2 q3 cD cL hf sz sz0 sV0 hz4 h0 hp hEp
      go_wp2_with (go_at_call 82; refine (powers_any b (oe E) 4 _).mono ?_; rintro e w' ⟨rfl, rfl⟩)
      obtain ⟨V3, hV3⟩ : ∃ V, ((V2.alloc (.cells #[.pointer (some ⟨b, 0, none⟩)] 65)).alloc (.cells #[.int .u8 (oe E)] 5)).alloc (.cells #[.int .i64 4] 3) = V := ⟨_, rfl⟩
      obtain ⟨s3, c0, c1, c2, hS3⟩ := box3 V2 _ _ _ _ _ _ V3 hV3
      obtain ⟨N, hN⟩ : ∃ N, V2.heap.size = N := ⟨_, rfl⟩
      have eN : Hid (N = A + 1) := by show _ = _; rw [← hN]; exact sV2.out
      rw [hV3]
      rw [hN] at s3 c0 c1 c2 hS3 ⊢
      have hI3 : OnI B A c b s E w 0 V3 := by
        obtain ⟨h1, h2, h3, h4, h5⟩ := H2.out
        exact ⟨h1.stay hS3, h2.stay hS3, h3.stay hS3, h4.stay hS3, below_stay h5 hS3 (by have := eN.out; omega)⟩
      have hNA : A < N := by have := eN.out; omega
      obtain ⟨dn, hdn⟩ : ∃ dn, decide (39 ≤ (n : Int)) = dn := ⟨_, rfl⟩
      obtain ⟨fu, hfu⟩ : ∃ fu, Value.func (.func 101) #[] #[.pointer (some ⟨N + 1 + 1, 0, none⟩), .pointer (some ⟨N, 0, none⟩), .pointer (some ⟨N + 1, 0, none⟩)] = fu := ⟨_, rfl⟩
      rw [hdn]
      clear hV3 H2 r0 r1 sV2 hN hdn
      refine (wpIn_wide (n := 10)).1 (rangeC rfl (enters_of Tryz.func101 (by kernel_rfl) rfl) (powers_seq (N + 1 + 1) N (N + 1) b 4 E (by omega) V3 c2 c0 c1 hI3.code.fld) (fun _ => rfl)
        (fun x => x = A) (by rintro x rfl; constructor <;> omega) (by rintro x (rfl | rfl | rfl) <;> omega)
        (OnI B A c b s E w) (fun _ _ _ => False)
        (by rintro x X Y ⟨h1, h2, h3, h4, h5⟩ hs; exact ⟨h1.stay hs, h2.stay hs, h3.stay hs, h4.stay hs, below_stay h5 hs (by omega)⟩)
        (fun _ _ _ _ h _ => h.elim) hI3
        (fun x W _ hp _ => absurd trivial hp) ?round ?done (fun _ _ _ _ _ _ _ h => h.elim))
      case round =>
        rintro l x W W2 hx hp ⟨h1, h2, h3, h4, h5⟩
        have cell := h4.arr x hx
        have free := h4.free x
        have q0 := h1.1
        have q1 := h2.f
        have q2 := h3.arr 0 (by omega)
        obtain ⟨p, Hp⟩ : ∃ p, Hid (pwr E x = p) := ⟨_, rfl⟩
        have hpb := oe_bd p
        have ce : Hid (∀ k, Calls Tryz.prog 92 #[.pointer (some ⟨b, 0, none⟩), .int .u8 (oe (s 0)), .int .u8 (oe p)] (W2.drewN k) fun e w' => e = .returned (.int .u8 (oe (mu (s 0) p))) ∧ ∃ q, w' = (W2.drewN k).drewN q) := fun k => by
          rw [← oe_mu]; exact mul_any b _ _ b0.1 b0.2 hpb.1 hpb.2 _ (h2.fld.drewN k)
        obtain ⟨y, Hy⟩ : ∃ y, Hid (mu (s 0) p = y) := ⟨_, rfl⟩
        obtain ⟨z, Hz⟩ : ∃ z, Hid ((if x < x then mu (s 0) (pwr E x) else 0) = z) := ⟨_, rfl⟩
        rw [Hy.out] at ce
        rw [Hz.out] at cell
        have HR : Hid (OnI B A c b s E w x W2) := ⟨h1, h2, h3, h4, h5⟩
        clear h1 h2 h3 h4 h5
        try simp only []
        rw [Hp.out, hfu]
        clear hfu
        gi_wp2
        try (refine ⟨trivial, ?_⟩)
        try gi_wp2
        refine region_round (by kernel_rfl) (by kernel_rfl) (fun w' => w'.cell? ⟨B, 0, none⟩ = some (.pointer (some ⟨c, 0, none⟩)) ∧ w'.cell? ⟨c, 0, none⟩ = some (.pointer (some ⟨b, 0, none⟩)) ∧ w'.cell? ⟨B + 1, 0, none⟩ = some (.int .u8 (oe (s 0)))) (fun _ w' => Keep (fun x => x = A) W2 w' ∧ OnI B A c b s E w (x + 1) w') ⟨q0, q1, q2⟩ (fun hH => ?reg) (fun a' w' hr => ?aft)
        case aft =>
          gi_wp2
          exact hr
        refine take_pure 0 (v := .int .i64 (x : Int)) rfl (by kernel_rfl) rfl (fun w' hw => by simp [execOp, go_sem]) hH ?_
        show wpAnyH _ _ _ _ _ _ _ ({ tmps := #[.pointer (some ⟨c, 0, none⟩), .agg A0.toArray, .pointer (some ⟨B, 0, none⟩), .pointer (some ⟨B + 1, 0, none⟩), .int .i64 0, .int .u8 (oe E), .int .i64 0, .int .i64 (n : Int), .pointer (some ⟨A, 0, none⟩), .int .i64 (x : Int), .int .u8 (oe p), .tuple #[.int .u8 (oe E), .int .i64 0], .pointer (some ⟨c, 0, none⟩), .pointer (some ⟨c, 0, none⟩), .pointer (some ⟨c, 0, none⟩), .pointer (some ⟨b, 0, none⟩), .pointer (some ⟨B + 1, 1, none⟩), .int .u8 (oe (s 1)), .pointer (some ⟨B + 1, 0, none⟩), .int .u8 (oe (s 0)), .tuple #[.int .u8 (oe E), .int .i64 0], .int .u8 (oe E), .int .i64 0, .int .i64 0, .bool false, .tuple #[.int .i64 (n : Int), .int .i64 0], .pointer (some ⟨c, 0, none⟩), .pointer (some ⟨c, 0, none⟩), .pointer (some ⟨c, 0, none⟩), .pointer (some ⟨b, 0, none⟩), .int .u8 (oe E), .tuple #[.int .i64 (n : Int), .int .i64 0], .int .i64 (n : Int), .int .i64 0, .int .i64 0, .bool false, .bool false, .int .i64 (n : Int), .bool dn, .bool dn, .pointer (some ⟨c, 0, none⟩), .pointer (some ⟨c, 0, none⟩), .pointer (some ⟨c, 0, none⟩), .pointer (some ⟨b, 0, none⟩), .int .u8 (oe E), fu, .int .i64 (x : Int), .int .u8 (oe p), .int .i64 (x : Int), undef, undef, undef, undef, undef, undef, undef, undef, undef, undef, undef, undef, undef], defers := [] } : Act) _
        refine take_pure 1 (v := .pointer (some ⟨c, 0, none⟩)) rfl (by kernel_rfl) rfl (fun w' hw => by simp [execOp, go_sem, hw.1]) hH ?_
        show wpAnyH _ _ _ _ _ _ _ ({ tmps := #[.pointer (some ⟨c, 0, none⟩), .agg A0.toArray, .pointer (some ⟨B, 0, none⟩), .pointer (some ⟨B + 1, 0, none⟩), .int .i64 0, .int .u8 (oe E), .int .i64 0, .int .i64 (n : Int), .pointer (some ⟨A, 0, none⟩), .int .i64 (x : Int), .int .u8 (oe p), .tuple #[.int .u8 (oe E), .int .i64 0], .pointer (some ⟨c, 0, none⟩), .pointer (some ⟨c, 0, none⟩), .pointer (some ⟨c, 0, none⟩), .pointer (some ⟨b, 0, none⟩), .pointer (some ⟨B + 1, 1, none⟩), .int .u8 (oe (s 1)), .pointer (some ⟨B + 1, 0, none⟩), .int .u8 (oe (s 0)), .tuple #[.int .u8 (oe E), .int .i64 0], .int .u8 (oe E), .int .i64 0, .int .i64 0, .bool false, .tuple #[.int .i64 (n : Int), .int .i64 0], .pointer (some ⟨c, 0, none⟩), .pointer (some ⟨c, 0, none⟩), .pointer (some ⟨c, 0, none⟩), .pointer (some ⟨b, 0, none⟩), .int .u8 (oe E), .tuple #[.int .i64 (n : Int), .int .i64 0], .int .i64 (n : Int), .int .i64 0, .int .i64 0, .bool false, .bool false, .int .i64 (n : Int), .bool dn, .bool dn, .pointer (some ⟨c, 0, none⟩), .pointer (some ⟨c, 0, none⟩), .pointer (some ⟨c, 0, none⟩), .pointer (some ⟨b, 0, none⟩), .int .u8 (oe E), fu, .int .i64 (x : Int), .int .u8 (oe p), .int .i64 (x : Int), .pointer (some ⟨c, 0, none⟩), undef, undef, undef, undef, undef, undef, undef, undef, undef, undef, undef, undef], defers := [] } : Act) _
        refine take_pure 2 (v := .pointer (some ⟨c, 0, none⟩)) rfl (by kernel_rfl) rfl (fun w' hw => by simp [execOp, go_sem]) hH ?_
        show wpAnyH _ _ _ _ _ _ _ ({ tmps := #[.pointer (some ⟨c, 0, none⟩), .agg A0.toArray, .pointer (some ⟨B, 0, none⟩), .pointer (some ⟨B + 1, 0, none⟩), .int .i64 0, .int .u8 (oe E), .int .i64 0, .int .i64 (n : Int), .pointer (some ⟨A, 0, none⟩), .int .i64 (x : Int), .int .u8 (oe p), .tuple #[.int .u8 (oe E), .int .i64 0], .pointer (some ⟨c, 0, none⟩), .pointer (some ⟨c, 0, none⟩), .pointer (some ⟨c, 0, none⟩), .pointer (some ⟨b, 0, none⟩), .pointer (some ⟨B + 1, 1, none⟩), .int .u8 (oe (s 1)), .pointer (some ⟨B + 1, 0, none⟩), .int .u8 (oe (s 0)), .tuple #[.int .u8 (oe E), .int .i64 0], .int .u8 (oe E), .int .i64 0, .int .i64 0, .bool false, .tuple #[.int .i64 (n : Int), .int .i64 0], .pointer (some ⟨c, 0, none⟩), .pointer (some ⟨c, 0, none⟩), .pointer (some ⟨c, 0, none⟩), .pointer (some ⟨b, 0, none⟩), .int .u8 (oe E), .tuple #[.int .i64 (n : Int), .int .i64 0], .int .i64 (n : Int), .int .i64 0, .int .i64 0, .bool false, .bool false, .int .i64 (n : Int), .bool dn, .bool dn, .pointer (some ⟨c, 0, none⟩), .pointer (some ⟨c, 0, none⟩), .pointer (some ⟨c, 0, none⟩), .pointer (some ⟨b, 0, none⟩), .int .u8 (oe E), fu, .int .i64 (x : Int), .int .u8 (oe p), .int .i64 (x : Int), .pointer (some ⟨c, 0, none⟩), .pointer (some ⟨c, 0, none⟩), undef, undef, undef, undef, undef, undef, undef, undef, undef, undef, undef], defers := [] } : Act) _
        refine take_pure 3 (v := .pointer (some ⟨c, 0, none⟩)) rfl (by kernel_rfl) rfl (fun w' hw => by simp [execOp, go_sem]) hH ?_
        show wpAnyH _ _ _ _ _ _ _ ({ tmps := #[.pointer (some ⟨c, 0, none⟩), .agg A0.toArray, .pointer (some ⟨B, 0, none⟩), .pointer (some ⟨B + 1, 0, none⟩), .int .i64 0, .int .u8 (oe E), .int .i64 0, .int .i64 (n : Int), .pointer (some ⟨A, 0, none⟩), .int .i64 (x : Int), .int .u8 (oe p), .tuple #[.int .u8 (oe E), .int .i64 0], .pointer (some ⟨c, 0, none⟩), .pointer (some ⟨c, 0, none⟩), .pointer (some ⟨c, 0, none⟩), .pointer (some ⟨b, 0, none⟩), .pointer (some ⟨B + 1, 1, none⟩), .int .u8 (oe (s 1)), .pointer (some ⟨B + 1, 0, none⟩), .int .u8 (oe (s 0)), .tuple #[.int .u8 (oe E), .int .i64 0], .int .u8 (oe E), .int .i64 0, .int .i64 0, .bool false, .tuple #[.int .i64 (n : Int), .int .i64 0], .pointer (some ⟨c, 0, none⟩), .pointer (some ⟨c, 0, none⟩), .pointer (some ⟨c, 0, none⟩), .pointer (some ⟨b, 0, none⟩), .int .u8 (oe E), .tuple #[.int .i64 (n : Int), .int .i64 0], .int .i64 (n : Int), .int .i64 0, .int .i64 0, .bool false, .bool false, .int .i64 (n : Int), .bool dn, .bool dn, .pointer (some ⟨c, 0, none⟩), .pointer (some ⟨c, 0, none⟩), .pointer (some ⟨c, 0, none⟩), .pointer (some ⟨b, 0, none⟩), .int .u8 (oe E), fu, .int .i64 (x : Int), .int .u8 (oe p), .int .i64 (x : Int), .pointer (some ⟨c, 0, none⟩), .pointer (some ⟨c, 0, none⟩), .pointer (some ⟨c, 0, none⟩), undef, undef, undef, undef, undef, undef, undef, undef, undef, undef], defers := [] } : Act) _
        refine take_pure 4 (v := .pointer (some ⟨b, 0, none⟩)) rfl (by kernel_rfl) rfl (fun w' hw => by simp [execOp, go_sem, hw.2.1]) hH ?_
        show wpAnyH _ _ _ _ _ _ _ ({ tmps := #[.pointer (some ⟨c, 0, none⟩), .agg A0.toArray, .pointer (some ⟨B, 0, none⟩), .pointer (some ⟨B + 1, 0, none⟩), .int .i64 0, .int .u8 (oe E), .int .i64 0, .int .i64 (n : Int), .pointer (some ⟨A, 0, none⟩), .int .i64 (x : Int), .int .u8 (oe p), .tuple #[.int .u8 (oe E), .int .i64 0], .pointer (some ⟨c, 0, none⟩), .pointer (some ⟨c, 0, none⟩), .pointer (some ⟨c, 0, none⟩), .pointer (some ⟨b, 0, none⟩), .pointer (some ⟨B + 1, 1, none⟩), .int .u8 (oe (s 1)), .pointer (some ⟨B + 1, 0, none⟩), .int .u8 (oe (s 0)), .tuple #[.int .u8 (oe E), .int .i64 0], .int .u8 (oe E), .int .i64 0, .int .i64 0, .bool false, .tuple #[.int .i64 (n : Int), .int .i64 0], .pointer (some ⟨c, 0, none⟩), .pointer (some ⟨c, 0, none⟩), .pointer (some ⟨c, 0, none⟩), .pointer (some ⟨b, 0, none⟩), .int .u8 (oe E), .tuple #[.int .i64 (n : Int), .int .i64 0], .int .i64 (n : Int), .int .i64 0, .int .i64 0, .bool false, .bool false, .int .i64 (n : Int), .bool dn, .bool dn, .pointer (some ⟨c, 0, none⟩), .pointer (some ⟨c, 0, none⟩), .pointer (some ⟨c, 0, none⟩), .pointer (some ⟨b, 0, none⟩), .int .u8 (oe E), fu, .int .i64 (x : Int), .int .u8 (oe p), .int .i64 (x : Int), .pointer (some ⟨c, 0, none⟩), .pointer (some ⟨c, 0, none⟩), .pointer (some ⟨c, 0, none⟩), .pointer (some ⟨b, 0, none⟩), undef, undef, undef, undef, undef, undef, undef, undef, undef], defers := [] } : Act) _
        refine take_pure 5 (v := .pointer (some ⟨B + 1, 0, none⟩)) rfl (by kernel_rfl) rfl (fun w' hw => by simp [execOp, go_sem]) hH ?_
        show wpAnyH _ _ _ _ _ _ _ ({ tmps := #[.pointer (some ⟨c, 0, none⟩), .agg A0.toArray, .pointer (some ⟨B, 0, none⟩), .pointer (some ⟨B + 1, 0, none⟩), .int .i64 0, .int .u8 (oe E), .int .i64 0, .int .i64 (n : Int), .pointer (some ⟨A, 0, none⟩), .int .i64 (x : Int), .int .u8 (oe p), .tuple #[.int .u8 (oe E), .int .i64 0], .pointer (some ⟨c, 0, none⟩), .pointer (some ⟨c, 0, none⟩), .pointer (some ⟨c, 0, none⟩), .pointer (some ⟨b, 0, none⟩), .pointer (some ⟨B + 1, 1, none⟩), .int .u8 (oe (s 1)), .pointer (some ⟨B + 1, 0, none⟩), .int .u8 (oe (s 0)), .tuple #[.int .u8 (oe E), .int .i64 0], .int .u8 (oe E), .int .i64 0, .int .i64 0, .bool false, .tuple #[.int .i64 (n : Int), .int .i64 0], .pointer (some ⟨c, 0, none⟩), .pointer (some ⟨c, 0, none⟩), .pointer (some ⟨c, 0, none⟩), .pointer (some ⟨b, 0, none⟩), .int .u8 (oe E), .tuple #[.int .i64 (n : Int), .int .i64 0], .int .i64 (n : Int), .int .i64 0, .int .i64 0, .bool false, .bool false, .int .i64 (n : Int), .bool dn, .bool dn, .pointer (some ⟨c, 0, none⟩), .pointer (some ⟨c, 0, none⟩), .pointer (some ⟨c, 0, none⟩), .pointer (some ⟨b, 0, none⟩), .int .u8 (oe E), fu, .int .i64 (x : Int), .int .u8 (oe p), .int .i64 (x : Int), .pointer (some ⟨c, 0, none⟩), .pointer (some ⟨c, 0, none⟩), .pointer (some ⟨c, 0, none⟩), .pointer (some ⟨b, 0, none⟩), .pointer (some ⟨B + 1, 0, none⟩), undef, undef, undef, undef, undef, undef, undef, undef], defers := [] } : Act) _
        refine take_pure 6 (v := .int .u8 (oe (s 0))) rfl (by kernel_rfl) rfl (fun w' hw => by simp [execOp, go_sem, hw.2.2]) hH ?_
        show wpAnyH _ _ _ _ _ _ _ ({ tmps := #[.pointer (some ⟨c, 0, none⟩), .agg A0.toArray, .pointer (some ⟨B, 0, none⟩), .pointer (some ⟨B + 1, 0, none⟩), .int .i64 0, .int .u8 (oe E), .int .i64 0, .int .i64 (n : Int), .pointer (some ⟨A, 0, none⟩), .int .i64 (x : Int), .int .u8 (oe p), .tuple #[.int .u8 (oe E), .int .i64 0], .pointer (some ⟨c, 0, none⟩), .pointer (some ⟨c, 0, none⟩), .pointer (some ⟨c, 0, none⟩), .pointer (some ⟨b, 0, none⟩), .pointer (some ⟨B + 1, 1, none⟩), .int .u8 (oe (s 1)), .pointer (some ⟨B + 1, 0, none⟩), .int .u8 (oe (s 0)), .tuple #[.int .u8 (oe E), .int .i64 0], .int .u8 (oe E), .int .i64 0, .int .i64 0, .bool false, .tuple #[.int .i64 (n : Int), .int .i64 0], .pointer (some ⟨c, 0, none⟩), .pointer (some ⟨c, 0, none⟩), .pointer (some ⟨c, 0, none⟩), .pointer (some ⟨b, 0, none⟩), .int .u8 (oe E), .tuple #[.int .i64 (n : Int), .int .i64 0], .int .i64 (n : Int), .int .i64 0, .int .i64 0, .bool false, .bool false, .int .i64 (n : Int), .bool dn, .bool dn, .pointer (some ⟨c, 0, none⟩), .pointer (some ⟨c, 0, none⟩), .pointer (some ⟨c, 0, none⟩), .pointer (some ⟨b, 0, none⟩), .int .u8 (oe E), fu, .int .i64 (x : Int), .int .u8 (oe p), .int .i64 (x : Int), .pointer (some ⟨c, 0, none⟩), .pointer (some ⟨c, 0, none⟩), .pointer (some ⟨c, 0, none⟩), .pointer (some ⟨b, 0, none⟩), .pointer (some ⟨B + 1, 0, none⟩), .int .u8 (oe (s 0)), undef, undef, undef, undef, undef, undef, undef], defers := [] } : Act) _
        refine take_pure 7 (v := .int .u8 (oe p)) rfl (by kernel_rfl) rfl (fun w' hw => by simp [execOp, go_sem]) hH ?_
        show wpAnyH _ _ _ _ _ _ _ ({ tmps := #[.pointer (some ⟨c, 0, none⟩), .agg A0.toArray, .pointer (some ⟨B, 0, none⟩), .pointer (some ⟨B + 1, 0, none⟩), .int .i64 0, .int .u8 (oe E), .int .i64 0, .int .i64 (n : Int), .pointer (some ⟨A, 0, none⟩), .int .i64 (x : Int), .int .u8 (oe p), .tuple #[.int .u8 (oe E), .int .i64 0], .pointer (some ⟨c, 0, none⟩), .pointer (some ⟨c, 0, none⟩), .pointer (some ⟨c, 0, none⟩), .pointer (some ⟨b, 0, none⟩), .pointer (some ⟨B + 1, 1, none⟩), .int .u8 (oe (s 1)), .pointer (some ⟨B + 1, 0, none⟩), .int .u8 (oe (s 0)), .tuple #[.int .u8 (oe E), .int .i64 0], .int .u8 (oe E), .int .i64 0, .int .i64 0, .bool false, .tuple #[.int .i64 (n : Int), .int .i64 0], .pointer (some ⟨c, 0, none⟩), .pointer (some ⟨c, 0, none⟩), .pointer (some ⟨c, 0, none⟩), .pointer (some ⟨b, 0, none⟩), .int .u8 (oe E), .tuple #[.int .i64 (n : Int), .int .i64 0], .int .i64 (n : Int), .int .i64 0, .int .i64 0, .bool false, .bool false, .int .i64 (n : Int), .bool dn, .bool dn, .pointer (some ⟨c, 0, none⟩), .pointer (some ⟨c, 0, none⟩), .pointer (some ⟨c, 0, none⟩), .pointer (some ⟨b, 0, none⟩), .int .u8 (oe E), fu, .int .i64 (x : Int), .int .u8 (oe p), .int .i64 (x : Int), .pointer (some ⟨c, 0, none⟩), .pointer (some ⟨c, 0, none⟩), .pointer (some ⟨c, 0, none⟩), .pointer (some ⟨b, 0, none⟩), .pointer (some ⟨B + 1, 0, none⟩), .int .u8 (oe (s 0)), .int .u8 (oe p), undef, undef, undef, undef, undef, undef], defers := [] } : Act) _
        refine take_one 8 rfl rfl (by kernel_rfl) ?_
        refine wp_contract 92 [.tmp 52, .tmp 54, .tmp 55] _ rfl (enters_of Tryz.func92 (by kernel_rfl) rfl) [.pointer (some ⟨b, 0, none⟩), .int .u8 (oe (s 0)), .int .u8 (oe p)] rfl (ce.out 1) ?_
        rintro e W4 ⟨rfl, q, rfl⟩
        refine ⟨_, rfl, ⟨q0, q1, q2⟩, fun hH => ?_⟩
        show wpAnyH _ _ _ _ _ _ _ ({ tmps := #[.pointer (some ⟨c, 0, none⟩), .agg A0.toArray, .pointer (some ⟨B, 0, none⟩), .pointer (some ⟨B + 1, 0, none⟩), .int .i64 0, .int .u8 (oe E), .int .i64 0, .int .i64 (n : Int), .pointer (some ⟨A, 0, none⟩), .int .i64 (x : Int), .int .u8 (oe p), .tuple #[.int .u8 (oe E), .int .i64 0], .pointer (some ⟨c, 0, none⟩), .pointer (some ⟨c, 0, none⟩), .pointer (some ⟨c, 0, none⟩), .pointer (some ⟨b, 0, none⟩), .pointer (some ⟨B + 1, 1, none⟩), .int .u8 (oe (s 1)), .pointer (some ⟨B + 1, 0, none⟩), .int .u8 (oe (s 0)), .tuple #[.int .u8 (oe E), .int .i64 0], .int .u8 (oe E), .int .i64 0, .int .i64 0, .bool false, .tuple #[.int .i64 (n : Int), .int .i64 0], .pointer (some ⟨c, 0, none⟩), .pointer (some ⟨c, 0, none⟩), .pointer (some ⟨c, 0, none⟩), .pointer (some ⟨b, 0, none⟩), .int .u8 (oe E), .tuple #[.int .i64 (n : Int), .int .i64 0], .int .i64 (n : Int), .int .i64 0, .int .i64 0, .bool false, .bool false, .int .i64 (n : Int), .bool dn, .bool dn, .pointer (some ⟨c, 0, none⟩), .pointer (some ⟨c, 0, none⟩), .pointer (some ⟨c, 0, none⟩), .pointer (some ⟨b, 0, none⟩), .int .u8 (oe E), fu, .int .i64 (x : Int), .int .u8 (oe p), .int .i64 (x : Int), .pointer (some ⟨c, 0, none⟩), .pointer (some ⟨c, 0, none⟩), .pointer (some ⟨c, 0, none⟩), .pointer (some ⟨b, 0, none⟩), .pointer (some ⟨B + 1, 0, none⟩), .int .u8 (oe (s 0)), .int .u8 (oe p), .int .u8 (oe y), undef, undef, undef, undef, undef], defers := [] } : Act) _
        refine take_pure 9 (v := .pointer (some ⟨A, x, none⟩)) rfl (by kernel_rfl) rfl (fun w' hw => by simp [execOp, go_sem]; intro h; omega) hH ?_
        show wpAnyH _ _ _ _ _ _ _ ({ tmps := #[.pointer (some ⟨c, 0, none⟩), .agg A0.toArray, .pointer (some ⟨B, 0, none⟩), .pointer (some ⟨B + 1, 0, none⟩), .int .i64 0, .int .u8 (oe E), .int .i64 0, .int .i64 (n : Int), .pointer (some ⟨A, 0, none⟩), .int .i64 (x : Int), .int .u8 (oe p), .tuple #[.int .u8 (oe E), .int .i64 0], .pointer (some ⟨c, 0, none⟩), .pointer (some ⟨c, 0, none⟩), .pointer (some ⟨c, 0, none⟩), .pointer (some ⟨b, 0, none⟩), .pointer (some ⟨B + 1, 1, none⟩), .int .u8 (oe (s 1)), .pointer (some ⟨B + 1, 0, none⟩), .int .u8 (oe (s 0)), .tuple #[.int .u8 (oe E), .int .i64 0], .int .u8 (oe E), .int .i64 0, .int .i64 0, .bool false, .tuple #[.int .i64 (n : Int), .int .i64 0], .pointer (some ⟨c, 0, none⟩), .pointer (some ⟨c, 0, none⟩), .pointer (some ⟨c, 0, none⟩), .pointer (some ⟨b, 0, none⟩), .int .u8 (oe E), .tuple #[.int .i64 (n : Int), .int .i64 0], .int .i64 (n : Int), .int .i64 0, .int .i64 0, .bool false, .bool false, .int .i64 (n : Int), .bool dn, .bool dn, .pointer (some ⟨c, 0, none⟩), .pointer (some ⟨c, 0, none⟩), .pointer (some ⟨c, 0, none⟩), .pointer (some ⟨b, 0, none⟩), .int .u8 (oe E), fu, .int .i64 (x : Int), .int .u8 (oe p), .int .i64 (x : Int), .pointer (some ⟨c, 0, none⟩), .pointer (some ⟨c, 0, none⟩), .pointer (some ⟨c, 0, none⟩), .pointer (some ⟨b, 0, none⟩), .pointer (some ⟨B + 1, 0, none⟩), .int .u8 (oe (s 0)), .int .u8 (oe p), .int .u8 (oe y), .pointer (some ⟨A, x, none⟩), undef, undef, undef, undef], defers := [] } : Act) _
        refine take_one 10 rfl rfl (by kernel_rfl) ?_
        have cell' : ((W2.drewN 1).drewN q).cell? ⟨A, x, none⟩ = some (.int .u8 (oe z)) := cell
        have free' : ((W2.drewN 1).drewN q).frozen? ⟨A, x, none⟩ = false := free
        obtain ⟨W5, hW5⟩ : ∃ W5, (W2.drewN 1).drewN q = W5 := ⟨_, rfl⟩
        rw [hW5] at cell' free' hH ⊢
        have fin : Keep (fun x => x = A) W2 (W5.setCell ⟨A, x, none⟩ (.int .u8 (oe y))) ∧ OnI B A c b s E w (x + 1) (W5.setCell ⟨A, x, none⟩ (.int .u8 (oe y))) := by
          obtain ⟨h1, h2, h3, h4, h5⟩ := HR.out
          have k5 : Keep (fun x => x = A) W2 W5 := by rw [← hW5]; exact ((Keep.refl _ W2).drewN 1).drewN q
          have s5 : Stay W2.heap.size W2 W5 := by rw [← hW5]; exact (Stay.drewN _ W2 1).trans (Stay.drewN _ _ q)
          have kk : Keep (fun x => x = A) W5 (W5.setCell ⟨A, x, none⟩ (.int .u8 (oe y))) := ⟨by simp, fun k _ hm => Below.heap_setCell W5 ⟨A, x, none⟩ _ k hm⟩
          refine ⟨k5.trans kk, kk.box (h1.stay s5) (by omega), ?_, (h3.stay s5).other (by omega) _ _, ?_, (below_stay h5 s5 (by have := h1.lt; omega)).setCell (p := ⟨A, x, none⟩) (by simp; omega) _⟩
          · exact (h2.stay s5).of (Below.heap_setCell W5 ⟨A, x, none⟩ _ c (by simp; omega)) (Below.heap_setCell W5 ⟨A, x, none⟩ _ b (by simp; omega))
          · refine ((h4.stay s5).set x y).congr fun i hi => ?_
            by_cases e : i = x
            · rw [if_pos e, if_pos (by omega), e, Hp.out]; exact Hy.out.symm
            · rw [if_neg e]
              by_cases e2 : i < x
              · rw [if_pos e2, if_pos (by omega)]
              · rw [if_neg e2, if_neg (by omega)]
        have Fin : Hid (Keep (fun x => x = A) W2 (W5.setCell ⟨A, x, none⟩ (.int .u8 (oe y))) ∧ OnI B A c b s E w (x + 1) (W5.setCell ⟨A, x, none⟩ (.int .u8 (oe y)))) := fin
        clear fin HR hW5
        simp [Oper.wp, execOp, go_sem, Oper.upon, cell', free']
        exact ⟨hH, fun _ _ _ => wpAnyH_done (by kernel_rfl) Fin.out _⟩
      case done =>
        rintro D W hD ⟨h1, h2, h3, h4, h5⟩ hK
        have ge : Blk W A 4 (fun i => mu (s 0) (pwr E i)) := h4.congr fun i hi => if_pos hi
        have hr1 := ge.range
        have hr2 := h3.range
        have i4 : (Tryz.prog.info? 50).map (·.size) = some (arr 4 (fun i => mu (s 0) (pwr E i))).length := by rw [arr_len]; exact info4
        have i4' : (Tryz.prog.info? 50).map (·.size) = some (arr 4 s).length := by rw [arr_len]; exact info4
        have hne := neq_arr 50 4 Tryz.underlying50 (fun i => mu (s 0) (pwr E i)) s t Ht.out
        have hgd : Tryz.prog.eqGuardType Tryz.prog.depth 50 = false := by kernel_rfl
        obtain ⟨L1, hL1⟩ : ∃ L, arr 4 (fun i => mu (s 0) (pwr E i)) = L := ⟨_, rfl⟩
        rw [hL1] at hr1 i4 hne
        rw [hA0] at hr2 i4' hne
        have fin : Hid (W.heap[D]? = some (.deferred (some [])) ∧ Below B w (W.putObj D (.deferred none))) := ⟨hK, below_shut hK (by omega) h5⟩
        clear h1 h2 h3 h4 h5 hK hL1 ge Ht
        cases t with
        | true =>
          have eP : Hid (P = (n : Int)) := by show _ = _; rw [HP.out]; simp
          clear HP
          go_wp2_with (first | refine wpList_load_mid rfl 50 _ rfl A 0 rfl L1 _ hr1 Tryz.underlying50 rfl i4 ?_ | refine wpList_load_mid rfl 50 _ rfl (B + 1) 0 rfl A0 _ hr2 Tryz.underlying50 rfl i4' ?_)
          refine ⟨by simp, .inl ⟨_, _, rfl, run_takeDeferred fin.out.1, ?_⟩⟩
          exact ⟨_, results_tmp rfl _ _ _, by rw [eP.out]; rfl, by first | exact fin.out.2 | (rw [hB]; exact fin.out.2)⟩
        | false =>
          have eP : Hid (P = -1) := by show _ = _; rw [HP.out]; simp
          clear HP
          go_wp2_with (first | refine wpList_load_mid rfl 50 _ rfl A 0 rfl L1 _ hr1 Tryz.underlying50 rfl i4 ?_ | refine wpList_load_mid rfl 50 _ rfl (B + 1) 0 rfl A0 _ hr2 Tryz.underlying50 rfl i4' ?_)
          refine ⟨by simp, .inl ⟨_, _, rfl, run_takeDeferred fin.out.1, ?_⟩⟩
          exact ⟨_, results_tmp rfl _ _ _, by rw [eP.out]; rfl, by first | exact fin.out.2 | (rw [hB]; exact fin.out.2)⟩
end Go.Proofs.YtoimbjbdkkohcaaGreatDoor

/-
  The verdict of syndromes.
-/
namespace Go.Proofs.YtoimbjbdkkohcaaGreatDoor
open Go.RowKit Go.Shelf
open Gf (gI eI dI lI)
open Po (El mu pwr ev S cf toE cv Low rts)
open Rm (al sy At)
attribute [local go_sem] Oper.semAt_some

/-- a verdict, as the program has it -/
def vd (s : Nat → El) : Array Value := #[.int .i64 (vk s), .int .i64 (vp s), .int .u8 (oe (vv s))]
theorem zeroVd (w : World) : (zeroValue 98).run Tryz.prog w = .ok (.agg #[.int .i64 0, .int .i64 0, .int .u8 0]) w := by kernel_rfl
theorem infoVd : (Tryz.prog.info? 98).map (·.size) = some 3 := by kernel_rfl
/-- three cells that were stored one by one are read as a verdict -/
theorem three_vd {V : World} {C : Nat} (ht : V.there C 0 3) (a b c : Value) :
    (loadVar 98 ⟨C, 0, none⟩).run Tryz.prog (((V.setCell ⟨C, 0, none⟩ a).setCell ⟨C, 1, none⟩ b).setCell ⟨C, 2, none⟩ c) = .ok (.agg #[a, b, c]) (((V.setCell ⟨C, 0, none⟩ a).setCell ⟨C, 1, none⟩ b).setCell ⟨C, 2, none⟩ c) :=
  run_loadVar_mid (P := Tryz.prog) _ C 0 98 [a, b, c] _ (World.rangeAt_setCells_same V C 0 [a, b, c] ht) Tryz.underlying98 rfl infoVd

theorem there3 {V : World} {C : Nat} {a b c : Value} (t0 : V.cell? ⟨C, 0, none⟩ = some a) (t1 : V.cell? ⟨C, 1, none⟩ = some b) (t2 : V.cell? ⟨C, 2, none⟩ = some c) (f0 : V.frozen? ⟨C, 0, none⟩ = false) (f1 : V.frozen? ⟨C, 1, none⟩ = false) (f2 : V.frozen? ⟨C, 2, none⟩ = false) : V.there C 0 3 := fun j hj => by
  rcases (show j = 0 ∨ j = 1 ∨ j = 2 by omega) with rfl | rfl | rfl
  · exact ⟨by rw [Nat.zero_add, t0]; rfl, f0⟩
  · exact ⟨by rw [Nat.zero_add, t1]; rfl, f1⟩
  · exact ⟨by rw [Nat.zero_add, t2]; rfl, f2⟩
set_option maxRecDepth 100000 in
set_option maxHeartbeats 1000000 in
theorem locate_any (c b : Nat) (s : Nat → El) (w : World) (hc : CdAt w c b) :
    Calls Tryz.prog 78 #[.pointer (some ⟨c, 0, none⟩), .agg (arr 4 s).toArray] w fun e w' => e = .returned (.agg (vd s)) ∧ Below w.heap.size w w' := by
  have hz := zeroVd
  have hz4 := zero4
  have hw := vways s
  have hpl : ¬ Nought s → plc s 39 0 = vp s := fun h => by unfold vp; rw [if_neg h]
  have cO : Hid (∀ W, CdAt W c b → Calls Tryz.prog 95 #[.pointer (some ⟨c, 0, none⟩), .agg (arr 4 s).toArray] W fun e w' => e = .returned (.int .i64 (plc s 39 0)) ∧ Below W.heap.size W w') := fun W h => only_any c b s W h
  unfold vd
  obtain ⟨K, hK⟩ : ∃ K, vk s = K := ⟨_, rfl⟩
  obtain ⟨L, hL⟩ : ∃ L, vp s = L := ⟨_, rfl⟩
  obtain ⟨U, hU⟩ : ∃ U, vv s = U := ⟨_, rfl⟩
  rw [hK, hL, hU] at hw
  rw [hL] at hpl
  rw [hK, hL, hU]
  have i4 : (Tryz.prog.info? 50).map (·.size) = some (arr 4 s).length := by rw [arr_len]; exact info4
  have heq : ∀ b : Bool, (b = true ↔ ∀ i, i < 4 → s i = (fun _ => 0) i) → ∀ w, (binOp .eql 50 (.agg (arr 4 s).toArray) (.agg (arr 4 fun _ => 0).toArray)).run Tryz.prog w = .ok (.bool b) w := fun b hb w => eql_arr 50 4 Tryz.underlying50 s (fun _ => 0) b hb w
  have hgd : Tryz.prog.eqGuardType Tryz.prog.depth 50 = false := by kernel_rfl
  obtain ⟨A0, hA0⟩ : ∃ A, arr 4 s = A := ⟨_, rfl⟩
  obtain ⟨A2, hA2⟩ : ∃ A, (arr 4 fun _ => 0) = A := ⟨_, rfl⟩
  rw [hA2] at hz4
  rw [hA0, hA2] at heq
  rw [hA0] at cO i4 ⊢
  go_enter Tryz.func78, Tryz.ntmps78
  go_upto_region 1 with (fail)
  obtain ⟨V, hV⟩ : ∃ V, (w.alloc (.cells A0.toArray 50)).alloc (.cells #[.int .i64 0, .int .i64 0, .int .u8 0] 98) = V := ⟨_, rfl⟩
  obtain ⟨B, hB⟩ : ∃ B, w.heap.size = B := ⟨_, rfl⟩
  obtain ⟨C, hC⟩ : ∃ C, B + 1 = C := ⟨_, rfl⟩
  have hBC : B < C := by omega
  have hb0 : Below B w V := by rw [← hV, ← hB]; exact ((Below.refl _ w).alloc (Nat.le_refl _) _).alloc (by simp) _
  have p2 : Blk V B 4 s := by
    have h := (Blk.new w 4 s 50).alloc (.cells #[.int .i64 0, .int .i64 0, .int .u8 0] 98)
    rw [hA0, hV, hB] at h; exact h
  have hcV : CdAt V c b := hc.next (by rw [hB]; exact hb0)
  have hlt : C < V.heap.size := by rw [← hV, ← hC, ← hB]; simp
  have HT : Hid (V.cell? ⟨C, 0, none⟩ = some (.int .i64 0) ∧ V.cell? ⟨C, 1, none⟩ = some (.int .i64 0) ∧ V.cell? ⟨C, 2, none⟩ = some (.int .u8 0) ∧ ∀ i, V.frozen? ⟨C, i, none⟩ = false) := by
    rw [← hV, ← hC, ← hB]
    refine ⟨?_, ?_, ?_, fun i => ?_⟩ <;> simp [go_sem]
  have hr := p2.range
  rw [hA0] at hr
  rw [hV]
  rw [hB, hC]
  have H0 : Hid (Blk V B 4 s ∧ CdAt V c b ∧ Below B w V) := ⟨p2, hcV, hb0⟩
  clear hV hC p2 hcV hb0 hc
  rcases hw with ⟨hN, rfl, rfl, rfl⟩ | ⟨hN, _, rfl, rfl, rfl⟩ | ⟨hN, i, hi, _, _, hk, rfl, rfl⟩
  · have he := heq true ⟨fun _ i hi => by
      obtain ⟨n0, n1, n2, n3⟩ := hN
      rcases (show i = 0 ∨ i = 1 ∨ i = 2 ∨ i = 3 by omega) with rfl | rfl | rfl | rfl <;> assumption, fun _ => rfl⟩
    obtain ⟨t0, t1, t2, tf⟩ := HT.out
    have f0 := tf 0; have f1 := tf 1; have f2 := tf 2
    clear heq hpl hN tf
    go_wp2_with (first | refine wpList_load_mid rfl 50 _ rfl B 0 rfl A0 _ hr Tryz.underlying50 rfl i4 ?_)
    have hld := three_vd (there3 t0 t1 t2 f0 f1 f2) (.int .i64 0) (.int .i64 (-1)) (.int .u8 0)
    refine bodyPost_ret (v := .agg #[.int .i64 0, .int .i64 (-1), .int .u8 0]) ?_ rfl ⟨rfl, by rw [hB]; exact three_below H0.out.2.2 hBC _ _ _⟩
    simp [results, Tryz.f78, asAddr, hld]
  · have ep := hpl hN
    have he := heq false ⟨(fun e => by cases e), fun h => absurd ⟨h 0 (by omega), h 1 (by omega), h 2 (by omega), h 3 (by omega)⟩ hN⟩
    rw [ep] at cO
    clear heq hpl hN ep
    go_upto_region 5 with (first | refine wpList_load_mid rfl 50 _ rfl B 0 rfl A0 _ hr Tryz.underlying50 rfl i4 ?_ | (go_at_call 95; refine (cO.out _ H0.out.2.1).mono ?_; rintro e V1 ⟨rfl, hB1⟩))
    have hb1 : Hid (Below B w V1) := H0.out.2.2.trans (hB1.mono (by omega))
    obtain ⟨t0, t1, t2, f0, f1, f2⟩ : V1.cell? ⟨C, 0, none⟩ = some (.int .i64 0) ∧ V1.cell? ⟨C, 1, none⟩ = some (.int .i64 0) ∧ V1.cell? ⟨C, 2, none⟩ = some (.int .u8 0) ∧ V1.frozen? ⟨C, 0, none⟩ = false ∧ V1.frozen? ⟨C, 1, none⟩ = false ∧ V1.frozen? ⟨C, 2, none⟩ = false := by
      obtain ⟨t0, t1, t2, tf⟩ := HT.out
      exact ⟨(hB1.cell (p := ⟨C, 0, none⟩) hlt).trans t0, (hB1.cell (p := ⟨C, 1, none⟩) hlt).trans t1, (hB1.cell (p := ⟨C, 2, none⟩) hlt).trans t2, (hB1.frozen (p := ⟨C, 0, none⟩) hlt).trans (tf 0), (hB1.frozen (p := ⟨C, 1, none⟩) hlt).trans (tf 1), (hB1.frozen (p := ⟨C, 2, none⟩) hlt).trans (tf 2)⟩
    have q0 := (H0.out.1.below hB1 (by omega)).arr 0 (by omega)
    clear hB1 HT H0 hr
    go_wp2
    have hld := three_vd (there3 t0 t1 t2 f0 f1 f2) (.int .i64 3) (.int .i64 (-1)) (.int .u8 0)
    refine bodyPost_ret (v := .agg #[.int .i64 3, .int .i64 (-1), .int .u8 0]) ?_ rfl ⟨rfl, by rw [hB]; exact three_below hb1.out hBC _ _ _⟩
    simp [results, Tryz.f78, asAddr, hld]
  · have ep := hpl hN
    have he := heq false ⟨(fun e => by cases e), fun h => absurd ⟨h 0 (by omega), h 1 (by omega), h 2 (by omega), h 3 (by omega)⟩ hN⟩
    rw [ep] at cO
    clear heq hpl hN ep
    go_upto_region 5 with (first | refine wpList_load_mid rfl 50 _ rfl B 0 rfl A0 _ hr Tryz.underlying50 rfl i4 ?_ | (go_at_call 95; refine (cO.out _ H0.out.2.1).mono ?_; rintro e V1 ⟨rfl, hB1⟩))
    have hb1 : Hid (Below B w V1) := H0.out.2.2.trans (hB1.mono (by omega))
    obtain ⟨t0, t1, t2, f0, f1, f2⟩ : V1.cell? ⟨C, 0, none⟩ = some (.int .i64 0) ∧ V1.cell? ⟨C, 1, none⟩ = some (.int .i64 0) ∧ V1.cell? ⟨C, 2, none⟩ = some (.int .u8 0) ∧ V1.frozen? ⟨C, 0, none⟩ = false ∧ V1.frozen? ⟨C, 1, none⟩ = false ∧ V1.frozen? ⟨C, 2, none⟩ = false := by
      obtain ⟨t0, t1, t2, tf⟩ := HT.out
      exact ⟨(hB1.cell (p := ⟨C, 0, none⟩) hlt).trans t0, (hB1.cell (p := ⟨C, 1, none⟩) hlt).trans t1, (hB1.cell (p := ⟨C, 2, none⟩) hlt).trans t2, (hB1.frozen (p := ⟨C, 0, none⟩) hlt).trans (tf 0), (hB1.frozen (p := ⟨C, 1, none⟩) hlt).trans (tf 1), (hB1.frozen (p := ⟨C, 2, none⟩) hlt).trans (tf 2)⟩
    have q0 := (H0.out.1.below hB1 (by omega)).arr 0 (by omega)
    clear hB1 HT H0 hr
    have hni : ((i : Int) == -1) = false := by simp
    by_cases h36 : i < 36
    · rw [if_pos h36] at hk
      subst hk
      go_wp2
      have hld := three_vd (there3 t0 t1 t2 f0 f1 f2) (.int .i64 1) (.int .i64 (i : Int)) (.int .u8 (oe (s 0)))
      refine bodyPost_ret (v := .agg #[.int .i64 1, .int .i64 (i : Int), .int .u8 (oe (s 0))]) ?_ rfl ⟨rfl, by rw [hB]; exact three_below hb1.out hBC _ _ _⟩
      simp [results, Tryz.f78, asAddr, hld]
    · rw [if_neg h36] at hk
      subst hk
      go_wp2
      have hld := three_vd (there3 t0 t1 t2 f0 f1 f2) (.int .i64 2) (.int .i64 (i : Int)) (.int .u8 (oe (s 0)))
      refine bodyPost_ret (v := .agg #[.int .i64 2, .int .i64 (i : Int), .int .u8 (oe (s 0))]) ?_ rfl ⟨rfl, by rw [hB]; exact three_below hb1.out hBC _ _ _⟩
      simp [results, Tryz.f78, asAddr, hld]
end Go.Proofs.YtoimbjbdkkohcaaGreatDoor

/-
  A word's data and its verdict.
-/
namespace Go.Proofs.YtoimbjbdkkohcaaGreatDoor
open Go.RowKit Go.Shelf
open Gf (gI eI dI lI)
open Po (El mu pwr ev S cf toE cv Low rts)
open Rm (al sy At)
attribute [local go_sem] Oper.semAt_some

/-- a word with the symbol mended that the verdict names -/
def mnd (F s : Nat → El) (i : Nat) : El := if vk s = 1 ∧ (i : Int) = vp s then F i ^^^ vv s else F i
theorem vk_one (s : Nat → El) (h : vk s = 1) : ∃ i : Nat, i < 36 ∧ At s i ∧ vp s = (i : Int) ∧ vv s = s 0 := by
  rcases vways s with ⟨_, h1, _⟩ | ⟨_, _, h1, _⟩ | ⟨_, i, hi, hat, _, h1, h2, h3⟩
  · omega
  · omega
  · by_cases h36 : i < 36
    · exact ⟨i, h36, hat, h2, h3⟩
    · rw [if_neg h36] at h1; omega
theorem zero32 (w : World) : (zeroValue 58).run Tryz.prog w = .ok (.agg (arr 32 fun _ => 0).toArray) w := by kernel_rfl
theorem info32 : (Tryz.prog.info? 58).map (·.size) = some 32 := by kernel_rfl
theorem info36 : (Tryz.prog.info? 49).map (·.size) = some 36 := by kernel_rfl
theorem info3 : (Tryz.prog.info? 54).map (·.size) = some 3 := by kernel_rfl
/-- a block that holds a verdict and may be written -/
structure VdAt (W : World) (b : Nat) (x y z : Value) : Prop where
  c0 : W.cell? ⟨b, 0, none⟩ = some x
  c1 : W.cell? ⟨b, 1, none⟩ = some y
  c2 : W.cell? ⟨b, 2, none⟩ = some z
  f : ∀ i, W.frozen? ⟨b, i, none⟩ = false
theorem VdAt.lt {W : World} {b : Nat} {x y z : Value} (h : VdAt W b x y z) : b < W.heap.size := cell_lt h.c0
theorem VdAt.of {W W' : World} {b : Nat} {x y z : Value} (h : VdAt W b x y z) (k : W'.heap[b]? = W.heap[b]?) : VdAt W' b x y z :=
  ⟨(World.cell?_of_block (w := W) (a := ⟨b, 0, none⟩) k).trans h.c0, (World.cell?_of_block (w := W) (a := ⟨b, 1, none⟩) k).trans h.c1, (World.cell?_of_block (w := W) (a := ⟨b, 2, none⟩) k).trans h.c2, fun i => (World.frozen?_of_block (w := W) (a := ⟨b, i, none⟩) k).trans (h.f i)⟩
theorem VdAt.alloc {W : World} {b : Nat} {x y z : Value} (h : VdAt W b x y z) (o : Obj) : VdAt (W.alloc o) b x y z := h.of (Below.heap_alloc W o b h.lt)
theorem VdAt.next {W W' : World} {b : Nat} {x y z : Value} (h : VdAt W b x y z) (k : Below W.heap.size W W') : VdAt W' b x y z := h.of (k.block b h.lt)
theorem VdAt.new (W : World) (x y z : Value) (t : TypeId) : VdAt (W.alloc (.cells #[x, y, z] t)) W.heap.size x y z := by
  refine ⟨?_, ?_, ?_, fun i => ?_⟩ <;> simp [go_sem]
theorem VdAt.there {W : World} {b : Nat} {x y z : Value} (h : VdAt W b x y z) : W.there b 0 3 := there3 h.c0 h.c1 h.c2 (h.f 0) (h.f 1) (h.f 2)
theorem VdAt.range {W : World} {b : Nat} {x y z : Value} (h : VdAt W b x y z) : W.rangeAt b 0 [x, y, z] := fun j v hv => by
  rcases j with _ | _ | _ | j
  · simp at hv; subst hv; exact h.c0
  · simp at hv; subst hv; exact h.c1
  · simp at hv; subst hv; exact h.c2
  · simp at hv

/-- while Decode works: B the first block of the call, D the verdict's, X the word -/
structure DcS (B D : Nat) (X : Nat → El) (K L : Int) (U : El) (w V : World) : Prop where
  a : Blk V B 36 X
  r : Blk V (B + 1 + 1) 32 (fun _ => 0)
  q : VdAt V (B + 1 + 1 + 1) (.int .i64 0) (.int .i64 0) (.int .u8 0)
  v : VdAt V D (.int .i64 K) (.int .i64 L) (.int .u8 (oe U))
  below : Below B w V
  size : V.heap.size = D + 1
structure DcS' (B D : Nat) (X : Nat → El) (K L : Int) (U : El) (w V : World) : Prop where
  a : Blk V B 36 X
  r : Blk V (B + 1 + 1) 32 (fun _ => 0)
  q : VdAt V (B + 1 + 1 + 1) (.int .i64 0) (.int .i64 0) (.int .u8 0)
  v : VdAt V D (.int .i64 K) (.int .i64 L) (.int .u8 (oe U))
  below : Below B w V
set_option maxRecDepth 100000 in
set_option maxHeartbeats 2000000 in
theorem decode5_any (c b : Nat) (F G : Nat → El) (w : World) (hc : CdAt w c b) :
    Calls Tryz.prog 48 #[.pointer (some ⟨c, 0, none⟩), .agg (arr 36 F).toArray, .agg (arr 3 G).toArray] w fun e w' =>
      e = .returned (.tuple #[.agg (arr 32 fun i => mnd F (sy (wd F G)) (4 + i)).toArray, .agg (vd (sy (wd F G)))]) ∧ Below w.heap.size w w' := by
  have hz := zeroVd
  have hz32 := zero32
  have cS : Hid (∀ W, CdAt W c b → Calls Tryz.prog 79 #[.pointer (some ⟨c, 0, none⟩), .agg (arr 36 F).toArray, .agg (arr 3 G).toArray] W fun e w' => e = .returned (.agg (arr 4 (sy (wd F G))).toArray) ∧ Below W.heap.size W w') := fun W h => syndromes_any c b F G W h
  obtain ⟨s, Hs⟩ : ∃ s, Hid (sy (wd F G) = s) := ⟨_, rfl⟩
  rw [Hs.out] at cS ⊢
  have cL : Hid (∀ W, CdAt W c b → Calls Tryz.prog 78 #[.pointer (some ⟨c, 0, none⟩), .agg (arr 4 s).toArray] W fun e w' => e = .returned (.agg (vd s)) ∧ Below W.heap.size W w') := fun W h => locate_any c b s W h
  have hone := vk_one s
  have hmn : ∀ i, mnd F s i = if vk s = 1 ∧ (i : Int) = vp s then F i ^^^ vv s else F i := fun i => rfl
  unfold vd at cL ⊢
  obtain ⟨K, hK⟩ : ∃ K, vk s = K := ⟨_, rfl⟩
  obtain ⟨L, hL⟩ : ∃ L, vp s = L := ⟨_, rfl⟩
  obtain ⟨U, hU⟩ : ∃ U, vv s = U := ⟨_, rfl⟩
  rw [hK, hL, hU] at cL hone ⊢
  simp only [hK, hL, hU] at hmn
  obtain ⟨A0, hA0⟩ : ∃ A, arr 36 F = A := ⟨_, rfl⟩
  obtain ⟨A1, hA1⟩ : ∃ A, arr 3 G = A := ⟨_, rfl⟩
  obtain ⟨A2, hA2⟩ : ∃ A, (arr 32 fun _ => 0) = A := ⟨_, rfl⟩
  obtain ⟨A3, hA3⟩ : ∃ A, arr 4 s = A := ⟨_, rfl⟩
  have i36 : (Tryz.prog.info? 49).map (·.size) = some A0.length := by rw [← hA0, arr_len]; kernel_rfl
  have i3 : (Tryz.prog.info? 54).map (·.size) = some A1.length := by rw [← hA1, arr_len]; kernel_rfl
  rw [hA2] at hz32
  rw [hA0, hA1] at cS ⊢
  rw [hA3] at cS cL
  go_enter Tryz.func48, Tryz.ntmps48
  go_upto_region 1 with (fail)
  obtain ⟨B, hB⟩ : ∃ B, w.heap.size = B := ⟨_, rfl⟩
  obtain ⟨V0, hV0⟩ : ∃ V, (((w.alloc (.cells A0.toArray 49)).alloc (.cells A1.toArray 54)).alloc (.cells A2.toArray 58)).alloc (.cells #[.int .i64 0, .int .i64 0, .int .u8 0] 98) = V := ⟨_, rfl⟩
  have H0 : Hid (Blk V0 B 36 F ∧ Blk V0 (B + 1) 3 G ∧ Blk V0 (B + 1 + 1) 32 (fun _ => 0) ∧ VdAt V0 (B + 1 + 1 + 1) (.int .i64 0) (.int .i64 0) (.int .u8 0) ∧ Below B w V0 ∧ CdAt V0 c b) := by
    have hb : Below B w V0 := by rw [← hV0, ← hB]; exact ((((Below.refl _ w).alloc (Nat.le_refl _) _).alloc (by simp) _).alloc (by simp; omega) _).alloc (by simp; omega) _
    have h0 := Blk.new w 36 F 49
    have h1 := Blk.new (w.alloc (.cells A0.toArray 49)) 3 G 54
    have h2 := Blk.new ((w.alloc (.cells A0.toArray 49)).alloc (.cells A1.toArray 54)) 32 (fun _ => 0) 58
    have h3 := VdAt.new (((w.alloc (.cells A0.toArray 49)).alloc (.cells A1.toArray 54)).alloc (.cells A2.toArray 58)) (.int .i64 0) (.int .i64 0) (.int .u8 0) 98
    simp only [World.size_alloc] at h1 h2 h3
    rw [hA0] at h0
    rw [hA1] at h1
    rw [hA2] at h2
    rw [← hB]
    refine ⟨?_, ?_, ?_, ?_, by rw [hB]; exact hb, hc.next (by rw [hB]; exact hb)⟩ <;> rw [← hV0]
    · exact ((h0.alloc _).alloc _).alloc _
    · exact (h1.alloc _).alloc _
    · exact h2.alloc _
    · exact h3
  have r0 : V0.rangeAt B 0 A0 := by rw [← hA0]; exact H0.out.1.range
  have r1 : V0.rangeAt (B + 1) 0 A1 := by rw [← hA1]; exact H0.out.2.1.range
  have sV0 : Hid (V0.heap.size = B + 1 + 1 + 1 + 1) := by show _ = _; rw [← hV0, ← hB]; simp
  rw [hV0, hB]
  clear hV0 hc
  go_upto_region 2 with (first | refine wpList_load_mid rfl 49 _ rfl _ 0 rfl A0 _ r0 Tryz.underlying49 rfl i36 ?_ | refine wpList_load_mid rfl 54 _ rfl _ 0 rfl A1 _ r1 Tryz.underlying54 rfl i3 ?_ | (go_at_call 79; refine (cS.out _ H0.out.2.2.2.2.2).mono ?_; rintro e V1 ⟨rfl, hB1⟩) | (go_at_call 78; refine (cL.out _ (H0.out.2.2.2.2.2.next hB1)).mono ?_; rintro e V2 ⟨rfl, hB2⟩))
  obtain ⟨D, hD⟩ : ∃ D, V2.heap.size = D := ⟨_, rfl⟩
  obtain ⟨V3, hV3⟩ : ∃ V, V2.alloc (.cells #[.int .i64 K, .int .i64 L, .int .u8 (oe U)] 98) = V := ⟨_, rfl⟩
  have sD : B + 1 + 1 + 1 < D := by have := hB1.size; have := hB2.size; have := sV0.out; omega
  have H3 : Hid (DcS B D F K L U w V3) := by
    obtain ⟨h1, _, h2, h3, h4, _⟩ := H0.out
    have b2 : Below V0.heap.size V0 V2 := hB1.trans (hB2.mono hB1.size)
    have b3 : Below V0.heap.size V0 V3 := by rw [← hV3]; exact b2.alloc b2.size _
    exact ⟨h1.next b3, h2.next b3, h3.next b3, by rw [← hV3, ← hD]; exact VdAt.new V2 _ _ _ _, h4.trans (b3.mono (by have := sV0.out; omega)), by rw [← hV3, World.size_alloc, hD]⟩
  rw [hV3, hD]
  clear hV3 hD hB1 hB2 H0 r0 r1 sV0 cS cL i36 i3
  have k0 := H3.out.v.c0
  have k1 := H3.out.v.c1
  have k2 := H3.out.v.c2
  by_cases hK1 : K = 1
  · obtain ⟨i, hi, h1a, hLi, h1b⟩ := hone hK1
    clear h1a h1b
    subst hLi
    subst hK1
    have cw := H3.out.a.arr i (by omega)
    have fw := H3.out.a.free i
    have ex := oe_xor (F i) U
    have nBD : B ≠ D := by omega
    clear hone
    go_wp2
    go_region
    try rw [ex]
    obtain ⟨X, hXd⟩ : ∃ X : Nat → El, (fun k => if k = i then F i ^^^ U else F k) = X := ⟨_, rfl⟩
    obtain ⟨V4, hV4⟩ : ∃ V, (V3.setCell ⟨B, i, none⟩ (.int .u8 (oe (F i ^^^ U)))).drew = V := ⟨_, rfl⟩
    have H4 : Hid (DcS B D X 1 (i : Int) U w V4) := by
      obtain ⟨h1, h2, h3, h4, h5, h6⟩ := H3.out
      rw [← hV4, ← hXd]
      exact ⟨(h1.set i _).drew, (h2.other (by omega) _ _).drew, h3.of (Below.heap_setCell V3 ⟨B, i, none⟩ _ _ (by simp; omega)), h4.of (Below.heap_setCell V3 ⟨B, i, none⟩ _ D (by simp; omega)), below_drewN (h5.setCell (p := ⟨B, i, none⟩) (by simp) _) 1, (by simp : (V3.setCell ⟨B, i, none⟩ (.int .u8 (oe (F i ^^^ U)))).heap.size = V3.heap.size).trans h6⟩
    have HX : ∀ j, j < 32 → X (4 + j) = mnd F s (4 + j) := fun j hj => by
      rw [hmn, ← hXd]
      by_cases e : 4 + j = i
      · simp [e]
      · have e2 : ¬ (((4 + j : Nat) : Int) = (i : Int)) := by omega
        simp only [if_neg e, e2, and_false, if_false]
    rw [hV4]
    clear hV4 hXd H3 cw fw ex
    have hX : Hid (∀ j, j < 32 → X (4 + j) = mnd F s (4 + j)) := HX
    clear HX hmn
    go_upto_region 5 with (fail)
    clear k0 k1 k2
    have sV4 := H4.out.size
    rw [sV4]
    obtain ⟨V5, hV5⟩ : ∃ V, V4.alloc (.cells A2.toArray 58) = V := ⟨_, rfl⟩
    have H5 : Hid (DcS' B D X 1 (i : Int) U w V5 ∧ Blk V5 (D + 1) 32 (fun _ => 0)) := by
      obtain ⟨h1, h2, h3, h4, h5, h6⟩ := H4.out
      refine ⟨?_, ?_⟩
      · rw [← hV5]; exact ⟨h1.alloc _, h2.alloc _, h3.alloc _, h4.alloc _, h5.alloc (by omega) _⟩
      · have h := Blk.new V4 32 (fun _ => 0) 58
        rw [hA2, hV5, h6] at h; exact h
    rw [hV5]
    clear hV5 H4 sV4
    go_region_held3 (fun _ => True) (trivial)
      (first | (refine step_cpy rfl _ _ rfl (D + 1) 0 32 32 B 4 32 32 32 32 (fun _ => 0) (fun j => X (4 + j)) rfl rfl H5.out.2.drew rfl (fun j hj => H5.out.1.a.arr (4 + j) (by omega)) (by omega) ?_; intro V6 g6 k6))
    have gt : Blk V6 (D + 1) 32 (fun j => mnd F s (4 + j)) := g6.out.congr fun j hj => by
      unfold cpy
      rw [if_pos (by omega), Nat.sub_zero]; exact hX.out j hj
    have H6 : DcS' B D X 1 (i : Int) U w V6 := by
      obtain ⟨h1, h2, h3, h4, h5⟩ := H5.out.1
      exact ⟨h1.of (k6.out.block B (by omega)), h2.of (k6.out.block _ (by omega)), h3.of (k6.out.block _ (by omega)), h4.of (k6.out.block D (by omega)), k6.out.below _ _ (below_drewN h5 1) (by omega)⟩
    have i32 : (Tryz.prog.info? 58).map (·.size) = some (arr 32 (fun j => mnd F s (4 + j))).length := by rw [arr_len]; exact info32
    have o32 := arr_one 32 (fun j => mnd F s (4 + j))
    have rT := gt.range
    have tR : V6.there (B + 1 + 1) 0 (arr 32 (fun j => mnd F s (4 + j))).toArray.size := H6.r.there
    obtain ⟨LT, hLT⟩ : ∃ L, arr 32 (fun j => mnd F s (4 + j)) = L := ⟨_, rfl⟩
    rw [hLT] at i32 o32 rT tR
    have HLT : Hid (arr 32 (fun j => mnd F s (4 + j)) = LT) := hLT
    have rV := H6.v.range
    have tQ := H6.q.there
    have HB6 : Hid (Below B w V6) := H6.below
    clear g6 k6 gt H6 H5 hLT hX
    go_wp2
    obtain ⟨V7, hV7⟩ : ∃ V, (V6.drew.setCells (B + 1 + 1) 0 LT).setCells (B + 1 + 1 + 1) 0 [.int .i64 1, .int .i64 (i : Int), .int .u8 (oe U)] = V := ⟨_, rfl⟩
    refine region_ends (by kernel_rfl) (fun w' => w'.rangeAt (D + 1) 0 LT ∧ w'.rangeAt D 0 [.int .i64 1, .int .i64 (i : Int), .int .u8 (oe U)]) (fun a' w' => a' = ({ tmps := #[.pointer (some ⟨c, 0, none⟩), .agg A0.toArray, .agg A1.toArray, undef, .pointer (some ⟨B, 0, none⟩), .pointer (some ⟨B + 1, 0, none⟩), .pointer (some ⟨B + 1 + 1, 0, none⟩), .pointer (some ⟨B + 1 + 1 + 1, 0, none⟩), .pointer (some ⟨D, 0, none⟩), .pointer (some ⟨D + 1, 0, none⟩), .pointer (some ⟨c, 0, none⟩), .pointer (some ⟨c, 0, none⟩), .agg A0.toArray, .agg A1.toArray, .agg A3.toArray, .agg #[.int .i64 1, .int .i64 (i : Int), .int .u8 (oe U)], .pointer (some ⟨D, 0, none⟩), .int .i64 1, .bool true, .pointer (some ⟨D, 1, none⟩), .int .i64 (i : Int), .pointer (some ⟨B, i, none⟩), .int .u8 (oe (F i)), .pointer (some ⟨D, 2, none⟩), .int .u8 (oe U), .int .u8 (oe (F i ^^^ U)), .pointer (some ⟨B, i, none⟩), .slice (some ⟨D + 1, 0, none⟩) 32 32, .slice (some ⟨B, 4, none⟩) 32 32, goInt 32, .agg LT.toArray, .agg #[.int .i64 1, .int .i64 (i : Int), .int .u8 (oe U)]], defers := [] } : Act) ∧ w' = V7) ⟨rT, rV⟩ (fun hH => ?_) (fun a' w' hr => ?_)
    · refine take_if 0 (v := .agg LT.toArray) rfl (by kernel_rfl) (yieldsIf_load_mid (by rfl) _ _ rfl (D + 1) 0 rfl LT _ (fun w h => h.1) Tryz.underlying58 rfl i32) hH ?_
      show wpAnyH _ _ _ _ _ _ _ ({ tmps := #[.pointer (some ⟨c, 0, none⟩), .agg A0.toArray, .agg A1.toArray, undef, .pointer (some ⟨B, 0, none⟩), .pointer (some ⟨B + 1, 0, none⟩), .pointer (some ⟨B + 1 + 1, 0, none⟩), .pointer (some ⟨B + 1 + 1 + 1, 0, none⟩), .pointer (some ⟨D, 0, none⟩), .pointer (some ⟨D + 1, 0, none⟩), .pointer (some ⟨c, 0, none⟩), .pointer (some ⟨c, 0, none⟩), .agg A0.toArray, .agg A1.toArray, .agg A3.toArray, .agg #[.int .i64 1, .int .i64 (i : Int), .int .u8 (oe U)], .pointer (some ⟨D, 0, none⟩), .int .i64 1, .bool true, .pointer (some ⟨D, 1, none⟩), .int .i64 (i : Int), .pointer (some ⟨B, i, none⟩), .int .u8 (oe (F i)), .pointer (some ⟨D, 2, none⟩), .int .u8 (oe U), .int .u8 (oe (F i ^^^ U)), .pointer (some ⟨B, i, none⟩), .slice (some ⟨D + 1, 0, none⟩) 32 32, .slice (some ⟨B, 4, none⟩) 32 32, goInt 32, .agg LT.toArray, undef], defers := [] } : Act) _
      refine take_if 1 (v := .agg #[.int .i64 1, .int .i64 (i : Int), .int .u8 (oe U)]) rfl (by kernel_rfl) (yieldsIf_load_mid (by rfl) _ _ rfl D 0 rfl [.int .i64 1, .int .i64 (i : Int), .int .u8 (oe U)] _ (fun w h => h.2) Tryz.underlying98 rfl infoVd) hH ?_
      show wpAnyH _ _ _ _ _ _ _ ({ tmps := #[.pointer (some ⟨c, 0, none⟩), .agg A0.toArray, .agg A1.toArray, undef, .pointer (some ⟨B, 0, none⟩), .pointer (some ⟨B + 1, 0, none⟩), .pointer (some ⟨B + 1 + 1, 0, none⟩), .pointer (some ⟨B + 1 + 1 + 1, 0, none⟩), .pointer (some ⟨D, 0, none⟩), .pointer (some ⟨D + 1, 0, none⟩), .pointer (some ⟨c, 0, none⟩), .pointer (some ⟨c, 0, none⟩), .agg A0.toArray, .agg A1.toArray, .agg A3.toArray, .agg #[.int .i64 1, .int .i64 (i : Int), .int .u8 (oe U)], .pointer (some ⟨D, 0, none⟩), .int .i64 1, .bool true, .pointer (some ⟨D, 1, none⟩), .int .i64 (i : Int), .pointer (some ⟨B, i, none⟩), .int .u8 (oe (F i)), .pointer (some ⟨D, 2, none⟩), .int .u8 (oe U), .int .u8 (oe (F i ^^^ U)), .pointer (some ⟨B, i, none⟩), .slice (some ⟨D + 1, 0, none⟩) 32 32, .slice (some ⟨B, 4, none⟩) 32 32, goInt 32, .agg LT.toArray, .agg #[.int .i64 1, .int .i64 (i : Int), .int .u8 (oe U)]], defers := [] } : Act) _
      refine take_one 2 rfl rfl (by kernel_rfl) ?_
      refine wp_store_mid 58 _ _ rfl (B + 1 + 1) 0 LT.toArray rfl rfl tR (by rw [i32]; simp) o32 ?_
      have hS2 : (V6.drew.setCells (B + 1 + 1) 0 LT).rangeAt (D + 1) 0 LT ∧ (V6.drew.setCells (B + 1 + 1) 0 LT).rangeAt D 0 [.int .i64 1, .int .i64 (i : Int), .int .u8 (oe U)] := ⟨World.rangeAt_setCells_apart (w := V6.drew) rT _ 0 LT (.inl (by omega)), World.rangeAt_setCells_apart (w := V6.drew) rV _ 0 LT (.inl (by omega))⟩
      refine ⟨hS2, fun hH => ?_⟩
      show wpAnyH _ _ _ _ _ _ _ ({ tmps := #[.pointer (some ⟨c, 0, none⟩), .agg A0.toArray, .agg A1.toArray, undef, .pointer (some ⟨B, 0, none⟩), .pointer (some ⟨B + 1, 0, none⟩), .pointer (some ⟨B + 1 + 1, 0, none⟩), .pointer (some ⟨B + 1 + 1 + 1, 0, none⟩), .pointer (some ⟨D, 0, none⟩), .pointer (some ⟨D + 1, 0, none⟩), .pointer (some ⟨c, 0, none⟩), .pointer (some ⟨c, 0, none⟩), .agg A0.toArray, .agg A1.toArray, .agg A3.toArray, .agg #[.int .i64 1, .int .i64 (i : Int), .int .u8 (oe U)], .pointer (some ⟨D, 0, none⟩), .int .i64 1, .bool true, .pointer (some ⟨D, 1, none⟩), .int .i64 (i : Int), .pointer (some ⟨B, i, none⟩), .int .u8 (oe (F i)), .pointer (some ⟨D, 2, none⟩), .int .u8 (oe U), .int .u8 (oe (F i ^^^ U)), .pointer (some ⟨B, i, none⟩), .slice (some ⟨D + 1, 0, none⟩) 32 32, .slice (some ⟨B, 4, none⟩) 32 32, goInt 32, .agg LT.toArray, .agg #[.int .i64 1, .int .i64 (i : Int), .int .u8 (oe U)]], defers := [] } : Act) _
      refine take_one 3 rfl rfl (by kernel_rfl) ?_
      refine wp_store_mid 98 _ _ rfl (B + 1 + 1 + 1) 0 #[.int .i64 1, .int .i64 (i : Int), .int .u8 (oe U)] rfl rfl (World.there_setCells (w := V6.drew) tQ _ 0 LT) infoVd (by simp [Value.oneCell']) ?_
      refine ⟨⟨World.rangeAt_setCells_apart hS2.1 _ 0 _ (.inl (by omega)), World.rangeAt_setCells_apart hS2.2 _ 0 _ (.inl (by omega))⟩, fun hH => ?_⟩
      exact wpAnyH_done (by kernel_rfl) ⟨rfl, hV7⟩ _
    · obtain ⟨ha, hw⟩ := hr
      rw [ha, hw]
      clear ha hw a' w'
      have rg1 : V7.rangeAt (B + 1 + 1) 0 LT := by
        rw [← hV7]
        exact World.rangeAt_setCells_apart (World.rangeAt_setCells_same V6.drew _ 0 LT (by simpa using tR)) _ 0 _ (.inl (by omega))
      have rg2 : V7.rangeAt (B + 1 + 1 + 1) 0 [.int .i64 1, .int .i64 (i : Int), .int .u8 (oe U)] := by
        rw [← hV7]
        exact World.rangeAt_setCells_same _ _ 0 _ (World.there_setCells (w := V6.drew) tQ _ 0 LT)
      have HB7 : Hid (Below B w V7) := by
        rw [← hV7]
        exact below_puts (below_puts (below_drewN HB6.out 1) (by omega) 0 LT) (by omega) 0 _
      have hld1 := run_loadVar_mid (P := Tryz.prog) _ (B + 1 + 1) 0 58 LT _ rg1 Tryz.underlying58 rfl i32
      have hld2 := run_loadVar_mid (P := Tryz.prog) _ (B + 1 + 1 + 1) 0 98 _ _ rg2 Tryz.underlying98 rfl infoVd
      clear rg1 rg2 hV7 rT rV tR tQ i32 o32
      go_wp2
      refine bodyPost_ret (v := .tuple #[.agg LT.toArray, .agg #[.int .i64 1, .int .i64 (i : Int), .int .u8 (oe U)]]) ?_ rfl ⟨by rw [HLT.out], by first | exact HB7.out | (rw [hB]; exact HB7.out)⟩
      simp [results, Tryz.f48, asAddr, hld1, hld2]
  · have hd1 : (K == 1) = false := by simpa using hK1
    obtain ⟨X, hXd⟩ : ∃ X : Nat → El, F = X := ⟨_, rfl⟩
    have HX : ∀ j, j < 32 → X (4 + j) = mnd F s (4 + j) := fun j hj => by
      rw [hmn, ← hXd, if_neg (fun h => hK1 h.1)]
    obtain ⟨V4, hV4⟩ : ∃ V, V3 = V := ⟨_, rfl⟩
    have H4 : Hid (DcS B D X K L U w V4) := by rw [← hXd, ← hV4]; exact H3.out
    rw [hV4] at k0 ⊢
    clear hV4 hXd H3 hone hK1
    have hX : Hid (∀ j, j < 32 → X (4 + j) = mnd F s (4 + j)) := HX
    clear HX hmn
    go_upto_region 5 with (fail)
    clear k0 k1 k2
    have sV4 := H4.out.size
    rw [sV4]
    obtain ⟨V5, hV5⟩ : ∃ V, V4.alloc (.cells A2.toArray 58) = V := ⟨_, rfl⟩
    have H5 : Hid (DcS' B D X K L U w V5 ∧ Blk V5 (D + 1) 32 (fun _ => 0)) := by
      obtain ⟨h1, h2, h3, h4, h5, h6⟩ := H4.out
      refine ⟨?_, ?_⟩
      · rw [← hV5]; exact ⟨h1.alloc _, h2.alloc _, h3.alloc _, h4.alloc _, h5.alloc (by omega) _⟩
      · have h := Blk.new V4 32 (fun _ => 0) 58
        rw [hA2, hV5, h6] at h; exact h
    rw [hV5]
    clear hV5 H4 sV4
    go_region_held3 (fun _ => True) (trivial)
      (first | (refine step_cpy rfl _ _ rfl (D + 1) 0 32 32 B 4 32 32 32 32 (fun _ => 0) (fun j => X (4 + j)) rfl rfl H5.out.2.drew rfl (fun j hj => H5.out.1.a.arr (4 + j) (by omega)) (by omega) ?_; intro V6 g6 k6))
    have gt : Blk V6 (D + 1) 32 (fun j => mnd F s (4 + j)) := g6.out.congr fun j hj => by
      unfold cpy
      rw [if_pos (by omega), Nat.sub_zero]; exact hX.out j hj
    have H6 : DcS' B D X K L U w V6 := by
      obtain ⟨h1, h2, h3, h4, h5⟩ := H5.out.1
      exact ⟨h1.of (k6.out.block B (by omega)), h2.of (k6.out.block _ (by omega)), h3.of (k6.out.block _ (by omega)), h4.of (k6.out.block D (by omega)), k6.out.below _ _ (below_drewN h5 1) (by omega)⟩
    have i32 : (Tryz.prog.info? 58).map (·.size) = some (arr 32 (fun j => mnd F s (4 + j))).length := by rw [arr_len]; exact info32
    have o32 := arr_one 32 (fun j => mnd F s (4 + j))
    have rT := gt.range
    have tR : V6.there (B + 1 + 1) 0 (arr 32 (fun j => mnd F s (4 + j))).toArray.size := H6.r.there
    obtain ⟨LT, hLT⟩ : ∃ L, arr 32 (fun j => mnd F s (4 + j)) = L := ⟨_, rfl⟩
    rw [hLT] at i32 o32 rT tR
    have HLT : Hid (arr 32 (fun j => mnd F s (4 + j)) = LT) := hLT
    have rV := H6.v.range
    have tQ := H6.q.there
    have HB6 : Hid (Below B w V6) := H6.below
    clear g6 k6 gt H6 H5 hLT hX
    go_wp2
    obtain ⟨V7, hV7⟩ : ∃ V, (V6.drew.setCells (B + 1 + 1) 0 LT).setCells (B + 1 + 1 + 1) 0 [.int .i64 K, .int .i64 L, .int .u8 (oe U)] = V := ⟨_, rfl⟩
    refine region_ends (by kernel_rfl) (fun w' => w'.rangeAt (D + 1) 0 LT ∧ w'.rangeAt D 0 [.int .i64 K, .int .i64 L, .int .u8 (oe U)]) (fun a' w' => a' = ({ tmps := #[.pointer (some ⟨c, 0, none⟩), .agg A0.toArray, .agg A1.toArray, undef, .pointer (some ⟨B, 0, none⟩), .pointer (some ⟨B + 1, 0, none⟩), .pointer (some ⟨B + 1 + 1, 0, none⟩), .pointer (some ⟨B + 1 + 1 + 1, 0, none⟩), .pointer (some ⟨D, 0, none⟩), .pointer (some ⟨D + 1, 0, none⟩), .pointer (some ⟨c, 0, none⟩), .pointer (some ⟨c, 0, none⟩), .agg A0.toArray, .agg A1.toArray, .agg A3.toArray, .agg #[.int .i64 K, .int .i64 L, .int .u8 (oe U)], .pointer (some ⟨D, 0, none⟩), .int .i64 K, .bool false, undef, undef, undef, undef, undef, undef, undef, undef, .slice (some ⟨D + 1, 0, none⟩) 32 32, .slice (some ⟨B, 4, none⟩) 32 32, goInt 32, .agg LT.toArray, .agg #[.int .i64 K, .int .i64 L, .int .u8 (oe U)]], defers := [] } : Act) ∧ w' = V7) ⟨rT, rV⟩ (fun hH => ?_) (fun a' w' hr => ?_)
    · refine take_if 0 (v := .agg LT.toArray) rfl (by kernel_rfl) (yieldsIf_load_mid (by rfl) _ _ rfl (D + 1) 0 rfl LT _ (fun w h => h.1) Tryz.underlying58 rfl i32) hH ?_
      show wpAnyH _ _ _ _ _ _ _ ({ tmps := #[.pointer (some ⟨c, 0, none⟩), .agg A0.toArray, .agg A1.toArray, undef, .pointer (some ⟨B, 0, none⟩), .pointer (some ⟨B + 1, 0, none⟩), .pointer (some ⟨B + 1 + 1, 0, none⟩), .pointer (some ⟨B + 1 + 1 + 1, 0, none⟩), .pointer (some ⟨D, 0, none⟩), .pointer (some ⟨D + 1, 0, none⟩), .pointer (some ⟨c, 0, none⟩), .pointer (some ⟨c, 0, none⟩), .agg A0.toArray, .agg A1.toArray, .agg A3.toArray, .agg #[.int .i64 K, .int .i64 L, .int .u8 (oe U)], .pointer (some ⟨D, 0, none⟩), .int .i64 K, .bool false, undef, undef, undef, undef, undef, undef, undef, undef, .slice (some ⟨D + 1, 0, none⟩) 32 32, .slice (some ⟨B, 4, none⟩) 32 32, goInt 32, .agg LT.toArray, undef], defers := [] } : Act) _
      refine take_if 1 (v := .agg #[.int .i64 K, .int .i64 L, .int .u8 (oe U)]) rfl (by kernel_rfl) (yieldsIf_load_mid (by rfl) _ _ rfl D 0 rfl [.int .i64 K, .int .i64 L, .int .u8 (oe U)] _ (fun w h => h.2) Tryz.underlying98 rfl infoVd) hH ?_
      show wpAnyH _ _ _ _ _ _ _ ({ tmps := #[.pointer (some ⟨c, 0, none⟩), .agg A0.toArray, .agg A1.toArray, undef, .pointer (some ⟨B, 0, none⟩), .pointer (some ⟨B + 1, 0, none⟩), .pointer (some ⟨B + 1 + 1, 0, none⟩), .pointer (some ⟨B + 1 + 1 + 1, 0, none⟩), .pointer (some ⟨D, 0, none⟩), .pointer (some ⟨D + 1, 0, none⟩), .pointer (some ⟨c, 0, none⟩), .pointer (some ⟨c, 0, none⟩), .agg A0.toArray, .agg A1.toArray, .agg A3.toArray, .agg #[.int .i64 K, .int .i64 L, .int .u8 (oe U)], .pointer (some ⟨D, 0, none⟩), .int .i64 K, .bool false, undef, undef, undef, undef, undef, undef, undef, undef, .slice (some ⟨D + 1, 0, none⟩) 32 32, .slice (some ⟨B, 4, none⟩) 32 32, goInt 32, .agg LT.toArray, .agg #[.int .i64 K, .int .i64 L, .int .u8 (oe U)]], defers := [] } : Act) _
      refine take_one 2 rfl rfl (by kernel_rfl) ?_
      refine wp_store_mid 58 _ _ rfl (B + 1 + 1) 0 LT.toArray rfl rfl tR (by rw [i32]; simp) o32 ?_
      have hS2 : (V6.drew.setCells (B + 1 + 1) 0 LT).rangeAt (D + 1) 0 LT ∧ (V6.drew.setCells (B + 1 + 1) 0 LT).rangeAt D 0 [.int .i64 K, .int .i64 L, .int .u8 (oe U)] := ⟨World.rangeAt_setCells_apart (w := V6.drew) rT _ 0 LT (.inl (by omega)), World.rangeAt_setCells_apart (w := V6.drew) rV _ 0 LT (.inl (by omega))⟩
      refine ⟨hS2, fun hH => ?_⟩
      show wpAnyH _ _ _ _ _ _ _ ({ tmps := #[.pointer (some ⟨c, 0, none⟩), .agg A0.toArray, .agg A1.toArray, undef, .pointer (some ⟨B, 0, none⟩), .pointer (some ⟨B + 1, 0, none⟩), .pointer (some ⟨B + 1 + 1, 0, none⟩), .pointer (some ⟨B + 1 + 1 + 1, 0, none⟩), .pointer (some ⟨D, 0, none⟩), .pointer (some ⟨D + 1, 0, none⟩), .pointer (some ⟨c, 0, none⟩), .pointer (some ⟨c, 0, none⟩), .agg A0.toArray, .agg A1.toArray, .agg A3.toArray, .agg #[.int .i64 K, .int .i64 L, .int .u8 (oe U)], .pointer (some ⟨D, 0, none⟩), .int .i64 K, .bool false, undef, undef, undef, undef, undef, undef, undef, undef, .slice (some ⟨D + 1, 0, none⟩) 32 32, .slice (some ⟨B, 4, none⟩) 32 32, goInt 32, .agg LT.toArray, .agg #[.int .i64 K, .int .i64 L, .int .u8 (oe U)]], defers := [] } : Act) _
      refine take_one 3 rfl rfl (by kernel_rfl) ?_
      refine wp_store_mid 98 _ _ rfl (B + 1 + 1 + 1) 0 #[.int .i64 K, .int .i64 L, .int .u8 (oe U)] rfl rfl (World.there_setCells (w := V6.drew) tQ _ 0 LT) infoVd (by simp [Value.oneCell']) ?_
      refine ⟨⟨World.rangeAt_setCells_apart hS2.1 _ 0 _ (.inl (by omega)), World.rangeAt_setCells_apart hS2.2 _ 0 _ (.inl (by omega))⟩, fun hH => ?_⟩
      exact wpAnyH_done (by kernel_rfl) ⟨rfl, hV7⟩ _
    · obtain ⟨ha, hw⟩ := hr
      rw [ha, hw]
      clear ha hw a' w'
      have rg1 : V7.rangeAt (B + 1 + 1) 0 LT := by
        rw [← hV7]
        exact World.rangeAt_setCells_apart (World.rangeAt_setCells_same V6.drew _ 0 LT (by simpa using tR)) _ 0 _ (.inl (by omega))
      have rg2 : V7.rangeAt (B + 1 + 1 + 1) 0 [.int .i64 K, .int .i64 L, .int .u8 (oe U)] := by
        rw [← hV7]
        exact World.rangeAt_setCells_same _ _ 0 _ (World.there_setCells (w := V6.drew) tQ _ 0 LT)
      have HB7 : Hid (Below B w V7) := by
        rw [← hV7]
        exact below_puts (below_puts (below_drewN HB6.out 1) (by omega) 0 LT) (by omega) 0 _
      have hld1 := run_loadVar_mid (P := Tryz.prog) _ (B + 1 + 1) 0 58 LT _ rg1 Tryz.underlying58 rfl i32
      have hld2 := run_loadVar_mid (P := Tryz.prog) _ (B + 1 + 1 + 1) 0 98 _ _ rg2 Tryz.underlying98 rfl infoVd
      clear rg1 rg2 hV7 rT rV tR tQ i32 o32
      go_wp2
      refine bodyPost_ret (v := .tuple #[.agg LT.toArray, .agg #[.int .i64 K, .int .i64 L, .int .u8 (oe U)]]) ?_ rfl ⟨by rw [HLT.out], by first | exact HB7.out | (rw [hB]; exact HB7.out)⟩
      simp [results, Tryz.f48, asAddr, hld1, hld2]
end Go.Proofs.YtoimbjbdkkohcaaGreatDoor
