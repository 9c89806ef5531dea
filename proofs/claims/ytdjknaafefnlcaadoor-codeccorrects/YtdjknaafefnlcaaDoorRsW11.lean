/-
  'only', by a range over the powers of a quotient.
-/
import Derived.Test.YtdjknaafefnlcaaDoorRsW10
namespace Go.Proofs.YtdjknaafefnlcaaDoor
open Go.RowKit Go.Shelf
open Gf (gI eI dI lI)
open Po (El mu pwr ev S cf toE cv Low rts)
open Rm (al sy At)
attribute [local go_sem] Oper.semAt_some

/-- between two rounds: B the first block of the call, A the block of what one symbol alone has -/
structure OnI (B A c b : Nat) (s : Nat → El) (E : El) (w : World) (x : Nat) (W : World) : Prop where
  pc : Box W B (.pointer (some ⟨c, 0, none⟩))
  code : CdAt W c b
  sb : Blk W (B + 1) 4 s
  al : Blk W A 4 (fun i => if i < x then mu (s 0) (pwr E i) else 0)
  below : Below B w W

set_option maxRecDepth 100000 in
set_option maxHeartbeats 2000000 in
theorem only_any (c b : Nat) (s : Nat → El) (w : World) (hc : CdAt w c b) :
    Calls Tryd.prog 88 #[.pointer (some ⟨c, 0, none⟩), .agg (arr 4 s).toArray] w fun e w' => e = .returned (.int .i64 (plc s 39 0)) ∧ Below w.heap.size w w' := by
  have hw := only_ways s
  have hz4 := zero4
  obtain ⟨P, hP⟩ : ∃ P, plc s 39 0 = P := ⟨_, rfl⟩
  rw [hP] at hw ⊢
  clear hP
  obtain ⟨A0, hA0⟩ : ∃ A, arr 4 s = A := ⟨_, rfl⟩
  obtain ⟨A2, hA2⟩ : ∃ A, (arr 4 fun _ => 0) = A := ⟨_, rfl⟩
  rw [hA2] at hz4
  rw [hA0]
  refine (callsIn_wide (n := 10)).1 ?_
  refine callsIn_of_wp_marks Tryd.func88 rfl trivial ?_ rfl
  simp only [Tryd.ntmps88, List.size_toArray, List.length_cons, List.length_nil, Nat.reduceAdd, Nat.reduceSub, Array.replicate_succ, Array.replicate_zero, List.push_toArray, List.append_toArray, List.nil_append, List.cons_append]
  refine wpIn_wide.2 ?_
  go_upto_region 1 with (fail)
  obtain ⟨B, hB⟩ : ∃ B, w.heap.size = B := ⟨_, rfl⟩
  obtain ⟨V0, hV0⟩ : ∃ V, (w.alloc (.cells #[.pointer (some ⟨c, 0, none⟩)] 56)).alloc (.cells A0.toArray 73) = V := ⟨_, rfl⟩
  have sV0 : Hid (V0.heap.size = B + 1 + 1) := by show _ = _; rw [← hV0, ← hB]; simp
  have hb0 : Below B w V0 := by rw [← hV0, ← hB]; exact ((Below.refl _ w).alloc (Nat.le_refl _) _).alloc (by simp) _
  have p0 : Box V0 B (.pointer (some ⟨c, 0, none⟩)) := by rw [← hV0, ← hB]; exact (Box.new w _ _).alloc _
  have p1 : CdAt V0 c b := hc.next (by rw [hB]; exact hb0)
  have p2 : Blk V0 (B + 1) 4 s := by
    have h := Blk.new (w.alloc (.cells #[.pointer (some ⟨c, 0, none⟩)] 56)) 4 s 73
    simp only [World.size_alloc] at h
    rw [hA0, hV0, hB] at h; exact h
  have hcl : c < B ∧ b < B := by rw [← hB]; exact ⟨hc.lt, hc.fld.lt⟩
  rw [hV0, hB]
  have q0 := p0.1
  have q1 := p1.f
  have q2 := p2.arr 0 (by omega)
  have q3 := p2.arr 1 (by omega)
  have HV : Hid (CdAt V0 c b ∧ Blk V0 (B + 1) 4 s ∧ Box V0 B (.pointer (some ⟨c, 0, none⟩)) ∧ Below B w V0) := ⟨p1, p2, p0, hb0⟩
  have hf : Hid (FldAt V0 b) := p1.fld
  have b0 := oe_bd (s 0)
  have b1 := oe_bd (s 1)
  clear hV0 p0 p1 p2 hb0 hc
  rcases hw with ⟨h0, rfl⟩ | ⟨h0, hd, rfl⟩ | ⟨h0, E, n, hE0, hd, hn, hl, hw⟩
  · rw [h0, oe_zero] at q2
    clear b0
    go_quiet ((go_at_call 98; exact Calls.quiet_of_same (div_zero b _ _)))
    go_wp2
    exact ⟨_, results_tmp rfl _ _ _, rfl, by rw [hB]; exact below_drewN HV.out.2.2.2 _⟩
  · have hp : 0 < oe (s 0) := by
      have : oe (s 0) ≠ 0 := fun e => h0 (oe_inj (e.trans oe_zero.symm))
      omega
    have cD : Hid (∀ k, Calls Tryd.prog 98 #[.pointer (some ⟨b, 0, none⟩), .int .u8 (oe (s 1)), .int .u8 (oe (s 0))] (V0.drewN k) fun e w' => e = .returned (.tuple #[.int .u8 0, .int .i64 0]) ∧ ∃ q, w' = (V0.drewN k).drewN q) := fun k => by
      have := div_any b (oe (s 1)) (oe (s 0)) b1.1 b1.2 hp b0.2 (V0.drewN k) (hf.out.drewN k)
      rw [hd] at this; exact this
    go_quiet ((go_at_call 98; exact Calls.quiet_of (cD.out _)))
    go_wp2_with (go_at_call 99; refine (log_zero b _).mono ?_; rintro e w' ⟨rfl, rfl⟩)
    exact ⟨_, results_tmp rfl _ _ _, rfl, by rw [hB]; exact below_drewN HV.out.2.2.2 _⟩
  · have hp : 0 < oe (s 0) := by
      have : oe (s 0) ≠ 0 := fun e => h0 (oe_inj (e.trans oe_zero.symm))
      omega
    have hEp : 0 < oe E := by
      have := oe_bd E
      have : oe E ≠ 0 := fun e => hE0 (oe_inj (e.trans oe_zero.symm))
      omega
    have hEb := oe_bd E
    have cD : Hid (∀ k, Calls Tryd.prog 98 #[.pointer (some ⟨b, 0, none⟩), .int .u8 (oe (s 1)), .int .u8 (oe (s 0))] (V0.drewN k) fun e w' => e = .returned (.tuple #[.int .u8 (oe E), .int .i64 0]) ∧ ∃ q, w' = (V0.drewN k).drewN q) := fun k => by
      have := div_any b (oe (s 1)) (oe (s 0)) b1.1 b1.2 hp b0.2 (V0.drewN k) (hf.out.drewN k)
      rw [hd] at this; exact this
    have cL : Hid (∀ k, Calls Tryd.prog 99 #[.pointer (some ⟨b, 0, none⟩), .int .u8 (oe E)] (V0.drewN k) fun e w' => e = .returned (.tuple #[.int .i64 (n : Int), .int .i64 0]) ∧ w' = V0.drewN k) := fun k => by
      have := log_any b (oe E) hEp hEb.2 (V0.drewN k) (hf.out.drewN k)
      rw [hl] at this; exact this
    clear hd hl hE0
    go_quiet ((go_at_call 98; exact Calls.quiet_of (cD.out _)))
    have hw2 : (39 ≤ n ∧ P = -1) ∨ (n < 39 ∧ ∃ t : Bool, (t = true ↔ ∀ j, j < 4 → mu (s 0) (pwr E j) = s j) ∧ P = if t = true then (n : Int) else -1) := by
      rcases hw with h | ⟨h1, h2, h3⟩ | ⟨h1, h2, h3⟩
      · exact .inl h
      · exact .inr ⟨h1, false, ⟨(fun e => by cases e), fun e => absurd e h2⟩, h3⟩
      · exact .inr ⟨h1, true, ⟨fun _ => h2, fun _ => rfl⟩, h3⟩
    clear hw
    rcases hw2 with ⟨hn39, rfl⟩ | ⟨hn39, t, ht, hP⟩
    · go_wp2_with (go_at_call 99; refine (cL.out _).mono ?_; rintro e w' ⟨rfl, rfl⟩)
      exact ⟨_, results_tmp rfl _ _ _, rfl, by rw [hB]; exact below_drewN HV.out.2.2.2 _⟩
    · have Ht : Hid (t = true ↔ ∀ j, j < 4 → mu (s 0) (pwr E j) = s j) := ht
      have HP : Hid (P = if t = true then (n : Int) else -1) := hP
      clear ht hP
      go_upto_region 8 with (go_at_call 99; refine (cL.out _).mono ?_; rintro e w' ⟨rfl, rfl⟩)
      obtain ⟨A, hA⟩ : ∃ A, B + 1 + 1 = A := ⟨_, rfl⟩
      have sz : (V0.drewN nq).heap.size = A := by rw [← hA]; exact sV0.out
      obtain ⟨V2, hV2⟩ : ∃ V, (V0.drewN nq).alloc (.cells A2.toArray 73) = V := ⟨_, rfl⟩
      have sV2 : Hid (V2.heap.size = A + 1) := by show _ = _; rw [← hV2, World.size_alloc, sz]
      have H2 : Hid (OnI B A c b s E w 0 V2) := by
        obtain ⟨p1, p2, p0, hb0⟩ := HV.out
        have st : Stay B V0 V2 := by rw [← hV2]; exact (Stay.drewN _ V0 nq).trans (Stay.alloc _ _ _ (by rw [sz]; omega))
        refine ⟨p0.stay st, p1.stay st, p2.stay st, ?_, below_stay hb0 st (Nat.le_refl _)⟩
        have h := Blk.new (V0.drewN nq) 4 (fun _ => 0) 73
        rw [hA2, hV2, sz] at h
        exact h.congr fun i _ => by rw [if_neg (by omega)]
      have r0 := H2.out.pc.1
      have r1 := H2.out.code.f
      have sz0 : V0.heap.size = A := sz
      rw [hV2, sz0]
      clear hV2 HV q0 q1 q2 q3 cD cL hf sz sz0 sV0 hz4 h0 hp hEp
      go_wp2_with (go_at_call 76; refine (powers_any b (oe E) 4 _).mono ?_; rintro e w' ⟨rfl, rfl⟩)
      obtain ⟨V3, hV3⟩ : ∃ V, ((V2.alloc (.cells #[.pointer (some ⟨b, 0, none⟩)] 58)).alloc (.cells #[.int .u8 (oe E)] 5)).alloc (.cells #[.int .i64 4] 3) = V := ⟨_, rfl⟩
      obtain ⟨s3, c0, c1, c2, hS3⟩ := box3 V2 _ _ _ _ _ _ V3 hV3
      obtain ⟨N, hN⟩ : ∃ N, V2.heap.size = N := ⟨_, rfl⟩
      have eN : Hid (N = A + 1) := by show _ = _; rw [← hN]; exact sV2.out
      rw [hV3]
      rw [hN] at s3 c0 c1 c2 hS3 ⊢
      have hI3 : OnI B A c b s E w 0 V3 := by
        obtain ⟨h1, h2, h3, h4, h5⟩ := H2.out
        exact ⟨h1.stay hS3, h2.stay hS3, h3.stay hS3, h4.stay hS3, below_stay h5 hS3 (by have := eN.out; omega)⟩
      have hNA : A < N := by have := eN.out; omega
      obtain ⟨dn, hdn⟩ : ∃ dn, decide (39 ≤ (n : Int)) = dn := ⟨_, rfl⟩
      obtain ⟨fu, hfu⟩ : ∃ fu, Value.func (.func 94) #[] #[.pointer (some ⟨N + 1 + 1, 0, none⟩), .pointer (some ⟨N, 0, none⟩), .pointer (some ⟨N + 1, 0, none⟩)] = fu := ⟨_, rfl⟩
      rw [hdn]
      clear hV3 H2 r0 r1 sV2 hN hdn
      refine (wpIn_wide (n := 10)).1 (rangeC rfl (enters_of Tryd.func94 (by kernel_rfl) rfl) (powers_seq (N + 1 + 1) N (N + 1) b 4 E (by omega) V3 c2 c0 c1 hI3.code.fld) (fun _ => rfl)
        (fun x => x = A) (by rintro x rfl; constructor <;> omega) (by rintro x (rfl | rfl | rfl) <;> omega)
        (OnI B A c b s E w) (fun _ _ _ => False)
        (by rintro x X Y ⟨h1, h2, h3, h4, h5⟩ hs; exact ⟨h1.stay hs, h2.stay hs, h3.stay hs, h4.stay hs, below_stay h5 hs (by omega)⟩)
        (fun _ _ _ _ h _ => h.elim) hI3
        (fun x W _ hp _ => absurd trivial hp) ?round ?done (fun _ _ _ _ _ _ _ h => h.elim))
      case round =>
        rintro l x W W2 hx hp ⟨h1, h2, h3, h4, h5⟩
        have cell := h4.arr x hx
        have free := h4.free x
        have q0 := h1.1
        have q1 := h2.f
        have q2 := h3.arr 0 (by omega)
        obtain ⟨p, Hp⟩ : ∃ p, Hid (pwr E x = p) := ⟨_, rfl⟩
        have hpb := oe_bd p
        have ce : Hid (∀ k, Calls Tryd.prog 85 #[.pointer (some ⟨b, 0, none⟩), .int .u8 (oe (s 0)), .int .u8 (oe p)] (W2.drewN k) fun e w' => e = .returned (.int .u8 (oe (mu (s 0) p))) ∧ ∃ q, w' = (W2.drewN k).drewN q) := fun k => by
          rw [← oe_mu]; exact mul_any b _ _ b0.1 b0.2 hpb.1 hpb.2 _ (h2.fld.drewN k)
        obtain ⟨y, Hy⟩ : ∃ y, Hid (mu (s 0) p = y) := ⟨_, rfl⟩
        obtain ⟨z, Hz⟩ : ∃ z, Hid ((if x < x then mu (s 0) (pwr E x) else 0) = z) := ⟨_, rfl⟩
        rw [Hy.out] at ce
        rw [Hz.out] at cell
        have HR : Hid (OnI B A c b s E w x W2) := ⟨h1, h2, h3, h4, h5⟩
        clear h1 h2 h3 h4 h5
        try simp only []
        rw [Hp.out, hfu]
        clear hfu
        gi_wp2
        try (refine ⟨trivial, ?_⟩)
        try gi_wp2
        refine region_round (by kernel_rfl) (by kernel_rfl) (fun w' => w'.cell? ⟨B, 0, none⟩ = some (.pointer (some ⟨c, 0, none⟩)) ∧ w'.cell? ⟨c, 0, none⟩ = some (.pointer (some ⟨b, 0, none⟩)) ∧ w'.cell? ⟨B + 1, 0, none⟩ = some (.int .u8 (oe (s 0)))) (fun _ w' => Keep (fun x => x = A) W2 w' ∧ OnI B A c b s E w (x + 1) w') ⟨q0, q1, q2⟩ (fun hH => ?reg) (fun a' w' hr => ?aft)
        case aft =>
          gi_wp2
          exact hr
        refine take_pure 0 (v := .int .i64 (x : Int)) rfl (by kernel_rfl) rfl (fun w' hw => by simp [execOp, go_sem]) hH ?_
        show wpAnyH _ _ _ _ _ _ _ ({ tmps := #[.pointer (some ⟨c, 0, none⟩), .agg A0.toArray, .pointer (some ⟨B, 0, none⟩), .pointer (some ⟨B + 1, 0, none⟩), .int .i64 0, .int .u8 (oe E), .int .i64 0, .int .i64 (n : Int), .pointer (some ⟨A, 0, none⟩), .int .i64 (x : Int), .int .u8 (oe p), .tuple #[.int .u8 (oe E), .int .i64 0], .pointer (some ⟨c, 0, none⟩), .pointer (some ⟨c, 0, none⟩), .pointer (some ⟨c, 0, none⟩), .pointer (some ⟨b, 0, none⟩), .pointer (some ⟨B + 1, 1, none⟩), .int .u8 (oe (s 1)), .pointer (some ⟨B + 1, 0, none⟩), .int .u8 (oe (s 0)), .tuple #[.int .u8 (oe E), .int .i64 0], .int .u8 (oe E), .int .i64 0, .int .i64 0, .bool false, .tuple #[.int .i64 (n : Int), .int .i64 0], .pointer (some ⟨c, 0, none⟩), .pointer (some ⟨c, 0, none⟩), .pointer (some ⟨c, 0, none⟩), .pointer (some ⟨b, 0, none⟩), .int .u8 (oe E), .tuple #[.int .i64 (n : Int), .int .i64 0], .int .i64 (n : Int), .int .i64 0, .int .i64 0, .bool false, .bool false, .int .i64 (n : Int), .bool dn, .bool dn, .pointer (some ⟨c, 0, none⟩), .pointer (some ⟨c, 0, none⟩), .pointer (some ⟨c, 0, none⟩), .pointer (some ⟨b, 0, none⟩), .int .u8 (oe E), fu, .int .i64 (x : Int), .int .u8 (oe p), .int .i64 (x : Int), undef, undef, undef, undef, undef, undef, undef, undef, undef, undef, undef, undef, undef], defers := [] } : Act) _
        refine take_pure 1 (v := .pointer (some ⟨c, 0, none⟩)) rfl (by kernel_rfl) rfl (fun w' hw => by simp [execOp, go_sem, hw.1]) hH ?_
        show wpAnyH _ _ _ _ _ _ _ ({ tmps := #[.pointer (some ⟨c, 0, none⟩), .agg A0.toArray, .pointer (some ⟨B, 0, none⟩), .pointer (some ⟨B + 1, 0, none⟩), .int .i64 0, .int .u8 (oe E), .int .i64 0, .int .i64 (n : Int), .pointer (some ⟨A, 0, none⟩), .int .i64 (x : Int), .int .u8 (oe p), .tuple #[.int .u8 (oe E), .int .i64 0], .pointer (some ⟨c, 0, none⟩), .pointer (some ⟨c, 0, none⟩), .pointer (some ⟨c, 0, none⟩), .pointer (some ⟨b, 0, none⟩), .pointer (some ⟨B + 1, 1, none⟩), .int .u8 (oe (s 1)), .pointer (some ⟨B + 1, 0, none⟩), .int .u8 (oe (s 0)), .tuple #[.int .u8 (oe E), .int .i64 0], .int .u8 (oe E), .int .i64 0, .int .i64 0, .bool false, .tuple #[.int .i64 (n : Int), .int .i64 0], .pointer (some ⟨c, 0, none⟩), .pointer (some ⟨c, 0, none⟩), .pointer (some ⟨c, 0, none⟩), .pointer (some ⟨b, 0, none⟩), .int .u8 (oe E), .tuple #[.int .i64 (n : Int), .int .i64 0], .int .i64 (n : Int), .int .i64 0, .int .i64 0, .bool false, .bool false, .int .i64 (n : Int), .bool dn, .bool dn, .pointer (some ⟨c, 0, none⟩), .pointer (some ⟨c, 0, none⟩), .pointer (some ⟨c, 0, none⟩), .pointer (some ⟨b, 0, none⟩), .int .u8 (oe E), fu, .int .i64 (x : Int), .int .u8 (oe p), .int .i64 (x : Int), .pointer (some ⟨c, 0, none⟩), undef, undef, undef, undef, undef, undef, undef, undef, undef, undef, undef, undef], defers := [] } : Act) _
        refine take_pure 2 (v := .pointer (some ⟨c, 0, none⟩)) rfl (by kernel_rfl) rfl (fun w' hw => by simp [execOp, go_sem]) hH ?_
        show wpAnyH _ _ _ _ _ _ _ ({ tmps := #[.pointer (some ⟨c, 0, none⟩), .agg A0.toArray, .pointer (some ⟨B, 0, none⟩), .pointer (some ⟨B + 1, 0, none⟩), .int .i64 0, .int .u8 (oe E), .int .i64 0, .int .i64 (n : Int), .pointer (some ⟨A, 0, none⟩), .int .i64 (x : Int), .int .u8 (oe p), .tuple #[.int .u8 (oe E), .int .i64 0], .pointer (some ⟨c, 0, none⟩), .pointer (some ⟨c, 0, none⟩), .pointer (some ⟨c, 0, none⟩), .pointer (some ⟨b, 0, none⟩), .pointer (some ⟨B + 1, 1, none⟩), .int .u8 (oe (s 1)), .pointer (some ⟨B + 1, 0, none⟩), .int .u8 (oe (s 0)), .tuple #[.int .u8 (oe E), .int .i64 0], .int .u8 (oe E), .int .i64 0, .int .i64 0, .bool false, .tuple #[.int .i64 (n : Int), .int .i64 0], .pointer (some ⟨c, 0, none⟩), .pointer (some ⟨c, 0, none⟩), .pointer (some ⟨c, 0, none⟩), .pointer (some ⟨b, 0, none⟩), .int .u8 (oe E), .tuple #[.int .i64 (n : Int), .int .i64 0], .int .i64 (n : Int), .int .i64 0, .int .i64 0, .bool false, .bool false, .int .i64 (n : Int), .bool dn, .bool dn, .pointer (some ⟨c, 0, none⟩), .pointer (some ⟨c, 0, none⟩), .pointer (some ⟨c, 0, none⟩), .pointer (some ⟨b, 0, none⟩), .int .u8 (oe E), fu, .int .i64 (x : Int), .int .u8 (oe p), .int .i64 (x : Int), .pointer (some ⟨c, 0, none⟩), .pointer (some ⟨c, 0, none⟩), undef, undef, undef, undef, undef, undef, undef, undef, undef, undef, undef], defers := [] } : Act) _
        refine take_pure 3 (v := .pointer (some ⟨c, 0, none⟩)) rfl (by kernel_rfl) rfl (fun w' hw => by simp [execOp, go_sem]) hH ?_
        show wpAnyH _ _ _ _ _ _ _ ({ tmps := #[.pointer (some ⟨c, 0, none⟩), .agg A0.toArray, .pointer (some ⟨B, 0, none⟩), .pointer (some ⟨B + 1, 0, none⟩), .int .i64 0, .int .u8 (oe E), .int .i64 0, .int .i64 (n : Int), .pointer (some ⟨A, 0, none⟩), .int .i64 (x : Int), .int .u8 (oe p), .tuple #[.int .u8 (oe E), .int .i64 0], .pointer (some ⟨c, 0, none⟩), .pointer (some ⟨c, 0, none⟩), .pointer (some ⟨c, 0, none⟩), .pointer (some ⟨b, 0, none⟩), .pointer (some ⟨B + 1, 1, none⟩), .int .u8 (oe (s 1)), .pointer (some ⟨B + 1, 0, none⟩), .int .u8 (oe (s 0)), .tuple #[.int .u8 (oe E), .int .i64 0], .int .u8 (oe E), .int .i64 0, .int .i64 0, .bool false, .tuple #[.int .i64 (n : Int), .int .i64 0], .pointer (some ⟨c, 0, none⟩), .pointer (some ⟨c, 0, none⟩), .pointer (some ⟨c, 0, none⟩), .pointer (some ⟨b, 0, none⟩), .int .u8 (oe E), .tuple #[.int .i64 (n : Int), .int .i64 0], .int .i64 (n : Int), .int .i64 0, .int .i64 0, .bool false, .bool false, .int .i64 (n : Int), .bool dn, .bool dn, .pointer (some ⟨c, 0, none⟩), .pointer (some ⟨c, 0, none⟩), .pointer (some ⟨c, 0, none⟩), .pointer (some ⟨b, 0, none⟩), .int .u8 (oe E), fu, .int .i64 (x : Int), .int .u8 (oe p), .int .i64 (x : Int), .pointer (some ⟨c, 0, none⟩), .pointer (some ⟨c, 0, none⟩), .pointer (some ⟨c, 0, none⟩), undef, undef, undef, undef, undef, undef, undef, undef, undef, undef], defers := [] } : Act) _
        refine take_pure 4 (v := .pointer (some ⟨b, 0, none⟩)) rfl (by kernel_rfl) rfl (fun w' hw => by simp [execOp, go_sem, hw.2.1]) hH ?_
        show wpAnyH _ _ _ _ _ _ _ ({ tmps := #[.pointer (some ⟨c, 0, none⟩), .agg A0.toArray, .pointer (some ⟨B, 0, none⟩), .pointer (some ⟨B + 1, 0, none⟩), .int .i64 0, .int .u8 (oe E), .int .i64 0, .int .i64 (n : Int), .pointer (some ⟨A, 0, none⟩), .int .i64 (x : Int), .int .u8 (oe p), .tuple #[.int .u8 (oe E), .int .i64 0], .pointer (some ⟨c, 0, none⟩), .pointer (some ⟨c, 0, none⟩), .pointer (some ⟨c, 0, none⟩), .pointer (some ⟨b, 0, none⟩), .pointer (some ⟨B + 1, 1, none⟩), .int .u8 (oe (s 1)), .pointer (some ⟨B + 1, 0, none⟩), .int .u8 (oe (s 0)), .tuple #[.int .u8 (oe E), .int .i64 0], .int .u8 (oe E), .int .i64 0, .int .i64 0, .bool false, .tuple #[.int .i64 (n : Int), .int .i64 0], .pointer (some ⟨c, 0, none⟩), .pointer (some ⟨c, 0, none⟩), .pointer (some ⟨c, 0, none⟩), .pointer (some ⟨b, 0, none⟩), .int .u8 (oe E), .tuple #[.int .i64 (n : Int), .int .i64 0], .int .i64 (n : Int), .int .i64 0, .int .i64 0, .bool false, .bool false, .int .i64 (n : Int), .bool dn, .bool dn, .pointer (some ⟨c, 0, none⟩), .pointer (some ⟨c, 0, none⟩), .pointer (some ⟨c, 0, none⟩), .pointer (some ⟨b, 0, none⟩), .int .u8 (oe E), fu, .int .i64 (x : Int), .int .u8 (oe p), .int .i64 (x : Int), .pointer (some ⟨c, 0, none⟩), .pointer (some ⟨c, 0, none⟩), .pointer (some ⟨c, 0, none⟩), .pointer (some ⟨b, 0, none⟩), undef, undef, undef, undef, undef, undef, undef, undef, undef], defers := [] } : Act) _
        refine take_pure 5 (v := .pointer (some ⟨B + 1, 0, none⟩)) rfl (by kernel_rfl) rfl (fun w' hw => by simp [execOp, go_sem]) hH ?_
        show wpAnyH _ _ _ _ _ _ _ ({ tmps := #[.pointer (some ⟨c, 0, none⟩), .agg A0.toArray, .pointer (some ⟨B, 0, none⟩), .pointer (some ⟨B + 1, 0, none⟩), .int .i64 0, .int .u8 (oe E), .int .i64 0, .int .i64 (n : Int), .pointer (some ⟨A, 0, none⟩), .int .i64 (x : Int), .int .u8 (oe p), .tuple #[.int .u8 (oe E), .int .i64 0], .pointer (some ⟨c, 0, none⟩), .pointer (some ⟨c, 0, none⟩), .pointer (some ⟨c, 0, none⟩), .pointer (some ⟨b, 0, none⟩), .pointer (some ⟨B + 1, 1, none⟩), .int .u8 (oe (s 1)), .pointer (some ⟨B + 1, 0, none⟩), .int .u8 (oe (s 0)), .tuple #[.int .u8 (oe E), .int .i64 0], .int .u8 (oe E), .int .i64 0, .int .i64 0, .bool false, .tuple #[.int .i64 (n : Int), .int .i64 0], .pointer (some ⟨c, 0, none⟩), .pointer (some ⟨c, 0, none⟩), .pointer (some ⟨c, 0, none⟩), .pointer (some ⟨b, 0, none⟩), .int .u8 (oe E), .tuple #[.int .i64 (n : Int), .int .i64 0], .int .i64 (n : Int), .int .i64 0, .int .i64 0, .bool false, .bool false, .int .i64 (n : Int), .bool dn, .bool dn, .pointer (some ⟨c, 0, none⟩), .pointer (some ⟨c, 0, none⟩), .pointer (some ⟨c, 0, none⟩), .pointer (some ⟨b, 0, none⟩), .int .u8 (oe E), fu, .int .i64 (x : Int), .int .u8 (oe p), .int .i64 (x : Int), .pointer (some ⟨c, 0, none⟩), .pointer (some ⟨c, 0, none⟩), .pointer (some ⟨c, 0, none⟩), .pointer (some ⟨b, 0, none⟩), .pointer (some ⟨B + 1, 0, none⟩), undef, undef, undef, undef, undef, undef, undef, undef], defers := [] } : Act) _
        refine take_pure 6 (v := .int .u8 (oe (s 0))) rfl (by kernel_rfl) rfl (fun w' hw => by simp [execOp, go_sem, hw.2.2]) hH ?_
        show wpAnyH _ _ _ _ _ _ _ ({ tmps := #[.pointer (some ⟨c, 0, none⟩), .agg A0.toArray, .pointer (some ⟨B, 0, none⟩), .pointer (some ⟨B + 1, 0, none⟩), .int .i64 0, .int .u8 (oe E), .int .i64 0, .int .i64 (n : Int), .pointer (some ⟨A, 0, none⟩), .int .i64 (x : Int), .int .u8 (oe p), .tuple #[.int .u8 (oe E), .int .i64 0], .pointer (some ⟨c, 0, none⟩), .pointer (some ⟨c, 0, none⟩), .pointer (some ⟨c, 0, none⟩), .pointer (some ⟨b, 0, none⟩), .pointer (some ⟨B + 1, 1, none⟩), .int .u8 (oe (s 1)), .pointer (some ⟨B + 1, 0, none⟩), .int .u8 (oe (s 0)), .tuple #[.int .u8 (oe E), .int .i64 0], .int .u8 (oe E), .int .i64 0, .int .i64 0, .bool false, .tuple #[.int .i64 (n : Int), .int .i64 0], .pointer (some ⟨c, 0, none⟩), .pointer (some ⟨c, 0, none⟩), .pointer (some ⟨c, 0, none⟩), .pointer (some ⟨b, 0, none⟩), .int .u8 (oe E), .tuple #[.int .i64 (n : Int), .int .i64 0], .int .i64 (n : Int), .int .i64 0, .int .i64 0, .bool false, .bool false, .int .i64 (n : Int), .bool dn, .bool dn, .pointer (some ⟨c, 0, none⟩), .pointer (some ⟨c, 0, none⟩), .pointer (some ⟨c, 0, none⟩), .pointer (some ⟨b, 0, none⟩), .int .u8 (oe E), fu, .int .i64 (x : Int), .int .u8 (oe p), .int .i64 (x : Int), .pointer (some ⟨c, 0, none⟩), .pointer (some ⟨c, 0, none⟩), .pointer (some ⟨c, 0, none⟩), .pointer (some ⟨b, 0, none⟩), .pointer (some ⟨B + 1, 0, none⟩), .int .u8 (oe (s 0)), undef, undef, undef, undef, undef, undef, undef], defers := [] } : Act) _
        refine take_pure 7 (v := .int .u8 (oe p)) rfl (by kernel_rfl) rfl (fun w' hw => by simp [execOp, go_sem]) hH ?_
        show wpAnyH _ _ _ _ _ _ _ ({ tmps := #[.pointer (some ⟨c, 0, none⟩), .agg A0.toArray, .pointer (some ⟨B, 0, none⟩), .pointer (some ⟨B + 1, 0, none⟩), .int .i64 0, .int .u8 (oe E), .int .i64 0, .int .i64 (n : Int), .pointer (some ⟨A, 0, none⟩), .int .i64 (x : Int), .int .u8 (oe p), .tuple #[.int .u8 (oe E), .int .i64 0], .pointer (some ⟨c, 0, none⟩), .pointer (some ⟨c, 0, none⟩), .pointer (some ⟨c, 0, none⟩), .pointer (some ⟨b, 0, none⟩), .pointer (some ⟨B + 1, 1, none⟩), .int .u8 (oe (s 1)), .pointer (some ⟨B + 1, 0, none⟩), .int .u8 (oe (s 0)), .tuple #[.int .u8 (oe E), .int .i64 0], .int .u8 (oe E), .int .i64 0, .int .i64 0, .bool false, .tuple #[.int .i64 (n : Int), .int .i64 0], .pointer (some ⟨c, 0, none⟩), .pointer (some ⟨c, 0, none⟩), .pointer (some ⟨c, 0, none⟩), .pointer (some ⟨b, 0, none⟩), .int .u8 (oe E), .tuple #[.int .i64 (n : Int), .int .i64 0], .int .i64 (n : Int), .int .i64 0, .int .i64 0, .bool false, .bool false, .int .i64 (n : Int), .bool dn, .bool dn, .pointer (some ⟨c, 0, none⟩), .pointer (some ⟨c, 0, none⟩), .pointer (some ⟨c, 0, none⟩), .pointer (some ⟨b, 0, none⟩), .int .u8 (oe E), fu, .int .i64 (x : Int), .int .u8 (oe p), .int .i64 (x : Int), .pointer (some ⟨c, 0, none⟩), .pointer (some ⟨c, 0, none⟩), .pointer (some ⟨c, 0, none⟩), .pointer (some ⟨b, 0, none⟩), .pointer (some ⟨B + 1, 0, none⟩), .int .u8 (oe (s 0)), .int .u8 (oe p), undef, undef, undef, undef, undef, undef], defers := [] } : Act) _
        refine take_one 8 rfl rfl (by kernel_rfl) ?_
        refine wp_contract 85 [.tmp 52, .tmp 54, .tmp 55] _ rfl (enters_of Tryd.func85 (by kernel_rfl) rfl) [.pointer (some ⟨b, 0, none⟩), .int .u8 (oe (s 0)), .int .u8 (oe p)] rfl (ce.out 1) ?_
        rintro e W4 ⟨rfl, q, rfl⟩
        refine ⟨_, rfl, ⟨q0, q1, q2⟩, fun hH => ?_⟩
        show wpAnyH _ _ _ _ _ _ _ ({ tmps := #[.pointer (some ⟨c, 0, none⟩), .agg A0.toArray, .pointer (some ⟨B, 0, none⟩), .pointer (some ⟨B + 1, 0, none⟩), .int .i64 0, .int .u8 (oe E), .int .i64 0, .int .i64 (n : Int), .pointer (some ⟨A, 0, none⟩), .int .i64 (x : Int), .int .u8 (oe p), .tuple #[.int .u8 (oe E), .int .i64 0], .pointer (some ⟨c, 0, none⟩), .pointer (some ⟨c, 0, none⟩), .pointer (some ⟨c, 0, none⟩), .pointer (some ⟨b, 0, none⟩), .pointer (some ⟨B + 1, 1, none⟩), .int .u8 (oe (s 1)), .pointer (some ⟨B + 1, 0, none⟩), .int .u8 (oe (s 0)), .tuple #[.int .u8 (oe E), .int .i64 0], .int .u8 (oe E), .int .i64 0, .int .i64 0, .bool false, .tuple #[.int .i64 (n : Int), .int .i64 0], .pointer (some ⟨c, 0, none⟩), .pointer (some ⟨c, 0, none⟩), .pointer (some ⟨c, 0, none⟩), .pointer (some ⟨b, 0, none⟩), .int .u8 (oe E), .tuple #[.int .i64 (n : Int), .int .i64 0], .int .i64 (n : Int), .int .i64 0, .int .i64 0, .bool false, .bool false, .int .i64 (n : Int), .bool dn, .bool dn, .pointer (some ⟨c, 0, none⟩), .pointer (some ⟨c, 0, none⟩), .pointer (some ⟨c, 0, none⟩), .pointer (some ⟨b, 0, none⟩), .int .u8 (oe E), fu, .int .i64 (x : Int), .int .u8 (oe p), .int .i64 (x : Int), .pointer (some ⟨c, 0, none⟩), .pointer (some ⟨c, 0, none⟩), .pointer (some ⟨c, 0, none⟩), .pointer (some ⟨b, 0, none⟩), .pointer (some ⟨B + 1, 0, none⟩), .int .u8 (oe (s 0)), .int .u8 (oe p), .int .u8 (oe y), undef, undef, undef, undef, undef], defers := [] } : Act) _
        refine take_pure 9 (v := .pointer (some ⟨A, x, none⟩)) rfl (by kernel_rfl) rfl (fun w' hw => by simp [execOp, go_sem]; intro h; omega) hH ?_
        show wpAnyH _ _ _ _ _ _ _ ({ tmps := #[.pointer (some ⟨c, 0, none⟩), .agg A0.toArray, .pointer (some ⟨B, 0, none⟩), .pointer (some ⟨B + 1, 0, none⟩), .int .i64 0, .int .u8 (oe E), .int .i64 0, .int .i64 (n : Int), .pointer (some ⟨A, 0, none⟩), .int .i64 (x : Int), .int .u8 (oe p), .tuple #[.int .u8 (oe E), .int .i64 0], .pointer (some ⟨c, 0, none⟩), .pointer (some ⟨c, 0, none⟩), .pointer (some ⟨c, 0, none⟩), .pointer (some ⟨b, 0, none⟩), .pointer (some ⟨B + 1, 1, none⟩), .int .u8 (oe (s 1)), .pointer (some ⟨B + 1, 0, none⟩), .int .u8 (oe (s 0)), .tuple #[.int .u8 (oe E), .int .i64 0], .int .u8 (oe E), .int .i64 0, .int .i64 0, .bool false, .tuple #[.int .i64 (n : Int), .int .i64 0], .pointer (some ⟨c, 0, none⟩), .pointer (some ⟨c, 0, none⟩), .pointer (some ⟨c, 0, none⟩), .pointer (some ⟨b, 0, none⟩), .int .u8 (oe E), .tuple #[.int .i64 (n : Int), .int .i64 0], .int .i64 (n : Int), .int .i64 0, .int .i64 0, .bool false, .bool false, .int .i64 (n : Int), .bool dn, .bool dn, .pointer (some ⟨c, 0, none⟩), .pointer (some ⟨c, 0, none⟩), .pointer (some ⟨c, 0, none⟩), .pointer (some ⟨b, 0, none⟩), .int .u8 (oe E), fu, .int .i64 (x : Int), .int .u8 (oe p), .int .i64 (x : Int), .pointer (some ⟨c, 0, none⟩), .pointer (some ⟨c, 0, none⟩), .pointer (some ⟨c, 0, none⟩), .pointer (some ⟨b, 0, none⟩), .pointer (some ⟨B + 1, 0, none⟩), .int .u8 (oe (s 0)), .int .u8 (oe p), .int .u8 (oe y), .pointer (some ⟨A, x, none⟩), undef, undef, undef, undef], defers := [] } : Act) _
        refine take_one 10 rfl rfl (by kernel_rfl) ?_
        have cell' : ((W2.drewN 1).drewN q).cell? ⟨A, x, none⟩ = some (.int .u8 (oe z)) := cell
        have free' : ((W2.drewN 1).drewN q).frozen? ⟨A, x, none⟩ = false := free
        obtain ⟨W5, hW5⟩ : ∃ W5, (W2.drewN 1).drewN q = W5 := ⟨_, rfl⟩
        rw [hW5] at cell' free' hH ⊢
        have fin : Keep (fun x => x = A) W2 (W5.setCell ⟨A, x, none⟩ (.int .u8 (oe y))) ∧ OnI B A c b s E w (x + 1) (W5.setCell ⟨A, x, none⟩ (.int .u8 (oe y))) := by
          obtain ⟨h1, h2, h3, h4, h5⟩ := HR.out
          have k5 : Keep (fun x => x = A) W2 W5 := by rw [← hW5]; exact ((Keep.refl _ W2).drewN 1).drewN q
          have s5 : Stay W2.heap.size W2 W5 := by rw [← hW5]; exact (Stay.drewN _ W2 1).trans (Stay.drewN _ _ q)
          have kk : Keep (fun x => x = A) W5 (W5.setCell ⟨A, x, none⟩ (.int .u8 (oe y))) := ⟨by simp, fun k _ hm => Below.heap_setCell W5 ⟨A, x, none⟩ _ k hm⟩
          refine ⟨k5.trans kk, kk.box (h1.stay s5) (by omega), ?_, (h3.stay s5).other (by omega) _ _, ?_, (below_stay h5 s5 (by have := h1.lt; omega)).setCell (p := ⟨A, x, none⟩) (by simp; omega) _⟩
          · exact (h2.stay s5).of (Below.heap_setCell W5 ⟨A, x, none⟩ _ c (by simp; omega)) (Below.heap_setCell W5 ⟨A, x, none⟩ _ b (by simp; omega))
          · refine ((h4.stay s5).set x y).congr fun i hi => ?_
            by_cases e : i = x
            · rw [if_pos e, if_pos (by omega), e, Hp.out]; exact Hy.out.symm
            · rw [if_neg e]
              by_cases e2 : i < x
              · rw [if_pos e2, if_pos (by omega)]
              · rw [if_neg e2, if_neg (by omega)]
        have Fin : Hid (Keep (fun x => x = A) W2 (W5.setCell ⟨A, x, none⟩ (.int .u8 (oe y))) ∧ OnI B A c b s E w (x + 1) (W5.setCell ⟨A, x, none⟩ (.int .u8 (oe y)))) := fin
        clear fin HR hW5
        simp [Oper.wp, execOp, go_sem, Oper.upon, cell', free']
        exact ⟨hH, fun _ _ _ => wpAnyH_done (by kernel_rfl) Fin.out _⟩
      case done =>
        rintro D W hD ⟨h1, h2, h3, h4, h5⟩ hK
        have ge : Blk W A 4 (fun i => mu (s 0) (pwr E i)) := h4.congr fun i hi => if_pos hi
        have hr1 := ge.range
        have hr2 := h3.range
        have i4 : (Tryd.prog.info? 73).map (·.size) = some (arr 4 (fun i => mu (s 0) (pwr E i))).length := by rw [arr_len]; exact info4
        have i4' : (Tryd.prog.info? 73).map (·.size) = some (arr 4 s).length := by rw [arr_len]; exact info4
        have hne := neq_arr 73 4 Tryd.underlying73 (fun i => mu (s 0) (pwr E i)) s t Ht.out
        have hgd : Tryd.prog.eqGuardType Tryd.prog.depth 73 = false := by kernel_rfl
        obtain ⟨L1, hL1⟩ : ∃ L, arr 4 (fun i => mu (s 0) (pwr E i)) = L := ⟨_, rfl⟩
        rw [hL1] at hr1 i4 hne
        rw [hA0] at hr2 i4' hne
        have fin : Hid (W.heap[D]? = some (.deferred (some [])) ∧ Below B w (W.putObj D (.deferred none))) := ⟨hK, below_shut hK (by omega) h5⟩
        clear h1 h2 h3 h4 h5 hK hL1 ge Ht
        cases t with
        | true =>
          have eP : Hid (P = (n : Int)) := by show _ = _; rw [HP.out]; simp
          clear HP
          go_wp2_with (first | refine wpList_load_mid rfl 73 _ rfl A 0 rfl L1 _ hr1 Tryd.underlying73 rfl i4 ?_ | refine wpList_load_mid rfl 73 _ rfl (B + 1) 0 rfl A0 _ hr2 Tryd.underlying73 rfl i4' ?_)
          refine ⟨by simp, .inl ⟨_, _, rfl, run_takeDeferred fin.out.1, ?_⟩⟩
          exact ⟨_, results_tmp rfl _ _ _, by rw [eP.out]; rfl, by first | exact fin.out.2 | (rw [hB]; exact fin.out.2)⟩
        | false =>
          have eP : Hid (P = -1) := by show _ = _; rw [HP.out]; simp
          clear HP
          go_wp2_with (first | refine wpList_load_mid rfl 73 _ rfl A 0 rfl L1 _ hr1 Tryd.underlying73 rfl i4 ?_ | refine wpList_load_mid rfl 73 _ rfl (B + 1) 0 rfl A0 _ hr2 Tryd.underlying73 rfl i4' ?_)
          refine ⟨by simp, .inl ⟨_, _, rfl, run_takeDeferred fin.out.1, ?_⟩⟩
          exact ⟨_, results_tmp rfl _ _ _, by rw [eP.out]; rfl, by first | exact fin.out.2 | (rw [hB]; exact fin.out.2)⟩
end Go.Proofs.YtdjknaafefnlcaaDoor
