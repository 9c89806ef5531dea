/-
  CodecStrays.
-/
import Derived.Test.YtdjknaafefnlcaaDoorCoW11m
import Derived.Test.YtdjknaafefnlcaaDoorCoM6m
import Derived.Deep.Light
import Derived.Deep.LoopGhost
import Derived.Test.YtdjknaafefnlcaaDoorM10
namespace Go.Proofs.YtdjknaafefnlcaaDoor
open Go.RowKit Go.Shelf
open Po (El toE)
open Bm (wt)
attribute [local go_sem] Oper.semAt_some

theorem eqlB3 (F G : Nat → Int) (hF : Byts 3 F) (hG : Byts 3 G) (b : Bool) (hb : b = true ↔ ∀ i, i < 3 → F i = G i) (w : World) : (binOp .eql 37 (.agg (ints .u8 3 F).toArray) (.agg (ints .u8 3 G).toArray)).run Tryd.prog w = .ok (.bool b) w :=
  eql_ints 37 3 Tryd.underlying37 F G hF hG b hb w
theorem gdB3 : Tryd.prog.eqGuardType Tryd.prog.depth 37 = false := by kernel_rfl
theorem odd_step (o r : Nat) (ho : o < 2) (hr : r < 2) : (o ^^^ r) < 2 ∧ (o ^^^ r) % 2 = (o + r) % 2 := by
  rcases (show o = 0 ∨ o = 1 by omega) with rfl | rfl <;> rcases (show r = 0 ∨ r = 1 by omega) with rfl | rfl <;> decide
/-- how the loop over the bytes begins and goes on -/
def oddS (a b : Int) : Nat → Nat
  | 0 => 0
  | j + 1 => oddS a b j + wt (ub a b j)
set_option maxRecDepth 100000 in
set_option maxHeartbeats 4000000 in
theorem codecStrays_core (m : Int) (F : Nat → Int) (hF : Byts 64 F) (ix jx : Int) (w : World) (hT : TabW w) :
    Calls Tryd.prog 5 #[.int .i64 m, .agg (ints .u8 64 F).toArray, .int .i64 ix, .int .i64 jx] w fun e w' => e = .returned (.bool true) ∧ Below w.heap.size w w' := by
  have hz := zeroR
  have hz2 := zeroL10
  have hz3 := zero10
  have gd := gdR
  have gdl := gdL10
  obtain ⟨ZR, hZR⟩ : ∃ A, (ints .u8 72 fun _ => 0).toArray = A := ⟨_, rfl⟩
  obtain ⟨ZL, hZL⟩ : ∃ A, (ints .u8 64 fun _ => 0).toArray = A := ⟨_, rfl⟩
  rw [hZR] at hz
  rw [hZL] at hz2
  have HZ : Hid ((ints .u8 72 fun _ => 0).toArray = ZR ∧ (ints .u8 64 fun _ => 0).toArray = ZL) := ⟨hZR, hZL⟩
  have hz4 := zeroB3
  have gd3 := gdB3
  obtain ⟨Z3, hZ3⟩ : ∃ A, (ints .u8 3 fun _ => 0).toArray = A := ⟨_, rfl⟩
  rw [hZ3] at hz4
  have HZ3 : Hid ((ints .u8 3 fun _ => 0).toArray = Z3) := hZ3
  have HT : Hid (TabW w) := hT
  have HF : Hid (Byts 64 F) := hF
  have cM : Hid (∀ W : World, Calls Tryd.prog 10 #[.int .i64 m] W fun e w' => e = .returned (.bool (decide (m = 1 ∨ m = 2))) ∧ w' = W) := mode10_any m
  have cV1 : Hid (∀ W : World, Calls Tryd.prog 14 #[.int .i64 ix, .bool false] W fun e w' => e = .returned (.agg (ints .u8 3 (vb ix false)).toArray) ∧ Below W.heap.size W w') := refVirtual_any ix false
  have cV2 : Hid (∀ W : World, Calls Tryd.prog 14 #[.int .i64 jx, .bool false] W fun e w' => e = .returned (.agg (ints .u8 3 (vb jx false)).toArray) ∧ Below W.heap.size W w') := refVirtual_any jx false
  have ee := eqlL2 (fun _ => 0) (fun _ => 0) (fun _ _ => ⟨Int.le_refl _, show (0 : Int) < 256 by decide⟩) (fun _ _ => ⟨Int.le_refl _, show (0 : Int) < 256 by decide⟩) true ⟨fun _ _ _ => rfl, fun _ => rfl⟩
  have eV := fun b hb => eqlB3 (vb ix false) (vb jx false) (fun i _ => vb_bd ix false i) (fun i _ => vb_bd jx false i) b hb
  have cE : ∀ (c h r f : Nat) (W : World), CcAt W c h r f → TabW W → Calls Tryd.prog 11 #[.pointer (some ⟨c, 0, none⟩), .int .i64 m, .agg (ints .u8 64 F).toArray, .int .i64 ix, .bool false] W fun e w' => ∃ R, e = .returned (.agg (ints .u8 72 R).toArray) ∧ Enc m F ix false R ∧ Below W.heap.size W w' := fun c h r f W H HT => encode10_any c h r f m F hF ix false W H HT
  obtain ⟨A0, hA0⟩ : ∃ A, ints .u8 64 F = A := ⟨_, rfl⟩
  have iA0 : (Tryd.prog.info? 23).map (·.size) = some A0.length := by rw [← hA0, ints_len]; exact infoL
  have jA0 : (Tryd.prog.info? 23).map (·.size) = some A0.toArray.size := by simpa using iA0
  have oA0 : A0.toArray.all (·.oneCell') = true := by rw [← hA0]; exact ints_one .u8 64 _
  obtain ⟨A3, hA3⟩ : ∃ A, ints .u8 64 (fun _ => 0) = A := ⟨_, rfl⟩
  have iA3 : (Tryd.prog.info? 23).map (·.size) = some A3.length := by rw [← hA3, ints_len]; exact infoL
  have jA3 : (Tryd.prog.info? 23).map (·.size) = some A3.toArray.size := by simpa using iA3
  have oA3 : A3.toArray.all (·.oneCell') = true := by rw [← hA3]; exact ints_one .u8 64 _
  obtain ⟨U1, hU1⟩ : ∃ A, ints .u8 3 (vb ix false) = A := ⟨_, rfl⟩
  obtain ⟨U2, hU2⟩ : ∃ A, ints .u8 3 (vb jx false) = A := ⟨_, rfl⟩
  have iU1 : (Tryd.prog.info? 37).map (·.size) = some U1.length := by rw [← hU1, ints_len]; exact infoB3
  have iU2 : (Tryd.prog.info? 37).map (·.size) = some U2.length := by rw [← hU2, ints_len]; exact infoB3
  have jU1 : (Tryd.prog.info? 37).map (·.size) = some U1.toArray.size := by simpa using iU1
  have jU2 : (Tryd.prog.info? 37).map (·.size) = some U2.toArray.size := by simpa using iU2
  have oU1 : U1.toArray.all (·.oneCell') = true := by rw [← hU1]; exact ints_one .u8 3 _
  have oU2 : U2.toArray.all (·.oneCell') = true := by rw [← hU2]; exact ints_one .u8 3 _
  simp only [hA0] at cE
  simp only [hA3] at ee
  rw [hU1] at cV1 eV
  rw [hU2] at cV2 eV
  have EV : Hid (∀ b : Bool, (b = true ↔ ∀ i, i < 3 → vb ix false i = vb jx false i) → ∀ w, (binOp .eql 37 (.agg U1.toArray) (.agg U2.toArray)).run Tryd.prog w = .ok (.bool b) w) := eV
  clear eV
  rw [hA0]
  have HU : Hid (ints .u8 3 (vb ix false) = U1 ∧ ints .u8 3 (vb jx false) = U2) := ⟨hU1, hU2⟩
  have CE : Hid (∀ (c h r f : Nat) (W : World), CcAt W c h r f → TabW W → Calls Tryd.prog 11 #[.pointer (some ⟨c, 0, none⟩), .int .i64 m, .agg A0.toArray, .int .i64 ix, .bool false] W fun e w' => ∃ R, e = .returned (.agg (ints .u8 72 R).toArray) ∧ Enc m F ix false R ∧ Below W.heap.size W w') := cE
  clear cE hT hF hZR hZL hZ3 hU1 hU2
  go_enter Tryd.func5, Tryd.ntmps5
  go_wp2_with fail
  obtain ⟨V, hV⟩ : ∃ V, (w.alloc (.cells A0.toArray 23)) = V := ⟨_, rfl⟩
  obtain ⟨B, hB⟩ : ∃ B, w.heap.size = B := ⟨_, rfl⟩
  have HV : Below w.heap.size w V ∧ ∀ p ∈ [(B, A0)], At9 V p.1 p.2 := by
    have h0 := (Bk.new .u8 w 64 F 23).at9
    rw [hA0] at h0
    have g0 := h0
    rw [hV] at g0
    rw [hB] at g0
    refine ⟨by rw [← hV]; exact ((Below.refl _ w).alloc (by simp <;> omega) _), fun p hp => ?_⟩
    simp only [List.mem_cons, List.not_mem_nil, or_false] at hp
    subst hp
    · exact g0
  have HTV : Hid (TabW V) := HT.out.below HV.1 HT.out.lt
  rw [hV, hB]
  refine (coder_any V HTV.out).mono ?_
  rintro e V1 ⟨c, h, r, f, rfl, HC⟩
  have HS : Hid (LwS c h r f [(B, A0)] w V1) := LwS.begin HC HV.1 HV.2
  clear HC HV hV HTV HT V
  clear hA0
  by_cases hm : m = 1 ∨ m = 2
  · have hd : decide (m = 1 ∨ m = 2) = true := by simpa using hm
    rw [hd] at cM
    obtain ⟨n, k, hmw⟩ := mw_any m hm
    have HM : Hid (Mw m n k) := hmw
    clear hd hmw
    go_upto_region 6 with (go_at_call 10; refine (cM.out _).mono ?_; rintro e w' ⟨rfl, hw2⟩; rw [hw2]; clear hw2 w')
    go_wp2_with fail
    refine (cV1.out _).mono ?_
    rintro e V2 ⟨rfl, b2⟩
    replace HS := HS.out.next b2
    go_wp2_with fail
    refine (cV2.out _).mono ?_
    rintro e V3 ⟨rfl, b3⟩
    replace HS := HS.next b3
    have L1 := HS.layA .u8 3 (vb ix false) (vb jx false) 37 HZ3.out HU.out.1 HU.out.2
    have t1 := L1.1
    have t2 := L1.2.1
    have HS2 := L1.2.2
    clear L1 HS b2 b3 cV1 cV2 cM V1 V2
    go_upto_region 7 with (first | refine wpList_store_mid rfl 37 _ _ rfl V3.heap.size 0 U1.toArray rfl rfl t1 jU1 oU1 ?_ | refine wpList_store_mid rfl 37 _ _ rfl (V3.heap.size + 1) 0 U2.toArray rfl rfl t2 jU2 oU2 ?_)
    obtain ⟨P, hP⟩ : ∃ N, V3.heap.size = N := ⟨_, rfl⟩
    obtain ⟨Q, hQ⟩ : ∃ N, P + 1 = N := ⟨_, rfl⟩
    obtain ⟨V, hV⟩ : ∃ V6, (((V3.alloc (.cells Z3 37)).alloc (.cells Z3 37)).setCells V3.heap.size 0 U1).setCells (V3.heap.size + 1) 0 U2 = V6 := ⟨_, rfl⟩
    rw [hV, hP, hQ] at HS2
    rw [hV, hP, hQ]
    have HS : Hid (LwS c h r f [(Q, U2), (P, U1), (B, A0)] w V ∧ Bk .u8 V P 3 (vb ix false) ∧ Bk .u8 V Q 3 (vb jx false)) := HS2
    clear hV hP hQ t1 t2 HS2 V3
    obtain ⟨g, wf, HG, HG0, HG3, HW0, HWs⟩ : ∃ (g wf : Nat → Nat), Hid (∀ j, g (j + 1) = g j + wf (ub ix jx j)) ∧ Hid (g 0 = 0) ∧ Hid ((par ix = par jx → g 3 % 2 = 0) ∧ (par ix ≠ par jx → g 3 % 2 = 1)) ∧ Hid (wf 0 = 0) ∧ Hid (∀ s, s < 256 → wf s = s % 2 + wf (s / 2)) := ⟨oddS ix jx, wt, fun j => rfl, rfl, by
      have h := odd_par ix jx
      have e : oddS ix jx 3 = wt (ub ix jx 0) + wt (ub ix jx 1) + wt (ub ix jx 2) := by
        show 0 + wt (ub ix jx 0) + wt (ub ix jx 1) + wt (ub ix jx 2) = _
        rw [Nat.zero_add]
      rw [← e] at h
      exact ⟨fun hp => by rw [if_pos hp] at h; exact h, fun hp => by rw [if_neg hp] at h; exact h⟩, Bm.wt_zero, fun s hs => Bm.wt_step s (by omega)⟩
    go_wp2
    go_loopg [12, 27] 3 (fun g9 ov iv wr => ∃ i o : Nat, i ≤ 3 ∧ g9 = 3 - i ∧ o < 2 ∧ Hid (o = g i % 2) ∧ ov = .int .i64 (o : Int) ∧ iv = .int .i64 (i : Int) ∧ Hid (∃ q, wr = V.drewN q))
    case atStart => exact ⟨0, 0, by omega, rfl, by omega, (by show _ = _; rw [HG0.out]), rfl, rfl, ⟨0, rfl⟩⟩
    case round =>
      obtain ⟨i, o, hi, rfl, ho, Ho, rfl, rfl, Hq⟩ := hrel
      by_cases hlt : i < 3
      · have hst := HG.out i
        obtain ⟨gi, HGi⟩ : ∃ x, Hid (g i = x) := ⟨_, rfl⟩
        obtain ⟨gj, HGj⟩ : ∃ x, Hid (g (i + 1) = x) := ⟨_, rfl⟩
        rw [HGi.out, HGj.out] at hst
        have b1 := vb_bd ix false i
        have b2 := vb_bd jx false i
        obtain ⟨x, hx, Hx⟩ : ∃ x : Nat, x < 256 ∧ Hid (vb ix false i = (x : Int)) := ⟨(vb ix false i).toNat, by omega, by show _ = _; omega⟩
        obtain ⟨y, hy, Hy⟩ : ∃ y : Nat, y < 256 ∧ Hid (vb jx false i = (y : Int)) := ⟨(vb jx false i).toNat, by omega, by show _ = _; omega⟩
        have hub : ub ix jx i = x ^^^ y := by unfold ub; rw [Hx.out, Hy.out]; rfl
        rw [hub] at hst
        have ca : wr.cell? ⟨P, i, none⟩ = some (.int .u8 (x : Int)) := by obtain ⟨q, rfl⟩ := Hq.out; rw [← Hx.out]; exact HS.out.2.1.cell i hlt
        have cb : wr.cell? ⟨Q, i, none⟩ = some (.int .u8 (y : Int)) := by obtain ⟨q, rfl⟩ := Hq.out; rw [← Hy.out]; exact HS.out.2.2.cell i hlt
        obtain ⟨z, hz', rz, Hz⟩ : ∃ z : Nat, bits .xor .u8 (x : Int) (y : Int) = (z : Int) ∧ z < 256 ∧ Hid (x ^^^ y = z) := ⟨_, u8_xor_nat x y hx hy, Nat.xor_lt_two_pow (n := 8) hx hy, rfl⟩
        rw [Hz.out] at hst
        have Hst : Hid (gj = gi + wf z) := hst
        have Ho2 : Hid ((o + wf z) % 2 = gj % 2) := by show _ = _; rw [hst, Ho.out, HGi.out]; omega
        clear hst hub b1 b2 hx hy Hx Hy Hz Ho Hst HGi
        go_upto_region 11 with fail
        go_quiet (fail)
        go_wp2
        go_loopg [12, 14] z (fun g9 ov xv wr => ∃ s t : Nat, s = g9 ∧ s < 256 ∧ t < 2 ∧ Hid ((t + wf s) % 2 = gj % 2) ∧ ov = .int .i64 (t : Int) ∧ xv = .int .u8 (s : Int) ∧ Hid (∃ q, wr = V.drewN q))
        case atStart => exact ⟨z, o, rfl, rz, ho, Ho2, rfl, rfl, by obtain ⟨q, rfl⟩ := Hq.out; exact ⟨_, World.drewN_drewN _ _ _⟩⟩
        case round =>
          obtain ⟨s, t, rfl, hs, ht, Hs, rfl, rfl, Hq⟩ := hrel
          by_cases h0 : 0 < s
          · obtain ⟨u, hu, ru, Hu⟩ : ∃ u : Nat, bits .and .u8 (s : Int) 1 = (u : Int) ∧ u < 2 ∧ Hid (u = s % 2) := ⟨s % 2, by rw [show (1 : Int) = ((1 : Nat) : Int) from rfl, u8_and_nat s 1 hs (by decide), nat_mask1], by omega, rfl⟩
            obtain ⟨v, hv, rv, Hv⟩ : ∃ v : Nat, bits .xor .i64 (t : Int) (u : Int) = (v : Int) ∧ v < 2 ∧ Hid (v % 2 = (t + u) % 2) := ⟨_, i64_xor_nat t u (by omega) (by omega), (odd_step t u ht ru).1, (odd_step t u ht ru).2⟩
            have Hn : Hid ((v + wf (s / 2)) % 2 = gj % 2) := by
              have h1 := Hs.out
              have h2 := Hv.out
              have h3 := Hu.out
              rw [HWs.out s hs] at h1
              generalize wf (s / 2) = e at h1 ⊢
              show _ = _
              omega
            clear Hs Hu Hv
            go_wp2
            go_roundg (s / 2)
            case measure => go_light; omega
            case rel => go_light; exact ⟨s / 2, v, rfl, by omega, rv, Hn, by first | rfl | go_num, by first | rfl | go_num, Hq⟩
          · obtain rfl : s = 0 := by omega
            have He : Hid (t = g (i + 1) % 2) := by
              have h1 := Hs.out
              rw [HW0.out] at h1
              show _ = _
              rw [HGj.out]; omega
            clear Hs
            go_wp2
            go_roundg (3 - (i + 1))
            case measure => go_light; omega
            case rel => go_light; exact ⟨i + 1, t, by omega, rfl, ht, He, by first | rfl | go_num, by first | rfl | go_num, Hq⟩
      · obtain rfl : i = 3 := by omega
        have Ho3 : Hid ((par ix = par jx → o = 0) ∧ (par ix ≠ par jx → o = 1)) := ⟨fun hp => Ho.out.trans (HG3.out.1 hp), fun hp => Ho.out.trans (HG3.out.2 hp)⟩
        have HS2 : Hid (LwS c h r f [(Q, U2), (P, U1), (B, A0)] w wr) := by obtain ⟨q, rfl⟩ := Hq.out; exact HS.out.1.next (below_drewN (Below.refl _ V) q)
        have r1 := (HS2.out.rs (P, U1) (by simp)).r
        have r2 := (HS2.out.rs (Q, U2) (by simp)).r
        have r0 := (HS2.out.rs (B, A0) (by simp)).r
        clear Ho HG HG0 HG3 HW0 HWs HS Hq
        by_cases hv : ∀ i, i < 3 → vb ix false i = vb jx false i
        · have ev := EV.out true ⟨fun _ => hv, fun _ => rfl⟩
          have HB : Hid (Below w.heap.size w wr) := HS2.out.below
          clear hv Ho3
          rcases hm with rfl | rfl
          · skip
            go_wp2_with (first | refine wpList_load_mid rfl 37 _ rfl P 0 rfl U1 _ r1 Tryd.underlying37 rfl iU1 ?_ | refine wpList_load_mid rfl 37 _ rfl Q 0 rfl U2 _ r2 Tryd.underlying37 rfl iU2 ?_ | refine wpList_load_mid rfl 23 _ rfl B 0 rfl A0 _ r0 Tryd.underlying23 rfl iA0 ?_)
            go_ret
            exact ⟨rfl, by first | exact HB.out | (rw [← hB]; exact HB.out)⟩
          · skip
            go_wp2_with (first | refine wpList_load_mid rfl 37 _ rfl P 0 rfl U1 _ r1 Tryd.underlying37 rfl iU1 ?_ | refine wpList_load_mid rfl 37 _ rfl Q 0 rfl U2 _ r2 Tryd.underlying37 rfl iU2 ?_ | refine wpList_load_mid rfl 23 _ rfl B 0 rfl A0 _ r0 Tryd.underlying23 rfl iA0 ?_)
            go_ret
            exact ⟨rfl, by first | exact HB.out | (rw [← hB]; exact HB.out)⟩
        · have hv' := hv
          have ev := EV.out false ⟨fun e => absurd e (by decide), fun e => absurd e hv⟩
          have Hv : Hid (¬ ∀ i, i < 3 → vb ix false i = vb jx false i) := hv'
          clear hv hv'
          rcases hm with rfl | rfl
          · by_cases hp : par ix = par jx
            · have Ho4 := Ho3.out.1 hp
              subst Ho4
              have HB : Hid (Below w.heap.size w wr) := HS2.out.below
              clear hp Ho3 Hv
              go_wp2_with (first | refine wpList_load_mid rfl 37 _ rfl P 0 rfl U1 _ r1 Tryd.underlying37 rfl iU1 ?_ | refine wpList_load_mid rfl 37 _ rfl Q 0 rfl U2 _ r2 Tryd.underlying37 rfl iU2 ?_ | refine wpList_load_mid rfl 23 _ rfl B 0 rfl A0 _ r0 Tryd.underlying23 rfl iA0 ?_)
              go_ret
              exact ⟨rfl, by first | exact HB.out | (rw [← hB]; exact HB.out)⟩
            · have Ho4 := Ho3.out.2 hp
              subst Ho4
              have HX : Hid (∀ own, Enc 1 F ix false own → 2 ≤ Dk 1 own jx ∧ ∀ i, Dl 1 own jx i = 0) := strays1 HM.out HF.out hp
              clear hp Ho3 Hv
              go_upto_region 16 with fail
              apply wp_region_lit
              refine wpList_load_mid rfl 37 _ rfl P 0 rfl U1 _ r1 Tryd.underlying37 rfl iU1 ?_
              refine wpList_load_mid rfl 37 _ rfl Q 0 rfl U2 _ r2 Tryd.underlying37 rfl iU2 ?_
              go_upto_region 18 with fail
              clear ev r1 r2
              go_wp2_with (refine wpList_load_mid rfl 23 _ rfl B 0 rfl A0 _ r0 Tryd.underlying23 rfl iA0 ?_)
              refine (CE.out c h r f _ HS2.out.cc HS2.out.tab).mono ?_
              rintro e V4 ⟨own, rfl, hE, b4⟩
              have HS : Hid (LwS c h r f [(Q, U2), (P, U1), (B, A0)] w V4) := HS2.out.next b4
              have HD : Hid (2 ≤ Dk 1 own jx ∧ ∀ i, Dl 1 own jx i = 0) := HX.out own hE
              obtain ⟨A2, hA2⟩ : ∃ A, ints .u8 72 own = A := ⟨_, rfl⟩
              have iA2 : (Tryd.prog.info? 25).map (·.size) = some A2.length := by rw [← hA2, ints_len]; exact infoR
              have jA2 : (Tryd.prog.info? 25).map (·.size) = some A2.toArray.size := by simpa using iA2
              have oA2 : A2.toArray.all (·.oneCell') = true := by rw [← hA2]; exact ints_one .u8 72 _
              rw [hA2]
              clear HS2 b4 r0 CE HX HM
              obtain ⟨K, hK⟩ : ∃ K, Dk 1 own jx = K := ⟨_, rfl⟩
              obtain ⟨y, hy⟩ : ∃ y, Df 1 own jx = y := ⟨_, rfl⟩
              obtain ⟨hk2, hl⟩ := HD.out
              have cD := fun W H HT => decode10_any c h r f 1 own hE.1 jx W H HT
              rw [ints_congr .u8 64 _ (fun _ => 0) fun i _ => hl i, hK, hy, hA2] at cD
              rw [hK] at hk2
              obtain ⟨AV, hAV⟩ : ∃ A, vd2 K y = A := ⟨_, rfl⟩
              rw [hAV, hA3] at cD
              have CD : Hid (∀ W : World, CcAt W c h r f → TabW W → Calls Tryd.prog 13 #[.pointer (some ⟨c, 0, none⟩), .int .i64 1, .agg A2.toArray, .int .i64 jx] W fun e w' => e = .returned (.tuple #[.agg A3.toArray, .agg AV.toArray]) ∧ Below W.heap.size W w') := cD
              have jAV : (Tryd.prog.info? 32).map (·.size) = some AV.toArray.size := by rw [← hAV]; simpa using info10v K y
              have oAV : AV.toArray.all (·.oneCell') = true := by rw [← hAV]; exact ints_one .i64 2 _
              clear cD hl hK hy hA2 HD hE
              go_wp2_with fail
              refine (CD.out _ HS.out.cc HS.out.tab).mono ?_
              rintro e V5 ⟨rfl, b5⟩
              replace HS := HS.out.next b5
              have L2 := HS.lay2 (fun _ => 0) K y 23 32 HZ.out.2 hA3 hAV
              have t1 := L2.1
              have t2 := L2.2.1
              have HS3 : Hid (LwS c h r f ((V5.heap.size + 1, AV) :: (V5.heap.size, A3) :: [(Q, U2), (P, U1), (B, A0)]) w ((((V5.alloc (.cells ZL 23)).alloc (.cells #[.int .i64 0, .int .i64 0] 32)).setCells V5.heap.size 0 A3).setCells (V5.heap.size + 1) 0 AV) ∧ Bk .i64 ((((V5.alloc (.cells ZL 23)).alloc (.cells #[.int .i64 0, .int .i64 0] 32)).setCells V5.heap.size 0 A3).setCells (V5.heap.size + 1) 0 AV) (V5.heap.size + 1) 2 (two K y)) := L2.2.2
              clear L2 b5 CD HS
              go_upto_region 19 with (first | refine wpList_store_mid rfl 23 _ _ rfl V5.heap.size 0 A3.toArray rfl rfl t1 jA3 oA3 ?_ | refine wpList_store_mid rfl 32 _ _ rfl (V5.heap.size + 1) 0 AV.toArray rfl rfl t2 jAV oAV ?_)
              obtain ⟨P2, hP2⟩ : ∃ N, V5.heap.size = N := ⟨_, rfl⟩
              obtain ⟨V6, hV6⟩ : ∃ V6, (((V5.alloc (.cells ZL 23)).alloc (.cells #[.int .i64 0, .int .i64 0] 32)).setCells V5.heap.size 0 A3).setCells (V5.heap.size + 1) 0 AV = V6 := ⟨_, rfl⟩
              rw [hV6, hP2] at HS3
              rw [hV6, hP2]
              have q1 := (HS3.out.1.rs (P2, A3) (by simp)).r
              have c0 : V6.cell? ⟨P2 + 1, 0, none⟩ = some (.int .i64 K) := HS3.out.2.cell 0 (by omega)
              have HB : Hid (Below w.heap.size w V6) := HS3.out.1.below
              have z3 : ∀ w, (zeroValue 23).run Tryd.prog w = .ok (.agg A3.toArray) w := fun w => by rw [← hA3]; exact zeroL10 w
              clear hV6 hP2 HS3 t1 t2 V5 hAV hz2
              go_wp2_with (first | refine wpList_load_mid rfl 23 _ rfl P2 0 rfl A3 _ q1 Tryd.underlying23 rfl iA3 ?_ | refine wpList_load_g (by rfl) 23 _ rfl P2 0 rfl A3 _ q1 Tryd.underlying23 rfl iA3 ?_)
              go_ret
              exact ⟨rfl, by first | exact HB.out | (rw [← hB]; exact HB.out)⟩
          · have HX : Hid (∀ own, Enc 2 F ix false own → 2 ≤ Dk 2 own jx ∧ ∀ i, Dl 2 own jx i = 0) := strays2 HM.out HF.out Hv.out
            clear Ho3 Hv
            go_upto_region 16 with fail
            apply wp_region_lit
            refine wpList_load_mid rfl 37 _ rfl P 0 rfl U1 _ r1 Tryd.underlying37 rfl iU1 ?_
            refine wpList_load_mid rfl 37 _ rfl Q 0 rfl U2 _ r2 Tryd.underlying37 rfl iU2 ?_
            go_upto_region 18 with fail
            clear ev r1 r2
            go_wp2_with (refine wpList_load_mid rfl 23 _ rfl B 0 rfl A0 _ r0 Tryd.underlying23 rfl iA0 ?_)
            refine (CE.out c h r f _ HS2.out.cc HS2.out.tab).mono ?_
            rintro e V4 ⟨own, rfl, hE, b4⟩
            have HS : Hid (LwS c h r f [(Q, U2), (P, U1), (B, A0)] w V4) := HS2.out.next b4
            have HD : Hid (2 ≤ Dk 2 own jx ∧ ∀ i, Dl 2 own jx i = 0) := HX.out own hE
            obtain ⟨A2, hA2⟩ : ∃ A, ints .u8 72 own = A := ⟨_, rfl⟩
            have iA2 : (Tryd.prog.info? 25).map (·.size) = some A2.length := by rw [← hA2, ints_len]; exact infoR
            have jA2 : (Tryd.prog.info? 25).map (·.size) = some A2.toArray.size := by simpa using iA2
            have oA2 : A2.toArray.all (·.oneCell') = true := by rw [← hA2]; exact ints_one .u8 72 _
            rw [hA2]
            clear HS2 b4 r0 CE HX HM
            obtain ⟨K, hK⟩ : ∃ K, Dk 2 own jx = K := ⟨_, rfl⟩
            obtain ⟨y, hy⟩ : ∃ y, Df 2 own jx = y := ⟨_, rfl⟩
            obtain ⟨hk2, hl⟩ := HD.out
            have cD := fun W H HT => decode10_any c h r f 2 own hE.1 jx W H HT
            rw [ints_congr .u8 64 _ (fun _ => 0) fun i _ => hl i, hK, hy, hA2] at cD
            rw [hK] at hk2
            obtain ⟨AV, hAV⟩ : ∃ A, vd2 K y = A := ⟨_, rfl⟩
            rw [hAV, hA3] at cD
            have CD : Hid (∀ W : World, CcAt W c h r f → TabW W → Calls Tryd.prog 13 #[.pointer (some ⟨c, 0, none⟩), .int .i64 2, .agg A2.toArray, .int .i64 jx] W fun e w' => e = .returned (.tuple #[.agg A3.toArray, .agg AV.toArray]) ∧ Below W.heap.size W w') := cD
            have jAV : (Tryd.prog.info? 32).map (·.size) = some AV.toArray.size := by rw [← hAV]; simpa using info10v K y
            have oAV : AV.toArray.all (·.oneCell') = true := by rw [← hAV]; exact ints_one .i64 2 _
            clear cD hl hK hy hA2 HD hE
            go_wp2_with fail
            refine (CD.out _ HS.out.cc HS.out.tab).mono ?_
            rintro e V5 ⟨rfl, b5⟩
            replace HS := HS.out.next b5
            have L2 := HS.lay2 (fun _ => 0) K y 23 32 HZ.out.2 hA3 hAV
            have t1 := L2.1
            have t2 := L2.2.1
            have HS3 : Hid (LwS c h r f ((V5.heap.size + 1, AV) :: (V5.heap.size, A3) :: [(Q, U2), (P, U1), (B, A0)]) w ((((V5.alloc (.cells ZL 23)).alloc (.cells #[.int .i64 0, .int .i64 0] 32)).setCells V5.heap.size 0 A3).setCells (V5.heap.size + 1) 0 AV) ∧ Bk .i64 ((((V5.alloc (.cells ZL 23)).alloc (.cells #[.int .i64 0, .int .i64 0] 32)).setCells V5.heap.size 0 A3).setCells (V5.heap.size + 1) 0 AV) (V5.heap.size + 1) 2 (two K y)) := L2.2.2
            clear L2 b5 CD HS
            go_upto_region 19 with (first | refine wpList_store_mid rfl 23 _ _ rfl V5.heap.size 0 A3.toArray rfl rfl t1 jA3 oA3 ?_ | refine wpList_store_mid rfl 32 _ _ rfl (V5.heap.size + 1) 0 AV.toArray rfl rfl t2 jAV oAV ?_)
            obtain ⟨P2, hP2⟩ : ∃ N, V5.heap.size = N := ⟨_, rfl⟩
            obtain ⟨V6, hV6⟩ : ∃ V6, (((V5.alloc (.cells ZL 23)).alloc (.cells #[.int .i64 0, .int .i64 0] 32)).setCells V5.heap.size 0 A3).setCells (V5.heap.size + 1) 0 AV = V6 := ⟨_, rfl⟩
            rw [hV6, hP2] at HS3
            rw [hV6, hP2]
            have q1 := (HS3.out.1.rs (P2, A3) (by simp)).r
            have c0 : V6.cell? ⟨P2 + 1, 0, none⟩ = some (.int .i64 K) := HS3.out.2.cell 0 (by omega)
            have HB : Hid (Below w.heap.size w V6) := HS3.out.1.below
            have z3 : ∀ w, (zeroValue 23).run Tryd.prog w = .ok (.agg A3.toArray) w := fun w => by rw [← hA3]; exact zeroL10 w
            clear hV6 hP2 HS3 t1 t2 V5 hAV hz2
            go_wp2_with (first | refine wpList_load_mid rfl 23 _ rfl P2 0 rfl A3 _ q1 Tryd.underlying23 rfl iA3 ?_ | refine wpList_load_g (by rfl) 23 _ rfl P2 0 rfl A3 _ q1 Tryd.underlying23 rfl iA3 ?_)
            go_ret
            exact ⟨rfl, by first | exact HB.out | (rw [← hB]; exact HB.out)⟩
  · have hd : decide (m = 1 ∨ m = 2) = false := by simpa using hm
    rw [hd] at cM
    have HB : Hid (Below w.heap.size w V1) := HS.out.below
    clear hd hm
    go_wp2_with (go_at_call 10; refine (cM.out _).mono ?_; rintro e w' ⟨rfl, hw2⟩; rw [hw2]; clear hw2 w')
    go_ret
    exact ⟨rfl, by first | exact HB.out | (rw [← hB]; exact HB.out)⟩
theorem codecStrays_walk (a0 : Int) (a1 : Nat → Int) (a2 a3 : Int) (_w0 : (Lit.int .i64 a0).wf = true) (w1 : ∀ i, i < 64 → (Lit.int .u8 (a1 i)).wf = true) (_w2 : (Lit.int .i64 a2).wf = true) (_w3 : (Lit.int .i64 a3).wf = true) (w : World) (hT : TabW w) :
    Calls Tryd.prog 5 #[.int .i64 a0, .agg (ints .u8 64 a1).toArray, .int .i64 a2, .int .i64 a3] w fun e w' => e = .returned (.bool true) ∧ Below w.heap.size w w' :=
  codecStrays_core a0 a1 (args_byts 64 a1 w1) a2 a3 w hT
end Go.Proofs.YtdjknaafefnlcaaDoor
