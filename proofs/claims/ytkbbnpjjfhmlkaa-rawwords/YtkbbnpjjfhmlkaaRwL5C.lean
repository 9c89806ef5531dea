/-
  RawWords, where there is no such word of the mode 1.
-/
import Derived.Test.YtkbbnpjjfhmlkaaRwL5
namespace Go.Proofs.Ytkbbnpjjfhmlkaa
open Go.RowKit Go.Shelf
attribute [local go_sem] Oper.semAt_some

set_option maxRecDepth 100000 in
set_option maxHeartbeats 1000000 in
theorem rawWordsN1 (F : Nat → Int) (hF : Byts 72 F) (cc : Int) (w : World) (wd : Int) (hneg : wd < 0) (a : Option Addr) (len cap : Nat) :
    Calls Try.prog 3 #[.int .i64 1, .agg (ints .u8 72 F).toArray, .int .i64 wd, .int .i64 cc, .slice a len cap] w fun e w' => e = .returned (.bool true) ∧ Below w.heap.size w w' := by
  have cA : Hid (∀ W : World, Calls Try.prog 8 #[] W fun e w' => e = .returned (.bool true) ∧ Below W.heap.size W w') := anchor9_any
  have hm : Md 1 9 8 := .bits
  have cH : Hid (∀ W : World, Calls Try.prog 9 #[.int .i64 1] W fun e w' => e = .returned (.int .i64 9) ∧ w' = W) := refChips_any hm
  have cW : Hid (∀ W : World, Calls Try.prog 12 #[.int .i64 1] W fun e w' => e = .returned (.int .i64 8) ∧ w' = W) := countWords_any hm
  have cC : Hid (∀ W : World, Calls Try.prog 11 #[.int .i64 1] W fun e w' => e = .returned (.int .i64 9) ∧ w' = W) := countChips_any hm
  have cR : Hid (∀ W : World, Calls Try.prog 10 #[.int .i64 1] W fun e w' => e = .returned (.bool true) ∧ w' = W) := right9_any hm
  have HM : Hid (Md 1 9 8) := hm
  obtain ⟨A0, hA0⟩ : ∃ A, ints .u8 72 F = A := ⟨_, rfl⟩
  obtain ⟨Z, hZ⟩ : ∃ A, (ints .u8 72 fun _ => 0).toArray = A := ⟨_, rfl⟩
  have hx : ¬ (0 ≤ wd ∧ wd < 8) := by omega
  have cWd := word_no hm F wd hx
  have cPt := put_no hm F wd a len cap (.inl hx)
  have nee := neqR F F hF hF true ⟨fun _ _ _ => rfl, fun _ => rfl⟩
  obtain ⟨Y, hY⟩ : ∃ Y, F = Y := ⟨_, rfl⟩
  obtain ⟨A1, hA1⟩ : ∃ A, ints .u8 72 Y = A := ⟨_, rfl⟩
  have i1 : (Try.prog.info? 23).map (·.size) = some A1.length := by rw [← hA1, ints_len]; exact infoR
  have o1 : A1.toArray.all (·.oneCell') = true := by rw [← hA1]; exact ints_one .u8 72 _
  have HY : Hid (ints .u8 72 Y = A1) := hA1
  have HL : Hid (F = Y) := hY
  have h01 : A0 = A1 := by rw [← hA0, ← hA1, hY]
  rw [hA0] at cWd cPt nee
  have CWd : Hid (∀ W : World, Calls Try.prog 13 #[.agg A0.toArray, .int .i64 1, .int .i64 wd] W fun e w' => e = .returned (.slice none 0 0) ∧ Below W.heap.size W w') := cWd
  have CPt : Hid (∀ W : World, Calls Try.prog 14 #[.agg A0.toArray, .int .i64 1, .int .i64 wd, .slice a len cap] W fun e w' => e = .returned (.agg A1.toArray) ∧ Below W.heap.size W w') := by rw [← h01]; exact cPt
  have ne1 : ∀ w, (binOp .neq 23 (.agg A1.toArray) (.agg A0.toArray)).run Try.prog w = .ok (.bool false) w := by rw [← h01]; exact nee
  have dx1 : decide (0 ≤ wd) = false := by simpa using hneg
  clear cWd cPt hY hA1 h01 nee hx

  have gd := gdR
  have hz := zeroR
  have i0 : (Try.prog.info? 23).map (·.size) = some A0.length := by rw [← hA0, ints_len]; exact infoR
  rw [hZ] at hz
  have HA : Hid (ints .u8 72 F = A0 ∧ (ints .u8 72 fun _ => 0).toArray = Z) := ⟨hA0, hZ⟩
  rw [hA0]
  have H0 : Hid (∀ V, ((w.alloc (.cells A0.toArray 23)).alloc (.cells #[.int .i64 cc] 3)).alloc (.cells #[.bool false] 4) = V → Bk .u8 V w.heap.size 72 F ∧ Box V (w.heap.size + 1) (.int .i64 cc) ∧ Box V (w.heap.size + 1 + 1) (.bool false) ∧ Below w.heap.size w V) := by
    rintro V rfl
    rw [← hA0]
    have h1 := Box.new (w.alloc (.cells (ints .u8 72 F).toArray 23)) 3 (.int .i64 cc)
    have h2 := Box.new ((w.alloc (.cells (ints .u8 72 F).toArray 23)).alloc (.cells #[.int .i64 cc] 3)) 4 (.bool false)
    simp only [World.size_alloc] at h1 h2
    exact ⟨((Bk.new .u8 w 72 F _).alloc _).alloc _, h1.alloc _, h2, (((Below.refl _ w).alloc (Nat.le_refl _) _).alloc (by simp) _).alloc (by simp; omega) _⟩
  clear hA0 hZ hF hm
  refine (callsIn_wide (n := 10)).1 ?_
  refine callsIn_of_wp_marks Try.func3 rfl trivial ?_ rfl
  simp only [Try.ntmps3, List.size_toArray, List.length_cons, List.length_nil, Nat.reduceAdd, Nat.reduceSub, Array.replicate_succ, Array.replicate_zero, List.push_toArray, List.append_toArray, List.nil_append, List.cons_append]
  refine wpIn_wide.2 ?_
  go_wp2_with fail
  obtain ⟨V, hV⟩ : ∃ V, ((w.alloc (.cells A0.toArray 23)).alloc (.cells #[.int .i64 cc] 3)).alloc (.cells #[.bool false] 4) = V := ⟨_, rfl⟩
  have H1 := H0.out V hV
  obtain ⟨B, hB⟩ : ∃ B, w.heap.size = B := ⟨_, rfl⟩
  rw [hB] at H1
  rw [hV, hB]
  refine (cA.out _).mono ?_
  rintro e V1 ⟨rfl, b1⟩
  have H2 : Hid (Bk .u8 V1 B 72 F ∧ Box V1 (B + 1) (.int .i64 cc) ∧ Box V1 (B + 1 + 1) (.bool false) ∧ Below B w V1) := ⟨H1.1.next b1, H1.2.1.below b1 H1.2.1.lt, H1.2.2.1.below b1 H1.2.2.1.lt, H1.2.2.2.trans (b1.mono (Nat.le_of_lt H1.1.lt))⟩
  clear b1 hV V H0 H1
  go_upto_region 7 with (go_at_call 9; refine (cH.out _).mono ?_; rintro e w' ⟨rfl, hw2⟩; rw [hw2]; clear hw2 w')
  obtain ⟨V3, hV3⟩ : ∃ V3, V1.alloc (.cells #[.int .i64 9] 3) = V3 := ⟨_, rfl⟩
  obtain ⟨C, hC⟩ : ∃ C, V1.heap.size = C := ⟨_, rfl⟩
  have H3 : Hid ((Bk .u8 V3 B 72 F ∧ Box V3 (B + 1) (.int .i64 cc) ∧ Box V3 (B + 1 + 1) (.bool false) ∧ Box V3 C (.int .i64 9)) ∧ B + 1 + 1 < C ∧ Below B w V3) := by
    have h := H2.out
    have b := (Below.refl _ V1).alloc (Nat.le_refl _) (.cells #[.int .i64 9] 3)
    have hn := Box.new V1 3 (.int .i64 9)
    rw [hV3] at b hn
    rw [hC] at hn
    exact ⟨⟨h.1.next b, h.2.1.below b h.2.1.lt, h.2.2.1.below b h.2.2.1.lt, hn⟩, by rw [← hC]; exact h.2.2.1.lt, h.2.2.2.trans (b.mono (Nat.le_of_lt h.1.lt))⟩
  rw [hV3, hC]
  clear hV3 hC H2 V1
  have c3 := H3.out.1.2.2.2.1
  go_quiet (first | (go_at_call 10; exact Calls.quiet_of_same (cR.out _)) | (go_at_call 11; exact Calls.quiet_of_same (cC.out _)) | (go_at_call 12; exact Calls.quiet_of_same (cW.out _)))
  obtain ⟨V4, hV4⟩ : ∃ V4, V3.drewN nq = V4 := ⟨_, rfl⟩
  have H4 : Hid ((Bk .u8 V4 B 72 F ∧ Box V4 (B + 1) (.int .i64 cc) ∧ Box V4 (B + 1 + 1) (.bool false) ∧ Box V4 C (.int .i64 9)) ∧ B + 1 + 1 < C ∧ Below B w V4) := by
    rw [← hV4]
    exact ⟨H3.out.1, H3.out.2.1, below_stay H3.out.2.2 (Stay.drewN _ V3 _) (Nat.le_refl _)⟩
  rw [hV4]
  clear hV4 H3 c3 V3 cR cW cC cH
  have r4 : V4.rangeAt B 0 A0 := by rw [← HA.out.1]; exact H4.out.1.1.range
  go_wp2_with (refine wpList_load_mid rfl 23 _ rfl B 0 rfl A0 _ r4 Try.underlying23 rfl i0 ?_)
  refine (CWd.out _).mono ?_
  rintro e V5 ⟨rfl, b5⟩
  have H5 : Hid ((Bk .u8 V5 B 72 F ∧ Box V5 (B + 1) (.int .i64 cc) ∧ Box V5 (B + 1 + 1) (.bool false) ∧ Box V5 C (.int .i64 9)) ∧ B + 1 + 1 < C ∧ Below B w V5) := by
    obtain ⟨⟨h1, h2, h3, h4⟩, h5, h6⟩ := H4.out
    exact ⟨⟨h1.next b5, h2.below b5 h2.lt, h3.below b5 h3.lt, h4.below b5 h4.lt⟩, h5, h6.trans (b5.mono (Nat.le_of_lt h1.lt))⟩
  clear r4 CWd
  have r5 : V5.rangeAt B 0 A0 := by rw [← HA.out.1]; exact H5.out.1.1.range
  clear H4 b5
  go_wp2_with (refine wpList_load_mid rfl 23 _ rfl B 0 rfl A0 _ r5 Try.underlying23 rfl i0 ?_)
  refine (CPt.out V5).mono ?_
  rintro e V6 ⟨rfl, b6⟩
  have H6 : Hid ((Bk .u8 V6 B 72 F ∧ Box V6 (B + 1) (.int .i64 cc) ∧ Box V6 (B + 1 + 1) (.bool false) ∧ Box V6 C (.int .i64 9)) ∧ B + 1 + 1 < C ∧ Below B w V6) := by
    obtain ⟨⟨h1, h2, h3, h4⟩, h5, h6⟩ := H5.out
    exact ⟨⟨h1.next b6, h2.below b6 h2.lt, h3.below b6 h3.lt, h4.below b6 h4.lt⟩, h5, h6.trans (b6.mono (Nat.le_of_lt h1.lt))⟩
  obtain ⟨P, hP⟩ : ∃ P, V6.heap.size = P := ⟨_, rfl⟩
  have ht : (V6.alloc (.cells Z 23)).there P 0 A1.toArray.size := by
    rw [← hP, ← HA.out.2, ← HY.out]
    exact (Bk.new .u8 V6 72 (fun _ => 0) 23).there .u8 Y
  have i2 : (Try.prog.info? 23).map (·.size) = some A1.toArray.size := by simpa using i1
  have HX6 : Hid (∀ b o v, (fun _ _ _ => False) b o v → V6.cell? ⟨b, o, none⟩ = some v ∧ b < P) := fun _ _ _ h => h.elim
  go_upto_region 12 with (first | refine wpList_store_mid rfl 23 _ _ rfl _ 0 A1.toArray rfl rfl ht i2 o1 ?_)
  obtain ⟨V7, hV7⟩ : ∃ V7, (V6.alloc (.cells Z 23)).setCells P 0 A1 = V7 := ⟨_, rfl⟩
  have HR : Hid (Rd B C P F Y cc 9 (fun _ _ _ => False) w V7) := by
    obtain ⟨⟨h1, h2, h3, h4⟩, h5, h6⟩ := H6.out
    have l1 := h1.lt; have l2 := h2.lt; have l3 := h3.lt; have l4 := h4.lt
    have hn := Bk.new .u8 V6 72 (fun _ => 0) 23
    rw [hP, HA.out.2] at hn
    have hp := hn.put Y
    rw [HY.out] at hp
    have hk : ∀ b, b < P → ((V6.alloc (.cells Z 23)).setCells P 0 A1).heap[b]? = V6.heap[b]? := fun b hb => (heap_puts P A1 0 _ b (by omega)).trans (Below.heap_alloc V6 _ b (by omega))
    rw [← hV7]
    exact ⟨h1.of (hk _ (by omega)), h2.of (hk _ (by omega)), h3.of (hk _ (by omega)), h4.of (hk _ (by omega)), hp, ⟨h5, by omega⟩, fun b o v hx => (World.cell?_of_block (w := V6) (a := ⟨b, o, none⟩) (hk b (HX6.out b o v hx).2)).trans (HX6.out b o v hx).1, belows_put (by omega) _ 0 (h6.alloc (by omega) _)⟩
  rw [hV7]
  clear hV7 ht H6 H5 hz i2 o1 r5 b6 HX6
  have nc := HR.out.n.1
  have rP : V7.rangeAt P 0 A1 := by rw [← HY.out]; exact HR.out.p.range
  have rB : V7.rangeAt B 0 A0 := by rw [← HA.out.1]; exact HR.out.r.range
  go_upto_region 15 with (first
    | refine wpList_load_g (by rfl) 23 _ rfl P 0 rfl A1 _ (by exact rP) Try.underlying23 rfl i1 ?_
    | refine wpList_load_g (by rfl) 23 _ rfl B 0 rfl A0 _ (by exact rB) Try.underlying23 rfl i0 ?_)
  clear nc
  go_loopw [92] (fun iv wr => ∃ i : Nat, i ≤ 72 ∧ iv = .int .i64 (i : Int) ∧ Hid (Rd B C P F Y cc 9 (fun _ _ _ => False) w wr)) (fun iv _ => 72 - (intOf iv).toNat)
  case atStart => exact ⟨0, by omega, rfl, HR⟩
  case round =>
    clear HR
    obtain ⟨i, hi, rfl, HR⟩ := hrel
    by_cases hlt : i < 72
    · have nc := HR.out.n.1
      have cF := HR.out.r.cell i hlt
      have cY := HR.out.p.cell i hlt
      have hYF : Y i = F i := by rw [← HL.out]
      rw [hYF] at cY
      obtain ⟨a, ha⟩ : ∃ a, F i = a := ⟨_, rfl⟩
      rw [ha] at cF cY
      clear ha hYF
      go_wp2
      go_quiet (fail)
      go_wp2
      go_roundw
      case rel => exact ⟨i + 1, by omega, by go_num, HR.out.drewN _⟩
      case measure => simp [intOf]; omega
    · obtain rfl : i = 72 := by omega
      clear hi hlt
      have c8 := HR.out.c.1
      have l8 := HR.out.c.lt
      by_cases hcc : 0 ≤ cc ∧ cc < 9
      · obtain ⟨c9, rfl⟩ : ∃ c : Nat, cc = (c : Int) := ⟨cc.toNat, by omega⟩
        have dc1 : decide (0 ≤ (c9 : Int)) = true := by simp
        have dc2 : decide ((c9 : Int) < 9) = true := by simp; omega
        have dc3 : (c9 : Int) < 9 := hcc.2
        go_wp2_with fail
        obtain ⟨K, hK⟩ : ∃ K, wr.heap.size = K := ⟨_, rfl⟩
        obtain ⟨V8, hV8⟩ : ∃ V8, wr.alloc (.cells #[.int .i64 0] 3) = V8 := ⟨_, rfl⟩
        have HK : Hid (Rk B C P K F Y (c9 : Int) 9 w 0 V8 ∧ V8.heap.size = K + 1) := by
          have h := HR.out
          have b := (Below.refl _ wr).alloc (Nat.le_refl _) (.cells #[.int .i64 0] 3)
          have hk := Box.new wr 3 (.int .i64 0)
          rw [hV8] at b hk
          rw [hK] at hk
          have h9 := h.next b
          exact ⟨⟨{ h9 with x := fun _ _ _ hx => hx.elim }, hk, by rw [← hK]; exact h.p.lt⟩, by rw [← hV8, ← hK]; simp⟩
        rw [hV8, hK]
        refine (of_yes HM.out (c9 : Int) hcc _).mono ?_
        rintro e V9 ⟨rfl, hV9⟩
        have HV : Hid (Box V9 (K + 1) (.int .i64 1) ∧ Box V9 (K + 1 + 1) (.int .i64 (c9 : Int)) ∧ Rk B C P K F Y (c9 : Int) 9 w 0 V9 ∧ V9.heap.size = K + 3) := by
          obtain ⟨q, rfl⟩ := hV9
          have sV := HK.out.2
          have b1 := Box.new V8 3 (.int .i64 1)
          have b2 := Box.new (V8.alloc (.cells #[.int .i64 1] 3)) 3 (.int .i64 (c9 : Int))
          simp only [World.size_alloc] at b2
          rw [sV] at b1 b2
          refine ⟨b1.alloc _, b2, Rk.stay (E := B) HK.out.1 ((Stay.alloc B V8 _ (by have := HK.out.1.d.r.lt; omega)).trans ((Stay.alloc B _ _ (by have := HK.out.1.d.r.lt; simp; omega)).trans (Stay.drewN B _ q))) (Nat.le_refl _), by simp [sV]⟩
        have sV : V8.heap.size = K + 1 := HK.out.2
        rw [sV]
        clear hV9 HK sV HR c8 l8 hV8 hK
        go_wp2
        have zV := HV.out.2.2.2
        have lB : B < P ∧ P < K := ⟨by have := HV.out.2.2.1.d.o; omega, HV.out.2.2.1.l⟩
        refine (wpIn_wide (n := 10)).1 (rangeC rfl (enters_of Try.func28 (by kernel_rfl) rfl) (of2_seq1 (c9 : Int) (by omega) (by omega) (K + 1) (K + 1 + 1) V9 HV.out.1 HV.out.2.1) (fun _ => rfl)
          (fun x => x = K) (by rintro x rfl; constructor <;> omega) (by rintro x (rfl | rfl) <;> omega)
          (Rk B C P K F Y (c9 : Int) 9 w) (fun _ _ _ => False)
          (by rintro x A A' h hs; exact Rk.stay h hs (by omega))
          (fun _ _ _ _ h _ => h.elim) HV.out.2.2.1
          (fun _ _ _ hp _ => absurd trivial hp) ?round2 ?done2 (fun _ _ _ _ _ _ _ h => h.elim))
        case round2 =>
          rintro l y W W2 hy hp h
          have q0 := h.d.c.1
          have q1 := h.d.n.1
          have q2 := h.k.1
          have q3 := h.k.2
          have fin : Hid (Keep (fun x => x = K) W2 (W2.setCell ⟨K, 0, none⟩ (.int .i64 ((y : Int) + 1))) ∧ Rk B C P K F Y (c9 : Int) 9 w (y + 1) (W2.setCell ⟨K, 0, none⟩ (.int .i64 ((y : Int) + 1)))) :=
            ⟨Keep.set (M := fun x => x = K) (Keep.refl _ _) rfl _, Rk.step h⟩
          have e0 : ((y : Int) * 9 + (c9 : Int) != 9 * (y : Int) + (c9 : Int)) = false := by simp; omega
          clear h hp HV zV
          gi_wp2
          try (refine ⟨trivial, ?_⟩)
          try gi_wp2
          exact fin.out
        case done2 =>
          rintro D W hD h hDd
          have q0 := h.d.c.1
          have q1 := h.d.n.1
          have q2 := h.k.1
          have q3 := h.d.t.1
          have q4 := h.d.t.2
          have HA9 : Hid (Rk B C P K F Y (c9 : Int) 9 w 8 W) := h
          have HD : Hid (W.heap[D]? = some (.deferred (some []))) := hDd
          have ho : B + 1 + 1 < C ∧ C < P := HA9.out.d.o
          clear h hDd HV
          go_wp2
          obtain ⟨k1, k2, k3⟩ := leaves (n := B) (u := .bool true) HA9.out.d.t HD.out (by omega) (by omega) (by omega) HA9.out.d.below
          refine ⟨by simp, .inl ⟨_, _, rfl, run_takeDeferred k1, ?_⟩⟩
          refine ⟨.bool true, ?_, rfl, by rw [hB]; exact k3⟩
          simp [results, Try.f3, go_sem, k2]
      · by_cases hneg : cc < 0
        · have dc1 : decide (0 ≤ cc) = false := by simp; omega
          have dc2 : decide (cc < 0) = true := by simpa using hneg
          go_wp2_with fail
          obtain ⟨K, hK⟩ : ∃ K, wr.heap.size = K := ⟨_, rfl⟩
          obtain ⟨V8, hV8⟩ : ∃ V8, wr.alloc (.cells #[.int .i64 0] 3) = V8 := ⟨_, rfl⟩
          have HK : Hid (Rk B C P K F Y cc 9 w 0 V8 ∧ V8.heap.size = K + 1) := by
            have h := HR.out
            have b := (Below.refl _ wr).alloc (Nat.le_refl _) (.cells #[.int .i64 0] 3)
            have hk := Box.new wr 3 (.int .i64 0)
            rw [hV8] at b hk
            rw [hK] at hk
            have h9 := h.next b
            exact ⟨⟨{ h9 with x := fun _ _ _ hx => hx.elim }, hk, by rw [← hK]; exact h.p.lt⟩, by rw [← hV8, ← hK]; simp⟩
          rw [hV8, hK]
          refine (of_no HM.out cc hcc _).mono ?_
          rintro e V9 ⟨rfl, hV9⟩
          have HV : Hid (Rk B C P K F Y cc 9 w 0 V9 ∧ K < V9.heap.size) := by
            have hz2 := hV9.size
            have hs := HK.out.2
            exact ⟨HK.out.1.stay (stay_below9 hV9) (Nat.le_of_lt HK.out.1.d.r.lt), by omega⟩
          clear hV9 HK HR c8 l8 hV8 hK
          go_wp2
          have zV := HV.out.2
          have lB : B < P ∧ P < K := ⟨by have := HV.out.1.d.o; omega, HV.out.1.l⟩
          refine (wpIn_wide (n := 10)).1 (rangeC rfl (enters_of Try.func27 (by kernel_rfl) rfl) (of1_seq (fun _ => #[.int .i64 0]) (fun _ => True) (fun _ => False) V9) (fun _ => rfl)
            (fun x => x = K) (by rintro x rfl; exact ⟨by omega, fun h => h⟩) (by rintro x h; exact h.elim)
            (Rk B C P K F Y cc 9 w) (fun _ _ _ => False)
            (by rintro x A A' h hs; exact Rk.stay h hs (by omega))
            (fun _ _ _ _ h _ => h.elim) HV.out.1
            (fun _ _ _ hp _ => absurd trivial hp) ?round2 ?done2 (fun _ _ _ _ _ _ _ h => h.elim))
          case round2 => exact fun _ _ _ _ hx _ _ => absurd hx (by omega)
          case done2 =>
            rintro D W hD h hDd
            have q0 := h.d.c.1
            have q1 := h.d.n.1
            have q2 := h.k.1
            have q3 := h.d.t.1
            have q4 := h.d.t.2
            have HA9 : Hid (Rk B C P K F Y cc 9 w 0 W) := h
            have HD : Hid (W.heap[D]? = some (.deferred (some []))) := hDd
            have ho : B + 1 + 1 < C ∧ C < P := HA9.out.d.o
            clear h hDd HV
            go_wp2
            obtain ⟨k1, k2, k3⟩ := leaves (n := B) (u := .bool true) HA9.out.d.t HD.out (by omega) (by omega) (by omega) HA9.out.d.below
            refine ⟨by simp, .inl ⟨_, _, rfl, run_takeDeferred k1, ?_⟩⟩
            refine ⟨.bool true, ?_, rfl, by rw [hB]; exact k3⟩
            simp [results, Try.f3, go_sem, k2]
        · have dc1 : decide (0 ≤ cc) = true := by simp; omega
          have dc2 : decide (cc < 9) = false := by simp; omega
          have dc3 : decide (cc < 0) = false := by simp; omega
          have dc4 : decide (9 ≤ cc) = true := by simp; omega
          have dc5 : 9 ≤ cc := by omega
          go_wp2_with fail
          obtain ⟨K, hK⟩ : ∃ K, wr.heap.size = K := ⟨_, rfl⟩
          obtain ⟨V8, hV8⟩ : ∃ V8, wr.alloc (.cells #[.int .i64 0] 3) = V8 := ⟨_, rfl⟩
          have HK : Hid (Rk B C P K F Y cc 9 w 0 V8 ∧ V8.heap.size = K + 1) := by
            have h := HR.out
            have b := (Below.refl _ wr).alloc (Nat.le_refl _) (.cells #[.int .i64 0] 3)
            have hk := Box.new wr 3 (.int .i64 0)
            rw [hV8] at b hk
            rw [hK] at hk
            have h9 := h.next b
            exact ⟨⟨{ h9 with x := fun _ _ _ hx => hx.elim }, hk, by rw [← hK]; exact h.p.lt⟩, by rw [← hV8, ← hK]; simp⟩
          rw [hV8, hK]
          refine (of_no HM.out cc hcc _).mono ?_
          rintro e V9 ⟨rfl, hV9⟩
          have HV : Hid (Rk B C P K F Y cc 9 w 0 V9 ∧ K < V9.heap.size) := by
            have hz2 := hV9.size
            have hs := HK.out.2
            exact ⟨HK.out.1.stay (stay_below9 hV9) (Nat.le_of_lt HK.out.1.d.r.lt), by omega⟩
          clear hV9 HK HR c8 l8 hV8 hK
          go_wp2
          have zV := HV.out.2
          have lB : B < P ∧ P < K := ⟨by have := HV.out.1.d.o; omega, HV.out.1.l⟩
          refine (wpIn_wide (n := 10)).1 (rangeC rfl (enters_of Try.func27 (by kernel_rfl) rfl) (of1_seq (fun _ => #[.int .i64 0]) (fun _ => True) (fun _ => False) V9) (fun _ => rfl)
            (fun x => x = K) (by rintro x rfl; exact ⟨by omega, fun h => h⟩) (by rintro x h; exact h.elim)
            (Rk B C P K F Y cc 9 w) (fun _ _ _ => False)
            (by rintro x A A' h hs; exact Rk.stay h hs (by omega))
            (fun _ _ _ _ h _ => h.elim) HV.out.1
            (fun _ _ _ hp _ => absurd trivial hp) ?round2 ?done2 (fun _ _ _ _ _ _ _ h => h.elim))
          case round2 => exact fun _ _ _ _ hx _ _ => absurd hx (by omega)
          case done2 =>
            rintro D W hD h hDd
            have q0 := h.d.c.1
            have q1 := h.d.n.1
            have q2 := h.k.1
            have q3 := h.d.t.1
            have q4 := h.d.t.2
            have HA9 : Hid (Rk B C P K F Y cc 9 w 0 W) := h
            have HD : Hid (W.heap[D]? = some (.deferred (some []))) := hDd
            have ho : B + 1 + 1 < C ∧ C < P := HA9.out.d.o
            clear h hDd HV
            go_wp2
            obtain ⟨k1, k2, k3⟩ := leaves (n := B) (u := .bool true) HA9.out.d.t HD.out (by omega) (by omega) (by omega) HA9.out.d.below
            refine ⟨by simp, .inl ⟨_, _, rfl, run_takeDeferred k1, ?_⟩⟩
            refine ⟨.bool true, ?_, rfl, by rw [hB]; exact k3⟩
            simp [results, Try.f3, go_sem, k2]

set_option maxRecDepth 100000 in
set_option maxHeartbeats 1000000 in
theorem rawWordsG1 (F : Nat → Int) (hF : Byts 72 F) (cc : Int) (w : World) (wd : Int) (hbig : 8 ≤ wd) (a : Option Addr) (len cap : Nat) :
    Calls Try.prog 3 #[.int .i64 1, .agg (ints .u8 72 F).toArray, .int .i64 wd, .int .i64 cc, .slice a len cap] w fun e w' => e = .returned (.bool true) ∧ Below w.heap.size w w' := by
  have cA : Hid (∀ W : World, Calls Try.prog 8 #[] W fun e w' => e = .returned (.bool true) ∧ Below W.heap.size W w') := anchor9_any
  have hm : Md 1 9 8 := .bits
  have cH : Hid (∀ W : World, Calls Try.prog 9 #[.int .i64 1] W fun e w' => e = .returned (.int .i64 9) ∧ w' = W) := refChips_any hm
  have cW : Hid (∀ W : World, Calls Try.prog 12 #[.int .i64 1] W fun e w' => e = .returned (.int .i64 8) ∧ w' = W) := countWords_any hm
  have cC : Hid (∀ W : World, Calls Try.prog 11 #[.int .i64 1] W fun e w' => e = .returned (.int .i64 9) ∧ w' = W) := countChips_any hm
  have cR : Hid (∀ W : World, Calls Try.prog 10 #[.int .i64 1] W fun e w' => e = .returned (.bool true) ∧ w' = W) := right9_any hm
  have HM : Hid (Md 1 9 8) := hm
  obtain ⟨A0, hA0⟩ : ∃ A, ints .u8 72 F = A := ⟨_, rfl⟩
  obtain ⟨Z, hZ⟩ : ∃ A, (ints .u8 72 fun _ => 0).toArray = A := ⟨_, rfl⟩
  have hx : ¬ (0 ≤ wd ∧ wd < 8) := by omega
  have cWd := word_no hm F wd hx
  have cPt := put_no hm F wd a len cap (.inl hx)
  have nee := neqR F F hF hF true ⟨fun _ _ _ => rfl, fun _ => rfl⟩
  obtain ⟨Y, hY⟩ : ∃ Y, F = Y := ⟨_, rfl⟩
  obtain ⟨A1, hA1⟩ : ∃ A, ints .u8 72 Y = A := ⟨_, rfl⟩
  have i1 : (Try.prog.info? 23).map (·.size) = some A1.length := by rw [← hA1, ints_len]; exact infoR
  have o1 : A1.toArray.all (·.oneCell') = true := by rw [← hA1]; exact ints_one .u8 72 _
  have HY : Hid (ints .u8 72 Y = A1) := hA1
  have HL : Hid (F = Y) := hY
  have h01 : A0 = A1 := by rw [← hA0, ← hA1, hY]
  rw [hA0] at cWd cPt nee
  have CWd : Hid (∀ W : World, Calls Try.prog 13 #[.agg A0.toArray, .int .i64 1, .int .i64 wd] W fun e w' => e = .returned (.slice none 0 0) ∧ Below W.heap.size W w') := cWd
  have CPt : Hid (∀ W : World, Calls Try.prog 14 #[.agg A0.toArray, .int .i64 1, .int .i64 wd, .slice a len cap] W fun e w' => e = .returned (.agg A1.toArray) ∧ Below W.heap.size W w') := by rw [← h01]; exact cPt
  have ne1 : ∀ w, (binOp .neq 23 (.agg A1.toArray) (.agg A0.toArray)).run Try.prog w = .ok (.bool false) w := by rw [← h01]; exact nee
  have dx1 : decide (0 ≤ wd) = true := by simp; omega
  have dx2 : decide (wd < 8) = false := by simpa using hbig
  clear cWd cPt hY hA1 h01 nee hx

  have gd := gdR
  have hz := zeroR
  have i0 : (Try.prog.info? 23).map (·.size) = some A0.length := by rw [← hA0, ints_len]; exact infoR
  rw [hZ] at hz
  have HA : Hid (ints .u8 72 F = A0 ∧ (ints .u8 72 fun _ => 0).toArray = Z) := ⟨hA0, hZ⟩
  rw [hA0]
  have H0 : Hid (∀ V, ((w.alloc (.cells A0.toArray 23)).alloc (.cells #[.int .i64 cc] 3)).alloc (.cells #[.bool false] 4) = V → Bk .u8 V w.heap.size 72 F ∧ Box V (w.heap.size + 1) (.int .i64 cc) ∧ Box V (w.heap.size + 1 + 1) (.bool false) ∧ Below w.heap.size w V) := by
    rintro V rfl
    rw [← hA0]
    have h1 := Box.new (w.alloc (.cells (ints .u8 72 F).toArray 23)) 3 (.int .i64 cc)
    have h2 := Box.new ((w.alloc (.cells (ints .u8 72 F).toArray 23)).alloc (.cells #[.int .i64 cc] 3)) 4 (.bool false)
    simp only [World.size_alloc] at h1 h2
    exact ⟨((Bk.new .u8 w 72 F _).alloc _).alloc _, h1.alloc _, h2, (((Below.refl _ w).alloc (Nat.le_refl _) _).alloc (by simp) _).alloc (by simp; omega) _⟩
  clear hA0 hZ hF hm
  refine (callsIn_wide (n := 10)).1 ?_
  refine callsIn_of_wp_marks Try.func3 rfl trivial ?_ rfl
  simp only [Try.ntmps3, List.size_toArray, List.length_cons, List.length_nil, Nat.reduceAdd, Nat.reduceSub, Array.replicate_succ, Array.replicate_zero, List.push_toArray, List.append_toArray, List.nil_append, List.cons_append]
  refine wpIn_wide.2 ?_
  go_wp2_with fail
  obtain ⟨V, hV⟩ : ∃ V, ((w.alloc (.cells A0.toArray 23)).alloc (.cells #[.int .i64 cc] 3)).alloc (.cells #[.bool false] 4) = V := ⟨_, rfl⟩
  have H1 := H0.out V hV
  obtain ⟨B, hB⟩ : ∃ B, w.heap.size = B := ⟨_, rfl⟩
  rw [hB] at H1
  rw [hV, hB]
  refine (cA.out _).mono ?_
  rintro e V1 ⟨rfl, b1⟩
  have H2 : Hid (Bk .u8 V1 B 72 F ∧ Box V1 (B + 1) (.int .i64 cc) ∧ Box V1 (B + 1 + 1) (.bool false) ∧ Below B w V1) := ⟨H1.1.next b1, H1.2.1.below b1 H1.2.1.lt, H1.2.2.1.below b1 H1.2.2.1.lt, H1.2.2.2.trans (b1.mono (Nat.le_of_lt H1.1.lt))⟩
  clear b1 hV V H0 H1
  go_upto_region 7 with (go_at_call 9; refine (cH.out _).mono ?_; rintro e w' ⟨rfl, hw2⟩; rw [hw2]; clear hw2 w')
  obtain ⟨V3, hV3⟩ : ∃ V3, V1.alloc (.cells #[.int .i64 9] 3) = V3 := ⟨_, rfl⟩
  obtain ⟨C, hC⟩ : ∃ C, V1.heap.size = C := ⟨_, rfl⟩
  have H3 : Hid ((Bk .u8 V3 B 72 F ∧ Box V3 (B + 1) (.int .i64 cc) ∧ Box V3 (B + 1 + 1) (.bool false) ∧ Box V3 C (.int .i64 9)) ∧ B + 1 + 1 < C ∧ Below B w V3) := by
    have h := H2.out
    have b := (Below.refl _ V1).alloc (Nat.le_refl _) (.cells #[.int .i64 9] 3)
    have hn := Box.new V1 3 (.int .i64 9)
    rw [hV3] at b hn
    rw [hC] at hn
    exact ⟨⟨h.1.next b, h.2.1.below b h.2.1.lt, h.2.2.1.below b h.2.2.1.lt, hn⟩, by rw [← hC]; exact h.2.2.1.lt, h.2.2.2.trans (b.mono (Nat.le_of_lt h.1.lt))⟩
  rw [hV3, hC]
  clear hV3 hC H2 V1
  have c3 := H3.out.1.2.2.2.1
  go_quiet (first | (go_at_call 10; exact Calls.quiet_of_same (cR.out _)) | (go_at_call 11; exact Calls.quiet_of_same (cC.out _)) | (go_at_call 12; exact Calls.quiet_of_same (cW.out _)))
  obtain ⟨V4, hV4⟩ : ∃ V4, V3.drewN nq = V4 := ⟨_, rfl⟩
  have H4 : Hid ((Bk .u8 V4 B 72 F ∧ Box V4 (B + 1) (.int .i64 cc) ∧ Box V4 (B + 1 + 1) (.bool false) ∧ Box V4 C (.int .i64 9)) ∧ B + 1 + 1 < C ∧ Below B w V4) := by
    rw [← hV4]
    exact ⟨H3.out.1, H3.out.2.1, below_stay H3.out.2.2 (Stay.drewN _ V3 _) (Nat.le_refl _)⟩
  rw [hV4]
  clear hV4 H3 c3 V3 cR cW cC cH
  have r4 : V4.rangeAt B 0 A0 := by rw [← HA.out.1]; exact H4.out.1.1.range
  go_wp2_with (refine wpList_load_mid rfl 23 _ rfl B 0 rfl A0 _ r4 Try.underlying23 rfl i0 ?_)
  refine (CWd.out _).mono ?_
  rintro e V5 ⟨rfl, b5⟩
  have H5 : Hid ((Bk .u8 V5 B 72 F ∧ Box V5 (B + 1) (.int .i64 cc) ∧ Box V5 (B + 1 + 1) (.bool false) ∧ Box V5 C (.int .i64 9)) ∧ B + 1 + 1 < C ∧ Below B w V5) := by
    obtain ⟨⟨h1, h2, h3, h4⟩, h5, h6⟩ := H4.out
    exact ⟨⟨h1.next b5, h2.below b5 h2.lt, h3.below b5 h3.lt, h4.below b5 h4.lt⟩, h5, h6.trans (b5.mono (Nat.le_of_lt h1.lt))⟩
  clear r4 CWd
  have r5 : V5.rangeAt B 0 A0 := by rw [← HA.out.1]; exact H5.out.1.1.range
  clear H4 b5
  go_wp2_with (refine wpList_load_mid rfl 23 _ rfl B 0 rfl A0 _ r5 Try.underlying23 rfl i0 ?_)
  refine (CPt.out V5).mono ?_
  rintro e V6 ⟨rfl, b6⟩
  have H6 : Hid ((Bk .u8 V6 B 72 F ∧ Box V6 (B + 1) (.int .i64 cc) ∧ Box V6 (B + 1 + 1) (.bool false) ∧ Box V6 C (.int .i64 9)) ∧ B + 1 + 1 < C ∧ Below B w V6) := by
    obtain ⟨⟨h1, h2, h3, h4⟩, h5, h6⟩ := H5.out
    exact ⟨⟨h1.next b6, h2.below b6 h2.lt, h3.below b6 h3.lt, h4.below b6 h4.lt⟩, h5, h6.trans (b6.mono (Nat.le_of_lt h1.lt))⟩
  obtain ⟨P, hP⟩ : ∃ P, V6.heap.size = P := ⟨_, rfl⟩
  have ht : (V6.alloc (.cells Z 23)).there P 0 A1.toArray.size := by
    rw [← hP, ← HA.out.2, ← HY.out]
    exact (Bk.new .u8 V6 72 (fun _ => 0) 23).there .u8 Y
  have i2 : (Try.prog.info? 23).map (·.size) = some A1.toArray.size := by simpa using i1
  have HX6 : Hid (∀ b o v, (fun _ _ _ => False) b o v → V6.cell? ⟨b, o, none⟩ = some v ∧ b < P) := fun _ _ _ h => h.elim
  go_upto_region 12 with (first | refine wpList_store_mid rfl 23 _ _ rfl _ 0 A1.toArray rfl rfl ht i2 o1 ?_)
  obtain ⟨V7, hV7⟩ : ∃ V7, (V6.alloc (.cells Z 23)).setCells P 0 A1 = V7 := ⟨_, rfl⟩
  have HR : Hid (Rd B C P F Y cc 9 (fun _ _ _ => False) w V7) := by
    obtain ⟨⟨h1, h2, h3, h4⟩, h5, h6⟩ := H6.out
    have l1 := h1.lt; have l2 := h2.lt; have l3 := h3.lt; have l4 := h4.lt
    have hn := Bk.new .u8 V6 72 (fun _ => 0) 23
    rw [hP, HA.out.2] at hn
    have hp := hn.put Y
    rw [HY.out] at hp
    have hk : ∀ b, b < P → ((V6.alloc (.cells Z 23)).setCells P 0 A1).heap[b]? = V6.heap[b]? := fun b hb => (heap_puts P A1 0 _ b (by omega)).trans (Below.heap_alloc V6 _ b (by omega))
    rw [← hV7]
    exact ⟨h1.of (hk _ (by omega)), h2.of (hk _ (by omega)), h3.of (hk _ (by omega)), h4.of (hk _ (by omega)), hp, ⟨h5, by omega⟩, fun b o v hx => (World.cell?_of_block (w := V6) (a := ⟨b, o, none⟩) (hk b (HX6.out b o v hx).2)).trans (HX6.out b o v hx).1, belows_put (by omega) _ 0 (h6.alloc (by omega) _)⟩
  rw [hV7]
  clear hV7 ht H6 H5 hz i2 o1 r5 b6 HX6
  have nc := HR.out.n.1
  have rP : V7.rangeAt P 0 A1 := by rw [← HY.out]; exact HR.out.p.range
  have rB : V7.rangeAt B 0 A0 := by rw [← HA.out.1]; exact HR.out.r.range
  go_upto_region 15 with (first
    | refine wpList_load_g (by rfl) 23 _ rfl P 0 rfl A1 _ (by exact rP) Try.underlying23 rfl i1 ?_
    | refine wpList_load_g (by rfl) 23 _ rfl B 0 rfl A0 _ (by exact rB) Try.underlying23 rfl i0 ?_)
  clear nc
  go_loopw [92] (fun iv wr => ∃ i : Nat, i ≤ 72 ∧ iv = .int .i64 (i : Int) ∧ Hid (Rd B C P F Y cc 9 (fun _ _ _ => False) w wr)) (fun iv _ => 72 - (intOf iv).toNat)
  case atStart => exact ⟨0, by omega, rfl, HR⟩
  case round =>
    clear HR
    obtain ⟨i, hi, rfl, HR⟩ := hrel
    by_cases hlt : i < 72
    · have nc := HR.out.n.1
      have cF := HR.out.r.cell i hlt
      have cY := HR.out.p.cell i hlt
      have hYF : Y i = F i := by rw [← HL.out]
      rw [hYF] at cY
      obtain ⟨a, ha⟩ : ∃ a, F i = a := ⟨_, rfl⟩
      rw [ha] at cF cY
      clear ha hYF
      go_wp2
      go_quiet (fail)
      go_wp2
      go_roundw
      case rel => exact ⟨i + 1, by omega, by go_num, HR.out.drewN _⟩
      case measure => simp [intOf]; omega
    · obtain rfl : i = 72 := by omega
      clear hi hlt
      have c8 := HR.out.c.1
      have l8 := HR.out.c.lt
      by_cases hcc : 0 ≤ cc ∧ cc < 9
      · obtain ⟨c9, rfl⟩ : ∃ c : Nat, cc = (c : Int) := ⟨cc.toNat, by omega⟩
        have dc1 : decide (0 ≤ (c9 : Int)) = true := by simp
        have dc2 : decide ((c9 : Int) < 9) = true := by simp; omega
        have dc3 : (c9 : Int) < 9 := hcc.2
        go_wp2_with fail
        obtain ⟨K, hK⟩ : ∃ K, wr.heap.size = K := ⟨_, rfl⟩
        obtain ⟨V8, hV8⟩ : ∃ V8, wr.alloc (.cells #[.int .i64 0] 3) = V8 := ⟨_, rfl⟩
        have HK : Hid (Rk B C P K F Y (c9 : Int) 9 w 0 V8 ∧ V8.heap.size = K + 1) := by
          have h := HR.out
          have b := (Below.refl _ wr).alloc (Nat.le_refl _) (.cells #[.int .i64 0] 3)
          have hk := Box.new wr 3 (.int .i64 0)
          rw [hV8] at b hk
          rw [hK] at hk
          have h9 := h.next b
          exact ⟨⟨{ h9 with x := fun _ _ _ hx => hx.elim }, hk, by rw [← hK]; exact h.p.lt⟩, by rw [← hV8, ← hK]; simp⟩
        rw [hV8, hK]
        refine (of_yes HM.out (c9 : Int) hcc _).mono ?_
        rintro e V9 ⟨rfl, hV9⟩
        have HV : Hid (Box V9 (K + 1) (.int .i64 1) ∧ Box V9 (K + 1 + 1) (.int .i64 (c9 : Int)) ∧ Rk B C P K F Y (c9 : Int) 9 w 0 V9 ∧ V9.heap.size = K + 3) := by
          obtain ⟨q, rfl⟩ := hV9
          have sV := HK.out.2
          have b1 := Box.new V8 3 (.int .i64 1)
          have b2 := Box.new (V8.alloc (.cells #[.int .i64 1] 3)) 3 (.int .i64 (c9 : Int))
          simp only [World.size_alloc] at b2
          rw [sV] at b1 b2
          refine ⟨b1.alloc _, b2, Rk.stay (E := B) HK.out.1 ((Stay.alloc B V8 _ (by have := HK.out.1.d.r.lt; omega)).trans ((Stay.alloc B _ _ (by have := HK.out.1.d.r.lt; simp; omega)).trans (Stay.drewN B _ q))) (Nat.le_refl _), by simp [sV]⟩
        have sV : V8.heap.size = K + 1 := HK.out.2
        rw [sV]
        clear hV9 HK sV HR c8 l8 hV8 hK
        go_wp2
        have zV := HV.out.2.2.2
        have lB : B < P ∧ P < K := ⟨by have := HV.out.2.2.1.d.o; omega, HV.out.2.2.1.l⟩
        refine (wpIn_wide (n := 10)).1 (rangeC rfl (enters_of Try.func28 (by kernel_rfl) rfl) (of2_seq1 (c9 : Int) (by omega) (by omega) (K + 1) (K + 1 + 1) V9 HV.out.1 HV.out.2.1) (fun _ => rfl)
          (fun x => x = K) (by rintro x rfl; constructor <;> omega) (by rintro x (rfl | rfl) <;> omega)
          (Rk B C P K F Y (c9 : Int) 9 w) (fun _ _ _ => False)
          (by rintro x A A' h hs; exact Rk.stay h hs (by omega))
          (fun _ _ _ _ h _ => h.elim) HV.out.2.2.1
          (fun _ _ _ hp _ => absurd trivial hp) ?round2 ?done2 (fun _ _ _ _ _ _ _ h => h.elim))
        case round2 =>
          rintro l y W W2 hy hp h
          have q0 := h.d.c.1
          have q1 := h.d.n.1
          have q2 := h.k.1
          have q3 := h.k.2
          have fin : Hid (Keep (fun x => x = K) W2 (W2.setCell ⟨K, 0, none⟩ (.int .i64 ((y : Int) + 1))) ∧ Rk B C P K F Y (c9 : Int) 9 w (y + 1) (W2.setCell ⟨K, 0, none⟩ (.int .i64 ((y : Int) + 1)))) :=
            ⟨Keep.set (M := fun x => x = K) (Keep.refl _ _) rfl _, Rk.step h⟩
          have e0 : ((y : Int) * 9 + (c9 : Int) != 9 * (y : Int) + (c9 : Int)) = false := by simp; omega
          clear h hp HV zV
          gi_wp2
          try (refine ⟨trivial, ?_⟩)
          try gi_wp2
          exact fin.out
        case done2 =>
          rintro D W hD h hDd
          have q0 := h.d.c.1
          have q1 := h.d.n.1
          have q2 := h.k.1
          have q3 := h.d.t.1
          have q4 := h.d.t.2
          have HA9 : Hid (Rk B C P K F Y (c9 : Int) 9 w 8 W) := h
          have HD : Hid (W.heap[D]? = some (.deferred (some []))) := hDd
          have ho : B + 1 + 1 < C ∧ C < P := HA9.out.d.o
          clear h hDd HV
          go_wp2
          obtain ⟨k1, k2, k3⟩ := leaves (n := B) (u := .bool true) HA9.out.d.t HD.out (by omega) (by omega) (by omega) HA9.out.d.below
          refine ⟨by simp, .inl ⟨_, _, rfl, run_takeDeferred k1, ?_⟩⟩
          refine ⟨.bool true, ?_, rfl, by rw [hB]; exact k3⟩
          simp [results, Try.f3, go_sem, k2]
      · by_cases hneg : cc < 0
        · have dc1 : decide (0 ≤ cc) = false := by simp; omega
          have dc2 : decide (cc < 0) = true := by simpa using hneg
          go_wp2_with fail
          obtain ⟨K, hK⟩ : ∃ K, wr.heap.size = K := ⟨_, rfl⟩
          obtain ⟨V8, hV8⟩ : ∃ V8, wr.alloc (.cells #[.int .i64 0] 3) = V8 := ⟨_, rfl⟩
          have HK : Hid (Rk B C P K F Y cc 9 w 0 V8 ∧ V8.heap.size = K + 1) := by
            have h := HR.out
            have b := (Below.refl _ wr).alloc (Nat.le_refl _) (.cells #[.int .i64 0] 3)
            have hk := Box.new wr 3 (.int .i64 0)
            rw [hV8] at b hk
            rw [hK] at hk
            have h9 := h.next b
            exact ⟨⟨{ h9 with x := fun _ _ _ hx => hx.elim }, hk, by rw [← hK]; exact h.p.lt⟩, by rw [← hV8, ← hK]; simp⟩
          rw [hV8, hK]
          refine (of_no HM.out cc hcc _).mono ?_
          rintro e V9 ⟨rfl, hV9⟩
          have HV : Hid (Rk B C P K F Y cc 9 w 0 V9 ∧ K < V9.heap.size) := by
            have hz2 := hV9.size
            have hs := HK.out.2
            exact ⟨HK.out.1.stay (stay_below9 hV9) (Nat.le_of_lt HK.out.1.d.r.lt), by omega⟩
          clear hV9 HK HR c8 l8 hV8 hK
          go_wp2
          have zV := HV.out.2
          have lB : B < P ∧ P < K := ⟨by have := HV.out.1.d.o; omega, HV.out.1.l⟩
          refine (wpIn_wide (n := 10)).1 (rangeC rfl (enters_of Try.func27 (by kernel_rfl) rfl) (of1_seq (fun _ => #[.int .i64 0]) (fun _ => True) (fun _ => False) V9) (fun _ => rfl)
            (fun x => x = K) (by rintro x rfl; exact ⟨by omega, fun h => h⟩) (by rintro x h; exact h.elim)
            (Rk B C P K F Y cc 9 w) (fun _ _ _ => False)
            (by rintro x A A' h hs; exact Rk.stay h hs (by omega))
            (fun _ _ _ _ h _ => h.elim) HV.out.1
            (fun _ _ _ hp _ => absurd trivial hp) ?round2 ?done2 (fun _ _ _ _ _ _ _ h => h.elim))
          case round2 => exact fun _ _ _ _ hx _ _ => absurd hx (by omega)
          case done2 =>
            rintro D W hD h hDd
            have q0 := h.d.c.1
            have q1 := h.d.n.1
            have q2 := h.k.1
            have q3 := h.d.t.1
            have q4 := h.d.t.2
            have HA9 : Hid (Rk B C P K F Y cc 9 w 0 W) := h
            have HD : Hid (W.heap[D]? = some (.deferred (some []))) := hDd
            have ho : B + 1 + 1 < C ∧ C < P := HA9.out.d.o
            clear h hDd HV
            go_wp2
            obtain ⟨k1, k2, k3⟩ := leaves (n := B) (u := .bool true) HA9.out.d.t HD.out (by omega) (by omega) (by omega) HA9.out.d.below
            refine ⟨by simp, .inl ⟨_, _, rfl, run_takeDeferred k1, ?_⟩⟩
            refine ⟨.bool true, ?_, rfl, by rw [hB]; exact k3⟩
            simp [results, Try.f3, go_sem, k2]
        · have dc1 : decide (0 ≤ cc) = true := by simp; omega
          have dc2 : decide (cc < 9) = false := by simp; omega
          have dc3 : decide (cc < 0) = false := by simp; omega
          have dc4 : decide (9 ≤ cc) = true := by simp; omega
          have dc5 : 9 ≤ cc := by omega
          go_wp2_with fail
          obtain ⟨K, hK⟩ : ∃ K, wr.heap.size = K := ⟨_, rfl⟩
          obtain ⟨V8, hV8⟩ : ∃ V8, wr.alloc (.cells #[.int .i64 0] 3) = V8 := ⟨_, rfl⟩
          have HK : Hid (Rk B C P K F Y cc 9 w 0 V8 ∧ V8.heap.size = K + 1) := by
            have h := HR.out
            have b := (Below.refl _ wr).alloc (Nat.le_refl _) (.cells #[.int .i64 0] 3)
            have hk := Box.new wr 3 (.int .i64 0)
            rw [hV8] at b hk
            rw [hK] at hk
            have h9 := h.next b
            exact ⟨⟨{ h9 with x := fun _ _ _ hx => hx.elim }, hk, by rw [← hK]; exact h.p.lt⟩, by rw [← hV8, ← hK]; simp⟩
          rw [hV8, hK]
          refine (of_no HM.out cc hcc _).mono ?_
          rintro e V9 ⟨rfl, hV9⟩
          have HV : Hid (Rk B C P K F Y cc 9 w 0 V9 ∧ K < V9.heap.size) := by
            have hz2 := hV9.size
            have hs := HK.out.2
            exact ⟨HK.out.1.stay (stay_below9 hV9) (Nat.le_of_lt HK.out.1.d.r.lt), by omega⟩
          clear hV9 HK HR c8 l8 hV8 hK
          go_wp2
          have zV := HV.out.2
          have lB : B < P ∧ P < K := ⟨by have := HV.out.1.d.o; omega, HV.out.1.l⟩
          refine (wpIn_wide (n := 10)).1 (rangeC rfl (enters_of Try.func27 (by kernel_rfl) rfl) (of1_seq (fun _ => #[.int .i64 0]) (fun _ => True) (fun _ => False) V9) (fun _ => rfl)
            (fun x => x = K) (by rintro x rfl; exact ⟨by omega, fun h => h⟩) (by rintro x h; exact h.elim)
            (Rk B C P K F Y cc 9 w) (fun _ _ _ => False)
            (by rintro x A A' h hs; exact Rk.stay h hs (by omega))
            (fun _ _ _ _ h _ => h.elim) HV.out.1
            (fun _ _ _ hp _ => absurd trivial hp) ?round2 ?done2 (fun _ _ _ _ _ _ _ h => h.elim))
          case round2 => exact fun _ _ _ _ hx _ _ => absurd hx (by omega)
          case done2 =>
            rintro D W hD h hDd
            have q0 := h.d.c.1
            have q1 := h.d.n.1
            have q2 := h.k.1
            have q3 := h.d.t.1
            have q4 := h.d.t.2
            have HA9 : Hid (Rk B C P K F Y cc 9 w 0 W) := h
            have HD : Hid (W.heap[D]? = some (.deferred (some []))) := hDd
            have ho : B + 1 + 1 < C ∧ C < P := HA9.out.d.o
            clear h hDd HV
            go_wp2
            obtain ⟨k1, k2, k3⟩ := leaves (n := B) (u := .bool true) HA9.out.d.t HD.out (by omega) (by omega) (by omega) HA9.out.d.below
            refine ⟨by simp, .inl ⟨_, _, rfl, run_takeDeferred k1, ?_⟩⟩
            refine ⟨.bool true, ?_, rfl, by rw [hB]; exact k3⟩
            simp [results, Try.f3, go_sem, k2]
end Go.Proofs.Ytkbbnpjjfhmlkaa
