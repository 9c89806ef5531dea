/-
  FaultCovers, mode 2.
-/
import Derived.Test.YtlacmkcmfkakjaaFaL2B
namespace Go.Proofs.Ytlacmkcmfkakjaa
open Go.RowKit Go.Shelf
attribute [local go_sem] Oper.semAt_some

set_option maxRecDepth 100000 in
set_option maxHeartbeats 4000000 in
theorem faultCovers_2N (k p q u v c i x : Int) (p' q' u' v' : Int) (F : Nat → Int) (hF : Byts 72 F) (hi64 : i ≤ 9223372036854775807) (hk : k = 1 ∨ k = 2) (h1 : 0 ≤ i) (h2 : i < 576) (w : World) :
    Calls Try.prog 5 #[.agg #[.int .i64 k, .int .i64 p, .int .i64 q, .int .i64 u, .int .i64 v, .int .i64 c, .int .i64 i, .int .i64 x], .int .i64 2, .agg #[.int .i64 p', .int .i64 q', .int .i64 u', .int .i64 v'], .agg (ints .u8 72 F).toArray] w fun e w' => e = .returned (.bool true) ∧ Below w.heap.size w w' := by
  obtain ⟨G, hG⟩ : ∃ G, apF 36 k p q u v c i x p' q' u' v' F = G := ⟨_, rfl⟩
  obtain ⟨ch, hch⟩ : ∃ y, cv 36 k c i = y := ⟨_, rfl⟩
  have hGb : Byts 72 G := by rw [← hG]; exact apF_byt _ _ _ _ _ _ _ _ _ _ _ _ _ F hF
  have HC : Hid (∀ y : Nat, G y ≠ F y → (y : Int) % 36 = ch) := fun y hy => by rw [← hch]; rw [← hG] at hy; exact apF_cv (by omega) hy
  have A0 : Hid (∀ w : World, Calls Try.prog 8 #[] w fun e w' => e = .returned (.bool true) ∧ Below w.heap.size w w') := anchor11_any
  have A1 : Hid (∀ w : World, Calls Try.prog 20 #[.int .i64 2] w fun e w' => e = .returned (.int .i64 36) ∧ w' = w) := fun w => refChips_any .chips w
  have A2 : Hid (∀ w : World, Calls Try.prog 19 #[.agg #[.int .i64 k, .int .i64 p, .int .i64 q, .int .i64 u, .int .i64 v, .int .i64 c, .int .i64 i, .int .i64 x], .int .i64 2] w fun e w' => e = .returned (.int .i64 ch) ∧ Below w.heap.size w w') := fun w => by rw [← hch]; exact covers_any k p q u v c i x 2 36 2 .chips w
  have A3 : Hid (∀ w : World, Calls Try.prog 15 #[.agg #[.int .i64 k, .int .i64 p, .int .i64 q, .int .i64 u, .int .i64 v, .int .i64 c, .int .i64 i, .int .i64 x]] w fun e w' => e = .returned (.bool true) ∧ Below w.heap.size w w') := fun w => by have := narrow_any k p q u v c i x w; rw [show nw k = true from decide_eq_true (by omega)] at this; exact this
  have A4 : ∀ w : World, Calls Try.prog 16 #[.agg #[.int .i64 k, .int .i64 p, .int .i64 q, .int .i64 u, .int .i64 v, .int .i64 c, .int .i64 i, .int .i64 x], .int .i64 2, .agg #[.int .i64 p', .int .i64 q', .int .i64 u', .int .i64 v'], .agg (ints .u8 72 F).toArray] w fun e w' => e = .returned (.agg (ints .u8 72 G).toArray) ∧ Below w.heap.size w w' := fun w => by rw [← hG]; exact apply_any k p q u v c i x p' q' u' v' F hF 2 36 2 .chips hi64 w
  obtain ⟨x1, hx1⟩ : ∃ y, ex 1 9 8 G F = y := ⟨_, rfl⟩
  have B1 : ∀ w : World, Calls Try.prog 21 #[.int .i64 1, .agg (ints .u8 72 G).toArray, .agg (ints .u8 72 F).toArray] w fun e w' => e = .returned (.int .i64 (x1 : Int)) ∧ Below w.heap.size w w' := fun w => by rw [← hx1]; exact refExposure_any .bits G F hGb hF w
  have d5 : decide ((x1 : Int) ≤ 1) = true := decide_eq_true (by rw [← hx1, ← hG]; have := apF_bit 36 k p q u v c i x p' q' u' v' F hF (by omega); omega)
  clear hx1
  obtain ⟨x2, hx2⟩ : ∃ y, ex 2 36 2 G F = y := ⟨_, rfl⟩
  have B2 : ∀ w : World, Calls Try.prog 21 #[.int .i64 2, .agg (ints .u8 72 G).toArray, .agg (ints .u8 72 F).toArray] w fun e w' => e = .returned (.int .i64 (x2 : Int)) ∧ Below w.heap.size w w' := fun w => by rw [← hx2]; exact refExposure_any .chips G F hGb hF w
  have d6 : decide ((x2 : Int) ≤ 1) = true := decide_eq_true (by rw [← hx2, ← hG]; have := apF_byte k p q u v c i x p' q' u' v' F hF; omega)
  clear hx2
  have d1 : decide (0 ≤ i) = true := decide_eq_true (by omega)
  have d2 : decide (i < 576) = true := decide_eq_true (by omega)
  obtain ⟨y8, hy8⟩ : ∃ y, i / 8 = y := ⟨_, rfl⟩
  have d3 : i.tdiv 8 = y8 := by rw [Int.tdiv_eq_ediv_of_nonneg h1]; exact hy8
  have d4 : y8.tmod 36 = ch := by rw [Int.tmod_eq_emod_of_nonneg (by omega), ← hch, ← hy8]; unfold cv; rw [if_pos hk, if_pos (by omega)]
  have y80 : 0 ≤ y8 := by omega
  have y81 : y8 < 72 := by omega
  clear hk h1 h2 hy8
  clear hi64
  obtain ⟨L, hL⟩ : ∃ L, ints .u8 72 F = L := ⟨_, rfl⟩
  obtain ⟨M, hM⟩ : ∃ M, ints .u8 72 G = M := ⟨_, rfl⟩
  obtain ⟨Z, hZ⟩ : ∃ Z, (ints .u8 72 fun _ => 0).toArray = Z := ⟨_, rfl⟩
  have hz := zeroR
  have i0 : (Try.prog.info? 41).map (·.size) = some L.length := by rw [← hL, ints_len]; exact infoR
  have i1 : (Try.prog.info? 41).map (·.size) = some M.length := by rw [← hM, ints_len]; exact infoR
  have j9 : (Try.prog.info? 41).map (·.size) = some M.toArray.size := by simpa using i1
  have one1 : M.toArray.all (·.oneCell') = true := by rw [← hM]; exact ints_one .u8 72 G
  have HL : Hid (ints .u8 72 F = L) := hL
  have HM : Hid (ints .u8 72 G = M) := hM
  have HZ : Hid ((ints .u8 72 fun _ => 0).toArray = Z) := hZ
  rw [hL, hM] at A4
  rw [hM, hL] at B1 B2
  rw [hZ] at hz
  rw [hL]
  have A5 : Hid (∀ w : World, Calls Try.prog 16 #[.agg #[.int .i64 k, .int .i64 p, .int .i64 q, .int .i64 u, .int .i64 v, .int .i64 c, .int .i64 i, .int .i64 x], .int .i64 2, .agg #[.int .i64 p', .int .i64 q', .int .i64 u', .int .i64 v'], .agg L.toArray] w fun e w' => e = .returned (.agg M.toArray) ∧ Below w.heap.size w w') := A4
  clear A4 hF hGb hG hch hZ
  go_enter Try.func5, Try.ntmps5
  go_upto_region 1 with (fail)
  obtain ⟨B, hB⟩ : ∃ B, w.heap.size = B := ⟨_, rfl⟩
  obtain ⟨C, hC⟩ : ∃ C, B + 1 = C := ⟨_, rfl⟩
  obtain ⟨D, hD⟩ : ∃ D, C + 1 = D := ⟨_, rfl⟩
  obtain ⟨V, hV⟩ : ∃ V, ((w.alloc (.cells #[.int .i64 k, .int .i64 p, .int .i64 q, .int .i64 u, .int .i64 v, .int .i64 c, .int .i64 i, .int .i64 x] 25)).alloc (.cells #[.int .i64 p', .int .i64 q', .int .i64 u', .int .i64 v'] 23)).alloc (.cells L.toArray 41) = V := ⟨_, rfl⟩
  have HS : Hid (Lw2 B C D k p q u v c i x p' q' u' v' L F w V) := by
    have a1 := Pl.new (w.alloc (.cells #[.int .i64 k, .int .i64 p, .int .i64 q, .int .i64 u, .int .i64 v, .int .i64 c, .int .i64 i, .int .i64 x] 25)) p' q' u' v' 23
    have a2 := Bk.new .u8 ((w.alloc (.cells #[.int .i64 k, .int .i64 p, .int .i64 q, .int .i64 u, .int .i64 v, .int .i64 c, .int .i64 i, .int .i64 x] 25)).alloc (.cells #[.int .i64 p', .int .i64 q', .int .i64 u', .int .i64 v'] 23)) 72 F 41
    rw [hL] at a2
    simp only [World.size_alloc] at a1 a2
    rw [← hV, ← hD, ← hC, ← hB]
    exact ⟨((Ft.new w k p q u v c i x _).alloc _).alloc _, a1.alloc _, a2, (((Below.refl _ w).alloc (Nat.le_refl _) _).alloc (by simp) _).alloc (by simp; omega) _, hL⟩
  rw [hV, hB, hC, hD]
  clear hV hC hD hL hM
  go_wp2_with (fail)
  refine (A0.out _).mono ?_
  rintro e W0 ⟨rfl, b0⟩
  replace HS : Hid (Lw2 B C D k p q u v c i x p' q' u' v' L F w W0) := HS.out.next b0
  clear b0
  go_wp2_with (fail)
  refine (A1.out _).mono ?_
  rintro e W1 ⟨rfl, rfl⟩
  go_wp2_with (first
    | refine wpList_load_mid rfl 25 _ rfl B 0 rfl [.int .i64 k, .int .i64 p, .int .i64 q, .int .i64 u, .int .i64 v, .int .i64 c, .int .i64 i, .int .i64 x] _ (by exact HS.out.f.range) Try.underlying25 rfl infoF ?_
    | refine wpList_load_g (by rfl) 25 _ rfl B 0 rfl [.int .i64 k, .int .i64 p, .int .i64 q, .int .i64 u, .int .i64 v, .int .i64 c, .int .i64 i, .int .i64 x] _ (by exact HS.out.f.range) Try.underlying25 rfl infoF ?_
    | refine wpList_load_mid rfl 23 _ rfl C 0 rfl [.int .i64 p', .int .i64 q', .int .i64 u', .int .i64 v'] _ (by exact HS.out.g.range) Try.underlying23 rfl infoP ?_
    | refine wpList_load_mid rfl 41 _ rfl D 0 rfl L _ (by exact HS.out.rr) Try.underlying41 rfl i0 ?_
    | refine wpList_load_g (by rfl) 41 _ rfl D 0 rfl L _ (by exact HS.out.rr) Try.underlying41 rfl i0 ?_)
  refine (A2.out _).mono ?_
  rintro e W1 ⟨rfl, b1⟩
  replace HS : Hid (Lw2 B C D k p q u v c i x p' q' u' v' L F w W1) := HS.out.next b1
  clear b1
  go_wp2_with (first
    | refine wpList_load_mid rfl 25 _ rfl B 0 rfl [.int .i64 k, .int .i64 p, .int .i64 q, .int .i64 u, .int .i64 v, .int .i64 c, .int .i64 i, .int .i64 x] _ (by exact HS.out.f.range) Try.underlying25 rfl infoF ?_
    | refine wpList_load_g (by rfl) 25 _ rfl B 0 rfl [.int .i64 k, .int .i64 p, .int .i64 q, .int .i64 u, .int .i64 v, .int .i64 c, .int .i64 i, .int .i64 x] _ (by exact HS.out.f.range) Try.underlying25 rfl infoF ?_
    | refine wpList_load_mid rfl 23 _ rfl C 0 rfl [.int .i64 p', .int .i64 q', .int .i64 u', .int .i64 v'] _ (by exact HS.out.g.range) Try.underlying23 rfl infoP ?_
    | refine wpList_load_mid rfl 41 _ rfl D 0 rfl L _ (by exact HS.out.rr) Try.underlying41 rfl i0 ?_
    | refine wpList_load_g (by rfl) 41 _ rfl D 0 rfl L _ (by exact HS.out.rr) Try.underlying41 rfl i0 ?_)
  refine (A3.out _).mono ?_
  rintro e W2 ⟨rfl, b2⟩
  replace HS : Hid (Lw2 B C D k p q u v c i x p' q' u' v' L F w W2) := HS.out.next b2
  clear b2
  have f0 := HS.out.f.c0; have f5 := HS.out.f.c5; have f6 := HS.out.f.c6
  go_upto_region 12 with (fail)
  clear f0 f5 f6 d1 d2 d3 d4 y80 y81
  go_wp2_with (first
    | refine wpList_load_mid rfl 25 _ rfl B 0 rfl [.int .i64 k, .int .i64 p, .int .i64 q, .int .i64 u, .int .i64 v, .int .i64 c, .int .i64 i, .int .i64 x] _ (by exact HS.out.f.range) Try.underlying25 rfl infoF ?_
    | refine wpList_load_g (by rfl) 25 _ rfl B 0 rfl [.int .i64 k, .int .i64 p, .int .i64 q, .int .i64 u, .int .i64 v, .int .i64 c, .int .i64 i, .int .i64 x] _ (by exact HS.out.f.range) Try.underlying25 rfl infoF ?_
    | refine wpList_load_mid rfl 23 _ rfl C 0 rfl [.int .i64 p', .int .i64 q', .int .i64 u', .int .i64 v'] _ (by exact HS.out.g.range) Try.underlying23 rfl infoP ?_
    | refine wpList_load_mid rfl 41 _ rfl D 0 rfl L _ (by exact HS.out.rr) Try.underlying41 rfl i0 ?_
    | refine wpList_load_g (by rfl) 41 _ rfl D 0 rfl L _ (by exact HS.out.rr) Try.underlying41 rfl i0 ?_)
  refine (A5.out _).mono ?_
  rintro e W3 ⟨rfl, b3⟩
  have h9 := laid72 W3 41 G
  obtain ⟨ht, HX⟩ : (W3.alloc (.cells Z 41)).there W3.heap.size 0 M.toArray.size ∧ Hid (Lx2 B C D W3.heap.size k p q u v c i x p' q' u' v' L F M G w ((W3.alloc (.cells Z 41)).setCells W3.heap.size 0 M)) := by
    rw [HM.out, HZ.out] at h9
    exact ⟨h9.2.2, (HS.out.next b3).next h9.2.1, h9.1, HM.out⟩
  clear h9 HS b3
  go_upto_region 13 with (first | refine wpList_store_mid rfl 41 _ _ rfl _ 0 M.toArray rfl rfl ht j9 one1 ?_)
  obtain ⟨W4, hW4⟩ : ∃ W4, (W3.alloc (.cells Z 41)).setCells W3.heap.size 0 M = W4 := ⟨_, rfl⟩
  obtain ⟨E, hE⟩ : ∃ E, W3.heap.size = E := ⟨_, rfl⟩
  rw [hE] at hW4 HX ⊢
  rw [hW4] at HX ⊢
  have HS := HX
  clear HX hW4 ht hE
  go_wp2
  go_loopw [74] (fun a wr => ∃ y : Nat, y ≤ 72 ∧ a = .int .i64 (y : Int) ∧ Hid (Lx2 B C D E k p q u v c i x p' q' u' v' L F M G w wr)) (fun a _ => 72 - (intOf a).toNat)
  case atStart => exact ⟨0, by omega, rfl, HS⟩
  case round =>
    clear HS
    obtain ⟨y, hy, rfl, HS⟩ := hrel
    by_cases hlt : y < 72
    · have g1 := HS.out.x.cell y hlt
      have g2 := HS.out.s.r.cell y hlt
      have e9 : ((y : Int).tmod 36) = (y : Int) % 36 := Int.tmod_eq_emod_of_nonneg (by omega)
      obtain ⟨a1, ha1⟩ : ∃ a, G y = a := ⟨_, rfl⟩
      obtain ⟨a2, ha2⟩ : ∃ a, F y = a := ⟨_, rfl⟩
      have HC2 := HC.out y
      rw [ha1, ha2] at HC2
      rw [ha1] at g1
      rw [ha2] at g2
      clear ha1 ha2 HC
      by_cases hne : a1 = a2
      · have d1 : (a1 != a2) = false := by simpa using hne
        clear HC2 hne
        go_wp2
        go_quiet (fail)
        go_wp2
        go_roundw
        case rel => exact ⟨y + 1, by omega, by go_num, HS.out.drewN _⟩
        case measure => simp [intOf]; omega
      · have d1 : (a1 != a2) = true := by simpa using hne
        have hc := HC2 hne
        have d2 : ((y : Int) % 36 != ch) = false := by simpa using hc
        clear HC2 hne hc
        go_wp2
        go_quiet (fail)
        go_wp2
        go_roundw
        case rel => exact ⟨y + 1, by omega, by go_num, HS.out.drewN _⟩
        case measure => simp [intOf]; omega
    · obtain rfl : y = 72 := by omega
      clear HC
      go_wp2_with (first
          | refine wpList_load_mid rfl 25 _ rfl B 0 rfl [.int .i64 k, .int .i64 p, .int .i64 q, .int .i64 u, .int .i64 v, .int .i64 c, .int .i64 i, .int .i64 x] _ (by exact HS.out.s.f.range) Try.underlying25 rfl infoF ?_
          | refine wpList_load_g (by rfl) 25 _ rfl B 0 rfl [.int .i64 k, .int .i64 p, .int .i64 q, .int .i64 u, .int .i64 v, .int .i64 c, .int .i64 i, .int .i64 x] _ (by exact HS.out.s.f.range) Try.underlying25 rfl infoF ?_
          | refine wpList_load_mid rfl 23 _ rfl C 0 rfl [.int .i64 p', .int .i64 q', .int .i64 u', .int .i64 v'] _ (by exact HS.out.s.g.range) Try.underlying23 rfl infoP ?_
          | refine wpList_load_mid rfl 41 _ rfl D 0 rfl L _ (by exact HS.out.s.rr) Try.underlying41 rfl i0 ?_
          | refine wpList_load_g (by rfl) 41 _ rfl D 0 rfl L _ (by exact HS.out.s.rr) Try.underlying41 rfl i0 ?_
          | refine wpList_load_g (by rfl) 41 _ rfl E 0 rfl M _ (by exact HS.out.rx) Try.underlying41 rfl i1 ?_
          | refine wpList_load_mid rfl 41 _ rfl E 0 rfl M _ (by exact HS.out.rx) Try.underlying41 rfl i1 ?_)
      refine (A3.out _).mono ?_
      rintro e W5 ⟨rfl, b5⟩
      replace HS : Hid (Lx2 B C D E k p q u v c i x p' q' u' v' L F M G w W5) := HS.out.next b5
      clear b5
      go_wp2_with (first
          | refine wpList_load_mid rfl 25 _ rfl B 0 rfl [.int .i64 k, .int .i64 p, .int .i64 q, .int .i64 u, .int .i64 v, .int .i64 c, .int .i64 i, .int .i64 x] _ (by exact HS.out.s.f.range) Try.underlying25 rfl infoF ?_
          | refine wpList_load_g (by rfl) 25 _ rfl B 0 rfl [.int .i64 k, .int .i64 p, .int .i64 q, .int .i64 u, .int .i64 v, .int .i64 c, .int .i64 i, .int .i64 x] _ (by exact HS.out.s.f.range) Try.underlying25 rfl infoF ?_
          | refine wpList_load_mid rfl 23 _ rfl C 0 rfl [.int .i64 p', .int .i64 q', .int .i64 u', .int .i64 v'] _ (by exact HS.out.s.g.range) Try.underlying23 rfl infoP ?_
          | refine wpList_load_mid rfl 41 _ rfl D 0 rfl L _ (by exact HS.out.s.rr) Try.underlying41 rfl i0 ?_
          | refine wpList_load_g (by rfl) 41 _ rfl D 0 rfl L _ (by exact HS.out.s.rr) Try.underlying41 rfl i0 ?_
          | refine wpList_load_g (by rfl) 41 _ rfl E 0 rfl M _ (by exact HS.out.rx) Try.underlying41 rfl i1 ?_
          | refine wpList_load_mid rfl 41 _ rfl E 0 rfl M _ (by exact HS.out.rx) Try.underlying41 rfl i1 ?_)
      refine (B1 _).mono ?_
      rintro e W6 ⟨rfl, b6⟩
      replace HS : Hid (Lx2 B C D E k p q u v c i x p' q' u' v' L F M G w W6) := HS.out.next b6
      clear b6
      go_wp2_with (first
          | refine wpList_load_mid rfl 25 _ rfl B 0 rfl [.int .i64 k, .int .i64 p, .int .i64 q, .int .i64 u, .int .i64 v, .int .i64 c, .int .i64 i, .int .i64 x] _ (by exact HS.out.s.f.range) Try.underlying25 rfl infoF ?_
          | refine wpList_load_g (by rfl) 25 _ rfl B 0 rfl [.int .i64 k, .int .i64 p, .int .i64 q, .int .i64 u, .int .i64 v, .int .i64 c, .int .i64 i, .int .i64 x] _ (by exact HS.out.s.f.range) Try.underlying25 rfl infoF ?_
          | refine wpList_load_mid rfl 23 _ rfl C 0 rfl [.int .i64 p', .int .i64 q', .int .i64 u', .int .i64 v'] _ (by exact HS.out.s.g.range) Try.underlying23 rfl infoP ?_
          | refine wpList_load_mid rfl 41 _ rfl D 0 rfl L _ (by exact HS.out.s.rr) Try.underlying41 rfl i0 ?_
          | refine wpList_load_g (by rfl) 41 _ rfl D 0 rfl L _ (by exact HS.out.s.rr) Try.underlying41 rfl i0 ?_
          | refine wpList_load_g (by rfl) 41 _ rfl E 0 rfl M _ (by exact HS.out.rx) Try.underlying41 rfl i1 ?_
          | refine wpList_load_mid rfl 41 _ rfl E 0 rfl M _ (by exact HS.out.rx) Try.underlying41 rfl i1 ?_)
      refine (B2 _).mono ?_
      rintro e W7 ⟨rfl, b7⟩
      replace HS : Hid (Lx2 B C D E k p q u v c i x p' q' u' v' L F M G w W7) := HS.out.next b7
      clear b7
      go_wp2
      go_ret
      exact ⟨rfl, by first | exact HS.out.s.n | (rw [hB]; exact HS.out.s.n)⟩
set_option maxRecDepth 100000 in
set_option maxHeartbeats 4000000 in
theorem faultCovers_2A1 (k p q u v c i x : Int) (p' q' u' v' : Int) (F : Nat → Int) (hF : Byts 72 F) (hi64 : i ≤ 9223372036854775807) (hk : k = 1 ∨ k = 2) (h1 : i < 0) (w : World) :
    Calls Try.prog 5 #[.agg #[.int .i64 k, .int .i64 p, .int .i64 q, .int .i64 u, .int .i64 v, .int .i64 c, .int .i64 i, .int .i64 x], .int .i64 2, .agg #[.int .i64 p', .int .i64 q', .int .i64 u', .int .i64 v'], .agg (ints .u8 72 F).toArray] w fun e w' => e = .returned (.bool true) ∧ Below w.heap.size w w' := by
  obtain ⟨G, hG⟩ : ∃ G, apF 36 k p q u v c i x p' q' u' v' F = G := ⟨_, rfl⟩
  obtain ⟨ch, hch⟩ : ∃ y, cv 36 k c i = y := ⟨_, rfl⟩
  have hGb : Byts 72 G := by rw [← hG]; exact apF_byt _ _ _ _ _ _ _ _ _ _ _ _ _ F hF
  have HC : Hid (∀ y : Nat, G y ≠ F y → (y : Int) % 36 = ch) := fun y hy => by rw [← hch]; rw [← hG] at hy; exact apF_cv (by omega) hy
  have A0 : Hid (∀ w : World, Calls Try.prog 8 #[] w fun e w' => e = .returned (.bool true) ∧ Below w.heap.size w w') := anchor11_any
  have A1 : Hid (∀ w : World, Calls Try.prog 20 #[.int .i64 2] w fun e w' => e = .returned (.int .i64 36) ∧ w' = w) := fun w => refChips_any .chips w
  have A2 : Hid (∀ w : World, Calls Try.prog 19 #[.agg #[.int .i64 k, .int .i64 p, .int .i64 q, .int .i64 u, .int .i64 v, .int .i64 c, .int .i64 i, .int .i64 x], .int .i64 2] w fun e w' => e = .returned (.int .i64 ch) ∧ Below w.heap.size w w') := fun w => by rw [← hch]; exact covers_any k p q u v c i x 2 36 2 .chips w
  have A3 : Hid (∀ w : World, Calls Try.prog 15 #[.agg #[.int .i64 k, .int .i64 p, .int .i64 q, .int .i64 u, .int .i64 v, .int .i64 c, .int .i64 i, .int .i64 x]] w fun e w' => e = .returned (.bool true) ∧ Below w.heap.size w w') := fun w => by have := narrow_any k p q u v c i x w; rw [show nw k = true from decide_eq_true (by omega)] at this; exact this
  have A4 : ∀ w : World, Calls Try.prog 16 #[.agg #[.int .i64 k, .int .i64 p, .int .i64 q, .int .i64 u, .int .i64 v, .int .i64 c, .int .i64 i, .int .i64 x], .int .i64 2, .agg #[.int .i64 p', .int .i64 q', .int .i64 u', .int .i64 v'], .agg (ints .u8 72 F).toArray] w fun e w' => e = .returned (.agg (ints .u8 72 G).toArray) ∧ Below w.heap.size w w' := fun w => by rw [← hG]; exact apply_any k p q u v c i x p' q' u' v' F hF 2 36 2 .chips hi64 w
  obtain ⟨x1, hx1⟩ : ∃ y, ex 1 9 8 G F = y := ⟨_, rfl⟩
  have B1 : ∀ w : World, Calls Try.prog 21 #[.int .i64 1, .agg (ints .u8 72 G).toArray, .agg (ints .u8 72 F).toArray] w fun e w' => e = .returned (.int .i64 (x1 : Int)) ∧ Below w.heap.size w w' := fun w => by rw [← hx1]; exact refExposure_any .bits G F hGb hF w
  have d5 : decide ((x1 : Int) ≤ 1) = true := decide_eq_true (by rw [← hx1, ← hG]; have := apF_bit 36 k p q u v c i x p' q' u' v' F hF (by omega); omega)
  clear hx1
  obtain ⟨x2, hx2⟩ : ∃ y, ex 2 36 2 G F = y := ⟨_, rfl⟩
  have B2 : ∀ w : World, Calls Try.prog 21 #[.int .i64 2, .agg (ints .u8 72 G).toArray, .agg (ints .u8 72 F).toArray] w fun e w' => e = .returned (.int .i64 (x2 : Int)) ∧ Below w.heap.size w w' := fun w => by rw [← hx2]; exact refExposure_any .chips G F hGb hF w
  have d6 : decide ((x2 : Int) ≤ 1) = true := decide_eq_true (by rw [← hx2, ← hG]; have := apF_byte k p q u v c i x p' q' u' v' F hF; omega)
  clear hx2
  have d1 : decide (0 ≤ i) = false := decide_eq_false (by omega)
  have d2 : decide (3 ≤ k) = false := decide_eq_false (by omega)
  obtain rfl : ch = -1 := by rw [← hch]; unfold cv; rw [if_pos (by omega), if_neg (by omega)]
  clear hk h1
  clear hi64
  obtain ⟨L, hL⟩ : ∃ L, ints .u8 72 F = L := ⟨_, rfl⟩
  obtain ⟨M, hM⟩ : ∃ M, ints .u8 72 G = M := ⟨_, rfl⟩
  obtain ⟨Z, hZ⟩ : ∃ Z, (ints .u8 72 fun _ => 0).toArray = Z := ⟨_, rfl⟩
  have hz := zeroR
  have i0 : (Try.prog.info? 41).map (·.size) = some L.length := by rw [← hL, ints_len]; exact infoR
  have i1 : (Try.prog.info? 41).map (·.size) = some M.length := by rw [← hM, ints_len]; exact infoR
  have j9 : (Try.prog.info? 41).map (·.size) = some M.toArray.size := by simpa using i1
  have one1 : M.toArray.all (·.oneCell') = true := by rw [← hM]; exact ints_one .u8 72 G
  have HL : Hid (ints .u8 72 F = L) := hL
  have HM : Hid (ints .u8 72 G = M) := hM
  have HZ : Hid ((ints .u8 72 fun _ => 0).toArray = Z) := hZ
  rw [hL, hM] at A4
  rw [hM, hL] at B1 B2
  rw [hZ] at hz
  rw [hL]
  have A5 : Hid (∀ w : World, Calls Try.prog 16 #[.agg #[.int .i64 k, .int .i64 p, .int .i64 q, .int .i64 u, .int .i64 v, .int .i64 c, .int .i64 i, .int .i64 x], .int .i64 2, .agg #[.int .i64 p', .int .i64 q', .int .i64 u', .int .i64 v'], .agg L.toArray] w fun e w' => e = .returned (.agg M.toArray) ∧ Below w.heap.size w w') := A4
  clear A4 hF hGb hG hch hZ
  go_enter Try.func5, Try.ntmps5
  go_upto_region 1 with (fail)
  obtain ⟨B, hB⟩ : ∃ B, w.heap.size = B := ⟨_, rfl⟩
  obtain ⟨C, hC⟩ : ∃ C, B + 1 = C := ⟨_, rfl⟩
  obtain ⟨D, hD⟩ : ∃ D, C + 1 = D := ⟨_, rfl⟩
  obtain ⟨V, hV⟩ : ∃ V, ((w.alloc (.cells #[.int .i64 k, .int .i64 p, .int .i64 q, .int .i64 u, .int .i64 v, .int .i64 c, .int .i64 i, .int .i64 x] 25)).alloc (.cells #[.int .i64 p', .int .i64 q', .int .i64 u', .int .i64 v'] 23)).alloc (.cells L.toArray 41) = V := ⟨_, rfl⟩
  have HS : Hid (Lw2 B C D k p q u v c i x p' q' u' v' L F w V) := by
    have a1 := Pl.new (w.alloc (.cells #[.int .i64 k, .int .i64 p, .int .i64 q, .int .i64 u, .int .i64 v, .int .i64 c, .int .i64 i, .int .i64 x] 25)) p' q' u' v' 23
    have a2 := Bk.new .u8 ((w.alloc (.cells #[.int .i64 k, .int .i64 p, .int .i64 q, .int .i64 u, .int .i64 v, .int .i64 c, .int .i64 i, .int .i64 x] 25)).alloc (.cells #[.int .i64 p', .int .i64 q', .int .i64 u', .int .i64 v'] 23)) 72 F 41
    rw [hL] at a2
    simp only [World.size_alloc] at a1 a2
    rw [← hV, ← hD, ← hC, ← hB]
    exact ⟨((Ft.new w k p q u v c i x _).alloc _).alloc _, a1.alloc _, a2, (((Below.refl _ w).alloc (Nat.le_refl _) _).alloc (by simp) _).alloc (by simp; omega) _, hL⟩
  rw [hV, hB, hC, hD]
  clear hV hC hD hL hM
  go_wp2_with (fail)
  refine (A0.out _).mono ?_
  rintro e W0 ⟨rfl, b0⟩
  replace HS : Hid (Lw2 B C D k p q u v c i x p' q' u' v' L F w W0) := HS.out.next b0
  clear b0
  go_wp2_with (fail)
  refine (A1.out _).mono ?_
  rintro e W1 ⟨rfl, rfl⟩
  go_wp2_with (first
    | refine wpList_load_mid rfl 25 _ rfl B 0 rfl [.int .i64 k, .int .i64 p, .int .i64 q, .int .i64 u, .int .i64 v, .int .i64 c, .int .i64 i, .int .i64 x] _ (by exact HS.out.f.range) Try.underlying25 rfl infoF ?_
    | refine wpList_load_g (by rfl) 25 _ rfl B 0 rfl [.int .i64 k, .int .i64 p, .int .i64 q, .int .i64 u, .int .i64 v, .int .i64 c, .int .i64 i, .int .i64 x] _ (by exact HS.out.f.range) Try.underlying25 rfl infoF ?_
    | refine wpList_load_mid rfl 23 _ rfl C 0 rfl [.int .i64 p', .int .i64 q', .int .i64 u', .int .i64 v'] _ (by exact HS.out.g.range) Try.underlying23 rfl infoP ?_
    | refine wpList_load_mid rfl 41 _ rfl D 0 rfl L _ (by exact HS.out.rr) Try.underlying41 rfl i0 ?_
    | refine wpList_load_g (by rfl) 41 _ rfl D 0 rfl L _ (by exact HS.out.rr) Try.underlying41 rfl i0 ?_)
  refine (A2.out _).mono ?_
  rintro e W1 ⟨rfl, b1⟩
  replace HS : Hid (Lw2 B C D k p q u v c i x p' q' u' v' L F w W1) := HS.out.next b1
  clear b1
  go_wp2_with (first
    | refine wpList_load_mid rfl 25 _ rfl B 0 rfl [.int .i64 k, .int .i64 p, .int .i64 q, .int .i64 u, .int .i64 v, .int .i64 c, .int .i64 i, .int .i64 x] _ (by exact HS.out.f.range) Try.underlying25 rfl infoF ?_
    | refine wpList_load_g (by rfl) 25 _ rfl B 0 rfl [.int .i64 k, .int .i64 p, .int .i64 q, .int .i64 u, .int .i64 v, .int .i64 c, .int .i64 i, .int .i64 x] _ (by exact HS.out.f.range) Try.underlying25 rfl infoF ?_
    | refine wpList_load_mid rfl 23 _ rfl C 0 rfl [.int .i64 p', .int .i64 q', .int .i64 u', .int .i64 v'] _ (by exact HS.out.g.range) Try.underlying23 rfl infoP ?_
    | refine wpList_load_mid rfl 41 _ rfl D 0 rfl L _ (by exact HS.out.rr) Try.underlying41 rfl i0 ?_
    | refine wpList_load_g (by rfl) 41 _ rfl D 0 rfl L _ (by exact HS.out.rr) Try.underlying41 rfl i0 ?_)
  refine (A3.out _).mono ?_
  rintro e W2 ⟨rfl, b2⟩
  replace HS : Hid (Lw2 B C D k p q u v c i x p' q' u' v' L F w W2) := HS.out.next b2
  clear b2
  have f0 := HS.out.f.c0; have f5 := HS.out.f.c5; have f6 := HS.out.f.c6
  go_upto_region 12 with (fail)
  clear f0 f5 f6 d1 d2
  go_wp2_with (first
    | refine wpList_load_mid rfl 25 _ rfl B 0 rfl [.int .i64 k, .int .i64 p, .int .i64 q, .int .i64 u, .int .i64 v, .int .i64 c, .int .i64 i, .int .i64 x] _ (by exact HS.out.f.range) Try.underlying25 rfl infoF ?_
    | refine wpList_load_g (by rfl) 25 _ rfl B 0 rfl [.int .i64 k, .int .i64 p, .int .i64 q, .int .i64 u, .int .i64 v, .int .i64 c, .int .i64 i, .int .i64 x] _ (by exact HS.out.f.range) Try.underlying25 rfl infoF ?_
    | refine wpList_load_mid rfl 23 _ rfl C 0 rfl [.int .i64 p', .int .i64 q', .int .i64 u', .int .i64 v'] _ (by exact HS.out.g.range) Try.underlying23 rfl infoP ?_
    | refine wpList_load_mid rfl 41 _ rfl D 0 rfl L _ (by exact HS.out.rr) Try.underlying41 rfl i0 ?_
    | refine wpList_load_g (by rfl) 41 _ rfl D 0 rfl L _ (by exact HS.out.rr) Try.underlying41 rfl i0 ?_)
  refine (A5.out _).mono ?_
  rintro e W3 ⟨rfl, b3⟩
  have h9 := laid72 W3 41 G
  obtain ⟨ht, HX⟩ : (W3.alloc (.cells Z 41)).there W3.heap.size 0 M.toArray.size ∧ Hid (Lx2 B C D W3.heap.size k p q u v c i x p' q' u' v' L F M G w ((W3.alloc (.cells Z 41)).setCells W3.heap.size 0 M)) := by
    rw [HM.out, HZ.out] at h9
    exact ⟨h9.2.2, (HS.out.next b3).next h9.2.1, h9.1, HM.out⟩
  clear h9 HS b3
  go_upto_region 13 with (first | refine wpList_store_mid rfl 41 _ _ rfl _ 0 M.toArray rfl rfl ht j9 one1 ?_)
  obtain ⟨W4, hW4⟩ : ∃ W4, (W3.alloc (.cells Z 41)).setCells W3.heap.size 0 M = W4 := ⟨_, rfl⟩
  obtain ⟨E, hE⟩ : ∃ E, W3.heap.size = E := ⟨_, rfl⟩
  rw [hE] at hW4 HX ⊢
  rw [hW4] at HX ⊢
  have HS := HX
  clear HX hW4 ht hE
  go_wp2
  go_loopw [74] (fun a wr => ∃ y : Nat, y ≤ 72 ∧ a = .int .i64 (y : Int) ∧ Hid (Lx2 B C D E k p q u v c i x p' q' u' v' L F M G w wr)) (fun a _ => 72 - (intOf a).toNat)
  case atStart => exact ⟨0, by omega, rfl, HS⟩
  case round =>
    clear HS
    obtain ⟨y, hy, rfl, HS⟩ := hrel
    by_cases hlt : y < 72
    · have g1 := HS.out.x.cell y hlt
      have g2 := HS.out.s.r.cell y hlt
      have e9 : ((y : Int).tmod 36) = (y : Int) % 36 := Int.tmod_eq_emod_of_nonneg (by omega)
      obtain ⟨a1, ha1⟩ : ∃ a, G y = a := ⟨_, rfl⟩
      obtain ⟨a2, ha2⟩ : ∃ a, F y = a := ⟨_, rfl⟩
      have HC2 := HC.out y
      rw [ha1, ha2] at HC2
      rw [ha1] at g1
      rw [ha2] at g2
      clear ha1 ha2 HC
      by_cases hne : a1 = a2
      · have d1 : (a1 != a2) = false := by simpa using hne
        clear HC2 hne
        go_wp2
        go_quiet (fail)
        go_wp2
        go_roundw
        case rel => exact ⟨y + 1, by omega, by go_num, HS.out.drewN _⟩
        case measure => simp [intOf]; omega
      · exact absurd (HC2 hne) (by omega)
    · obtain rfl : y = 72 := by omega
      clear HC
      go_wp2_with (first
          | refine wpList_load_mid rfl 25 _ rfl B 0 rfl [.int .i64 k, .int .i64 p, .int .i64 q, .int .i64 u, .int .i64 v, .int .i64 c, .int .i64 i, .int .i64 x] _ (by exact HS.out.s.f.range) Try.underlying25 rfl infoF ?_
          | refine wpList_load_g (by rfl) 25 _ rfl B 0 rfl [.int .i64 k, .int .i64 p, .int .i64 q, .int .i64 u, .int .i64 v, .int .i64 c, .int .i64 i, .int .i64 x] _ (by exact HS.out.s.f.range) Try.underlying25 rfl infoF ?_
          | refine wpList_load_mid rfl 23 _ rfl C 0 rfl [.int .i64 p', .int .i64 q', .int .i64 u', .int .i64 v'] _ (by exact HS.out.s.g.range) Try.underlying23 rfl infoP ?_
          | refine wpList_load_mid rfl 41 _ rfl D 0 rfl L _ (by exact HS.out.s.rr) Try.underlying41 rfl i0 ?_
          | refine wpList_load_g (by rfl) 41 _ rfl D 0 rfl L _ (by exact HS.out.s.rr) Try.underlying41 rfl i0 ?_
          | refine wpList_load_g (by rfl) 41 _ rfl E 0 rfl M _ (by exact HS.out.rx) Try.underlying41 rfl i1 ?_
          | refine wpList_load_mid rfl 41 _ rfl E 0 rfl M _ (by exact HS.out.rx) Try.underlying41 rfl i1 ?_)
      refine (A3.out _).mono ?_
      rintro e W5 ⟨rfl, b5⟩
      replace HS : Hid (Lx2 B C D E k p q u v c i x p' q' u' v' L F M G w W5) := HS.out.next b5
      clear b5
      go_wp2_with (first
          | refine wpList_load_mid rfl 25 _ rfl B 0 rfl [.int .i64 k, .int .i64 p, .int .i64 q, .int .i64 u, .int .i64 v, .int .i64 c, .int .i64 i, .int .i64 x] _ (by exact HS.out.s.f.range) Try.underlying25 rfl infoF ?_
          | refine wpList_load_g (by rfl) 25 _ rfl B 0 rfl [.int .i64 k, .int .i64 p, .int .i64 q, .int .i64 u, .int .i64 v, .int .i64 c, .int .i64 i, .int .i64 x] _ (by exact HS.out.s.f.range) Try.underlying25 rfl infoF ?_
          | refine wpList_load_mid rfl 23 _ rfl C 0 rfl [.int .i64 p', .int .i64 q', .int .i64 u', .int .i64 v'] _ (by exact HS.out.s.g.range) Try.underlying23 rfl infoP ?_
          | refine wpList_load_mid rfl 41 _ rfl D 0 rfl L _ (by exact HS.out.s.rr) Try.underlying41 rfl i0 ?_
          | refine wpList_load_g (by rfl) 41 _ rfl D 0 rfl L _ (by exact HS.out.s.rr) Try.underlying41 rfl i0 ?_
          | refine wpList_load_g (by rfl) 41 _ rfl E 0 rfl M _ (by exact HS.out.rx) Try.underlying41 rfl i1 ?_
          | refine wpList_load_mid rfl 41 _ rfl E 0 rfl M _ (by exact HS.out.rx) Try.underlying41 rfl i1 ?_)
      refine (B1 _).mono ?_
      rintro e W6 ⟨rfl, b6⟩
      replace HS : Hid (Lx2 B C D E k p q u v c i x p' q' u' v' L F M G w W6) := HS.out.next b6
      clear b6
      go_wp2_with (first
          | refine wpList_load_mid rfl 25 _ rfl B 0 rfl [.int .i64 k, .int .i64 p, .int .i64 q, .int .i64 u, .int .i64 v, .int .i64 c, .int .i64 i, .int .i64 x] _ (by exact HS.out.s.f.range) Try.underlying25 rfl infoF ?_
          | refine wpList_load_g (by rfl) 25 _ rfl B 0 rfl [.int .i64 k, .int .i64 p, .int .i64 q, .int .i64 u, .int .i64 v, .int .i64 c, .int .i64 i, .int .i64 x] _ (by exact HS.out.s.f.range) Try.underlying25 rfl infoF ?_
          | refine wpList_load_mid rfl 23 _ rfl C 0 rfl [.int .i64 p', .int .i64 q', .int .i64 u', .int .i64 v'] _ (by exact HS.out.s.g.range) Try.underlying23 rfl infoP ?_
          | refine wpList_load_mid rfl 41 _ rfl D 0 rfl L _ (by exact HS.out.s.rr) Try.underlying41 rfl i0 ?_
          | refine wpList_load_g (by rfl) 41 _ rfl D 0 rfl L _ (by exact HS.out.s.rr) Try.underlying41 rfl i0 ?_
          | refine wpList_load_g (by rfl) 41 _ rfl E 0 rfl M _ (by exact HS.out.rx) Try.underlying41 rfl i1 ?_
          | refine wpList_load_mid rfl 41 _ rfl E 0 rfl M _ (by exact HS.out.rx) Try.underlying41 rfl i1 ?_)
      refine (B2 _).mono ?_
      rintro e W7 ⟨rfl, b7⟩
      replace HS : Hid (Lx2 B C D E k p q u v c i x p' q' u' v' L F M G w W7) := HS.out.next b7
      clear b7
      go_wp2
      go_ret
      exact ⟨rfl, by first | exact HS.out.s.n | (rw [hB]; exact HS.out.s.n)⟩
set_option maxRecDepth 100000 in
set_option maxHeartbeats 4000000 in
theorem faultCovers_2A2 (k p q u v c i x : Int) (p' q' u' v' : Int) (F : Nat → Int) (hF : Byts 72 F) (hi64 : i ≤ 9223372036854775807) (hk : k = 1 ∨ k = 2) (h1 : 576 ≤ i) (w : World) :
    Calls Try.prog 5 #[.agg #[.int .i64 k, .int .i64 p, .int .i64 q, .int .i64 u, .int .i64 v, .int .i64 c, .int .i64 i, .int .i64 x], .int .i64 2, .agg #[.int .i64 p', .int .i64 q', .int .i64 u', .int .i64 v'], .agg (ints .u8 72 F).toArray] w fun e w' => e = .returned (.bool true) ∧ Below w.heap.size w w' := by
  obtain ⟨G, hG⟩ : ∃ G, apF 36 k p q u v c i x p' q' u' v' F = G := ⟨_, rfl⟩
  obtain ⟨ch, hch⟩ : ∃ y, cv 36 k c i = y := ⟨_, rfl⟩
  have hGb : Byts 72 G := by rw [← hG]; exact apF_byt _ _ _ _ _ _ _ _ _ _ _ _ _ F hF
  have HC : Hid (∀ y : Nat, G y ≠ F y → (y : Int) % 36 = ch) := fun y hy => by rw [← hch]; rw [← hG] at hy; exact apF_cv (by omega) hy
  have A0 : Hid (∀ w : World, Calls Try.prog 8 #[] w fun e w' => e = .returned (.bool true) ∧ Below w.heap.size w w') := anchor11_any
  have A1 : Hid (∀ w : World, Calls Try.prog 20 #[.int .i64 2] w fun e w' => e = .returned (.int .i64 36) ∧ w' = w) := fun w => refChips_any .chips w
  have A2 : Hid (∀ w : World, Calls Try.prog 19 #[.agg #[.int .i64 k, .int .i64 p, .int .i64 q, .int .i64 u, .int .i64 v, .int .i64 c, .int .i64 i, .int .i64 x], .int .i64 2] w fun e w' => e = .returned (.int .i64 ch) ∧ Below w.heap.size w w') := fun w => by rw [← hch]; exact covers_any k p q u v c i x 2 36 2 .chips w
  have A3 : Hid (∀ w : World, Calls Try.prog 15 #[.agg #[.int .i64 k, .int .i64 p, .int .i64 q, .int .i64 u, .int .i64 v, .int .i64 c, .int .i64 i, .int .i64 x]] w fun e w' => e = .returned (.bool true) ∧ Below w.heap.size w w') := fun w => by have := narrow_any k p q u v c i x w; rw [show nw k = true from decide_eq_true (by omega)] at this; exact this
  have A4 : ∀ w : World, Calls Try.prog 16 #[.agg #[.int .i64 k, .int .i64 p, .int .i64 q, .int .i64 u, .int .i64 v, .int .i64 c, .int .i64 i, .int .i64 x], .int .i64 2, .agg #[.int .i64 p', .int .i64 q', .int .i64 u', .int .i64 v'], .agg (ints .u8 72 F).toArray] w fun e w' => e = .returned (.agg (ints .u8 72 G).toArray) ∧ Below w.heap.size w w' := fun w => by rw [← hG]; exact apply_any k p q u v c i x p' q' u' v' F hF 2 36 2 .chips hi64 w
  obtain ⟨x1, hx1⟩ : ∃ y, ex 1 9 8 G F = y := ⟨_, rfl⟩
  have B1 : ∀ w : World, Calls Try.prog 21 #[.int .i64 1, .agg (ints .u8 72 G).toArray, .agg (ints .u8 72 F).toArray] w fun e w' => e = .returned (.int .i64 (x1 : Int)) ∧ Below w.heap.size w w' := fun w => by rw [← hx1]; exact refExposure_any .bits G F hGb hF w
  have d5 : decide ((x1 : Int) ≤ 1) = true := decide_eq_true (by rw [← hx1, ← hG]; have := apF_bit 36 k p q u v c i x p' q' u' v' F hF (by omega); omega)
  clear hx1
  obtain ⟨x2, hx2⟩ : ∃ y, ex 2 36 2 G F = y := ⟨_, rfl⟩
  have B2 : ∀ w : World, Calls Try.prog 21 #[.int .i64 2, .agg (ints .u8 72 G).toArray, .agg (ints .u8 72 F).toArray] w fun e w' => e = .returned (.int .i64 (x2 : Int)) ∧ Below w.heap.size w w' := fun w => by rw [← hx2]; exact refExposure_any .chips G F hGb hF w
  have d6 : decide ((x2 : Int) ≤ 1) = true := decide_eq_true (by rw [← hx2, ← hG]; have := apF_byte k p q u v c i x p' q' u' v' F hF; omega)
  clear hx2
  have d1 : decide (0 ≤ i) = true := decide_eq_true (by omega)
  have d2 : decide (i < 576) = false := decide_eq_false (by omega)
  have d3 : decide (3 ≤ k) = false := decide_eq_false (by omega)
  obtain rfl : ch = -1 := by rw [← hch]; unfold cv; rw [if_pos (by omega), if_neg (by omega)]
  clear hk h1
  clear hi64
  obtain ⟨L, hL⟩ : ∃ L, ints .u8 72 F = L := ⟨_, rfl⟩
  obtain ⟨M, hM⟩ : ∃ M, ints .u8 72 G = M := ⟨_, rfl⟩
  obtain ⟨Z, hZ⟩ : ∃ Z, (ints .u8 72 fun _ => 0).toArray = Z := ⟨_, rfl⟩
  have hz := zeroR
  have i0 : (Try.prog.info? 41).map (·.size) = some L.length := by rw [← hL, ints_len]; exact infoR
  have i1 : (Try.prog.info? 41).map (·.size) = some M.length := by rw [← hM, ints_len]; exact infoR
  have j9 : (Try.prog.info? 41).map (·.size) = some M.toArray.size := by simpa using i1
  have one1 : M.toArray.all (·.oneCell') = true := by rw [← hM]; exact ints_one .u8 72 G
  have HL : Hid (ints .u8 72 F = L) := hL
  have HM : Hid (ints .u8 72 G = M) := hM
  have HZ : Hid ((ints .u8 72 fun _ => 0).toArray = Z) := hZ
  rw [hL, hM] at A4
  rw [hM, hL] at B1 B2
  rw [hZ] at hz
  rw [hL]
  have A5 : Hid (∀ w : World, Calls Try.prog 16 #[.agg #[.int .i64 k, .int .i64 p, .int .i64 q, .int .i64 u, .int .i64 v, .int .i64 c, .int .i64 i, .int .i64 x], .int .i64 2, .agg #[.int .i64 p', .int .i64 q', .int .i64 u', .int .i64 v'], .agg L.toArray] w fun e w' => e = .returned (.agg M.toArray) ∧ Below w.heap.size w w') := A4
  clear A4 hF hGb hG hch hZ
  go_enter Try.func5, Try.ntmps5
  go_upto_region 1 with (fail)
  obtain ⟨B, hB⟩ : ∃ B, w.heap.size = B := ⟨_, rfl⟩
  obtain ⟨C, hC⟩ : ∃ C, B + 1 = C := ⟨_, rfl⟩
  obtain ⟨D, hD⟩ : ∃ D, C + 1 = D := ⟨_, rfl⟩
  obtain ⟨V, hV⟩ : ∃ V, ((w.alloc (.cells #[.int .i64 k, .int .i64 p, .int .i64 q, .int .i64 u, .int .i64 v, .int .i64 c, .int .i64 i, .int .i64 x] 25)).alloc (.cells #[.int .i64 p', .int .i64 q', .int .i64 u', .int .i64 v'] 23)).alloc (.cells L.toArray 41) = V := ⟨_, rfl⟩
  have HS : Hid (Lw2 B C D k p q u v c i x p' q' u' v' L F w V) := by
    have a1 := Pl.new (w.alloc (.cells #[.int .i64 k, .int .i64 p, .int .i64 q, .int .i64 u, .int .i64 v, .int .i64 c, .int .i64 i, .int .i64 x] 25)) p' q' u' v' 23
    have a2 := Bk.new .u8 ((w.alloc (.cells #[.int .i64 k, .int .i64 p, .int .i64 q, .int .i64 u, .int .i64 v, .int .i64 c, .int .i64 i, .int .i64 x] 25)).alloc (.cells #[.int .i64 p', .int .i64 q', .int .i64 u', .int .i64 v'] 23)) 72 F 41
    rw [hL] at a2
    simp only [World.size_alloc] at a1 a2
    rw [← hV, ← hD, ← hC, ← hB]
    exact ⟨((Ft.new w k p q u v c i x _).alloc _).alloc _, a1.alloc _, a2, (((Below.refl _ w).alloc (Nat.le_refl _) _).alloc (by simp) _).alloc (by simp; omega) _, hL⟩
  rw [hV, hB, hC, hD]
  clear hV hC hD hL hM
  go_wp2_with (fail)
  refine (A0.out _).mono ?_
  rintro e W0 ⟨rfl, b0⟩
  replace HS : Hid (Lw2 B C D k p q u v c i x p' q' u' v' L F w W0) := HS.out.next b0
  clear b0
  go_wp2_with (fail)
  refine (A1.out _).mono ?_
  rintro e W1 ⟨rfl, rfl⟩
  go_wp2_with (first
    | refine wpList_load_mid rfl 25 _ rfl B 0 rfl [.int .i64 k, .int .i64 p, .int .i64 q, .int .i64 u, .int .i64 v, .int .i64 c, .int .i64 i, .int .i64 x] _ (by exact HS.out.f.range) Try.underlying25 rfl infoF ?_
    | refine wpList_load_g (by rfl) 25 _ rfl B 0 rfl [.int .i64 k, .int .i64 p, .int .i64 q, .int .i64 u, .int .i64 v, .int .i64 c, .int .i64 i, .int .i64 x] _ (by exact HS.out.f.range) Try.underlying25 rfl infoF ?_
    | refine wpList_load_mid rfl 23 _ rfl C 0 rfl [.int .i64 p', .int .i64 q', .int .i64 u', .int .i64 v'] _ (by exact HS.out.g.range) Try.underlying23 rfl infoP ?_
    | refine wpList_load_mid rfl 41 _ rfl D 0 rfl L _ (by exact HS.out.rr) Try.underlying41 rfl i0 ?_
    | refine wpList_load_g (by rfl) 41 _ rfl D 0 rfl L _ (by exact HS.out.rr) Try.underlying41 rfl i0 ?_)
  refine (A2.out _).mono ?_
  rintro e W1 ⟨rfl, b1⟩
  replace HS : Hid (Lw2 B C D k p q u v c i x p' q' u' v' L F w W1) := HS.out.next b1
  clear b1
  go_wp2_with (first
    | refine wpList_load_mid rfl 25 _ rfl B 0 rfl [.int .i64 k, .int .i64 p, .int .i64 q, .int .i64 u, .int .i64 v, .int .i64 c, .int .i64 i, .int .i64 x] _ (by exact HS.out.f.range) Try.underlying25 rfl infoF ?_
    | refine wpList_load_g (by rfl) 25 _ rfl B 0 rfl [.int .i64 k, .int .i64 p, .int .i64 q, .int .i64 u, .int .i64 v, .int .i64 c, .int .i64 i, .int .i64 x] _ (by exact HS.out.f.range) Try.underlying25 rfl infoF ?_
    | refine wpList_load_mid rfl 23 _ rfl C 0 rfl [.int .i64 p', .int .i64 q', .int .i64 u', .int .i64 v'] _ (by exact HS.out.g.range) Try.underlying23 rfl infoP ?_
    | refine wpList_load_mid rfl 41 _ rfl D 0 rfl L _ (by exact HS.out.rr) Try.underlying41 rfl i0 ?_
    | refine wpList_load_g (by rfl) 41 _ rfl D 0 rfl L _ (by exact HS.out.rr) Try.underlying41 rfl i0 ?_)
  refine (A3.out _).mono ?_
  rintro e W2 ⟨rfl, b2⟩
  replace HS : Hid (Lw2 B C D k p q u v c i x p' q' u' v' L F w W2) := HS.out.next b2
  clear b2
  have f0 := HS.out.f.c0; have f5 := HS.out.f.c5; have f6 := HS.out.f.c6
  go_upto_region 12 with (fail)
  clear f0 f5 f6 d1 d2 d3
  go_wp2_with (first
    | refine wpList_load_mid rfl 25 _ rfl B 0 rfl [.int .i64 k, .int .i64 p, .int .i64 q, .int .i64 u, .int .i64 v, .int .i64 c, .int .i64 i, .int .i64 x] _ (by exact HS.out.f.range) Try.underlying25 rfl infoF ?_
    | refine wpList_load_g (by rfl) 25 _ rfl B 0 rfl [.int .i64 k, .int .i64 p, .int .i64 q, .int .i64 u, .int .i64 v, .int .i64 c, .int .i64 i, .int .i64 x] _ (by exact HS.out.f.range) Try.underlying25 rfl infoF ?_
    | refine wpList_load_mid rfl 23 _ rfl C 0 rfl [.int .i64 p', .int .i64 q', .int .i64 u', .int .i64 v'] _ (by exact HS.out.g.range) Try.underlying23 rfl infoP ?_
    | refine wpList_load_mid rfl 41 _ rfl D 0 rfl L _ (by exact HS.out.rr) Try.underlying41 rfl i0 ?_
    | refine wpList_load_g (by rfl) 41 _ rfl D 0 rfl L _ (by exact HS.out.rr) Try.underlying41 rfl i0 ?_)
  refine (A5.out _).mono ?_
  rintro e W3 ⟨rfl, b3⟩
  have h9 := laid72 W3 41 G
  obtain ⟨ht, HX⟩ : (W3.alloc (.cells Z 41)).there W3.heap.size 0 M.toArray.size ∧ Hid (Lx2 B C D W3.heap.size k p q u v c i x p' q' u' v' L F M G w ((W3.alloc (.cells Z 41)).setCells W3.heap.size 0 M)) := by
    rw [HM.out, HZ.out] at h9
    exact ⟨h9.2.2, (HS.out.next b3).next h9.2.1, h9.1, HM.out⟩
  clear h9 HS b3
  go_upto_region 13 with (first | refine wpList_store_mid rfl 41 _ _ rfl _ 0 M.toArray rfl rfl ht j9 one1 ?_)
  obtain ⟨W4, hW4⟩ : ∃ W4, (W3.alloc (.cells Z 41)).setCells W3.heap.size 0 M = W4 := ⟨_, rfl⟩
  obtain ⟨E, hE⟩ : ∃ E, W3.heap.size = E := ⟨_, rfl⟩
  rw [hE] at hW4 HX ⊢
  rw [hW4] at HX ⊢
  have HS := HX
  clear HX hW4 ht hE
  go_wp2
  go_loopw [74] (fun a wr => ∃ y : Nat, y ≤ 72 ∧ a = .int .i64 (y : Int) ∧ Hid (Lx2 B C D E k p q u v c i x p' q' u' v' L F M G w wr)) (fun a _ => 72 - (intOf a).toNat)
  case atStart => exact ⟨0, by omega, rfl, HS⟩
  case round =>
    clear HS
    obtain ⟨y, hy, rfl, HS⟩ := hrel
    by_cases hlt : y < 72
    · have g1 := HS.out.x.cell y hlt
      have g2 := HS.out.s.r.cell y hlt
      have e9 : ((y : Int).tmod 36) = (y : Int) % 36 := Int.tmod_eq_emod_of_nonneg (by omega)
      obtain ⟨a1, ha1⟩ : ∃ a, G y = a := ⟨_, rfl⟩
      obtain ⟨a2, ha2⟩ : ∃ a, F y = a := ⟨_, rfl⟩
      have HC2 := HC.out y
      rw [ha1, ha2] at HC2
      rw [ha1] at g1
      rw [ha2] at g2
      clear ha1 ha2 HC
      by_cases hne : a1 = a2
      · have d1 : (a1 != a2) = false := by simpa using hne
        clear HC2 hne
        go_wp2
        go_quiet (fail)
        go_wp2
        go_roundw
        case rel => exact ⟨y + 1, by omega, by go_num, HS.out.drewN _⟩
        case measure => simp [intOf]; omega
      · exact absurd (HC2 hne) (by omega)
    · obtain rfl : y = 72 := by omega
      clear HC
      go_wp2_with (first
          | refine wpList_load_mid rfl 25 _ rfl B 0 rfl [.int .i64 k, .int .i64 p, .int .i64 q, .int .i64 u, .int .i64 v, .int .i64 c, .int .i64 i, .int .i64 x] _ (by exact HS.out.s.f.range) Try.underlying25 rfl infoF ?_
          | refine wpList_load_g (by rfl) 25 _ rfl B 0 rfl [.int .i64 k, .int .i64 p, .int .i64 q, .int .i64 u, .int .i64 v, .int .i64 c, .int .i64 i, .int .i64 x] _ (by exact HS.out.s.f.range) Try.underlying25 rfl infoF ?_
          | refine wpList_load_mid rfl 23 _ rfl C 0 rfl [.int .i64 p', .int .i64 q', .int .i64 u', .int .i64 v'] _ (by exact HS.out.s.g.range) Try.underlying23 rfl infoP ?_
          | refine wpList_load_mid rfl 41 _ rfl D 0 rfl L _ (by exact HS.out.s.rr) Try.underlying41 rfl i0 ?_
          | refine wpList_load_g (by rfl) 41 _ rfl D 0 rfl L _ (by exact HS.out.s.rr) Try.underlying41 rfl i0 ?_
          | refine wpList_load_g (by rfl) 41 _ rfl E 0 rfl M _ (by exact HS.out.rx) Try.underlying41 rfl i1 ?_
          | refine wpList_load_mid rfl 41 _ rfl E 0 rfl M _ (by exact HS.out.rx) Try.underlying41 rfl i1 ?_)
      refine (A3.out _).mono ?_
      rintro e W5 ⟨rfl, b5⟩
      replace HS : Hid (Lx2 B C D E k p q u v c i x p' q' u' v' L F M G w W5) := HS.out.next b5
      clear b5
      go_wp2_with (first
          | refine wpList_load_mid rfl 25 _ rfl B 0 rfl [.int .i64 k, .int .i64 p, .int .i64 q, .int .i64 u, .int .i64 v, .int .i64 c, .int .i64 i, .int .i64 x] _ (by exact HS.out.s.f.range) Try.underlying25 rfl infoF ?_
          | refine wpList_load_g (by rfl) 25 _ rfl B 0 rfl [.int .i64 k, .int .i64 p, .int .i64 q, .int .i64 u, .int .i64 v, .int .i64 c, .int .i64 i, .int .i64 x] _ (by exact HS.out.s.f.range) Try.underlying25 rfl infoF ?_
          | refine wpList_load_mid rfl 23 _ rfl C 0 rfl [.int .i64 p', .int .i64 q', .int .i64 u', .int .i64 v'] _ (by exact HS.out.s.g.range) Try.underlying23 rfl infoP ?_
          | refine wpList_load_mid rfl 41 _ rfl D 0 rfl L _ (by exact HS.out.s.rr) Try.underlying41 rfl i0 ?_
          | refine wpList_load_g (by rfl) 41 _ rfl D 0 rfl L _ (by exact HS.out.s.rr) Try.underlying41 rfl i0 ?_
          | refine wpList_load_g (by rfl) 41 _ rfl E 0 rfl M _ (by exact HS.out.rx) Try.underlying41 rfl i1 ?_
          | refine wpList_load_mid rfl 41 _ rfl E 0 rfl M _ (by exact HS.out.rx) Try.underlying41 rfl i1 ?_)
      refine (B1 _).mono ?_
      rintro e W6 ⟨rfl, b6⟩
      replace HS : Hid (Lx2 B C D E k p q u v c i x p' q' u' v' L F M G w W6) := HS.out.next b6
      clear b6
      go_wp2_with (first
          | refine wpList_load_mid rfl 25 _ rfl B 0 rfl [.int .i64 k, .int .i64 p, .int .i64 q, .int .i64 u, .int .i64 v, .int .i64 c, .int .i64 i, .int .i64 x] _ (by exact HS.out.s.f.range) Try.underlying25 rfl infoF ?_
          | refine wpList_load_g (by rfl) 25 _ rfl B 0 rfl [.int .i64 k, .int .i64 p, .int .i64 q, .int .i64 u, .int .i64 v, .int .i64 c, .int .i64 i, .int .i64 x] _ (by exact HS.out.s.f.range) Try.underlying25 rfl infoF ?_
          | refine wpList_load_mid rfl 23 _ rfl C 0 rfl [.int .i64 p', .int .i64 q', .int .i64 u', .int .i64 v'] _ (by exact HS.out.s.g.range) Try.underlying23 rfl infoP ?_
          | refine wpList_load_mid rfl 41 _ rfl D 0 rfl L _ (by exact HS.out.s.rr) Try.underlying41 rfl i0 ?_
          | refine wpList_load_g (by rfl) 41 _ rfl D 0 rfl L _ (by exact HS.out.s.rr) Try.underlying41 rfl i0 ?_
          | refine wpList_load_g (by rfl) 41 _ rfl E 0 rfl M _ (by exact HS.out.rx) Try.underlying41 rfl i1 ?_
          | refine wpList_load_mid rfl 41 _ rfl E 0 rfl M _ (by exact HS.out.rx) Try.underlying41 rfl i1 ?_)
      refine (B2 _).mono ?_
      rintro e W7 ⟨rfl, b7⟩
      replace HS : Hid (Lx2 B C D E k p q u v c i x p' q' u' v' L F M G w W7) := HS.out.next b7
      clear b7
      go_wp2
      go_ret
      exact ⟨rfl, by first | exact HS.out.s.n | (rw [hB]; exact HS.out.s.n)⟩
set_option maxRecDepth 100000 in
set_option maxHeartbeats 4000000 in
theorem faultCovers_2B1 (k p q u v c i x : Int) (p' q' u' v' : Int) (F : Nat → Int) (hF : Byts 72 F) (hi64 : i ≤ 9223372036854775807) (hk : k < 1) (w : World) :
    Calls Try.prog 5 #[.agg #[.int .i64 k, .int .i64 p, .int .i64 q, .int .i64 u, .int .i64 v, .int .i64 c, .int .i64 i, .int .i64 x], .int .i64 2, .agg #[.int .i64 p', .int .i64 q', .int .i64 u', .int .i64 v'], .agg (ints .u8 72 F).toArray] w fun e w' => e = .returned (.bool true) ∧ Below w.heap.size w w' := by
  obtain ⟨G, hG⟩ : ∃ G, apF 36 k p q u v c i x p' q' u' v' F = G := ⟨_, rfl⟩
  obtain ⟨ch, hch⟩ : ∃ y, cv 36 k c i = y := ⟨_, rfl⟩
  have hGb : Byts 72 G := by rw [← hG]; exact apF_byt _ _ _ _ _ _ _ _ _ _ _ _ _ F hF
  have HC : Hid (∀ y : Nat, G y ≠ F y → (y : Int) % 36 = ch) := fun y hy => by rw [← hch]; rw [← hG] at hy; exact apF_cv (by omega) hy
  have A0 : Hid (∀ w : World, Calls Try.prog 8 #[] w fun e w' => e = .returned (.bool true) ∧ Below w.heap.size w w') := anchor11_any
  have A1 : Hid (∀ w : World, Calls Try.prog 20 #[.int .i64 2] w fun e w' => e = .returned (.int .i64 36) ∧ w' = w) := fun w => refChips_any .chips w
  have A2 : Hid (∀ w : World, Calls Try.prog 19 #[.agg #[.int .i64 k, .int .i64 p, .int .i64 q, .int .i64 u, .int .i64 v, .int .i64 c, .int .i64 i, .int .i64 x], .int .i64 2] w fun e w' => e = .returned (.int .i64 ch) ∧ Below w.heap.size w w') := fun w => by rw [← hch]; exact covers_any k p q u v c i x 2 36 2 .chips w
  have A3 : Hid (∀ w : World, Calls Try.prog 15 #[.agg #[.int .i64 k, .int .i64 p, .int .i64 q, .int .i64 u, .int .i64 v, .int .i64 c, .int .i64 i, .int .i64 x]] w fun e w' => e = .returned (.bool false) ∧ Below w.heap.size w w') := fun w => by have := narrow_any k p q u v c i x w; rw [show nw k = false from decide_eq_false (by omega)] at this; exact this
  have A4 : ∀ w : World, Calls Try.prog 16 #[.agg #[.int .i64 k, .int .i64 p, .int .i64 q, .int .i64 u, .int .i64 v, .int .i64 c, .int .i64 i, .int .i64 x], .int .i64 2, .agg #[.int .i64 p', .int .i64 q', .int .i64 u', .int .i64 v'], .agg (ints .u8 72 F).toArray] w fun e w' => e = .returned (.agg (ints .u8 72 G).toArray) ∧ Below w.heap.size w w' := fun w => by rw [← hG]; exact apply_any k p q u v c i x p' q' u' v' F hF 2 36 2 .chips hi64 w
  obtain ⟨x2, hx2⟩ : ∃ y, ex 2 36 2 G F = y := ⟨_, rfl⟩
  have B2 : ∀ w : World, Calls Try.prog 21 #[.int .i64 2, .agg (ints .u8 72 G).toArray, .agg (ints .u8 72 F).toArray] w fun e w' => e = .returned (.int .i64 (x2 : Int)) ∧ Below w.heap.size w w' := fun w => by rw [← hx2]; exact refExposure_any .chips G F hGb hF w
  have d6 : decide ((x2 : Int) ≤ 1) = true := decide_eq_true (by rw [← hx2, ← hG]; have := apF_byte k p q u v c i x p' q' u' v' F hF; omega)
  clear hx2
  have d1 : decide (3 ≤ k) = false := decide_eq_false (by omega)
  obtain rfl : ch = -1 := by rw [← hch]; unfold cv; rw [if_neg (by omega), if_neg (by omega)]
  clear hk
  clear hi64
  obtain ⟨L, hL⟩ : ∃ L, ints .u8 72 F = L := ⟨_, rfl⟩
  obtain ⟨M, hM⟩ : ∃ M, ints .u8 72 G = M := ⟨_, rfl⟩
  obtain ⟨Z, hZ⟩ : ∃ Z, (ints .u8 72 fun _ => 0).toArray = Z := ⟨_, rfl⟩
  have hz := zeroR
  have i0 : (Try.prog.info? 41).map (·.size) = some L.length := by rw [← hL, ints_len]; exact infoR
  have i1 : (Try.prog.info? 41).map (·.size) = some M.length := by rw [← hM, ints_len]; exact infoR
  have j9 : (Try.prog.info? 41).map (·.size) = some M.toArray.size := by simpa using i1
  have one1 : M.toArray.all (·.oneCell') = true := by rw [← hM]; exact ints_one .u8 72 G
  have HL : Hid (ints .u8 72 F = L) := hL
  have HM : Hid (ints .u8 72 G = M) := hM
  have HZ : Hid ((ints .u8 72 fun _ => 0).toArray = Z) := hZ
  rw [hL, hM] at A4
  rw [hM, hL] at B2
  rw [hZ] at hz
  rw [hL]
  have A5 : Hid (∀ w : World, Calls Try.prog 16 #[.agg #[.int .i64 k, .int .i64 p, .int .i64 q, .int .i64 u, .int .i64 v, .int .i64 c, .int .i64 i, .int .i64 x], .int .i64 2, .agg #[.int .i64 p', .int .i64 q', .int .i64 u', .int .i64 v'], .agg L.toArray] w fun e w' => e = .returned (.agg M.toArray) ∧ Below w.heap.size w w') := A4
  clear A4 hF hGb hG hch hZ
  go_enter Try.func5, Try.ntmps5
  go_upto_region 1 with (fail)
  obtain ⟨B, hB⟩ : ∃ B, w.heap.size = B := ⟨_, rfl⟩
  obtain ⟨C, hC⟩ : ∃ C, B + 1 = C := ⟨_, rfl⟩
  obtain ⟨D, hD⟩ : ∃ D, C + 1 = D := ⟨_, rfl⟩
  obtain ⟨V, hV⟩ : ∃ V, ((w.alloc (.cells #[.int .i64 k, .int .i64 p, .int .i64 q, .int .i64 u, .int .i64 v, .int .i64 c, .int .i64 i, .int .i64 x] 25)).alloc (.cells #[.int .i64 p', .int .i64 q', .int .i64 u', .int .i64 v'] 23)).alloc (.cells L.toArray 41) = V := ⟨_, rfl⟩
  have HS : Hid (Lw2 B C D k p q u v c i x p' q' u' v' L F w V) := by
    have a1 := Pl.new (w.alloc (.cells #[.int .i64 k, .int .i64 p, .int .i64 q, .int .i64 u, .int .i64 v, .int .i64 c, .int .i64 i, .int .i64 x] 25)) p' q' u' v' 23
    have a2 := Bk.new .u8 ((w.alloc (.cells #[.int .i64 k, .int .i64 p, .int .i64 q, .int .i64 u, .int .i64 v, .int .i64 c, .int .i64 i, .int .i64 x] 25)).alloc (.cells #[.int .i64 p', .int .i64 q', .int .i64 u', .int .i64 v'] 23)) 72 F 41
    rw [hL] at a2
    simp only [World.size_alloc] at a1 a2
    rw [← hV, ← hD, ← hC, ← hB]
    exact ⟨((Ft.new w k p q u v c i x _).alloc _).alloc _, a1.alloc _, a2, (((Below.refl _ w).alloc (Nat.le_refl _) _).alloc (by simp) _).alloc (by simp; omega) _, hL⟩
  rw [hV, hB, hC, hD]
  clear hV hC hD hL hM
  go_wp2_with (fail)
  refine (A0.out _).mono ?_
  rintro e W0 ⟨rfl, b0⟩
  replace HS : Hid (Lw2 B C D k p q u v c i x p' q' u' v' L F w W0) := HS.out.next b0
  clear b0
  go_wp2_with (fail)
  refine (A1.out _).mono ?_
  rintro e W1 ⟨rfl, rfl⟩
  go_wp2_with (first
    | refine wpList_load_mid rfl 25 _ rfl B 0 rfl [.int .i64 k, .int .i64 p, .int .i64 q, .int .i64 u, .int .i64 v, .int .i64 c, .int .i64 i, .int .i64 x] _ (by exact HS.out.f.range) Try.underlying25 rfl infoF ?_
    | refine wpList_load_g (by rfl) 25 _ rfl B 0 rfl [.int .i64 k, .int .i64 p, .int .i64 q, .int .i64 u, .int .i64 v, .int .i64 c, .int .i64 i, .int .i64 x] _ (by exact HS.out.f.range) Try.underlying25 rfl infoF ?_
    | refine wpList_load_mid rfl 23 _ rfl C 0 rfl [.int .i64 p', .int .i64 q', .int .i64 u', .int .i64 v'] _ (by exact HS.out.g.range) Try.underlying23 rfl infoP ?_
    | refine wpList_load_mid rfl 41 _ rfl D 0 rfl L _ (by exact HS.out.rr) Try.underlying41 rfl i0 ?_
    | refine wpList_load_g (by rfl) 41 _ rfl D 0 rfl L _ (by exact HS.out.rr) Try.underlying41 rfl i0 ?_)
  refine (A2.out _).mono ?_
  rintro e W1 ⟨rfl, b1⟩
  replace HS : Hid (Lw2 B C D k p q u v c i x p' q' u' v' L F w W1) := HS.out.next b1
  clear b1
  go_wp2_with (first
    | refine wpList_load_mid rfl 25 _ rfl B 0 rfl [.int .i64 k, .int .i64 p, .int .i64 q, .int .i64 u, .int .i64 v, .int .i64 c, .int .i64 i, .int .i64 x] _ (by exact HS.out.f.range) Try.underlying25 rfl infoF ?_
    | refine wpList_load_g (by rfl) 25 _ rfl B 0 rfl [.int .i64 k, .int .i64 p, .int .i64 q, .int .i64 u, .int .i64 v, .int .i64 c, .int .i64 i, .int .i64 x] _ (by exact HS.out.f.range) Try.underlying25 rfl infoF ?_
    | refine wpList_load_mid rfl 23 _ rfl C 0 rfl [.int .i64 p', .int .i64 q', .int .i64 u', .int .i64 v'] _ (by exact HS.out.g.range) Try.underlying23 rfl infoP ?_
    | refine wpList_load_mid rfl 41 _ rfl D 0 rfl L _ (by exact HS.out.rr) Try.underlying41 rfl i0 ?_
    | refine wpList_load_g (by rfl) 41 _ rfl D 0 rfl L _ (by exact HS.out.rr) Try.underlying41 rfl i0 ?_)
  refine (A3.out _).mono ?_
  rintro e W2 ⟨rfl, b2⟩
  replace HS : Hid (Lw2 B C D k p q u v c i x p' q' u' v' L F w W2) := HS.out.next b2
  clear b2
  have f0 := HS.out.f.c0; have f5 := HS.out.f.c5; have f6 := HS.out.f.c6
  go_upto_region 12 with (fail)
  clear f0 f5 f6 d1
  go_wp2_with (first
    | refine wpList_load_mid rfl 25 _ rfl B 0 rfl [.int .i64 k, .int .i64 p, .int .i64 q, .int .i64 u, .int .i64 v, .int .i64 c, .int .i64 i, .int .i64 x] _ (by exact HS.out.f.range) Try.underlying25 rfl infoF ?_
    | refine wpList_load_g (by rfl) 25 _ rfl B 0 rfl [.int .i64 k, .int .i64 p, .int .i64 q, .int .i64 u, .int .i64 v, .int .i64 c, .int .i64 i, .int .i64 x] _ (by exact HS.out.f.range) Try.underlying25 rfl infoF ?_
    | refine wpList_load_mid rfl 23 _ rfl C 0 rfl [.int .i64 p', .int .i64 q', .int .i64 u', .int .i64 v'] _ (by exact HS.out.g.range) Try.underlying23 rfl infoP ?_
    | refine wpList_load_mid rfl 41 _ rfl D 0 rfl L _ (by exact HS.out.rr) Try.underlying41 rfl i0 ?_
    | refine wpList_load_g (by rfl) 41 _ rfl D 0 rfl L _ (by exact HS.out.rr) Try.underlying41 rfl i0 ?_)
  refine (A5.out _).mono ?_
  rintro e W3 ⟨rfl, b3⟩
  have h9 := laid72 W3 41 G
  obtain ⟨ht, HX⟩ : (W3.alloc (.cells Z 41)).there W3.heap.size 0 M.toArray.size ∧ Hid (Lx2 B C D W3.heap.size k p q u v c i x p' q' u' v' L F M G w ((W3.alloc (.cells Z 41)).setCells W3.heap.size 0 M)) := by
    rw [HM.out, HZ.out] at h9
    exact ⟨h9.2.2, (HS.out.next b3).next h9.2.1, h9.1, HM.out⟩
  clear h9 HS b3
  go_upto_region 13 with (first | refine wpList_store_mid rfl 41 _ _ rfl _ 0 M.toArray rfl rfl ht j9 one1 ?_)
  obtain ⟨W4, hW4⟩ : ∃ W4, (W3.alloc (.cells Z 41)).setCells W3.heap.size 0 M = W4 := ⟨_, rfl⟩
  obtain ⟨E, hE⟩ : ∃ E, W3.heap.size = E := ⟨_, rfl⟩
  rw [hE] at hW4 HX ⊢
  rw [hW4] at HX ⊢
  have HS := HX
  clear HX hW4 ht hE
  go_wp2
  go_loopw [74] (fun a wr => ∃ y : Nat, y ≤ 72 ∧ a = .int .i64 (y : Int) ∧ Hid (Lx2 B C D E k p q u v c i x p' q' u' v' L F M G w wr)) (fun a _ => 72 - (intOf a).toNat)
  case atStart => exact ⟨0, by omega, rfl, HS⟩
  case round =>
    clear HS
    obtain ⟨y, hy, rfl, HS⟩ := hrel
    by_cases hlt : y < 72
    · have g1 := HS.out.x.cell y hlt
      have g2 := HS.out.s.r.cell y hlt
      have e9 : ((y : Int).tmod 36) = (y : Int) % 36 := Int.tmod_eq_emod_of_nonneg (by omega)
      obtain ⟨a1, ha1⟩ : ∃ a, G y = a := ⟨_, rfl⟩
      obtain ⟨a2, ha2⟩ : ∃ a, F y = a := ⟨_, rfl⟩
      have HC2 := HC.out y
      rw [ha1, ha2] at HC2
      rw [ha1] at g1
      rw [ha2] at g2
      clear ha1 ha2 HC
      by_cases hne : a1 = a2
      · have d1 : (a1 != a2) = false := by simpa using hne
        clear HC2 hne
        go_wp2
        go_quiet (fail)
        go_wp2
        go_roundw
        case rel => exact ⟨y + 1, by omega, by go_num, HS.out.drewN _⟩
        case measure => simp [intOf]; omega
      · exact absurd (HC2 hne) (by omega)
    · obtain rfl : y = 72 := by omega
      clear HC
      go_wp2_with (first
          | refine wpList_load_mid rfl 25 _ rfl B 0 rfl [.int .i64 k, .int .i64 p, .int .i64 q, .int .i64 u, .int .i64 v, .int .i64 c, .int .i64 i, .int .i64 x] _ (by exact HS.out.s.f.range) Try.underlying25 rfl infoF ?_
          | refine wpList_load_g (by rfl) 25 _ rfl B 0 rfl [.int .i64 k, .int .i64 p, .int .i64 q, .int .i64 u, .int .i64 v, .int .i64 c, .int .i64 i, .int .i64 x] _ (by exact HS.out.s.f.range) Try.underlying25 rfl infoF ?_
          | refine wpList_load_mid rfl 23 _ rfl C 0 rfl [.int .i64 p', .int .i64 q', .int .i64 u', .int .i64 v'] _ (by exact HS.out.s.g.range) Try.underlying23 rfl infoP ?_
          | refine wpList_load_mid rfl 41 _ rfl D 0 rfl L _ (by exact HS.out.s.rr) Try.underlying41 rfl i0 ?_
          | refine wpList_load_g (by rfl) 41 _ rfl D 0 rfl L _ (by exact HS.out.s.rr) Try.underlying41 rfl i0 ?_
          | refine wpList_load_g (by rfl) 41 _ rfl E 0 rfl M _ (by exact HS.out.rx) Try.underlying41 rfl i1 ?_
          | refine wpList_load_mid rfl 41 _ rfl E 0 rfl M _ (by exact HS.out.rx) Try.underlying41 rfl i1 ?_)
      refine (A3.out _).mono ?_
      rintro e W5 ⟨rfl, b5⟩
      replace HS : Hid (Lx2 B C D E k p q u v c i x p' q' u' v' L F M G w W5) := HS.out.next b5
      clear b5
      go_wp2_with (first
          | refine wpList_load_mid rfl 25 _ rfl B 0 rfl [.int .i64 k, .int .i64 p, .int .i64 q, .int .i64 u, .int .i64 v, .int .i64 c, .int .i64 i, .int .i64 x] _ (by exact HS.out.s.f.range) Try.underlying25 rfl infoF ?_
          | refine wpList_load_g (by rfl) 25 _ rfl B 0 rfl [.int .i64 k, .int .i64 p, .int .i64 q, .int .i64 u, .int .i64 v, .int .i64 c, .int .i64 i, .int .i64 x] _ (by exact HS.out.s.f.range) Try.underlying25 rfl infoF ?_
          | refine wpList_load_mid rfl 23 _ rfl C 0 rfl [.int .i64 p', .int .i64 q', .int .i64 u', .int .i64 v'] _ (by exact HS.out.s.g.range) Try.underlying23 rfl infoP ?_
          | refine wpList_load_mid rfl 41 _ rfl D 0 rfl L _ (by exact HS.out.s.rr) Try.underlying41 rfl i0 ?_
          | refine wpList_load_g (by rfl) 41 _ rfl D 0 rfl L _ (by exact HS.out.s.rr) Try.underlying41 rfl i0 ?_
          | refine wpList_load_g (by rfl) 41 _ rfl E 0 rfl M _ (by exact HS.out.rx) Try.underlying41 rfl i1 ?_
          | refine wpList_load_mid rfl 41 _ rfl E 0 rfl M _ (by exact HS.out.rx) Try.underlying41 rfl i1 ?_)
      refine (B2 _).mono ?_
      rintro e W7 ⟨rfl, b7⟩
      replace HS : Hid (Lx2 B C D E k p q u v c i x p' q' u' v' L F M G w W7) := HS.out.next b7
      clear b7
      go_wp2
      go_ret
      exact ⟨rfl, by first | exact HS.out.s.n | (rw [hB]; exact HS.out.s.n)⟩
set_option maxRecDepth 100000 in
set_option maxHeartbeats 4000000 in
theorem faultCovers_2B2 (k p q u v c i x : Int) (p' q' u' v' : Int) (F : Nat → Int) (hF : Byts 72 F) (hi64 : i ≤ 9223372036854775807) (hk : 5 < k) (w : World) :
    Calls Try.prog 5 #[.agg #[.int .i64 k, .int .i64 p, .int .i64 q, .int .i64 u, .int .i64 v, .int .i64 c, .int .i64 i, .int .i64 x], .int .i64 2, .agg #[.int .i64 p', .int .i64 q', .int .i64 u', .int .i64 v'], .agg (ints .u8 72 F).toArray] w fun e w' => e = .returned (.bool true) ∧ Below w.heap.size w w' := by
  obtain ⟨G, hG⟩ : ∃ G, apF 36 k p q u v c i x p' q' u' v' F = G := ⟨_, rfl⟩
  obtain ⟨ch, hch⟩ : ∃ y, cv 36 k c i = y := ⟨_, rfl⟩
  have hGb : Byts 72 G := by rw [← hG]; exact apF_byt _ _ _ _ _ _ _ _ _ _ _ _ _ F hF
  have HC : Hid (∀ y : Nat, G y ≠ F y → (y : Int) % 36 = ch) := fun y hy => by rw [← hch]; rw [← hG] at hy; exact apF_cv (by omega) hy
  have A0 : Hid (∀ w : World, Calls Try.prog 8 #[] w fun e w' => e = .returned (.bool true) ∧ Below w.heap.size w w') := anchor11_any
  have A1 : Hid (∀ w : World, Calls Try.prog 20 #[.int .i64 2] w fun e w' => e = .returned (.int .i64 36) ∧ w' = w) := fun w => refChips_any .chips w
  have A2 : Hid (∀ w : World, Calls Try.prog 19 #[.agg #[.int .i64 k, .int .i64 p, .int .i64 q, .int .i64 u, .int .i64 v, .int .i64 c, .int .i64 i, .int .i64 x], .int .i64 2] w fun e w' => e = .returned (.int .i64 ch) ∧ Below w.heap.size w w') := fun w => by rw [← hch]; exact covers_any k p q u v c i x 2 36 2 .chips w
  have A3 : Hid (∀ w : World, Calls Try.prog 15 #[.agg #[.int .i64 k, .int .i64 p, .int .i64 q, .int .i64 u, .int .i64 v, .int .i64 c, .int .i64 i, .int .i64 x]] w fun e w' => e = .returned (.bool false) ∧ Below w.heap.size w w') := fun w => by have := narrow_any k p q u v c i x w; rw [show nw k = false from decide_eq_false (by omega)] at this; exact this
  have A4 : ∀ w : World, Calls Try.prog 16 #[.agg #[.int .i64 k, .int .i64 p, .int .i64 q, .int .i64 u, .int .i64 v, .int .i64 c, .int .i64 i, .int .i64 x], .int .i64 2, .agg #[.int .i64 p', .int .i64 q', .int .i64 u', .int .i64 v'], .agg (ints .u8 72 F).toArray] w fun e w' => e = .returned (.agg (ints .u8 72 G).toArray) ∧ Below w.heap.size w w' := fun w => by rw [← hG]; exact apply_any k p q u v c i x p' q' u' v' F hF 2 36 2 .chips hi64 w
  obtain ⟨x2, hx2⟩ : ∃ y, ex 2 36 2 G F = y := ⟨_, rfl⟩
  have B2 : ∀ w : World, Calls Try.prog 21 #[.int .i64 2, .agg (ints .u8 72 G).toArray, .agg (ints .u8 72 F).toArray] w fun e w' => e = .returned (.int .i64 (x2 : Int)) ∧ Below w.heap.size w w' := fun w => by rw [← hx2]; exact refExposure_any .chips G F hGb hF w
  have d6 : decide ((x2 : Int) ≤ 1) = true := decide_eq_true (by rw [← hx2, ← hG]; have := apF_byte k p q u v c i x p' q' u' v' F hF; omega)
  clear hx2
  have d1 : decide (3 ≤ k) = true := decide_eq_true (by omega)
  have d2 : decide (k ≤ 5) = false := decide_eq_false (by omega)
  obtain rfl : ch = -1 := by rw [← hch]; unfold cv; rw [if_neg (by omega), if_neg (by omega)]
  clear hk
  clear hi64
  obtain ⟨L, hL⟩ : ∃ L, ints .u8 72 F = L := ⟨_, rfl⟩
  obtain ⟨M, hM⟩ : ∃ M, ints .u8 72 G = M := ⟨_, rfl⟩
  obtain ⟨Z, hZ⟩ : ∃ Z, (ints .u8 72 fun _ => 0).toArray = Z := ⟨_, rfl⟩
  have hz := zeroR
  have i0 : (Try.prog.info? 41).map (·.size) = some L.length := by rw [← hL, ints_len]; exact infoR
  have i1 : (Try.prog.info? 41).map (·.size) = some M.length := by rw [← hM, ints_len]; exact infoR
  have j9 : (Try.prog.info? 41).map (·.size) = some M.toArray.size := by simpa using i1
  have one1 : M.toArray.all (·.oneCell') = true := by rw [← hM]; exact ints_one .u8 72 G
  have HL : Hid (ints .u8 72 F = L) := hL
  have HM : Hid (ints .u8 72 G = M) := hM
  have HZ : Hid ((ints .u8 72 fun _ => 0).toArray = Z) := hZ
  rw [hL, hM] at A4
  rw [hM, hL] at B2
  rw [hZ] at hz
  rw [hL]
  have A5 : Hid (∀ w : World, Calls Try.prog 16 #[.agg #[.int .i64 k, .int .i64 p, .int .i64 q, .int .i64 u, .int .i64 v, .int .i64 c, .int .i64 i, .int .i64 x], .int .i64 2, .agg #[.int .i64 p', .int .i64 q', .int .i64 u', .int .i64 v'], .agg L.toArray] w fun e w' => e = .returned (.agg M.toArray) ∧ Below w.heap.size w w') := A4
  clear A4 hF hGb hG hch hZ
  go_enter Try.func5, Try.ntmps5
  go_upto_region 1 with (fail)
  obtain ⟨B, hB⟩ : ∃ B, w.heap.size = B := ⟨_, rfl⟩
  obtain ⟨C, hC⟩ : ∃ C, B + 1 = C := ⟨_, rfl⟩
  obtain ⟨D, hD⟩ : ∃ D, C + 1 = D := ⟨_, rfl⟩
  obtain ⟨V, hV⟩ : ∃ V, ((w.alloc (.cells #[.int .i64 k, .int .i64 p, .int .i64 q, .int .i64 u, .int .i64 v, .int .i64 c, .int .i64 i, .int .i64 x] 25)).alloc (.cells #[.int .i64 p', .int .i64 q', .int .i64 u', .int .i64 v'] 23)).alloc (.cells L.toArray 41) = V := ⟨_, rfl⟩
  have HS : Hid (Lw2 B C D k p q u v c i x p' q' u' v' L F w V) := by
    have a1 := Pl.new (w.alloc (.cells #[.int .i64 k, .int .i64 p, .int .i64 q, .int .i64 u, .int .i64 v, .int .i64 c, .int .i64 i, .int .i64 x] 25)) p' q' u' v' 23
    have a2 := Bk.new .u8 ((w.alloc (.cells #[.int .i64 k, .int .i64 p, .int .i64 q, .int .i64 u, .int .i64 v, .int .i64 c, .int .i64 i, .int .i64 x] 25)).alloc (.cells #[.int .i64 p', .int .i64 q', .int .i64 u', .int .i64 v'] 23)) 72 F 41
    rw [hL] at a2
    simp only [World.size_alloc] at a1 a2
    rw [← hV, ← hD, ← hC, ← hB]
    exact ⟨((Ft.new w k p q u v c i x _).alloc _).alloc _, a1.alloc _, a2, (((Below.refl _ w).alloc (Nat.le_refl _) _).alloc (by simp) _).alloc (by simp; omega) _, hL⟩
  rw [hV, hB, hC, hD]
  clear hV hC hD hL hM
  go_wp2_with (fail)
  refine (A0.out _).mono ?_
  rintro e W0 ⟨rfl, b0⟩
  replace HS : Hid (Lw2 B C D k p q u v c i x p' q' u' v' L F w W0) := HS.out.next b0
  clear b0
  go_wp2_with (fail)
  refine (A1.out _).mono ?_
  rintro e W1 ⟨rfl, rfl⟩
  go_wp2_with (first
    | refine wpList_load_mid rfl 25 _ rfl B 0 rfl [.int .i64 k, .int .i64 p, .int .i64 q, .int .i64 u, .int .i64 v, .int .i64 c, .int .i64 i, .int .i64 x] _ (by exact HS.out.f.range) Try.underlying25 rfl infoF ?_
    | refine wpList_load_g (by rfl) 25 _ rfl B 0 rfl [.int .i64 k, .int .i64 p, .int .i64 q, .int .i64 u, .int .i64 v, .int .i64 c, .int .i64 i, .int .i64 x] _ (by exact HS.out.f.range) Try.underlying25 rfl infoF ?_
    | refine wpList_load_mid rfl 23 _ rfl C 0 rfl [.int .i64 p', .int .i64 q', .int .i64 u', .int .i64 v'] _ (by exact HS.out.g.range) Try.underlying23 rfl infoP ?_
    | refine wpList_load_mid rfl 41 _ rfl D 0 rfl L _ (by exact HS.out.rr) Try.underlying41 rfl i0 ?_
    | refine wpList_load_g (by rfl) 41 _ rfl D 0 rfl L _ (by exact HS.out.rr) Try.underlying41 rfl i0 ?_)
  refine (A2.out _).mono ?_
  rintro e W1 ⟨rfl, b1⟩
  replace HS : Hid (Lw2 B C D k p q u v c i x p' q' u' v' L F w W1) := HS.out.next b1
  clear b1
  go_wp2_with (first
    | refine wpList_load_mid rfl 25 _ rfl B 0 rfl [.int .i64 k, .int .i64 p, .int .i64 q, .int .i64 u, .int .i64 v, .int .i64 c, .int .i64 i, .int .i64 x] _ (by exact HS.out.f.range) Try.underlying25 rfl infoF ?_
    | refine wpList_load_g (by rfl) 25 _ rfl B 0 rfl [.int .i64 k, .int .i64 p, .int .i64 q, .int .i64 u, .int .i64 v, .int .i64 c, .int .i64 i, .int .i64 x] _ (by exact HS.out.f.range) Try.underlying25 rfl infoF ?_
    | refine wpList_load_mid rfl 23 _ rfl C 0 rfl [.int .i64 p', .int .i64 q', .int .i64 u', .int .i64 v'] _ (by exact HS.out.g.range) Try.underlying23 rfl infoP ?_
    | refine wpList_load_mid rfl 41 _ rfl D 0 rfl L _ (by exact HS.out.rr) Try.underlying41 rfl i0 ?_
    | refine wpList_load_g (by rfl) 41 _ rfl D 0 rfl L _ (by exact HS.out.rr) Try.underlying41 rfl i0 ?_)
  refine (A3.out _).mono ?_
  rintro e W2 ⟨rfl, b2⟩
  replace HS : Hid (Lw2 B C D k p q u v c i x p' q' u' v' L F w W2) := HS.out.next b2
  clear b2
  have f0 := HS.out.f.c0; have f5 := HS.out.f.c5; have f6 := HS.out.f.c6
  go_upto_region 12 with (fail)
  clear f0 f5 f6 d1 d2
  go_wp2_with (first
    | refine wpList_load_mid rfl 25 _ rfl B 0 rfl [.int .i64 k, .int .i64 p, .int .i64 q, .int .i64 u, .int .i64 v, .int .i64 c, .int .i64 i, .int .i64 x] _ (by exact HS.out.f.range) Try.underlying25 rfl infoF ?_
    | refine wpList_load_g (by rfl) 25 _ rfl B 0 rfl [.int .i64 k, .int .i64 p, .int .i64 q, .int .i64 u, .int .i64 v, .int .i64 c, .int .i64 i, .int .i64 x] _ (by exact HS.out.f.range) Try.underlying25 rfl infoF ?_
    | refine wpList_load_mid rfl 23 _ rfl C 0 rfl [.int .i64 p', .int .i64 q', .int .i64 u', .int .i64 v'] _ (by exact HS.out.g.range) Try.underlying23 rfl infoP ?_
    | refine wpList_load_mid rfl 41 _ rfl D 0 rfl L _ (by exact HS.out.rr) Try.underlying41 rfl i0 ?_
    | refine wpList_load_g (by rfl) 41 _ rfl D 0 rfl L _ (by exact HS.out.rr) Try.underlying41 rfl i0 ?_)
  refine (A5.out _).mono ?_
  rintro e W3 ⟨rfl, b3⟩
  have h9 := laid72 W3 41 G
  obtain ⟨ht, HX⟩ : (W3.alloc (.cells Z 41)).there W3.heap.size 0 M.toArray.size ∧ Hid (Lx2 B C D W3.heap.size k p q u v c i x p' q' u' v' L F M G w ((W3.alloc (.cells Z 41)).setCells W3.heap.size 0 M)) := by
    rw [HM.out, HZ.out] at h9
    exact ⟨h9.2.2, (HS.out.next b3).next h9.2.1, h9.1, HM.out⟩
  clear h9 HS b3
  go_upto_region 13 with (first | refine wpList_store_mid rfl 41 _ _ rfl _ 0 M.toArray rfl rfl ht j9 one1 ?_)
  obtain ⟨W4, hW4⟩ : ∃ W4, (W3.alloc (.cells Z 41)).setCells W3.heap.size 0 M = W4 := ⟨_, rfl⟩
  obtain ⟨E, hE⟩ : ∃ E, W3.heap.size = E := ⟨_, rfl⟩
  rw [hE] at hW4 HX ⊢
  rw [hW4] at HX ⊢
  have HS := HX
  clear HX hW4 ht hE
  go_wp2
  go_loopw [74] (fun a wr => ∃ y : Nat, y ≤ 72 ∧ a = .int .i64 (y : Int) ∧ Hid (Lx2 B C D E k p q u v c i x p' q' u' v' L F M G w wr)) (fun a _ => 72 - (intOf a).toNat)
  case atStart => exact ⟨0, by omega, rfl, HS⟩
  case round =>
    clear HS
    obtain ⟨y, hy, rfl, HS⟩ := hrel
    by_cases hlt : y < 72
    · have g1 := HS.out.x.cell y hlt
      have g2 := HS.out.s.r.cell y hlt
      have e9 : ((y : Int).tmod 36) = (y : Int) % 36 := Int.tmod_eq_emod_of_nonneg (by omega)
      obtain ⟨a1, ha1⟩ : ∃ a, G y = a := ⟨_, rfl⟩
      obtain ⟨a2, ha2⟩ : ∃ a, F y = a := ⟨_, rfl⟩
      have HC2 := HC.out y
      rw [ha1, ha2] at HC2
      rw [ha1] at g1
      rw [ha2] at g2
      clear ha1 ha2 HC
      by_cases hne : a1 = a2
      · have d1 : (a1 != a2) = false := by simpa using hne
        clear HC2 hne
        go_wp2
        go_quiet (fail)
        go_wp2
        go_roundw
        case rel => exact ⟨y + 1, by omega, by go_num, HS.out.drewN _⟩
        case measure => simp [intOf]; omega
      · exact absurd (HC2 hne) (by omega)
    · obtain rfl : y = 72 := by omega
      clear HC
      go_wp2_with (first
          | refine wpList_load_mid rfl 25 _ rfl B 0 rfl [.int .i64 k, .int .i64 p, .int .i64 q, .int .i64 u, .int .i64 v, .int .i64 c, .int .i64 i, .int .i64 x] _ (by exact HS.out.s.f.range) Try.underlying25 rfl infoF ?_
          | refine wpList_load_g (by rfl) 25 _ rfl B 0 rfl [.int .i64 k, .int .i64 p, .int .i64 q, .int .i64 u, .int .i64 v, .int .i64 c, .int .i64 i, .int .i64 x] _ (by exact HS.out.s.f.range) Try.underlying25 rfl infoF ?_
          | refine wpList_load_mid rfl 23 _ rfl C 0 rfl [.int .i64 p', .int .i64 q', .int .i64 u', .int .i64 v'] _ (by exact HS.out.s.g.range) Try.underlying23 rfl infoP ?_
          | refine wpList_load_mid rfl 41 _ rfl D 0 rfl L _ (by exact HS.out.s.rr) Try.underlying41 rfl i0 ?_
          | refine wpList_load_g (by rfl) 41 _ rfl D 0 rfl L _ (by exact HS.out.s.rr) Try.underlying41 rfl i0 ?_
          | refine wpList_load_g (by rfl) 41 _ rfl E 0 rfl M _ (by exact HS.out.rx) Try.underlying41 rfl i1 ?_
          | refine wpList_load_mid rfl 41 _ rfl E 0 rfl M _ (by exact HS.out.rx) Try.underlying41 rfl i1 ?_)
      refine (A3.out _).mono ?_
      rintro e W5 ⟨rfl, b5⟩
      replace HS : Hid (Lx2 B C D E k p q u v c i x p' q' u' v' L F M G w W5) := HS.out.next b5
      clear b5
      go_wp2_with (first
          | refine wpList_load_mid rfl 25 _ rfl B 0 rfl [.int .i64 k, .int .i64 p, .int .i64 q, .int .i64 u, .int .i64 v, .int .i64 c, .int .i64 i, .int .i64 x] _ (by exact HS.out.s.f.range) Try.underlying25 rfl infoF ?_
          | refine wpList_load_g (by rfl) 25 _ rfl B 0 rfl [.int .i64 k, .int .i64 p, .int .i64 q, .int .i64 u, .int .i64 v, .int .i64 c, .int .i64 i, .int .i64 x] _ (by exact HS.out.s.f.range) Try.underlying25 rfl infoF ?_
          | refine wpList_load_mid rfl 23 _ rfl C 0 rfl [.int .i64 p', .int .i64 q', .int .i64 u', .int .i64 v'] _ (by exact HS.out.s.g.range) Try.underlying23 rfl infoP ?_
          | refine wpList_load_mid rfl 41 _ rfl D 0 rfl L _ (by exact HS.out.s.rr) Try.underlying41 rfl i0 ?_
          | refine wpList_load_g (by rfl) 41 _ rfl D 0 rfl L _ (by exact HS.out.s.rr) Try.underlying41 rfl i0 ?_
          | refine wpList_load_g (by rfl) 41 _ rfl E 0 rfl M _ (by exact HS.out.rx) Try.underlying41 rfl i1 ?_
          | refine wpList_load_mid rfl 41 _ rfl E 0 rfl M _ (by exact HS.out.rx) Try.underlying41 rfl i1 ?_)
      refine (B2 _).mono ?_
      rintro e W7 ⟨rfl, b7⟩
      replace HS : Hid (Lx2 B C D E k p q u v c i x p' q' u' v' L F M G w W7) := HS.out.next b7
      clear b7
      go_wp2
      go_ret
      exact ⟨rfl, by first | exact HS.out.s.n | (rw [hB]; exact HS.out.s.n)⟩
set_option maxRecDepth 100000 in
set_option maxHeartbeats 4000000 in
theorem faultCovers_2B3 (k p q u v c i x : Int) (p' q' u' v' : Int) (F : Nat → Int) (hF : Byts 72 F) (hi64 : i ≤ 9223372036854775807) (hk : 3 ≤ k ∧ k ≤ 5) (h1 : c < 0) (w : World) :
    Calls Try.prog 5 #[.agg #[.int .i64 k, .int .i64 p, .int .i64 q, .int .i64 u, .int .i64 v, .int .i64 c, .int .i64 i, .int .i64 x], .int .i64 2, .agg #[.int .i64 p', .int .i64 q', .int .i64 u', .int .i64 v'], .agg (ints .u8 72 F).toArray] w fun e w' => e = .returned (.bool true) ∧ Below w.heap.size w w' := by
  obtain ⟨G, hG⟩ : ∃ G, apF 36 k p q u v c i x p' q' u' v' F = G := ⟨_, rfl⟩
  obtain ⟨ch, hch⟩ : ∃ y, cv 36 k c i = y := ⟨_, rfl⟩
  have hGb : Byts 72 G := by rw [← hG]; exact apF_byt _ _ _ _ _ _ _ _ _ _ _ _ _ F hF
  have HC : Hid (∀ y : Nat, G y ≠ F y → (y : Int) % 36 = ch) := fun y hy => by rw [← hch]; rw [← hG] at hy; exact apF_cv (by omega) hy
  have A0 : Hid (∀ w : World, Calls Try.prog 8 #[] w fun e w' => e = .returned (.bool true) ∧ Below w.heap.size w w') := anchor11_any
  have A1 : Hid (∀ w : World, Calls Try.prog 20 #[.int .i64 2] w fun e w' => e = .returned (.int .i64 36) ∧ w' = w) := fun w => refChips_any .chips w
  have A2 : Hid (∀ w : World, Calls Try.prog 19 #[.agg #[.int .i64 k, .int .i64 p, .int .i64 q, .int .i64 u, .int .i64 v, .int .i64 c, .int .i64 i, .int .i64 x], .int .i64 2] w fun e w' => e = .returned (.int .i64 ch) ∧ Below w.heap.size w w') := fun w => by rw [← hch]; exact covers_any k p q u v c i x 2 36 2 .chips w
  have A3 : Hid (∀ w : World, Calls Try.prog 15 #[.agg #[.int .i64 k, .int .i64 p, .int .i64 q, .int .i64 u, .int .i64 v, .int .i64 c, .int .i64 i, .int .i64 x]] w fun e w' => e = .returned (.bool false) ∧ Below w.heap.size w w') := fun w => by have := narrow_any k p q u v c i x w; rw [show nw k = false from decide_eq_false (by omega)] at this; exact this
  have A4 : ∀ w : World, Calls Try.prog 16 #[.agg #[.int .i64 k, .int .i64 p, .int .i64 q, .int .i64 u, .int .i64 v, .int .i64 c, .int .i64 i, .int .i64 x], .int .i64 2, .agg #[.int .i64 p', .int .i64 q', .int .i64 u', .int .i64 v'], .agg (ints .u8 72 F).toArray] w fun e w' => e = .returned (.agg (ints .u8 72 G).toArray) ∧ Below w.heap.size w w' := fun w => by rw [← hG]; exact apply_any k p q u v c i x p' q' u' v' F hF 2 36 2 .chips hi64 w
  obtain ⟨x2, hx2⟩ : ∃ y, ex 2 36 2 G F = y := ⟨_, rfl⟩
  have B2 : ∀ w : World, Calls Try.prog 21 #[.int .i64 2, .agg (ints .u8 72 G).toArray, .agg (ints .u8 72 F).toArray] w fun e w' => e = .returned (.int .i64 (x2 : Int)) ∧ Below w.heap.size w w' := fun w => by rw [← hx2]; exact refExposure_any .chips G F hGb hF w
  have d6 : decide ((x2 : Int) ≤ 1) = true := decide_eq_true (by rw [← hx2, ← hG]; have := apF_byte k p q u v c i x p' q' u' v' F hF; omega)
  clear hx2
  have d1 : decide (3 ≤ k) = true := decide_eq_true (by omega)
  have d2 : decide (k ≤ 5) = true := decide_eq_true (by omega)
  have d3 : decide (0 ≤ c) = false := decide_eq_false (by omega)
  obtain rfl : ch = -1 := by rw [← hch]; unfold cv; rw [if_neg (by omega), if_pos (by omega), if_neg (by omega)]
  clear hk h1
  clear hi64
  obtain ⟨L, hL⟩ : ∃ L, ints .u8 72 F = L := ⟨_, rfl⟩
  obtain ⟨M, hM⟩ : ∃ M, ints .u8 72 G = M := ⟨_, rfl⟩
  obtain ⟨Z, hZ⟩ : ∃ Z, (ints .u8 72 fun _ => 0).toArray = Z := ⟨_, rfl⟩
  have hz := zeroR
  have i0 : (Try.prog.info? 41).map (·.size) = some L.length := by rw [← hL, ints_len]; exact infoR
  have i1 : (Try.prog.info? 41).map (·.size) = some M.length := by rw [← hM, ints_len]; exact infoR
  have j9 : (Try.prog.info? 41).map (·.size) = some M.toArray.size := by simpa using i1
  have one1 : M.toArray.all (·.oneCell') = true := by rw [← hM]; exact ints_one .u8 72 G
  have HL : Hid (ints .u8 72 F = L) := hL
  have HM : Hid (ints .u8 72 G = M) := hM
  have HZ : Hid ((ints .u8 72 fun _ => 0).toArray = Z) := hZ
  rw [hL, hM] at A4
  rw [hM, hL] at B2
  rw [hZ] at hz
  rw [hL]
  have A5 : Hid (∀ w : World, Calls Try.prog 16 #[.agg #[.int .i64 k, .int .i64 p, .int .i64 q, .int .i64 u, .int .i64 v, .int .i64 c, .int .i64 i, .int .i64 x], .int .i64 2, .agg #[.int .i64 p', .int .i64 q', .int .i64 u', .int .i64 v'], .agg L.toArray] w fun e w' => e = .returned (.agg M.toArray) ∧ Below w.heap.size w w') := A4
  clear A4 hF hGb hG hch hZ
  go_enter Try.func5, Try.ntmps5
  go_upto_region 1 with (fail)
  obtain ⟨B, hB⟩ : ∃ B, w.heap.size = B := ⟨_, rfl⟩
  obtain ⟨C, hC⟩ : ∃ C, B + 1 = C := ⟨_, rfl⟩
  obtain ⟨D, hD⟩ : ∃ D, C + 1 = D := ⟨_, rfl⟩
  obtain ⟨V, hV⟩ : ∃ V, ((w.alloc (.cells #[.int .i64 k, .int .i64 p, .int .i64 q, .int .i64 u, .int .i64 v, .int .i64 c, .int .i64 i, .int .i64 x] 25)).alloc (.cells #[.int .i64 p', .int .i64 q', .int .i64 u', .int .i64 v'] 23)).alloc (.cells L.toArray 41) = V := ⟨_, rfl⟩
  have HS : Hid (Lw2 B C D k p q u v c i x p' q' u' v' L F w V) := by
    have a1 := Pl.new (w.alloc (.cells #[.int .i64 k, .int .i64 p, .int .i64 q, .int .i64 u, .int .i64 v, .int .i64 c, .int .i64 i, .int .i64 x] 25)) p' q' u' v' 23
    have a2 := Bk.new .u8 ((w.alloc (.cells #[.int .i64 k, .int .i64 p, .int .i64 q, .int .i64 u, .int .i64 v, .int .i64 c, .int .i64 i, .int .i64 x] 25)).alloc (.cells #[.int .i64 p', .int .i64 q', .int .i64 u', .int .i64 v'] 23)) 72 F 41
    rw [hL] at a2
    simp only [World.size_alloc] at a1 a2
    rw [← hV, ← hD, ← hC, ← hB]
    exact ⟨((Ft.new w k p q u v c i x _).alloc _).alloc _, a1.alloc _, a2, (((Below.refl _ w).alloc (Nat.le_refl _) _).alloc (by simp) _).alloc (by simp; omega) _, hL⟩
  rw [hV, hB, hC, hD]
  clear hV hC hD hL hM
  go_wp2_with (fail)
  refine (A0.out _).mono ?_
  rintro e W0 ⟨rfl, b0⟩
  replace HS : Hid (Lw2 B C D k p q u v c i x p' q' u' v' L F w W0) := HS.out.next b0
  clear b0
  go_wp2_with (fail)
  refine (A1.out _).mono ?_
  rintro e W1 ⟨rfl, rfl⟩
  go_wp2_with (first
    | refine wpList_load_mid rfl 25 _ rfl B 0 rfl [.int .i64 k, .int .i64 p, .int .i64 q, .int .i64 u, .int .i64 v, .int .i64 c, .int .i64 i, .int .i64 x] _ (by exact HS.out.f.range) Try.underlying25 rfl infoF ?_
    | refine wpList_load_g (by rfl) 25 _ rfl B 0 rfl [.int .i64 k, .int .i64 p, .int .i64 q, .int .i64 u, .int .i64 v, .int .i64 c, .int .i64 i, .int .i64 x] _ (by exact HS.out.f.range) Try.underlying25 rfl infoF ?_
    | refine wpList_load_mid rfl 23 _ rfl C 0 rfl [.int .i64 p', .int .i64 q', .int .i64 u', .int .i64 v'] _ (by exact HS.out.g.range) Try.underlying23 rfl infoP ?_
    | refine wpList_load_mid rfl 41 _ rfl D 0 rfl L _ (by exact HS.out.rr) Try.underlying41 rfl i0 ?_
    | refine wpList_load_g (by rfl) 41 _ rfl D 0 rfl L _ (by exact HS.out.rr) Try.underlying41 rfl i0 ?_)
  refine (A2.out _).mono ?_
  rintro e W1 ⟨rfl, b1⟩
  replace HS : Hid (Lw2 B C D k p q u v c i x p' q' u' v' L F w W1) := HS.out.next b1
  clear b1
  go_wp2_with (first
    | refine wpList_load_mid rfl 25 _ rfl B 0 rfl [.int .i64 k, .int .i64 p, .int .i64 q, .int .i64 u, .int .i64 v, .int .i64 c, .int .i64 i, .int .i64 x] _ (by exact HS.out.f.range) Try.underlying25 rfl infoF ?_
    | refine wpList_load_g (by rfl) 25 _ rfl B 0 rfl [.int .i64 k, .int .i64 p, .int .i64 q, .int .i64 u, .int .i64 v, .int .i64 c, .int .i64 i, .int .i64 x] _ (by exact HS.out.f.range) Try.underlying25 rfl infoF ?_
    | refine wpList_load_mid rfl 23 _ rfl C 0 rfl [.int .i64 p', .int .i64 q', .int .i64 u', .int .i64 v'] _ (by exact HS.out.g.range) Try.underlying23 rfl infoP ?_
    | refine wpList_load_mid rfl 41 _ rfl D 0 rfl L _ (by exact HS.out.rr) Try.underlying41 rfl i0 ?_
    | refine wpList_load_g (by rfl) 41 _ rfl D 0 rfl L _ (by exact HS.out.rr) Try.underlying41 rfl i0 ?_)
  refine (A3.out _).mono ?_
  rintro e W2 ⟨rfl, b2⟩
  replace HS : Hid (Lw2 B C D k p q u v c i x p' q' u' v' L F w W2) := HS.out.next b2
  clear b2
  have f0 := HS.out.f.c0; have f5 := HS.out.f.c5; have f6 := HS.out.f.c6
  go_upto_region 12 with (fail)
  clear f0 f5 f6 d1 d2 d3
  go_wp2_with (first
    | refine wpList_load_mid rfl 25 _ rfl B 0 rfl [.int .i64 k, .int .i64 p, .int .i64 q, .int .i64 u, .int .i64 v, .int .i64 c, .int .i64 i, .int .i64 x] _ (by exact HS.out.f.range) Try.underlying25 rfl infoF ?_
    | refine wpList_load_g (by rfl) 25 _ rfl B 0 rfl [.int .i64 k, .int .i64 p, .int .i64 q, .int .i64 u, .int .i64 v, .int .i64 c, .int .i64 i, .int .i64 x] _ (by exact HS.out.f.range) Try.underlying25 rfl infoF ?_
    | refine wpList_load_mid rfl 23 _ rfl C 0 rfl [.int .i64 p', .int .i64 q', .int .i64 u', .int .i64 v'] _ (by exact HS.out.g.range) Try.underlying23 rfl infoP ?_
    | refine wpList_load_mid rfl 41 _ rfl D 0 rfl L _ (by exact HS.out.rr) Try.underlying41 rfl i0 ?_
    | refine wpList_load_g (by rfl) 41 _ rfl D 0 rfl L _ (by exact HS.out.rr) Try.underlying41 rfl i0 ?_)
  refine (A5.out _).mono ?_
  rintro e W3 ⟨rfl, b3⟩
  have h9 := laid72 W3 41 G
  obtain ⟨ht, HX⟩ : (W3.alloc (.cells Z 41)).there W3.heap.size 0 M.toArray.size ∧ Hid (Lx2 B C D W3.heap.size k p q u v c i x p' q' u' v' L F M G w ((W3.alloc (.cells Z 41)).setCells W3.heap.size 0 M)) := by
    rw [HM.out, HZ.out] at h9
    exact ⟨h9.2.2, (HS.out.next b3).next h9.2.1, h9.1, HM.out⟩
  clear h9 HS b3
  go_upto_region 13 with (first | refine wpList_store_mid rfl 41 _ _ rfl _ 0 M.toArray rfl rfl ht j9 one1 ?_)
  obtain ⟨W4, hW4⟩ : ∃ W4, (W3.alloc (.cells Z 41)).setCells W3.heap.size 0 M = W4 := ⟨_, rfl⟩
  obtain ⟨E, hE⟩ : ∃ E, W3.heap.size = E := ⟨_, rfl⟩
  rw [hE] at hW4 HX ⊢
  rw [hW4] at HX ⊢
  have HS := HX
  clear HX hW4 ht hE
  go_wp2
  go_loopw [74] (fun a wr => ∃ y : Nat, y ≤ 72 ∧ a = .int .i64 (y : Int) ∧ Hid (Lx2 B C D E k p q u v c i x p' q' u' v' L F M G w wr)) (fun a _ => 72 - (intOf a).toNat)
  case atStart => exact ⟨0, by omega, rfl, HS⟩
  case round =>
    clear HS
    obtain ⟨y, hy, rfl, HS⟩ := hrel
    by_cases hlt : y < 72
    · have g1 := HS.out.x.cell y hlt
      have g2 := HS.out.s.r.cell y hlt
      have e9 : ((y : Int).tmod 36) = (y : Int) % 36 := Int.tmod_eq_emod_of_nonneg (by omega)
      obtain ⟨a1, ha1⟩ : ∃ a, G y = a := ⟨_, rfl⟩
      obtain ⟨a2, ha2⟩ : ∃ a, F y = a := ⟨_, rfl⟩
      have HC2 := HC.out y
      rw [ha1, ha2] at HC2
      rw [ha1] at g1
      rw [ha2] at g2
      clear ha1 ha2 HC
      by_cases hne : a1 = a2
      · have d1 : (a1 != a2) = false := by simpa using hne
        clear HC2 hne
        go_wp2
        go_quiet (fail)
        go_wp2
        go_roundw
        case rel => exact ⟨y + 1, by omega, by go_num, HS.out.drewN _⟩
        case measure => simp [intOf]; omega
      · exact absurd (HC2 hne) (by omega)
    · obtain rfl : y = 72 := by omega
      clear HC
      go_wp2_with (first
          | refine wpList_load_mid rfl 25 _ rfl B 0 rfl [.int .i64 k, .int .i64 p, .int .i64 q, .int .i64 u, .int .i64 v, .int .i64 c, .int .i64 i, .int .i64 x] _ (by exact HS.out.s.f.range) Try.underlying25 rfl infoF ?_
          | refine wpList_load_g (by rfl) 25 _ rfl B 0 rfl [.int .i64 k, .int .i64 p, .int .i64 q, .int .i64 u, .int .i64 v, .int .i64 c, .int .i64 i, .int .i64 x] _ (by exact HS.out.s.f.range) Try.underlying25 rfl infoF ?_
          | refine wpList_load_mid rfl 23 _ rfl C 0 rfl [.int .i64 p', .int .i64 q', .int .i64 u', .int .i64 v'] _ (by exact HS.out.s.g.range) Try.underlying23 rfl infoP ?_
          | refine wpList_load_mid rfl 41 _ rfl D 0 rfl L _ (by exact HS.out.s.rr) Try.underlying41 rfl i0 ?_
          | refine wpList_load_g (by rfl) 41 _ rfl D 0 rfl L _ (by exact HS.out.s.rr) Try.underlying41 rfl i0 ?_
          | refine wpList_load_g (by rfl) 41 _ rfl E 0 rfl M _ (by exact HS.out.rx) Try.underlying41 rfl i1 ?_
          | refine wpList_load_mid rfl 41 _ rfl E 0 rfl M _ (by exact HS.out.rx) Try.underlying41 rfl i1 ?_)
      refine (A3.out _).mono ?_
      rintro e W5 ⟨rfl, b5⟩
      replace HS : Hid (Lx2 B C D E k p q u v c i x p' q' u' v' L F M G w W5) := HS.out.next b5
      clear b5
      go_wp2_with (first
          | refine wpList_load_mid rfl 25 _ rfl B 0 rfl [.int .i64 k, .int .i64 p, .int .i64 q, .int .i64 u, .int .i64 v, .int .i64 c, .int .i64 i, .int .i64 x] _ (by exact HS.out.s.f.range) Try.underlying25 rfl infoF ?_
          | refine wpList_load_g (by rfl) 25 _ rfl B 0 rfl [.int .i64 k, .int .i64 p, .int .i64 q, .int .i64 u, .int .i64 v, .int .i64 c, .int .i64 i, .int .i64 x] _ (by exact HS.out.s.f.range) Try.underlying25 rfl infoF ?_
          | refine wpList_load_mid rfl 23 _ rfl C 0 rfl [.int .i64 p', .int .i64 q', .int .i64 u', .int .i64 v'] _ (by exact HS.out.s.g.range) Try.underlying23 rfl infoP ?_
          | refine wpList_load_mid rfl 41 _ rfl D 0 rfl L _ (by exact HS.out.s.rr) Try.underlying41 rfl i0 ?_
          | refine wpList_load_g (by rfl) 41 _ rfl D 0 rfl L _ (by exact HS.out.s.rr) Try.underlying41 rfl i0 ?_
          | refine wpList_load_g (by rfl) 41 _ rfl E 0 rfl M _ (by exact HS.out.rx) Try.underlying41 rfl i1 ?_
          | refine wpList_load_mid rfl 41 _ rfl E 0 rfl M _ (by exact HS.out.rx) Try.underlying41 rfl i1 ?_)
      refine (B2 _).mono ?_
      rintro e W7 ⟨rfl, b7⟩
      replace HS : Hid (Lx2 B C D E k p q u v c i x p' q' u' v' L F M G w W7) := HS.out.next b7
      clear b7
      go_wp2
      go_ret
      exact ⟨rfl, by first | exact HS.out.s.n | (rw [hB]; exact HS.out.s.n)⟩
set_option maxRecDepth 100000 in
set_option maxHeartbeats 4000000 in
theorem faultCovers_2B4 (k p q u v c i x : Int) (p' q' u' v' : Int) (F : Nat → Int) (hF : Byts 72 F) (hi64 : i ≤ 9223372036854775807) (hk : 3 ≤ k ∧ k ≤ 5) (h1 : 36 ≤ c) (w : World) :
    Calls Try.prog 5 #[.agg #[.int .i64 k, .int .i64 p, .int .i64 q, .int .i64 u, .int .i64 v, .int .i64 c, .int .i64 i, .int .i64 x], .int .i64 2, .agg #[.int .i64 p', .int .i64 q', .int .i64 u', .int .i64 v'], .agg (ints .u8 72 F).toArray] w fun e w' => e = .returned (.bool true) ∧ Below w.heap.size w w' := by
  obtain ⟨G, hG⟩ : ∃ G, apF 36 k p q u v c i x p' q' u' v' F = G := ⟨_, rfl⟩
  obtain ⟨ch, hch⟩ : ∃ y, cv 36 k c i = y := ⟨_, rfl⟩
  have hGb : Byts 72 G := by rw [← hG]; exact apF_byt _ _ _ _ _ _ _ _ _ _ _ _ _ F hF
  have HC : Hid (∀ y : Nat, G y ≠ F y → (y : Int) % 36 = ch) := fun y hy => by rw [← hch]; rw [← hG] at hy; exact apF_cv (by omega) hy
  have A0 : Hid (∀ w : World, Calls Try.prog 8 #[] w fun e w' => e = .returned (.bool true) ∧ Below w.heap.size w w') := anchor11_any
  have A1 : Hid (∀ w : World, Calls Try.prog 20 #[.int .i64 2] w fun e w' => e = .returned (.int .i64 36) ∧ w' = w) := fun w => refChips_any .chips w
  have A2 : Hid (∀ w : World, Calls Try.prog 19 #[.agg #[.int .i64 k, .int .i64 p, .int .i64 q, .int .i64 u, .int .i64 v, .int .i64 c, .int .i64 i, .int .i64 x], .int .i64 2] w fun e w' => e = .returned (.int .i64 ch) ∧ Below w.heap.size w w') := fun w => by rw [← hch]; exact covers_any k p q u v c i x 2 36 2 .chips w
  have A3 : Hid (∀ w : World, Calls Try.prog 15 #[.agg #[.int .i64 k, .int .i64 p, .int .i64 q, .int .i64 u, .int .i64 v, .int .i64 c, .int .i64 i, .int .i64 x]] w fun e w' => e = .returned (.bool false) ∧ Below w.heap.size w w') := fun w => by have := narrow_any k p q u v c i x w; rw [show nw k = false from decide_eq_false (by omega)] at this; exact this
  have A4 : ∀ w : World, Calls Try.prog 16 #[.agg #[.int .i64 k, .int .i64 p, .int .i64 q, .int .i64 u, .int .i64 v, .int .i64 c, .int .i64 i, .int .i64 x], .int .i64 2, .agg #[.int .i64 p', .int .i64 q', .int .i64 u', .int .i64 v'], .agg (ints .u8 72 F).toArray] w fun e w' => e = .returned (.agg (ints .u8 72 G).toArray) ∧ Below w.heap.size w w' := fun w => by rw [← hG]; exact apply_any k p q u v c i x p' q' u' v' F hF 2 36 2 .chips hi64 w
  obtain ⟨x2, hx2⟩ : ∃ y, ex 2 36 2 G F = y := ⟨_, rfl⟩
  have B2 : ∀ w : World, Calls Try.prog 21 #[.int .i64 2, .agg (ints .u8 72 G).toArray, .agg (ints .u8 72 F).toArray] w fun e w' => e = .returned (.int .i64 (x2 : Int)) ∧ Below w.heap.size w w' := fun w => by rw [← hx2]; exact refExposure_any .chips G F hGb hF w
  have d6 : decide ((x2 : Int) ≤ 1) = true := decide_eq_true (by rw [← hx2, ← hG]; have := apF_byte k p q u v c i x p' q' u' v' F hF; omega)
  clear hx2
  have d1 : decide (3 ≤ k) = true := decide_eq_true (by omega)
  have d2 : decide (k ≤ 5) = true := decide_eq_true (by omega)
  have d3 : decide (0 ≤ c) = true := decide_eq_true (by omega)
  have d4 : decide (c < 36) = false := decide_eq_false (by omega)
  obtain rfl : ch = -1 := by rw [← hch]; unfold cv; rw [if_neg (by omega), if_pos (by omega), if_neg (by omega)]
  clear hk h1
  clear hi64
  obtain ⟨L, hL⟩ : ∃ L, ints .u8 72 F = L := ⟨_, rfl⟩
  obtain ⟨M, hM⟩ : ∃ M, ints .u8 72 G = M := ⟨_, rfl⟩
  obtain ⟨Z, hZ⟩ : ∃ Z, (ints .u8 72 fun _ => 0).toArray = Z := ⟨_, rfl⟩
  have hz := zeroR
  have i0 : (Try.prog.info? 41).map (·.size) = some L.length := by rw [← hL, ints_len]; exact infoR
  have i1 : (Try.prog.info? 41).map (·.size) = some M.length := by rw [← hM, ints_len]; exact infoR
  have j9 : (Try.prog.info? 41).map (·.size) = some M.toArray.size := by simpa using i1
  have one1 : M.toArray.all (·.oneCell') = true := by rw [← hM]; exact ints_one .u8 72 G
  have HL : Hid (ints .u8 72 F = L) := hL
  have HM : Hid (ints .u8 72 G = M) := hM
  have HZ : Hid ((ints .u8 72 fun _ => 0).toArray = Z) := hZ
  rw [hL, hM] at A4
  rw [hM, hL] at B2
  rw [hZ] at hz
  rw [hL]
  have A5 : Hid (∀ w : World, Calls Try.prog 16 #[.agg #[.int .i64 k, .int .i64 p, .int .i64 q, .int .i64 u, .int .i64 v, .int .i64 c, .int .i64 i, .int .i64 x], .int .i64 2, .agg #[.int .i64 p', .int .i64 q', .int .i64 u', .int .i64 v'], .agg L.toArray] w fun e w' => e = .returned (.agg M.toArray) ∧ Below w.heap.size w w') := A4
  clear A4 hF hGb hG hch hZ
  go_enter Try.func5, Try.ntmps5
  go_upto_region 1 with (fail)
  obtain ⟨B, hB⟩ : ∃ B, w.heap.size = B := ⟨_, rfl⟩
  obtain ⟨C, hC⟩ : ∃ C, B + 1 = C := ⟨_, rfl⟩
  obtain ⟨D, hD⟩ : ∃ D, C + 1 = D := ⟨_, rfl⟩
  obtain ⟨V, hV⟩ : ∃ V, ((w.alloc (.cells #[.int .i64 k, .int .i64 p, .int .i64 q, .int .i64 u, .int .i64 v, .int .i64 c, .int .i64 i, .int .i64 x] 25)).alloc (.cells #[.int .i64 p', .int .i64 q', .int .i64 u', .int .i64 v'] 23)).alloc (.cells L.toArray 41) = V := ⟨_, rfl⟩
  have HS : Hid (Lw2 B C D k p q u v c i x p' q' u' v' L F w V) := by
    have a1 := Pl.new (w.alloc (.cells #[.int .i64 k, .int .i64 p, .int .i64 q, .int .i64 u, .int .i64 v, .int .i64 c, .int .i64 i, .int .i64 x] 25)) p' q' u' v' 23
    have a2 := Bk.new .u8 ((w.alloc (.cells #[.int .i64 k, .int .i64 p, .int .i64 q, .int .i64 u, .int .i64 v, .int .i64 c, .int .i64 i, .int .i64 x] 25)).alloc (.cells #[.int .i64 p', .int .i64 q', .int .i64 u', .int .i64 v'] 23)) 72 F 41
    rw [hL] at a2
    simp only [World.size_alloc] at a1 a2
    rw [← hV, ← hD, ← hC, ← hB]
    exact ⟨((Ft.new w k p q u v c i x _).alloc _).alloc _, a1.alloc _, a2, (((Below.refl _ w).alloc (Nat.le_refl _) _).alloc (by simp) _).alloc (by simp; omega) _, hL⟩
  rw [hV, hB, hC, hD]
  clear hV hC hD hL hM
  go_wp2_with (fail)
  refine (A0.out _).mono ?_
  rintro e W0 ⟨rfl, b0⟩
  replace HS : Hid (Lw2 B C D k p q u v c i x p' q' u' v' L F w W0) := HS.out.next b0
  clear b0
  go_wp2_with (fail)
  refine (A1.out _).mono ?_
  rintro e W1 ⟨rfl, rfl⟩
  go_wp2_with (first
    | refine wpList_load_mid rfl 25 _ rfl B 0 rfl [.int .i64 k, .int .i64 p, .int .i64 q, .int .i64 u, .int .i64 v, .int .i64 c, .int .i64 i, .int .i64 x] _ (by exact HS.out.f.range) Try.underlying25 rfl infoF ?_
    | refine wpList_load_g (by rfl) 25 _ rfl B 0 rfl [.int .i64 k, .int .i64 p, .int .i64 q, .int .i64 u, .int .i64 v, .int .i64 c, .int .i64 i, .int .i64 x] _ (by exact HS.out.f.range) Try.underlying25 rfl infoF ?_
    | refine wpList_load_mid rfl 23 _ rfl C 0 rfl [.int .i64 p', .int .i64 q', .int .i64 u', .int .i64 v'] _ (by exact HS.out.g.range) Try.underlying23 rfl infoP ?_
    | refine wpList_load_mid rfl 41 _ rfl D 0 rfl L _ (by exact HS.out.rr) Try.underlying41 rfl i0 ?_
    | refine wpList_load_g (by rfl) 41 _ rfl D 0 rfl L _ (by exact HS.out.rr) Try.underlying41 rfl i0 ?_)
  refine (A2.out _).mono ?_
  rintro e W1 ⟨rfl, b1⟩
  replace HS : Hid (Lw2 B C D k p q u v c i x p' q' u' v' L F w W1) := HS.out.next b1
  clear b1
  go_wp2_with (first
    | refine wpList_load_mid rfl 25 _ rfl B 0 rfl [.int .i64 k, .int .i64 p, .int .i64 q, .int .i64 u, .int .i64 v, .int .i64 c, .int .i64 i, .int .i64 x] _ (by exact HS.out.f.range) Try.underlying25 rfl infoF ?_
    | refine wpList_load_g (by rfl) 25 _ rfl B 0 rfl [.int .i64 k, .int .i64 p, .int .i64 q, .int .i64 u, .int .i64 v, .int .i64 c, .int .i64 i, .int .i64 x] _ (by exact HS.out.f.range) Try.underlying25 rfl infoF ?_
    | refine wpList_load_mid rfl 23 _ rfl C 0 rfl [.int .i64 p', .int .i64 q', .int .i64 u', .int .i64 v'] _ (by exact HS.out.g.range) Try.underlying23 rfl infoP ?_
    | refine wpList_load_mid rfl 41 _ rfl D 0 rfl L _ (by exact HS.out.rr) Try.underlying41 rfl i0 ?_
    | refine wpList_load_g (by rfl) 41 _ rfl D 0 rfl L _ (by exact HS.out.rr) Try.underlying41 rfl i0 ?_)
  refine (A3.out _).mono ?_
  rintro e W2 ⟨rfl, b2⟩
  replace HS : Hid (Lw2 B C D k p q u v c i x p' q' u' v' L F w W2) := HS.out.next b2
  clear b2
  have f0 := HS.out.f.c0; have f5 := HS.out.f.c5; have f6 := HS.out.f.c6
  go_upto_region 12 with (fail)
  clear f0 f5 f6 d1 d2 d3 d4
  go_wp2_with (first
    | refine wpList_load_mid rfl 25 _ rfl B 0 rfl [.int .i64 k, .int .i64 p, .int .i64 q, .int .i64 u, .int .i64 v, .int .i64 c, .int .i64 i, .int .i64 x] _ (by exact HS.out.f.range) Try.underlying25 rfl infoF ?_
    | refine wpList_load_g (by rfl) 25 _ rfl B 0 rfl [.int .i64 k, .int .i64 p, .int .i64 q, .int .i64 u, .int .i64 v, .int .i64 c, .int .i64 i, .int .i64 x] _ (by exact HS.out.f.range) Try.underlying25 rfl infoF ?_
    | refine wpList_load_mid rfl 23 _ rfl C 0 rfl [.int .i64 p', .int .i64 q', .int .i64 u', .int .i64 v'] _ (by exact HS.out.g.range) Try.underlying23 rfl infoP ?_
    | refine wpList_load_mid rfl 41 _ rfl D 0 rfl L _ (by exact HS.out.rr) Try.underlying41 rfl i0 ?_
    | refine wpList_load_g (by rfl) 41 _ rfl D 0 rfl L _ (by exact HS.out.rr) Try.underlying41 rfl i0 ?_)
  refine (A5.out _).mono ?_
  rintro e W3 ⟨rfl, b3⟩
  have h9 := laid72 W3 41 G
  obtain ⟨ht, HX⟩ : (W3.alloc (.cells Z 41)).there W3.heap.size 0 M.toArray.size ∧ Hid (Lx2 B C D W3.heap.size k p q u v c i x p' q' u' v' L F M G w ((W3.alloc (.cells Z 41)).setCells W3.heap.size 0 M)) := by
    rw [HM.out, HZ.out] at h9
    exact ⟨h9.2.2, (HS.out.next b3).next h9.2.1, h9.1, HM.out⟩
  clear h9 HS b3
  go_upto_region 13 with (first | refine wpList_store_mid rfl 41 _ _ rfl _ 0 M.toArray rfl rfl ht j9 one1 ?_)
  obtain ⟨W4, hW4⟩ : ∃ W4, (W3.alloc (.cells Z 41)).setCells W3.heap.size 0 M = W4 := ⟨_, rfl⟩
  obtain ⟨E, hE⟩ : ∃ E, W3.heap.size = E := ⟨_, rfl⟩
  rw [hE] at hW4 HX ⊢
  rw [hW4] at HX ⊢
  have HS := HX
  clear HX hW4 ht hE
  go_wp2
  go_loopw [74] (fun a wr => ∃ y : Nat, y ≤ 72 ∧ a = .int .i64 (y : Int) ∧ Hid (Lx2 B C D E k p q u v c i x p' q' u' v' L F M G w wr)) (fun a _ => 72 - (intOf a).toNat)
  case atStart => exact ⟨0, by omega, rfl, HS⟩
  case round =>
    clear HS
    obtain ⟨y, hy, rfl, HS⟩ := hrel
    by_cases hlt : y < 72
    · have g1 := HS.out.x.cell y hlt
      have g2 := HS.out.s.r.cell y hlt
      have e9 : ((y : Int).tmod 36) = (y : Int) % 36 := Int.tmod_eq_emod_of_nonneg (by omega)
      obtain ⟨a1, ha1⟩ : ∃ a, G y = a := ⟨_, rfl⟩
      obtain ⟨a2, ha2⟩ : ∃ a, F y = a := ⟨_, rfl⟩
      have HC2 := HC.out y
      rw [ha1, ha2] at HC2
      rw [ha1] at g1
      rw [ha2] at g2
      clear ha1 ha2 HC
      by_cases hne : a1 = a2
      · have d1 : (a1 != a2) = false := by simpa using hne
        clear HC2 hne
        go_wp2
        go_quiet (fail)
        go_wp2
        go_roundw
        case rel => exact ⟨y + 1, by omega, by go_num, HS.out.drewN _⟩
        case measure => simp [intOf]; omega
      · exact absurd (HC2 hne) (by omega)
    · obtain rfl : y = 72 := by omega
      clear HC
      go_wp2_with (first
          | refine wpList_load_mid rfl 25 _ rfl B 0 rfl [.int .i64 k, .int .i64 p, .int .i64 q, .int .i64 u, .int .i64 v, .int .i64 c, .int .i64 i, .int .i64 x] _ (by exact HS.out.s.f.range) Try.underlying25 rfl infoF ?_
          | refine wpList_load_g (by rfl) 25 _ rfl B 0 rfl [.int .i64 k, .int .i64 p, .int .i64 q, .int .i64 u, .int .i64 v, .int .i64 c, .int .i64 i, .int .i64 x] _ (by exact HS.out.s.f.range) Try.underlying25 rfl infoF ?_
          | refine wpList_load_mid rfl 23 _ rfl C 0 rfl [.int .i64 p', .int .i64 q', .int .i64 u', .int .i64 v'] _ (by exact HS.out.s.g.range) Try.underlying23 rfl infoP ?_
          | refine wpList_load_mid rfl 41 _ rfl D 0 rfl L _ (by exact HS.out.s.rr) Try.underlying41 rfl i0 ?_
          | refine wpList_load_g (by rfl) 41 _ rfl D 0 rfl L _ (by exact HS.out.s.rr) Try.underlying41 rfl i0 ?_
          | refine wpList_load_g (by rfl) 41 _ rfl E 0 rfl M _ (by exact HS.out.rx) Try.underlying41 rfl i1 ?_
          | refine wpList_load_mid rfl 41 _ rfl E 0 rfl M _ (by exact HS.out.rx) Try.underlying41 rfl i1 ?_)
      refine (A3.out _).mono ?_
      rintro e W5 ⟨rfl, b5⟩
      replace HS : Hid (Lx2 B C D E k p q u v c i x p' q' u' v' L F M G w W5) := HS.out.next b5
      clear b5
      go_wp2_with (first
          | refine wpList_load_mid rfl 25 _ rfl B 0 rfl [.int .i64 k, .int .i64 p, .int .i64 q, .int .i64 u, .int .i64 v, .int .i64 c, .int .i64 i, .int .i64 x] _ (by exact HS.out.s.f.range) Try.underlying25 rfl infoF ?_
          | refine wpList_load_g (by rfl) 25 _ rfl B 0 rfl [.int .i64 k, .int .i64 p, .int .i64 q, .int .i64 u, .int .i64 v, .int .i64 c, .int .i64 i, .int .i64 x] _ (by exact HS.out.s.f.range) Try.underlying25 rfl infoF ?_
          | refine wpList_load_mid rfl 23 _ rfl C 0 rfl [.int .i64 p', .int .i64 q', .int .i64 u', .int .i64 v'] _ (by exact HS.out.s.g.range) Try.underlying23 rfl infoP ?_
          | refine wpList_load_mid rfl 41 _ rfl D 0 rfl L _ (by exact HS.out.s.rr) Try.underlying41 rfl i0 ?_
          | refine wpList_load_g (by rfl) 41 _ rfl D 0 rfl L _ (by exact HS.out.s.rr) Try.underlying41 rfl i0 ?_
          | refine wpList_load_g (by rfl) 41 _ rfl E 0 rfl M _ (by exact HS.out.rx) Try.underlying41 rfl i1 ?_
          | refine wpList_load_mid rfl 41 _ rfl E 0 rfl M _ (by exact HS.out.rx) Try.underlying41 rfl i1 ?_)
      refine (B2 _).mono ?_
      rintro e W7 ⟨rfl, b7⟩
      replace HS : Hid (Lx2 B C D E k p q u v c i x p' q' u' v' L F M G w W7) := HS.out.next b7
      clear b7
      go_wp2
      go_ret
      exact ⟨rfl, by first | exact HS.out.s.n | (rw [hB]; exact HS.out.s.n)⟩
set_option maxRecDepth 100000 in
set_option maxHeartbeats 4000000 in
theorem faultCovers_2W (k p q u v c i x : Int) (p' q' u' v' : Int) (F : Nat → Int) (hF : Byts 72 F) (hi64 : i ≤ 9223372036854775807) (hk : 3 ≤ k ∧ k ≤ 5) (h1 : 0 ≤ c) (h2 : c < 36) (w : World) :
    Calls Try.prog 5 #[.agg #[.int .i64 k, .int .i64 p, .int .i64 q, .int .i64 u, .int .i64 v, .int .i64 c, .int .i64 i, .int .i64 x], .int .i64 2, .agg #[.int .i64 p', .int .i64 q', .int .i64 u', .int .i64 v'], .agg (ints .u8 72 F).toArray] w fun e w' => e = .returned (.bool true) ∧ Below w.heap.size w w' := by
  obtain ⟨G, hG⟩ : ∃ G, apF 36 k p q u v c i x p' q' u' v' F = G := ⟨_, rfl⟩
  obtain ⟨ch, hch⟩ : ∃ y, cv 36 k c i = y := ⟨_, rfl⟩
  have hGb : Byts 72 G := by rw [← hG]; exact apF_byt _ _ _ _ _ _ _ _ _ _ _ _ _ F hF
  have HC : Hid (∀ y : Nat, G y ≠ F y → (y : Int) % 36 = ch) := fun y hy => by rw [← hch]; rw [← hG] at hy; exact apF_cv (by omega) hy
  have A0 : Hid (∀ w : World, Calls Try.prog 8 #[] w fun e w' => e = .returned (.bool true) ∧ Below w.heap.size w w') := anchor11_any
  have A1 : Hid (∀ w : World, Calls Try.prog 20 #[.int .i64 2] w fun e w' => e = .returned (.int .i64 36) ∧ w' = w) := fun w => refChips_any .chips w
  have A2 : Hid (∀ w : World, Calls Try.prog 19 #[.agg #[.int .i64 k, .int .i64 p, .int .i64 q, .int .i64 u, .int .i64 v, .int .i64 c, .int .i64 i, .int .i64 x], .int .i64 2] w fun e w' => e = .returned (.int .i64 ch) ∧ Below w.heap.size w w') := fun w => by rw [← hch]; exact covers_any k p q u v c i x 2 36 2 .chips w
  have A3 : Hid (∀ w : World, Calls Try.prog 15 #[.agg #[.int .i64 k, .int .i64 p, .int .i64 q, .int .i64 u, .int .i64 v, .int .i64 c, .int .i64 i, .int .i64 x]] w fun e w' => e = .returned (.bool false) ∧ Below w.heap.size w w') := fun w => by have := narrow_any k p q u v c i x w; rw [show nw k = false from decide_eq_false (by omega)] at this; exact this
  have A4 : ∀ w : World, Calls Try.prog 16 #[.agg #[.int .i64 k, .int .i64 p, .int .i64 q, .int .i64 u, .int .i64 v, .int .i64 c, .int .i64 i, .int .i64 x], .int .i64 2, .agg #[.int .i64 p', .int .i64 q', .int .i64 u', .int .i64 v'], .agg (ints .u8 72 F).toArray] w fun e w' => e = .returned (.agg (ints .u8 72 G).toArray) ∧ Below w.heap.size w w' := fun w => by rw [← hG]; exact apply_any k p q u v c i x p' q' u' v' F hF 2 36 2 .chips hi64 w
  obtain ⟨x2, hx2⟩ : ∃ y, ex 2 36 2 G F = y := ⟨_, rfl⟩
  have B2 : ∀ w : World, Calls Try.prog 21 #[.int .i64 2, .agg (ints .u8 72 G).toArray, .agg (ints .u8 72 F).toArray] w fun e w' => e = .returned (.int .i64 (x2 : Int)) ∧ Below w.heap.size w w' := fun w => by rw [← hx2]; exact refExposure_any .chips G F hGb hF w
  have d6 : decide ((x2 : Int) ≤ 1) = true := decide_eq_true (by rw [← hx2, ← hG]; have := apF_byte k p q u v c i x p' q' u' v' F hF; omega)
  clear hx2
  have d1 : decide (3 ≤ k) = true := decide_eq_true (by omega)
  have d2 : decide (k ≤ 5) = true := decide_eq_true (by omega)
  have d3 : decide (0 ≤ c) = true := decide_eq_true (by omega)
  have d4 : decide (c < 36) = true := decide_eq_true (by omega)
  obtain rfl : c = ch := by rw [← hch]; unfold cv; rw [if_neg (by omega), if_pos (by omega), if_pos (by omega)]
  clear hk h1 h2
  clear hi64
  obtain ⟨L, hL⟩ : ∃ L, ints .u8 72 F = L := ⟨_, rfl⟩
  obtain ⟨M, hM⟩ : ∃ M, ints .u8 72 G = M := ⟨_, rfl⟩
  obtain ⟨Z, hZ⟩ : ∃ Z, (ints .u8 72 fun _ => 0).toArray = Z := ⟨_, rfl⟩
  have hz := zeroR
  have i0 : (Try.prog.info? 41).map (·.size) = some L.length := by rw [← hL, ints_len]; exact infoR
  have i1 : (Try.prog.info? 41).map (·.size) = some M.length := by rw [← hM, ints_len]; exact infoR
  have j9 : (Try.prog.info? 41).map (·.size) = some M.toArray.size := by simpa using i1
  have one1 : M.toArray.all (·.oneCell') = true := by rw [← hM]; exact ints_one .u8 72 G
  have HL : Hid (ints .u8 72 F = L) := hL
  have HM : Hid (ints .u8 72 G = M) := hM
  have HZ : Hid ((ints .u8 72 fun _ => 0).toArray = Z) := hZ
  rw [hL, hM] at A4
  rw [hM, hL] at B2
  rw [hZ] at hz
  rw [hL]
  have A5 : Hid (∀ w : World, Calls Try.prog 16 #[.agg #[.int .i64 k, .int .i64 p, .int .i64 q, .int .i64 u, .int .i64 v, .int .i64 c, .int .i64 i, .int .i64 x], .int .i64 2, .agg #[.int .i64 p', .int .i64 q', .int .i64 u', .int .i64 v'], .agg L.toArray] w fun e w' => e = .returned (.agg M.toArray) ∧ Below w.heap.size w w') := A4
  clear A4 hF hGb hG hch hZ
  go_enter Try.func5, Try.ntmps5
  go_upto_region 1 with (fail)
  obtain ⟨B, hB⟩ : ∃ B, w.heap.size = B := ⟨_, rfl⟩
  obtain ⟨C, hC⟩ : ∃ C, B + 1 = C := ⟨_, rfl⟩
  obtain ⟨D, hD⟩ : ∃ D, C + 1 = D := ⟨_, rfl⟩
  obtain ⟨V, hV⟩ : ∃ V, ((w.alloc (.cells #[.int .i64 k, .int .i64 p, .int .i64 q, .int .i64 u, .int .i64 v, .int .i64 c, .int .i64 i, .int .i64 x] 25)).alloc (.cells #[.int .i64 p', .int .i64 q', .int .i64 u', .int .i64 v'] 23)).alloc (.cells L.toArray 41) = V := ⟨_, rfl⟩
  have HS : Hid (Lw2 B C D k p q u v c i x p' q' u' v' L F w V) := by
    have a1 := Pl.new (w.alloc (.cells #[.int .i64 k, .int .i64 p, .int .i64 q, .int .i64 u, .int .i64 v, .int .i64 c, .int .i64 i, .int .i64 x] 25)) p' q' u' v' 23
    have a2 := Bk.new .u8 ((w.alloc (.cells #[.int .i64 k, .int .i64 p, .int .i64 q, .int .i64 u, .int .i64 v, .int .i64 c, .int .i64 i, .int .i64 x] 25)).alloc (.cells #[.int .i64 p', .int .i64 q', .int .i64 u', .int .i64 v'] 23)) 72 F 41
    rw [hL] at a2
    simp only [World.size_alloc] at a1 a2
    rw [← hV, ← hD, ← hC, ← hB]
    exact ⟨((Ft.new w k p q u v c i x _).alloc _).alloc _, a1.alloc _, a2, (((Below.refl _ w).alloc (Nat.le_refl _) _).alloc (by simp) _).alloc (by simp; omega) _, hL⟩
  rw [hV, hB, hC, hD]
  clear hV hC hD hL hM
  go_wp2_with (fail)
  refine (A0.out _).mono ?_
  rintro e W0 ⟨rfl, b0⟩
  replace HS : Hid (Lw2 B C D k p q u v c i x p' q' u' v' L F w W0) := HS.out.next b0
  clear b0
  go_wp2_with (fail)
  refine (A1.out _).mono ?_
  rintro e W1 ⟨rfl, rfl⟩
  go_wp2_with (first
    | refine wpList_load_mid rfl 25 _ rfl B 0 rfl [.int .i64 k, .int .i64 p, .int .i64 q, .int .i64 u, .int .i64 v, .int .i64 c, .int .i64 i, .int .i64 x] _ (by exact HS.out.f.range) Try.underlying25 rfl infoF ?_
    | refine wpList_load_g (by rfl) 25 _ rfl B 0 rfl [.int .i64 k, .int .i64 p, .int .i64 q, .int .i64 u, .int .i64 v, .int .i64 c, .int .i64 i, .int .i64 x] _ (by exact HS.out.f.range) Try.underlying25 rfl infoF ?_
    | refine wpList_load_mid rfl 23 _ rfl C 0 rfl [.int .i64 p', .int .i64 q', .int .i64 u', .int .i64 v'] _ (by exact HS.out.g.range) Try.underlying23 rfl infoP ?_
    | refine wpList_load_mid rfl 41 _ rfl D 0 rfl L _ (by exact HS.out.rr) Try.underlying41 rfl i0 ?_
    | refine wpList_load_g (by rfl) 41 _ rfl D 0 rfl L _ (by exact HS.out.rr) Try.underlying41 rfl i0 ?_)
  refine (A2.out _).mono ?_
  rintro e W1 ⟨rfl, b1⟩
  replace HS : Hid (Lw2 B C D k p q u v c i x p' q' u' v' L F w W1) := HS.out.next b1
  clear b1
  go_wp2_with (first
    | refine wpList_load_mid rfl 25 _ rfl B 0 rfl [.int .i64 k, .int .i64 p, .int .i64 q, .int .i64 u, .int .i64 v, .int .i64 c, .int .i64 i, .int .i64 x] _ (by exact HS.out.f.range) Try.underlying25 rfl infoF ?_
    | refine wpList_load_g (by rfl) 25 _ rfl B 0 rfl [.int .i64 k, .int .i64 p, .int .i64 q, .int .i64 u, .int .i64 v, .int .i64 c, .int .i64 i, .int .i64 x] _ (by exact HS.out.f.range) Try.underlying25 rfl infoF ?_
    | refine wpList_load_mid rfl 23 _ rfl C 0 rfl [.int .i64 p', .int .i64 q', .int .i64 u', .int .i64 v'] _ (by exact HS.out.g.range) Try.underlying23 rfl infoP ?_
    | refine wpList_load_mid rfl 41 _ rfl D 0 rfl L _ (by exact HS.out.rr) Try.underlying41 rfl i0 ?_
    | refine wpList_load_g (by rfl) 41 _ rfl D 0 rfl L _ (by exact HS.out.rr) Try.underlying41 rfl i0 ?_)
  refine (A3.out _).mono ?_
  rintro e W2 ⟨rfl, b2⟩
  replace HS : Hid (Lw2 B C D k p q u v c i x p' q' u' v' L F w W2) := HS.out.next b2
  clear b2
  have f0 := HS.out.f.c0; have f5 := HS.out.f.c5; have f6 := HS.out.f.c6
  go_upto_region 12 with (fail)
  clear f0 f5 f6 d1 d2 d3 d4
  go_wp2_with (first
    | refine wpList_load_mid rfl 25 _ rfl B 0 rfl [.int .i64 k, .int .i64 p, .int .i64 q, .int .i64 u, .int .i64 v, .int .i64 c, .int .i64 i, .int .i64 x] _ (by exact HS.out.f.range) Try.underlying25 rfl infoF ?_
    | refine wpList_load_g (by rfl) 25 _ rfl B 0 rfl [.int .i64 k, .int .i64 p, .int .i64 q, .int .i64 u, .int .i64 v, .int .i64 c, .int .i64 i, .int .i64 x] _ (by exact HS.out.f.range) Try.underlying25 rfl infoF ?_
    | refine wpList_load_mid rfl 23 _ rfl C 0 rfl [.int .i64 p', .int .i64 q', .int .i64 u', .int .i64 v'] _ (by exact HS.out.g.range) Try.underlying23 rfl infoP ?_
    | refine wpList_load_mid rfl 41 _ rfl D 0 rfl L _ (by exact HS.out.rr) Try.underlying41 rfl i0 ?_
    | refine wpList_load_g (by rfl) 41 _ rfl D 0 rfl L _ (by exact HS.out.rr) Try.underlying41 rfl i0 ?_)
  refine (A5.out _).mono ?_
  rintro e W3 ⟨rfl, b3⟩
  have h9 := laid72 W3 41 G
  obtain ⟨ht, HX⟩ : (W3.alloc (.cells Z 41)).there W3.heap.size 0 M.toArray.size ∧ Hid (Lx2 B C D W3.heap.size k p q u v c i x p' q' u' v' L F M G w ((W3.alloc (.cells Z 41)).setCells W3.heap.size 0 M)) := by
    rw [HM.out, HZ.out] at h9
    exact ⟨h9.2.2, (HS.out.next b3).next h9.2.1, h9.1, HM.out⟩
  clear h9 HS b3
  go_upto_region 13 with (first | refine wpList_store_mid rfl 41 _ _ rfl _ 0 M.toArray rfl rfl ht j9 one1 ?_)
  obtain ⟨W4, hW4⟩ : ∃ W4, (W3.alloc (.cells Z 41)).setCells W3.heap.size 0 M = W4 := ⟨_, rfl⟩
  obtain ⟨E, hE⟩ : ∃ E, W3.heap.size = E := ⟨_, rfl⟩
  rw [hE] at hW4 HX ⊢
  rw [hW4] at HX ⊢
  have HS := HX
  clear HX hW4 ht hE
  go_wp2
  go_loopw [74] (fun a wr => ∃ y : Nat, y ≤ 72 ∧ a = .int .i64 (y : Int) ∧ Hid (Lx2 B C D E k p q u v c i x p' q' u' v' L F M G w wr)) (fun a _ => 72 - (intOf a).toNat)
  case atStart => exact ⟨0, by omega, rfl, HS⟩
  case round =>
    clear HS
    obtain ⟨y, hy, rfl, HS⟩ := hrel
    by_cases hlt : y < 72
    · have g1 := HS.out.x.cell y hlt
      have g2 := HS.out.s.r.cell y hlt
      have e9 : ((y : Int).tmod 36) = (y : Int) % 36 := Int.tmod_eq_emod_of_nonneg (by omega)
      obtain ⟨a1, ha1⟩ : ∃ a, G y = a := ⟨_, rfl⟩
      obtain ⟨a2, ha2⟩ : ∃ a, F y = a := ⟨_, rfl⟩
      have HC2 := HC.out y
      rw [ha1, ha2] at HC2
      rw [ha1] at g1
      rw [ha2] at g2
      clear ha1 ha2 HC
      by_cases hne : a1 = a2
      · have d1 : (a1 != a2) = false := by simpa using hne
        clear HC2 hne
        go_wp2
        go_quiet (fail)
        go_wp2
        go_roundw
        case rel => exact ⟨y + 1, by omega, by go_num, HS.out.drewN _⟩
        case measure => simp [intOf]; omega
      · have d1 : (a1 != a2) = true := by simpa using hne
        have hc := HC2 hne
        have d2 : ((y : Int) % 36 != c) = false := by simpa using hc
        clear HC2 hne hc
        go_wp2
        go_quiet (fail)
        go_wp2
        go_roundw
        case rel => exact ⟨y + 1, by omega, by go_num, HS.out.drewN _⟩
        case measure => simp [intOf]; omega
    · obtain rfl : y = 72 := by omega
      clear HC
      go_wp2_with (first
          | refine wpList_load_mid rfl 25 _ rfl B 0 rfl [.int .i64 k, .int .i64 p, .int .i64 q, .int .i64 u, .int .i64 v, .int .i64 c, .int .i64 i, .int .i64 x] _ (by exact HS.out.s.f.range) Try.underlying25 rfl infoF ?_
          | refine wpList_load_g (by rfl) 25 _ rfl B 0 rfl [.int .i64 k, .int .i64 p, .int .i64 q, .int .i64 u, .int .i64 v, .int .i64 c, .int .i64 i, .int .i64 x] _ (by exact HS.out.s.f.range) Try.underlying25 rfl infoF ?_
          | refine wpList_load_mid rfl 23 _ rfl C 0 rfl [.int .i64 p', .int .i64 q', .int .i64 u', .int .i64 v'] _ (by exact HS.out.s.g.range) Try.underlying23 rfl infoP ?_
          | refine wpList_load_mid rfl 41 _ rfl D 0 rfl L _ (by exact HS.out.s.rr) Try.underlying41 rfl i0 ?_
          | refine wpList_load_g (by rfl) 41 _ rfl D 0 rfl L _ (by exact HS.out.s.rr) Try.underlying41 rfl i0 ?_
          | refine wpList_load_g (by rfl) 41 _ rfl E 0 rfl M _ (by exact HS.out.rx) Try.underlying41 rfl i1 ?_
          | refine wpList_load_mid rfl 41 _ rfl E 0 rfl M _ (by exact HS.out.rx) Try.underlying41 rfl i1 ?_)
      refine (A3.out _).mono ?_
      rintro e W5 ⟨rfl, b5⟩
      replace HS : Hid (Lx2 B C D E k p q u v c i x p' q' u' v' L F M G w W5) := HS.out.next b5
      clear b5
      go_wp2_with (first
          | refine wpList_load_mid rfl 25 _ rfl B 0 rfl [.int .i64 k, .int .i64 p, .int .i64 q, .int .i64 u, .int .i64 v, .int .i64 c, .int .i64 i, .int .i64 x] _ (by exact HS.out.s.f.range) Try.underlying25 rfl infoF ?_
          | refine wpList_load_g (by rfl) 25 _ rfl B 0 rfl [.int .i64 k, .int .i64 p, .int .i64 q, .int .i64 u, .int .i64 v, .int .i64 c, .int .i64 i, .int .i64 x] _ (by exact HS.out.s.f.range) Try.underlying25 rfl infoF ?_
          | refine wpList_load_mid rfl 23 _ rfl C 0 rfl [.int .i64 p', .int .i64 q', .int .i64 u', .int .i64 v'] _ (by exact HS.out.s.g.range) Try.underlying23 rfl infoP ?_
          | refine wpList_load_mid rfl 41 _ rfl D 0 rfl L _ (by exact HS.out.s.rr) Try.underlying41 rfl i0 ?_
          | refine wpList_load_g (by rfl) 41 _ rfl D 0 rfl L _ (by exact HS.out.s.rr) Try.underlying41 rfl i0 ?_
          | refine wpList_load_g (by rfl) 41 _ rfl E 0 rfl M _ (by exact HS.out.rx) Try.underlying41 rfl i1 ?_
          | refine wpList_load_mid rfl 41 _ rfl E 0 rfl M _ (by exact HS.out.rx) Try.underlying41 rfl i1 ?_)
      refine (B2 _).mono ?_
      rintro e W7 ⟨rfl, b7⟩
      replace HS : Hid (Lx2 B C D E k p q u v c i x p' q' u' v' L F M G w W7) := HS.out.next b7
      clear b7
      go_wp2
      go_ret
      exact ⟨rfl, by first | exact HS.out.s.n | (rw [hB]; exact HS.out.s.n)⟩
theorem faultCovers_2 (k p q u v c i x : Int) (p' q' u' v' : Int) (F : Nat → Int) (hF : Byts 72 F) (hi64 : i ≤ 9223372036854775807) (w : World) :
    Calls Try.prog 5 #[.agg #[.int .i64 k, .int .i64 p, .int .i64 q, .int .i64 u, .int .i64 v, .int .i64 c, .int .i64 i, .int .i64 x], .int .i64 2, .agg #[.int .i64 p', .int .i64 q', .int .i64 u', .int .i64 v'], .agg (ints .u8 72 F).toArray] w fun e w' => e = .returned (.bool true) ∧ Below w.heap.size w w' := by
  rcases (show k < 1 ∨ (k = 1 ∨ k = 2) ∨ (3 ≤ k ∧ k ≤ 5) ∨ 5 < k by omega) with h | h | h | h
  · exact faultCovers_2B1 k p q u v c i x p' q' u' v' F hF hi64 h w
  · rcases (show i < 0 ∨ (0 ≤ i ∧ i < 576) ∨ 576 ≤ i by omega) with h1 | h1 | h1
    · exact faultCovers_2A1 k p q u v c i x p' q' u' v' F hF hi64 h h1 w
    · exact faultCovers_2N k p q u v c i x p' q' u' v' F hF hi64 h h1.1 h1.2 w
    · exact faultCovers_2A2 k p q u v c i x p' q' u' v' F hF hi64 h h1 w
  · rcases (show c < 0 ∨ (0 ≤ c ∧ c < 36) ∨ 36 ≤ c by omega) with h1 | h1 | h1
    · exact faultCovers_2B3 k p q u v c i x p' q' u' v' F hF hi64 h h1 w
    · exact faultCovers_2W k p q u v c i x p' q' u' v' F hF hi64 h h1.1 h1.2 w
    · exact faultCovers_2B4 k p q u v c i x p' q' u' v' F hF hi64 h h1 w
  · exact faultCovers_2B2 k p q u v c i x p' q' u' v' F hF hi64 h w
end Go.Proofs.Ytlacmkcmfkakjaa
