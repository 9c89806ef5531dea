/-
  How much two lines' raw bytes are exposed to one another, by the document.
-/
import Derived.Test.YtcpjmfemgdgplaaRwW3
namespace Go.Proofs.Ytcpjmfemgdgplaa
open Go.RowKit
open Bm (wt wtK)
attribute [local go_sem] Oper.semAt_some

set_option maxRecDepth 100000 in
set_option maxHeartbeats 400000 in
theorem refExposure1 (F G : Nat → Int) (hF : Byts 72 F) (hG : Byts 72 G) (w : World) :
    Calls Try.prog 24 #[.int .i64 1, .agg (ints .u8 72 F).toArray, .agg (ints .u8 72 G).toArray] w fun e w' => e = .returned (.int .i64 (Rw.mx 1 F G 9 8 : Int)) ∧ Below w.heap.size w w' := by
  obtain ⟨f, h, Hf, HS, HL, HZ, HQ⟩ : ∃ (f : Nat → Nat) (h : Nat → Nat → Nat), Hid (Rw.mx 1 F G 9 = f) ∧ Hid (∀ i, f (i + 1) = max (f i) (h i 9)) ∧ Hid (∀ i j, i < 8 → j ≤ 9 → h i j ≤ 8 * j) ∧ Hid (∀ i, h i 0 = 0) ∧ Hid (∀ i j, h i (j + 1) = h i j + Rw.dl 1 (F (9 * i + j)) (G (9 * i + j))) :=
    ⟨_, fun i => Rw.sm 1 F G (9 * i), rfl, fun i => rfl, fun i j hi hj => Rw.sm_le 1 F G (9 * i) j (fun j hj => hF _ (by omega)) (fun j hj => hG _ (by omega)), fun i => rfl, fun i j => rfl⟩
  have H0 : Hid (f 0 = 0) := by rw [← Hf.out]; rfl
  rw [show Rw.mx 1 F G 9 8 = f 8 by rw [Hf.out]]
  have hw : Hid (∀ w : World, Calls Try.prog 52 #[.int .i64 1] w fun e w' => e = .returned (.int .i64 9) ∧ w' = w) := refChips_any .bits
  clear Hf
  have HF : Hid (Byts 72 F ∧ Byts 72 G) := ⟨hF, hG⟩
  obtain ⟨A0, hA0⟩ : ∃ A, (ints .u8 72 F).toArray = A := ⟨_, rfl⟩
  obtain ⟨A1, hA1⟩ : ∃ A, (ints .u8 72 G).toArray = A := ⟨_, rfl⟩
  rw [hA0, hA1]
  go_enter Try.func24, Try.ntmps24
  go_wp2_with (go_at_call 52; refine (hw.out _).mono ?_; rintro e w' ⟨rfl, rfl⟩)
  obtain ⟨V, hV⟩ : ∃ V, (w.alloc (.cells A0 39)).alloc (.cells A1 39) = V := ⟨_, rfl⟩
  have HI : Hid (Bk .u8 V w.heap.size 72 F ∧ Bk .u8 V (w.heap.size + 1) 72 G ∧ Below w.heap.size w V) := by
    rw [← hV, ← hA0, ← hA1]
    have h1 := Bk.new .u8 (w.alloc (.cells (ints .u8 72 F).toArray 39)) 72 G 39
    simp only [World.size_alloc] at h1
    exact ⟨(Bk.new .u8 w 72 F _).alloc _, h1, ((Below.refl _ w).alloc (Nat.le_refl _) _).alloc (by simp) _⟩
  obtain ⟨B, hB⟩ : ∃ B, w.heap.size = B := ⟨_, rfl⟩
  obtain ⟨C, hC⟩ : ∃ C, B + 1 = C := ⟨_, rfl⟩
  rw [hV]
  rw [hB, hC] at HI ⊢
  clear hV hA0 hA1 hC hF hG hw
  go_loopw [8, 9] (fun cv iv wr => ∃ i t : Nat, i ≤ 8 ∧ t ≤ 72 ∧ Hid (f i = t) ∧ cv = .int .i64 (t : Int) ∧ iv = .int .i64 (i : Int) ∧ Hid (∃ q, wr = V.drewN q)) (fun _ iv _ => 8 - (intOf iv).toNat)
  case atStart => exact ⟨0, 0, by omega, by omega, H0, rfl, rfl, ⟨0, rfl⟩⟩
  case round =>
    obtain ⟨i, t, hi, ht, Ht, rfl, rfl, Hq⟩ := hrel
    by_cases hlt : i < 8
    · have hst := HS.out i
      rw [Ht.out] at hst
      have Hst : Hid (f (i + 1) = max t (h i 9)) := hst
      have HQi : Hid (∀ j, h i (j + 1) = h i j + Rw.dl 1 (F (9 * i + j)) (G (9 * i + j))) := HQ.out i
      have HLi : Hid (∀ j, j ≤ 9 → h i j ≤ 8 * j) := fun j hj => HL.out i j hlt hj
      have HZi : Hid (h i 0 = 0) := HZ.out i
      obtain ⟨g, Hg⟩ : ∃ g, Hid (h i = g) := ⟨_, rfl⟩
      rw [Hg.out] at Hst HQi HLi HZi
      clear hst HS HQ HL HZ Hg
      go_wp2
      go_loopw [10, 11] (fun cv iv wr => ∃ j c : Nat, j ≤ 9 ∧ c ≤ 8 * j ∧ Hid (g j = c) ∧ cv = .int .i64 (c : Int) ∧ iv = .int .i64 (9 * (i : Int) + (j : Int)) ∧ Hid (∃ q, wr = V.drewN q)) (fun _ iv _ => (9 * (i : Int) + 9 - intOf iv).toNat)
      case atStart => exact ⟨0, 0, by omega, by omega, HZi, rfl, by first | rfl | go_num, Hq⟩
      case round =>
        obtain ⟨j, c, hj, hc, Hc, rfl, rfl, Hq⟩ := hrel
        by_cases hjt : j < 9
        · have hs2 := HQi.out j
          have hl2 := HLi.out (j + 1) (by omega)
          rw [Hc.out] at hs2
          have hbF := HF.out.1 (9 * i + j) (by omega)
          have hbG := HF.out.2 (9 * i + j) (by omega)
          obtain ⟨x, hx, Hx⟩ : ∃ x : Nat, x < 256 ∧ Hid (F (9 * i + j) = (x : Int)) := ⟨(F (9 * i + j)).toNat, by omega, by show _ = _; omega⟩
          obtain ⟨y, hy, Hy⟩ : ∃ y : Nat, y < 256 ∧ Hid (G (9 * i + j) = (y : Int)) := ⟨(G (9 * i + j)).toNat, by omega, by show _ = _; omega⟩
          have ca : wr.cell? ⟨B, 9 * i + j, none⟩ = some (.int .u8 (x : Int)) := by obtain ⟨q, rfl⟩ := Hq.out; rw [← Hx.out]; exact HI.out.1.cell (9 * i + j) (by omega)
          have cb : wr.cell? ⟨C, 9 * i + j, none⟩ = some (.int .u8 (y : Int)) := by obtain ⟨q, rfl⟩ := Hq.out; rw [← Hy.out]; exact HI.out.2.1.cell (9 * i + j) (by omega)
          rw [Hx.out, Hy.out, show Rw.dl 1 (x : Int) (y : Int) = wt (x ^^^ y) from rfl] at hs2
          obtain ⟨z, hz, rz, Hz⟩ : ∃ z : Nat, bits .xor .u8 (x : Int) (y : Int) = (z : Int) ∧ z < 256 ∧ Hid (x ^^^ y = z) := ⟨_, u8_xor_nat x y hx hy, Nat.xor_lt_two_pow (n := 8) hx hy, rfl⟩
          rw [Hz.out] at hs2
          obtain ⟨u, ru, Hu⟩ : ∃ u, u ≤ 64 ∧ Hid (wt z = u) := ⟨_, Bm.wt_le z, rfl⟩
          rw [Hu.out] at hs2
          have hW : Hid (∀ w, Calls Try.prog 53 #[.int .u64 (z : Int)] w fun e w' => e = .returned (.int .i64 (u : Int)) ∧ w' = w) := fun w => by
            have := refWeight_any z (by omega) w
            rw [Hu.out] at this; exact this
          have Hs2 : Hid (g (j + 1) = c + u) := hs2
          rw [hs2] at hl2
          clear hs2 hbF hbG HQi HLi HZi Hu Hz Hx Hy hx hy
          go_wp2
          go_quiet ((go_at_call 53; exact Calls.quiet_of_same (hW.out _)))
          go_wp2
          go_roundw
          case rel => exact ⟨j + 1, c + u, by omega, hl2, Hs2, by go_num, by go_num, by obtain ⟨q, rfl⟩ := Hq.out; exact ⟨_, World.drewN_drewN _ _ _⟩⟩
          case measure => simp [intOf]; omega
        · obtain rfl : j = 9 := by omega
          rw [Hc.out] at Hst
          by_cases hgt : t < c
          · rw [show max t c = c by omega] at Hst
            go_wp2
            go_roundw
            case rel => exact ⟨i + 1, c, by omega, by omega, Hst, by first | rfl | go_num, by first | rfl | go_num, Hq⟩
            case measure => simp [intOf]; omega
          · rw [show max t c = t by omega] at Hst
            go_wp2
            go_roundw
            case rel => exact ⟨i + 1, t, by omega, by omega, Hst, by first | rfl | go_num, by first | rfl | go_num, Hq⟩
            case measure => simp [intOf]; omega
    · obtain rfl : i = 8 := by omega
      have HE : Hid (f 8 = t) := Ht
      clear HS HQ HL HZ
      go_wp2
      go_ret
      exact ⟨by rw [HE.out]; rfl, by rw [hB]; obtain ⟨q, rfl⟩ := Hq.out; exact below_stay HI.out.2.2 (Stay.drewN _ V q) (Nat.le_refl _)⟩
set_option maxRecDepth 100000 in
set_option maxHeartbeats 400000 in
theorem refExposure2 (F G : Nat → Int) (hF : Byts 72 F) (hG : Byts 72 G) (w : World) :
    Calls Try.prog 24 #[.int .i64 2, .agg (ints .u8 72 F).toArray, .agg (ints .u8 72 G).toArray] w fun e w' => e = .returned (.int .i64 (Rw.mx 2 F G 36 2 : Int)) ∧ Below w.heap.size w w' := by
  obtain ⟨f, h, Hf, HS, HL, HZ, HQ⟩ : ∃ (f : Nat → Nat) (h : Nat → Nat → Nat), Hid (Rw.mx 2 F G 36 = f) ∧ Hid (∀ i, f (i + 1) = max (f i) (h i 36)) ∧ Hid (∀ i j, i < 2 → j ≤ 36 → h i j ≤ 8 * j) ∧ Hid (∀ i, h i 0 = 0) ∧ Hid (∀ i j, h i (j + 1) = h i j + Rw.dl 2 (F (36 * i + j)) (G (36 * i + j))) :=
    ⟨_, fun i => Rw.sm 2 F G (36 * i), rfl, fun i => rfl, fun i j hi hj => Rw.sm_le 2 F G (36 * i) j (fun j hj => hF _ (by omega)) (fun j hj => hG _ (by omega)), fun i => rfl, fun i j => rfl⟩
  have H0 : Hid (f 0 = 0) := by rw [← Hf.out]; rfl
  rw [show Rw.mx 2 F G 36 2 = f 2 by rw [Hf.out]]
  have hw : Hid (∀ w : World, Calls Try.prog 52 #[.int .i64 2] w fun e w' => e = .returned (.int .i64 36) ∧ w' = w) := refChips_any .chips
  clear Hf
  have HF : Hid (Byts 72 F ∧ Byts 72 G) := ⟨hF, hG⟩
  obtain ⟨A0, hA0⟩ : ∃ A, (ints .u8 72 F).toArray = A := ⟨_, rfl⟩
  obtain ⟨A1, hA1⟩ : ∃ A, (ints .u8 72 G).toArray = A := ⟨_, rfl⟩
  rw [hA0, hA1]
  go_enter Try.func24, Try.ntmps24
  go_wp2_with (go_at_call 52; refine (hw.out _).mono ?_; rintro e w' ⟨rfl, rfl⟩)
  obtain ⟨V, hV⟩ : ∃ V, (w.alloc (.cells A0 39)).alloc (.cells A1 39) = V := ⟨_, rfl⟩
  have HI : Hid (Bk .u8 V w.heap.size 72 F ∧ Bk .u8 V (w.heap.size + 1) 72 G ∧ Below w.heap.size w V) := by
    rw [← hV, ← hA0, ← hA1]
    have h1 := Bk.new .u8 (w.alloc (.cells (ints .u8 72 F).toArray 39)) 72 G 39
    simp only [World.size_alloc] at h1
    exact ⟨(Bk.new .u8 w 72 F _).alloc _, h1, ((Below.refl _ w).alloc (Nat.le_refl _) _).alloc (by simp) _⟩
  obtain ⟨B, hB⟩ : ∃ B, w.heap.size = B := ⟨_, rfl⟩
  obtain ⟨C, hC⟩ : ∃ C, B + 1 = C := ⟨_, rfl⟩
  rw [hV]
  rw [hB, hC] at HI ⊢
  clear hV hA0 hA1 hC hF hG hw
  go_loopw [8, 9] (fun cv iv wr => ∃ i t : Nat, i ≤ 2 ∧ t ≤ 288 ∧ Hid (f i = t) ∧ cv = .int .i64 (t : Int) ∧ iv = .int .i64 (i : Int) ∧ Hid (∃ q, wr = V.drewN q)) (fun _ iv _ => 2 - (intOf iv).toNat)
  case atStart => exact ⟨0, 0, by omega, by omega, H0, rfl, rfl, ⟨0, rfl⟩⟩
  case round =>
    obtain ⟨i, t, hi, ht, Ht, rfl, rfl, Hq⟩ := hrel
    by_cases hlt : i < 2
    · have hst := HS.out i
      rw [Ht.out] at hst
      have Hst : Hid (f (i + 1) = max t (h i 36)) := hst
      have HQi : Hid (∀ j, h i (j + 1) = h i j + Rw.dl 2 (F (36 * i + j)) (G (36 * i + j))) := HQ.out i
      have HLi : Hid (∀ j, j ≤ 36 → h i j ≤ 8 * j) := fun j hj => HL.out i j hlt hj
      have HZi : Hid (h i 0 = 0) := HZ.out i
      obtain ⟨g, Hg⟩ : ∃ g, Hid (h i = g) := ⟨_, rfl⟩
      rw [Hg.out] at Hst HQi HLi HZi
      clear hst HS HQ HL HZ Hg
      go_wp2
      go_loopw [10, 11] (fun cv iv wr => ∃ j c : Nat, j ≤ 36 ∧ c ≤ 8 * j ∧ Hid (g j = c) ∧ cv = .int .i64 (c : Int) ∧ iv = .int .i64 (36 * (i : Int) + (j : Int)) ∧ Hid (∃ q, wr = V.drewN q)) (fun _ iv _ => (36 * (i : Int) + 36 - intOf iv).toNat)
      case atStart => exact ⟨0, 0, by omega, by omega, HZi, rfl, by first | rfl | go_num, Hq⟩
      case round =>
        obtain ⟨j, c, hj, hc, Hc, rfl, rfl, Hq⟩ := hrel
        by_cases hjt : j < 36
        · have hs2 := HQi.out j
          have hl2 := HLi.out (j + 1) (by omega)
          rw [Hc.out] at hs2
          have ca : wr.cell? ⟨B, 36 * i + j, none⟩ = some (.int .u8 (F (36 * i + j))) := by obtain ⟨q, rfl⟩ := Hq.out; exact HI.out.1.cell (36 * i + j) (by omega)
          have cb : wr.cell? ⟨C, 36 * i + j, none⟩ = some (.int .u8 (G (36 * i + j))) := by obtain ⟨q, rfl⟩ := Hq.out; exact HI.out.2.1.cell (36 * i + j) (by omega)
          obtain ⟨x, Hx⟩ : ∃ x, Hid (F (36 * i + j) = x) := ⟨_, rfl⟩
          obtain ⟨y, Hy⟩ : ∃ y, Hid (G (36 * i + j) = y) := ⟨_, rfl⟩
          rw [Hx.out, Hy.out, show Rw.dl 2 x y = if x = y then 0 else 1 from rfl] at hs2
          rw [Hx.out] at ca
          rw [Hy.out] at cb
          by_cases hxy : x = y
          · have hne : (x != y) = false := by simp [hxy]
            rw [if_pos hxy] at hs2
            have Hs2 : Hid (g (j + 1) = c) := hs2
            clear hs2 hxy HQi HLi HZi
            go_wp2
            go_quiet (fail)
            go_wp2
            go_roundw
            case rel => exact ⟨j + 1, c, by omega, by omega, Hs2, rfl, by go_num, by obtain ⟨q, rfl⟩ := Hq.out; exact ⟨_, World.drewN_drewN _ _ _⟩⟩
            case measure => simp [intOf]; omega
          · have hne : (x != y) = true := by simp [hxy]
            rw [if_neg hxy] at hs2
            have Hs2 : Hid (g (j + 1) = c + 1) := hs2
            clear hs2 hxy HQi HLi HZi
            go_wp2
            go_quiet (fail)
            go_wp2
            go_roundw
            case rel => exact ⟨j + 1, c + 1, by omega, by omega, Hs2, by go_num, by go_num, by obtain ⟨q, rfl⟩ := Hq.out; exact ⟨_, World.drewN_drewN _ _ _⟩⟩
            case measure => simp [intOf]; omega
        · obtain rfl : j = 36 := by omega
          rw [Hc.out] at Hst
          by_cases hgt : t < c
          · rw [show max t c = c by omega] at Hst
            go_wp2
            go_roundw
            case rel => exact ⟨i + 1, c, by omega, by omega, Hst, by first | rfl | go_num, by first | rfl | go_num, Hq⟩
            case measure => simp [intOf]; omega
          · rw [show max t c = t by omega] at Hst
            go_wp2
            go_roundw
            case rel => exact ⟨i + 1, t, by omega, by omega, Hst, by first | rfl | go_num, by first | rfl | go_num, Hq⟩
            case measure => simp [intOf]; omega
    · obtain rfl : i = 2 := by omega
      have HE : Hid (f 2 = t) := Ht
      clear HS HQ HL HZ
      go_wp2
      go_ret
      exact ⟨by rw [HE.out]; rfl, by rw [hB]; obtain ⟨q, rfl⟩ := Hq.out; exact below_stay HI.out.2.2 (Stay.drewN _ V q) (Nat.le_refl _)⟩
set_option maxRecDepth 100000 in
set_option maxHeartbeats 400000 in
theorem refExposure0 (m : Int) (h1 : m ≠ 1) (h2 : m ≠ 2) (F G : Nat → Int) (w : World) :
    Calls Try.prog 24 #[.int .i64 m, .agg (ints .u8 72 F).toArray, .agg (ints .u8 72 G).toArray] w fun e w' => e = .returned (.int .i64 0) ∧ Below w.heap.size w w' := by
  have hw : Hid (∀ w : World, Calls Try.prog 52 #[.int .i64 m] w fun e w' => e = .returned (.int .i64 0) ∧ w' = w) := refChips_any (.none m h1 h2)
  clear h1 h2
  obtain ⟨A0, hA0⟩ : ∃ A, (ints .u8 72 F).toArray = A := ⟨_, rfl⟩
  obtain ⟨A1, hA1⟩ : ∃ A, (ints .u8 72 G).toArray = A := ⟨_, rfl⟩
  rw [hA0, hA1]
  clear hA0 hA1
  go_enter Try.func24, Try.ntmps24
  go_wp2_with (go_at_call 52; refine (hw.out _).mono ?_; rintro e w' ⟨rfl, rfl⟩)
  go_loopw [8, 9] (fun tv iv wr => tv = .int .i64 0 ∧ iv = .int .i64 0 ∧ wr = (w.alloc (.cells A0 39)).alloc (.cells A1 39)) (fun _ _ _ => 0)
  case atStart => exact ⟨rfl, rfl, rfl⟩
  case round =>
    obtain ⟨rfl, rfl, rfl⟩ := hrel
    go_wp2
    go_ret
    exact ⟨rfl, ((Below.refl _ w).alloc (Nat.le_refl _) _).alloc (by simp) _⟩
theorem refExposure_any {m n k : Int} (h : Md m n k) (F G : Nat → Int) (hF : Byts 72 F) (hG : Byts 72 G) (w : World) :
    Calls Try.prog 24 #[.int .i64 m, .agg (ints .u8 72 F).toArray, .agg (ints .u8 72 G).toArray] w fun e w' => e = .returned (.int .i64 (ex m n k F G : Int)) ∧ Below w.heap.size w w' := by
  rcases h with ⟨rfl, rfl, rfl⟩ | ⟨rfl, rfl, rfl⟩ | ⟨h1, h2, rfl, rfl⟩
  · exact refExposure1 F G hF hG w
  · exact refExposure2 F G hF hG w
  · exact refExposure0 m h1 h2 F G w
end Go.Proofs.Ytcpjmfemgdgplaa
