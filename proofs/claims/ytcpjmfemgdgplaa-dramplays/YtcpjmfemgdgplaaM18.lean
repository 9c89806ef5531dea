/-
  Texts of one family, one behind another: RwW4, FaW9, FaM1, MixArgs.
-/
import Derived.Test.YtcpjmfemgdgplaaM17
import Derived.Test.YtcpjmfemgdgplaaM04
import Derived.Test.YtcpjmfemgdgplaaM03
import Derived.Test.YtcpjmfemgdgplaaM08
import Derived.Test.YtcpjmfemgdgplaaM10

/-
  How much two lines' raw bytes are exposed to one another, by the document.
-/
namespace Go.Proofs.Ytcpjmfemgdgplaa
open Go.RowKit
open Bm (wt wtK)
attribute [local go_sem] Oper.semAt_some

set_option maxRecDepth 100000 in
set_option maxHeartbeats 400000 in
theorem refExposure1 (F G : Nat → Int) (hF : Byts 72 F) (hG : Byts 72 G) (w : World) :
    Calls Try.prog 24 #[.int .i64 1, .agg (ints .u8 72 F).toArray, .agg (ints .u8 72 G).toArray] w fun e w' => e = .returned (.int .i64 (Rw.mx 1 F G 9 8 : Int)) ∧ Below w.heap.size w w' := by
  obtain ⟨f, h, Hf, HS, HL, HZ, HQ⟩ : ∃ (f : Nat → Nat) (h : Nat → Nat → Nat), Hid (Rw.mx 1 F G 9 = f) ∧ Hid (∀ i, f (i + 1) = max (f i) (h i 9)) ∧ Hid (∀ i j, i < 8 → j ≤ 9 → h i j ≤ 8 * j) ∧ Hid (∀ i, h i 0 = 0) ∧ Hid (∀ i j, h i (j + 1) = h i j + Rw.dl 1 (F (9 * i + j)) (G (9 * i + j))) :=
    ⟨_, fun i => Rw.sm 1 F G (9 * i), rfl, fun i => rfl, fun i j hi hj => Rw.sm_le 1 F G (9 * i) j (fun j hj => hF _ (by omega)) (fun j hj => hG _ (by omega)), fun i => rfl, fun i j => rfl⟩
  have H0 : Hid (f 0 = 0) := by rw [← Hf.out]; rfl
  rw [show Rw.mx 1 F G 9 8 = f 8 by rw [Hf.out]]
  have hw : Hid (∀ w : World, Calls Try.prog 52 #[.int .i64 1] w fun e w' => e = .returned (.int .i64 9) ∧ w' = w) := refChips_any .bits
  clear Hf
  have HF : Hid (Byts 72 F ∧ Byts 72 G) := ⟨hF, hG⟩
  obtain ⟨A0, hA0⟩ : ∃ A, (ints .u8 72 F).toArray = A := ⟨_, rfl⟩
  obtain ⟨A1, hA1⟩ : ∃ A, (ints .u8 72 G).toArray = A := ⟨_, rfl⟩
  rw [hA0, hA1]
  go_enter Try.func24, Try.ntmps24
  go_wp2_with (go_at_call 52; refine (hw.out _).mono ?_; rintro e w' ⟨rfl, rfl⟩)
  obtain ⟨V, hV⟩ : ∃ V, (w.alloc (.cells A0 39)).alloc (.cells A1 39) = V := ⟨_, rfl⟩
  have HI : Hid (Bk .u8 V w.heap.size 72 F ∧ Bk .u8 V (w.heap.size + 1) 72 G ∧ Below w.heap.size w V) := by
    rw [← hV, ← hA0, ← hA1]
    have h1 := Bk.new .u8 (w.alloc (.cells (ints .u8 72 F).toArray 39)) 72 G 39
    simp only [World.size_alloc] at h1
    exact ⟨(Bk.new .u8 w 72 F _).alloc _, h1, ((Below.refl _ w).alloc (Nat.le_refl _) _).alloc (by simp) _⟩
  obtain ⟨B, hB⟩ : ∃ B, w.heap.size = B := ⟨_, rfl⟩
  obtain ⟨C, hC⟩ : ∃ C, B + 1 = C := ⟨_, rfl⟩
  rw [hV]
  rw [hB, hC] at HI ⊢
  clear hV hA0 hA1 hC hF hG hw
  go_loopw [8, 9] (fun cv iv wr => ∃ i t : Nat, i ≤ 8 ∧ t ≤ 72 ∧ Hid (f i = t) ∧ cv = .int .i64 (t : Int) ∧ iv = .int .i64 (i : Int) ∧ Hid (∃ q, wr = V.drewN q)) (fun _ iv _ => 8 - (intOf iv).toNat)
  case atStart => exact ⟨0, 0, by omega, by omega, H0, rfl, rfl, ⟨0, rfl⟩⟩
  case round =>
    obtain ⟨i, t, hi, ht, Ht, rfl, rfl, Hq⟩ := hrel
    by_cases hlt : i < 8
    · have hst := HS.out i
      rw [Ht.out] at hst
      have Hst : Hid (f (i + 1) = max t (h i 9)) := hst
      have HQi : Hid (∀ j, h i (j + 1) = h i j + Rw.dl 1 (F (9 * i + j)) (G (9 * i + j))) := HQ.out i
      have HLi : Hid (∀ j, j ≤ 9 → h i j ≤ 8 * j) := fun j hj => HL.out i j hlt hj
      have HZi : Hid (h i 0 = 0) := HZ.out i
      obtain ⟨g, Hg⟩ : ∃ g, Hid (h i = g) := ⟨_, rfl⟩
      rw [Hg.out] at Hst HQi HLi HZi
      clear hst HS HQ HL HZ Hg
      go_wp2
      go_loopw [10, 11] (fun cv iv wr => ∃ j c : Nat, j ≤ 9 ∧ c ≤ 8 * j ∧ Hid (g j = c) ∧ cv = .int .i64 (c : Int) ∧ iv = .int .i64 (9 * (i : Int) + (j : Int)) ∧ Hid (∃ q, wr = V.drewN q)) (fun _ iv _ => (9 * (i : Int) + 9 - intOf iv).toNat)
      case atStart => exact ⟨0, 0, by omega, by omega, HZi, rfl, by first | rfl | go_num, Hq⟩
      case round =>
        obtain ⟨j, c, hj, hc, Hc, rfl, rfl, Hq⟩ := hrel
        by_cases hjt : j < 9
        · have hs2 := HQi.out j
          have hl2 := HLi.out (j + 1) (by omega)
          rw [Hc.out] at hs2
          have hbF := HF.out.1 (9 * i + j) (by omega)
          have hbG := HF.out.2 (9 * i + j) (by omega)
          obtain ⟨x, hx, Hx⟩ : ∃ x : Nat, x < 256 ∧ Hid (F (9 * i + j) = (x : Int)) := ⟨(F (9 * i + j)).toNat, by omega, by show _ = _; omega⟩
          obtain ⟨y, hy, Hy⟩ : ∃ y : Nat, y < 256 ∧ Hid (G (9 * i + j) = (y : Int)) := ⟨(G (9 * i + j)).toNat, by omega, by show _ = _; omega⟩
          have ca : wr.cell? ⟨B, 9 * i + j, none⟩ = some (.int .u8 (x : Int)) := by obtain ⟨q, rfl⟩ := Hq.out; rw [← Hx.out]; exact HI.out.1.cell (9 * i + j) (by omega)
          have cb : wr.cell? ⟨C, 9 * i + j, none⟩ = some (.int .u8 (y : Int)) := by obtain ⟨q, rfl⟩ := Hq.out; rw [← Hy.out]; exact HI.out.2.1.cell (9 * i + j) (by omega)
          rw [Hx.out, Hy.out, show Rw.dl 1 (x : Int) (y : Int) = wt (x ^^^ y) from rfl] at hs2
          obtain ⟨z, hz, rz, Hz⟩ : ∃ z : Nat, bits .xor .u8 (x : Int) (y : Int) = (z : Int) ∧ z < 256 ∧ Hid (x ^^^ y = z) := ⟨_, u8_xor_nat x y hx hy, Nat.xor_lt_two_pow (n := 8) hx hy, rfl⟩
          rw [Hz.out] at hs2
          obtain ⟨u, ru, Hu⟩ : ∃ u, u ≤ 64 ∧ Hid (wt z = u) := ⟨_, Bm.wt_le z, rfl⟩
          rw [Hu.out] at hs2
          have hW : Hid (∀ w, Calls Try.prog 53 #[.int .u64 (z : Int)] w fun e w' => e = .returned (.int .i64 (u : Int)) ∧ w' = w) := fun w => by
            have := refWeight_any z (by omega) w
            rw [Hu.out] at this; exact this
          have Hs2 : Hid (g (j + 1) = c + u) := hs2
          rw [hs2] at hl2
          clear hs2 hbF hbG HQi HLi HZi Hu Hz Hx Hy hx hy
          go_wp2
          go_quiet ((go_at_call 53; exact Calls.quiet_of_same (hW.out _)))
          go_wp2
          go_roundw
          case rel => exact ⟨j + 1, c + u, by omega, hl2, Hs2, by go_num, by go_num, by obtain ⟨q, rfl⟩ := Hq.out; exact ⟨_, World.drewN_drewN _ _ _⟩⟩
          case measure => simp [intOf]; omega
        · obtain rfl : j = 9 := by omega
          rw [Hc.out] at Hst
          by_cases hgt : t < c
          · rw [show max t c = c by omega] at Hst
            go_wp2
            go_roundw
            case rel => exact ⟨i + 1, c, by omega, by omega, Hst, by first | rfl | go_num, by first | rfl | go_num, Hq⟩
            case measure => simp [intOf]; omega
          · rw [show max t c = t by omega] at Hst
            go_wp2
            go_roundw
            case rel => exact ⟨i + 1, t, by omega, by omega, Hst, by first | rfl | go_num, by first | rfl | go_num, Hq⟩
            case measure => simp [intOf]; omega
    · obtain rfl : i = 8 := by omega
      have HE : Hid (f 8 = t) := Ht
      clear HS HQ HL HZ
      go_wp2
      go_ret
      exact ⟨by rw [HE.out]; rfl, by rw [hB]; obtain ⟨q, rfl⟩ := Hq.out; exact below_stay HI.out.2.2 (Stay.drewN _ V q) (Nat.le_refl _)⟩
set_option maxRecDepth 100000 in
set_option maxHeartbeats 400000 in
theorem refExposure2 (F G : Nat → Int) (hF : Byts 72 F) (hG : Byts 72 G) (w : World) :
    Calls Try.prog 24 #[.int .i64 2, .agg (ints .u8 72 F).toArray, .agg (ints .u8 72 G).toArray] w fun e w' => e = .returned (.int .i64 (Rw.mx 2 F G 36 2 : Int)) ∧ Below w.heap.size w w' := by
  obtain ⟨f, h, Hf, HS, HL, HZ, HQ⟩ : ∃ (f : Nat → Nat) (h : Nat → Nat → Nat), Hid (Rw.mx 2 F G 36 = f) ∧ Hid (∀ i, f (i + 1) = max (f i) (h i 36)) ∧ Hid (∀ i j, i < 2 → j ≤ 36 → h i j ≤ 8 * j) ∧ Hid (∀ i, h i 0 = 0) ∧ Hid (∀ i j, h i (j + 1) = h i j + Rw.dl 2 (F (36 * i + j)) (G (36 * i + j))) :=
    ⟨_, fun i => Rw.sm 2 F G (36 * i), rfl, fun i => rfl, fun i j hi hj => Rw.sm_le 2 F G (36 * i) j (fun j hj => hF _ (by omega)) (fun j hj => hG _ (by omega)), fun i => rfl, fun i j => rfl⟩
  have H0 : Hid (f 0 = 0) := by rw [← Hf.out]; rfl
  rw [show Rw.mx 2 F G 36 2 = f 2 by rw [Hf.out]]
  have hw : Hid (∀ w : World, Calls Try.prog 52 #[.int .i64 2] w fun e w' => e = .returned (.int .i64 36) ∧ w' = w) := refChips_any .chips
  clear Hf
  have HF : Hid (Byts 72 F ∧ Byts 72 G) := ⟨hF, hG⟩
  obtain ⟨A0, hA0⟩ : ∃ A, (ints .u8 72 F).toArray = A := ⟨_, rfl⟩
  obtain ⟨A1, hA1⟩ : ∃ A, (ints .u8 72 G).toArray = A := ⟨_, rfl⟩
  rw [hA0, hA1]
  go_enter Try.func24, Try.ntmps24
  go_wp2_with (go_at_call 52; refine (hw.out _).mono ?_; rintro e w' ⟨rfl, rfl⟩)
  obtain ⟨V, hV⟩ : ∃ V, (w.alloc (.cells A0 39)).alloc (.cells A1 39) = V := ⟨_, rfl⟩
  have HI : Hid (Bk .u8 V w.heap.size 72 F ∧ Bk .u8 V (w.heap.size + 1) 72 G ∧ Below w.heap.size w V) := by
    rw [← hV, ← hA0, ← hA1]
    have h1 := Bk.new .u8 (w.alloc (.cells (ints .u8 72 F).toArray 39)) 72 G 39
    simp only [World.size_alloc] at h1
    exact ⟨(Bk.new .u8 w 72 F _).alloc _, h1, ((Below.refl _ w).alloc (Nat.le_refl _) _).alloc (by simp) _⟩
  obtain ⟨B, hB⟩ : ∃ B, w.heap.size = B := ⟨_, rfl⟩
  obtain ⟨C, hC⟩ : ∃ C, B + 1 = C := ⟨_, rfl⟩
  rw [hV]
  rw [hB, hC] at HI ⊢
  clear hV hA0 hA1 hC hF hG hw
  go_loopw [8, 9] (fun cv iv wr => ∃ i t : Nat, i ≤ 2 ∧ t ≤ 288 ∧ Hid (f i = t) ∧ cv = .int .i64 (t : Int) ∧ iv = .int .i64 (i : Int) ∧ Hid (∃ q, wr = V.drewN q)) (fun _ iv _ => 2 - (intOf iv).toNat)
  case atStart => exact ⟨0, 0, by omega, by omega, H0, rfl, rfl, ⟨0, rfl⟩⟩
  case round =>
    obtain ⟨i, t, hi, ht, Ht, rfl, rfl, Hq⟩ := hrel
    by_cases hlt : i < 2
    · have hst := HS.out i
      rw [Ht.out] at hst
      have Hst : Hid (f (i + 1) = max t (h i 36)) := hst
      have HQi : Hid (∀ j, h i (j + 1) = h i j + Rw.dl 2 (F (36 * i + j)) (G (36 * i + j))) := HQ.out i
      have HLi : Hid (∀ j, j ≤ 36 → h i j ≤ 8 * j) := fun j hj => HL.out i j hlt hj
      have HZi : Hid (h i 0 = 0) := HZ.out i
      obtain ⟨g, Hg⟩ : ∃ g, Hid (h i = g) := ⟨_, rfl⟩
      rw [Hg.out] at Hst HQi HLi HZi
      clear hst HS HQ HL HZ Hg
      go_wp2
      go_loopw [10, 11] (fun cv iv wr => ∃ j c : Nat, j ≤ 36 ∧ c ≤ 8 * j ∧ Hid (g j = c) ∧ cv = .int .i64 (c : Int) ∧ iv = .int .i64 (36 * (i : Int) + (j : Int)) ∧ Hid (∃ q, wr = V.drewN q)) (fun _ iv _ => (36 * (i : Int) + 36 - intOf iv).toNat)
      case atStart => exact ⟨0, 0, by omega, by omega, HZi, rfl, by first | rfl | go_num, Hq⟩
      case round =>
        obtain ⟨j, c, hj, hc, Hc, rfl, rfl, Hq⟩ := hrel
        by_cases hjt : j < 36
        · have hs2 := HQi.out j
          have hl2 := HLi.out (j + 1) (by omega)
          rw [Hc.out] at hs2
          have ca : wr.cell? ⟨B, 36 * i + j, none⟩ = some (.int .u8 (F (36 * i + j))) := by obtain ⟨q, rfl⟩ := Hq.out; exact HI.out.1.cell (36 * i + j) (by omega)
          have cb : wr.cell? ⟨C, 36 * i + j, none⟩ = some (.int .u8 (G (36 * i + j))) := by obtain ⟨q, rfl⟩ := Hq.out; exact HI.out.2.1.cell (36 * i + j) (by omega)
          obtain ⟨x, Hx⟩ : ∃ x, Hid (F (36 * i + j) = x) := ⟨_, rfl⟩
          obtain ⟨y, Hy⟩ : ∃ y, Hid (G (36 * i + j) = y) := ⟨_, rfl⟩
          rw [Hx.out, Hy.out, show Rw.dl 2 x y = if x = y then 0 else 1 from rfl] at hs2
          rw [Hx.out] at ca
          rw [Hy.out] at cb
          by_cases hxy : x = y
          · have hne : (x != y) = false := by simp [hxy]
            rw [if_pos hxy] at hs2
            have Hs2 : Hid (g (j + 1) = c) := hs2
            clear hs2 hxy HQi HLi HZi
            go_wp2
            go_quiet (fail)
            go_wp2
            go_roundw
            case rel => exact ⟨j + 1, c, by omega, by omega, Hs2, rfl, by go_num, by obtain ⟨q, rfl⟩ := Hq.out; exact ⟨_, World.drewN_drewN _ _ _⟩⟩
            case measure => simp [intOf]; omega
          · have hne : (x != y) = true := by simp [hxy]
            rw [if_neg hxy] at hs2
            have Hs2 : Hid (g (j + 1) = c + 1) := hs2
            clear hs2 hxy HQi HLi HZi
            go_wp2
            go_quiet (fail)
            go_wp2
            go_roundw
            case rel => exact ⟨j + 1, c + 1, by omega, by omega, Hs2, by go_num, by go_num, by obtain ⟨q, rfl⟩ := Hq.out; exact ⟨_, World.drewN_drewN _ _ _⟩⟩
            case measure => simp [intOf]; omega
        · obtain rfl : j = 36 := by omega
          rw [Hc.out] at Hst
          by_cases hgt : t < c
          · rw [show max t c = c by omega] at Hst
            go_wp2
            go_roundw
            case rel => exact ⟨i + 1, c, by omega, by omega, Hst, by first | rfl | go_num, by first | rfl | go_num, Hq⟩
            case measure => simp [intOf]; omega
          · rw [show max t c = t by omega] at Hst
            go_wp2
            go_roundw
            case rel => exact ⟨i + 1, t, by omega, by omega, Hst, by first | rfl | go_num, by first | rfl | go_num, Hq⟩
            case measure => simp [intOf]; omega
    · obtain rfl : i = 2 := by omega
      have HE : Hid (f 2 = t) := Ht
      clear HS HQ HL HZ
      go_wp2
      go_ret
      exact ⟨by rw [HE.out]; rfl, by rw [hB]; obtain ⟨q, rfl⟩ := Hq.out; exact below_stay HI.out.2.2 (Stay.drewN _ V q) (Nat.le_refl _)⟩
set_option maxRecDepth 100000 in
set_option maxHeartbeats 400000 in
theorem refExposure0 (m : Int) (h1 : m ≠ 1) (h2 : m ≠ 2) (F G : Nat → Int) (w : World) :
    Calls Try.prog 24 #[.int .i64 m, .agg (ints .u8 72 F).toArray, .agg (ints .u8 72 G).toArray] w fun e w' => e = .returned (.int .i64 0) ∧ Below w.heap.size w w' := by
  have hw : Hid (∀ w : World, Calls Try.prog 52 #[.int .i64 m] w fun e w' => e = .returned (.int .i64 0) ∧ w' = w) := refChips_any (.none m h1 h2)
  clear h1 h2
  obtain ⟨A0, hA0⟩ : ∃ A, (ints .u8 72 F).toArray = A := ⟨_, rfl⟩
  obtain ⟨A1, hA1⟩ : ∃ A, (ints .u8 72 G).toArray = A := ⟨_, rfl⟩
  rw [hA0, hA1]
  clear hA0 hA1
  go_enter Try.func24, Try.ntmps24
  go_wp2_with (go_at_call 52; refine (hw.out _).mono ?_; rintro e w' ⟨rfl, rfl⟩)
  go_loopw [8, 9] (fun tv iv wr => tv = .int .i64 0 ∧ iv = .int .i64 0 ∧ wr = (w.alloc (.cells A0 39)).alloc (.cells A1 39)) (fun _ _ _ => 0)
  case atStart => exact ⟨rfl, rfl, rfl⟩
  case round =>
    obtain ⟨rfl, rfl, rfl⟩ := hrel
    go_wp2
    go_ret
    exact ⟨rfl, ((Below.refl _ w).alloc (Nat.le_refl _) _).alloc (by simp) _⟩
theorem refExposure_any {m n k : Int} (h : Md m n k) (F G : Nat → Int) (hF : Byts 72 F) (hG : Byts 72 G) (w : World) :
    Calls Try.prog 24 #[.int .i64 m, .agg (ints .u8 72 F).toArray, .agg (ints .u8 72 G).toArray] w fun e w' => e = .returned (.int .i64 (ex m n k F G : Int)) ∧ Below w.heap.size w w' := by
  rcases h with ⟨rfl, rfl, rfl⟩ | ⟨rfl, rfl, rfl⟩ | ⟨h1, h2, rfl, rfl⟩
  · exact refExposure1 F G hF hG w
  · exact refExposure2 F G hF hG w
  · exact refExposure0 m h1 h2 F G w
end Go.Proofs.Ytcpjmfemgdgplaa

/-
  The walks of package fault: which chip a fault covers.
-/
namespace Go.Proofs.Ytcpjmfemgdgplaa
open Go.RowKit Go.Shelf
attribute [local go_sem] Oper.semAt_some

/-- the chip that a fault covers -/
def cv (n k c i : Int) : Int := if k = 1 ∨ k = 2 then (if 0 < n ∧ 0 ≤ i ∧ i < 576 then i / 8 % n else -1) else if 3 ≤ k ∧ k ≤ 5 then (if 0 ≤ c ∧ c < n then c else -1) else -1
set_option maxRecDepth 100000 in
set_option maxHeartbeats 2000000 in
theorem covers_1yes (p q u v c i x m : Int) (y1 y2 y3 : Int) (h3 : (y3 == 0) = true) (C0 : Hid (∀ w : World, Calls Try.prog 55 #[.int .i64 m, .int .i64 i] w fun e w' => e = .returned (.tuple #[.int .i64 y1, .int .i64 y2, .int .i64 y3]) ∧ Below w.heap.size w w')) (w : World) :
    Calls Try.prog 30 #[.agg #[.int .i64 1, .int .i64 p, .int .i64 q, .int .i64 u, .int .i64 v, .int .i64 c, .int .i64 i, .int .i64 x], .int .i64 m] w fun e w' => e = .returned (.int .i64 (y2)) ∧ Below w.heap.size w w' := by
  go_enter Try.func30, Try.ntmps30
  go_upto_region 1 with (fail)
  obtain ⟨B, hB⟩ : ∃ B, w.heap.size = B := ⟨_, rfl⟩
  obtain ⟨V, hV⟩ : ∃ V, w.alloc (.cells #[.int .i64 1, .int .i64 p, .int .i64 q, .int .i64 u, .int .i64 v, .int .i64 c, .int .i64 i, .int .i64 x] 38) = V := ⟨_, rfl⟩
  have HF : Hid (Ft V B 1 p q u v c i x ∧ Below B w V) := by rw [← hV, ← hB]; exact ⟨Ft.new w 1 p q u v c i x _, (Below.refl _ w).alloc (Nat.le_refl _) _⟩
  have c0 := HF.out.1.c0; have c5 := HF.out.1.c5; have c6 := HF.out.1.c6
  rw [hV, hB]
  clear hV
  go_wp2_with (go_at_call 55; refine (C0.out _).mono ?_; rintro e w1 ⟨rfl, b1⟩; replace HF : Hid (Below B w w1) := HF.out.2.trans (b1.mono (Nat.le_of_lt HF.out.1.lt)); clear b1 c0 c5 c6)
  go_ret
  exact ⟨rfl, by first | exact HF.out | (rw [hB]; exact HF.out)⟩
set_option maxRecDepth 100000 in
set_option maxHeartbeats 2000000 in
theorem covers_1no (p q u v c i x m : Int) (y1 y2 y3 : Int) (h3 : (y3 == 0) = false) (C0 : Hid (∀ w : World, Calls Try.prog 55 #[.int .i64 m, .int .i64 i] w fun e w' => e = .returned (.tuple #[.int .i64 y1, .int .i64 y2, .int .i64 y3]) ∧ Below w.heap.size w w')) (w : World) :
    Calls Try.prog 30 #[.agg #[.int .i64 1, .int .i64 p, .int .i64 q, .int .i64 u, .int .i64 v, .int .i64 c, .int .i64 i, .int .i64 x], .int .i64 m] w fun e w' => e = .returned (.int .i64 (-1)) ∧ Below w.heap.size w w' := by
  go_enter Try.func30, Try.ntmps30
  go_upto_region 1 with (fail)
  obtain ⟨B, hB⟩ : ∃ B, w.heap.size = B := ⟨_, rfl⟩
  obtain ⟨V, hV⟩ : ∃ V, w.alloc (.cells #[.int .i64 1, .int .i64 p, .int .i64 q, .int .i64 u, .int .i64 v, .int .i64 c, .int .i64 i, .int .i64 x] 38) = V := ⟨_, rfl⟩
  have HF : Hid (Ft V B 1 p q u v c i x ∧ Below B w V) := by rw [← hV, ← hB]; exact ⟨Ft.new w 1 p q u v c i x _, (Below.refl _ w).alloc (Nat.le_refl _) _⟩
  have c0 := HF.out.1.c0; have c5 := HF.out.1.c5; have c6 := HF.out.1.c6
  rw [hV, hB]
  clear hV
  go_wp2_with (go_at_call 55; refine (C0.out _).mono ?_; rintro e w1 ⟨rfl, b1⟩; replace HF : Hid (Below B w w1) := HF.out.2.trans (b1.mono (Nat.le_of_lt HF.out.1.lt)); clear b1 c0 c5 c6)
  go_ret
  exact ⟨rfl, by first | exact HF.out | (rw [hB]; exact HF.out)⟩
set_option maxRecDepth 100000 in
set_option maxHeartbeats 2000000 in
theorem covers_2yes (p q u v c i x m : Int) (y1 y2 y3 : Int) (h3 : (y3 == 0) = true) (C0 : Hid (∀ w : World, Calls Try.prog 55 #[.int .i64 m, .int .i64 i] w fun e w' => e = .returned (.tuple #[.int .i64 y1, .int .i64 y2, .int .i64 y3]) ∧ Below w.heap.size w w')) (w : World) :
    Calls Try.prog 30 #[.agg #[.int .i64 2, .int .i64 p, .int .i64 q, .int .i64 u, .int .i64 v, .int .i64 c, .int .i64 i, .int .i64 x], .int .i64 m] w fun e w' => e = .returned (.int .i64 (y2)) ∧ Below w.heap.size w w' := by
  go_enter Try.func30, Try.ntmps30
  go_upto_region 1 with (fail)
  obtain ⟨B, hB⟩ : ∃ B, w.heap.size = B := ⟨_, rfl⟩
  obtain ⟨V, hV⟩ : ∃ V, w.alloc (.cells #[.int .i64 2, .int .i64 p, .int .i64 q, .int .i64 u, .int .i64 v, .int .i64 c, .int .i64 i, .int .i64 x] 38) = V := ⟨_, rfl⟩
  have HF : Hid (Ft V B 2 p q u v c i x ∧ Below B w V) := by rw [← hV, ← hB]; exact ⟨Ft.new w 2 p q u v c i x _, (Below.refl _ w).alloc (Nat.le_refl _) _⟩
  have c0 := HF.out.1.c0; have c5 := HF.out.1.c5; have c6 := HF.out.1.c6
  rw [hV, hB]
  clear hV
  go_wp2_with (go_at_call 55; refine (C0.out _).mono ?_; rintro e w1 ⟨rfl, b1⟩; replace HF : Hid (Below B w w1) := HF.out.2.trans (b1.mono (Nat.le_of_lt HF.out.1.lt)); clear b1 c0 c5 c6)
  go_ret
  exact ⟨rfl, by first | exact HF.out | (rw [hB]; exact HF.out)⟩
set_option maxRecDepth 100000 in
set_option maxHeartbeats 2000000 in
theorem covers_2no (p q u v c i x m : Int) (y1 y2 y3 : Int) (h3 : (y3 == 0) = false) (C0 : Hid (∀ w : World, Calls Try.prog 55 #[.int .i64 m, .int .i64 i] w fun e w' => e = .returned (.tuple #[.int .i64 y1, .int .i64 y2, .int .i64 y3]) ∧ Below w.heap.size w w')) (w : World) :
    Calls Try.prog 30 #[.agg #[.int .i64 2, .int .i64 p, .int .i64 q, .int .i64 u, .int .i64 v, .int .i64 c, .int .i64 i, .int .i64 x], .int .i64 m] w fun e w' => e = .returned (.int .i64 (-1)) ∧ Below w.heap.size w w' := by
  go_enter Try.func30, Try.ntmps30
  go_upto_region 1 with (fail)
  obtain ⟨B, hB⟩ : ∃ B, w.heap.size = B := ⟨_, rfl⟩
  obtain ⟨V, hV⟩ : ∃ V, w.alloc (.cells #[.int .i64 2, .int .i64 p, .int .i64 q, .int .i64 u, .int .i64 v, .int .i64 c, .int .i64 i, .int .i64 x] 38) = V := ⟨_, rfl⟩
  have HF : Hid (Ft V B 2 p q u v c i x ∧ Below B w V) := by rw [← hV, ← hB]; exact ⟨Ft.new w 2 p q u v c i x _, (Below.refl _ w).alloc (Nat.le_refl _) _⟩
  have c0 := HF.out.1.c0; have c5 := HF.out.1.c5; have c6 := HF.out.1.c6
  rw [hV, hB]
  clear hV
  go_wp2_with (go_at_call 55; refine (C0.out _).mono ?_; rintro e w1 ⟨rfl, b1⟩; replace HF : Hid (Below B w w1) := HF.out.2.trans (b1.mono (Nat.le_of_lt HF.out.1.lt)); clear b1 c0 c5 c6)
  go_ret
  exact ⟨rfl, by first | exact HF.out | (rw [hB]; exact HF.out)⟩
set_option maxRecDepth 100000 in
set_option maxHeartbeats 2000000 in
theorem covers_3true (p q u v c i x m : Int) (n : Int) (C1 : Hid (∀ w : World, Calls Try.prog 57 #[.int .i64 m] w fun e w' => e = .returned (.int .i64 n) ∧ w' = w)) (C2 : Hid (∀ w : World, Calls Try.prog 56 #[.int .i64 c, .int .i64 n] w fun e w' => e = .returned (.bool true) ∧ w' = w)) (w : World) :
    Calls Try.prog 30 #[.agg #[.int .i64 3, .int .i64 p, .int .i64 q, .int .i64 u, .int .i64 v, .int .i64 c, .int .i64 i, .int .i64 x], .int .i64 m] w fun e w' => e = .returned (.int .i64 (c)) ∧ Below w.heap.size w w' := by
  go_enter Try.func30, Try.ntmps30
  go_upto_region 1 with (fail)
  obtain ⟨B, hB⟩ : ∃ B, w.heap.size = B := ⟨_, rfl⟩
  obtain ⟨V, hV⟩ : ∃ V, w.alloc (.cells #[.int .i64 3, .int .i64 p, .int .i64 q, .int .i64 u, .int .i64 v, .int .i64 c, .int .i64 i, .int .i64 x] 38) = V := ⟨_, rfl⟩
  have HF : Hid (Ft V B 3 p q u v c i x ∧ Below B w V) := by rw [← hV, ← hB]; exact ⟨Ft.new w 3 p q u v c i x _, (Below.refl _ w).alloc (Nat.le_refl _) _⟩
  have c0 := HF.out.1.c0; have c5 := HF.out.1.c5; have c6 := HF.out.1.c6
  rw [hV, hB]
  clear hV
  go_upto_region 10 with (fail)
  refine region_calm (by kernel_rfl) (by kernel_rfl) (fun W => Below V.heap.size V W) (below_drew1 V) ?_
  intro U hU f hf hof
  have HE : Hid (∀ y, Ft (f y) B 3 p q u v c i x ∧ Below B w (f y)) := fun y => ⟨HF.out.1.next (hf y), HF.out.2.trans ((hf y).mono (Nat.le_of_lt HF.out.1.lt))⟩
  have f5 : ∀ y, (f y).cell? ⟨B, 5, none⟩ = some (.int .i64 c) := fun y => (HE.out y).1.c5
  clear hf hof c0 c5 c6 HF
  go_big_quiet_step (fail)
  go_big_quiet_step (fail)
  go_big_quiet_step (fail)
  go_big_quiet_step ((go_at_call 57; exact calm_same (C1.out _)))
  go_big_quiet_step ((go_at_call 56; exact calm_same (C2.out _)))
  refine wpQuiet_nil ?_
  rintro _ ⟨y, rfl⟩
  have c5 := f5 y
  go_wp2
  go_ret
  exact ⟨rfl, by first | exact (HE.out y).2 | (rw [hB]; exact (HE.out y).2)⟩
set_option maxRecDepth 100000 in
set_option maxHeartbeats 2000000 in
theorem covers_3false (p q u v c i x m : Int) (n : Int) (C1 : Hid (∀ w : World, Calls Try.prog 57 #[.int .i64 m] w fun e w' => e = .returned (.int .i64 n) ∧ w' = w)) (C2 : Hid (∀ w : World, Calls Try.prog 56 #[.int .i64 c, .int .i64 n] w fun e w' => e = .returned (.bool false) ∧ w' = w)) (w : World) :
    Calls Try.prog 30 #[.agg #[.int .i64 3, .int .i64 p, .int .i64 q, .int .i64 u, .int .i64 v, .int .i64 c, .int .i64 i, .int .i64 x], .int .i64 m] w fun e w' => e = .returned (.int .i64 (-1)) ∧ Below w.heap.size w w' := by
  go_enter Try.func30, Try.ntmps30
  go_upto_region 1 with (fail)
  obtain ⟨B, hB⟩ : ∃ B, w.heap.size = B := ⟨_, rfl⟩
  obtain ⟨V, hV⟩ : ∃ V, w.alloc (.cells #[.int .i64 3, .int .i64 p, .int .i64 q, .int .i64 u, .int .i64 v, .int .i64 c, .int .i64 i, .int .i64 x] 38) = V := ⟨_, rfl⟩
  have HF : Hid (Ft V B 3 p q u v c i x ∧ Below B w V) := by rw [← hV, ← hB]; exact ⟨Ft.new w 3 p q u v c i x _, (Below.refl _ w).alloc (Nat.le_refl _) _⟩
  have c0 := HF.out.1.c0; have c5 := HF.out.1.c5; have c6 := HF.out.1.c6
  rw [hV, hB]
  clear hV
  go_upto_region 10 with (fail)
  refine region_calm (by kernel_rfl) (by kernel_rfl) (fun W => Below V.heap.size V W) (below_drew1 V) ?_
  intro U hU f hf hof
  have HE : Hid (∀ y, Ft (f y) B 3 p q u v c i x ∧ Below B w (f y)) := fun y => ⟨HF.out.1.next (hf y), HF.out.2.trans ((hf y).mono (Nat.le_of_lt HF.out.1.lt))⟩
  have f5 : ∀ y, (f y).cell? ⟨B, 5, none⟩ = some (.int .i64 c) := fun y => (HE.out y).1.c5
  clear hf hof c0 c5 c6 HF
  go_big_quiet_step (fail)
  go_big_quiet_step (fail)
  go_big_quiet_step (fail)
  go_big_quiet_step ((go_at_call 57; exact calm_same (C1.out _)))
  go_big_quiet_step ((go_at_call 56; exact calm_same (C2.out _)))
  refine wpQuiet_nil ?_
  rintro _ ⟨y, rfl⟩
  have c5 := f5 y
  go_wp2
  go_ret
  exact ⟨rfl, by first | exact (HE.out y).2 | (rw [hB]; exact (HE.out y).2)⟩
set_option maxRecDepth 100000 in
set_option maxHeartbeats 2000000 in
theorem covers_4true (p q u v c i x m : Int) (n : Int) (C1 : Hid (∀ w : World, Calls Try.prog 57 #[.int .i64 m] w fun e w' => e = .returned (.int .i64 n) ∧ w' = w)) (C2 : Hid (∀ w : World, Calls Try.prog 56 #[.int .i64 c, .int .i64 n] w fun e w' => e = .returned (.bool true) ∧ w' = w)) (w : World) :
    Calls Try.prog 30 #[.agg #[.int .i64 4, .int .i64 p, .int .i64 q, .int .i64 u, .int .i64 v, .int .i64 c, .int .i64 i, .int .i64 x], .int .i64 m] w fun e w' => e = .returned (.int .i64 (c)) ∧ Below w.heap.size w w' := by
  go_enter Try.func30, Try.ntmps30
  go_upto_region 1 with (fail)
  obtain ⟨B, hB⟩ : ∃ B, w.heap.size = B := ⟨_, rfl⟩
  obtain ⟨V, hV⟩ : ∃ V, w.alloc (.cells #[.int .i64 4, .int .i64 p, .int .i64 q, .int .i64 u, .int .i64 v, .int .i64 c, .int .i64 i, .int .i64 x] 38) = V := ⟨_, rfl⟩
  have HF : Hid (Ft V B 4 p q u v c i x ∧ Below B w V) := by rw [← hV, ← hB]; exact ⟨Ft.new w 4 p q u v c i x _, (Below.refl _ w).alloc (Nat.le_refl _) _⟩
  have c0 := HF.out.1.c0; have c5 := HF.out.1.c5; have c6 := HF.out.1.c6
  rw [hV, hB]
  clear hV
  go_upto_region 10 with (fail)
  refine region_calm (by kernel_rfl) (by kernel_rfl) (fun W => Below V.heap.size V W) (below_drew1 V) ?_
  intro U hU f hf hof
  have HE : Hid (∀ y, Ft (f y) B 4 p q u v c i x ∧ Below B w (f y)) := fun y => ⟨HF.out.1.next (hf y), HF.out.2.trans ((hf y).mono (Nat.le_of_lt HF.out.1.lt))⟩
  have f5 : ∀ y, (f y).cell? ⟨B, 5, none⟩ = some (.int .i64 c) := fun y => (HE.out y).1.c5
  clear hf hof c0 c5 c6 HF
  go_big_quiet_step (fail)
  go_big_quiet_step (fail)
  go_big_quiet_step (fail)
  go_big_quiet_step ((go_at_call 57; exact calm_same (C1.out _)))
  go_big_quiet_step ((go_at_call 56; exact calm_same (C2.out _)))
  refine wpQuiet_nil ?_
  rintro _ ⟨y, rfl⟩
  have c5 := f5 y
  go_wp2
  go_ret
  exact ⟨rfl, by first | exact (HE.out y).2 | (rw [hB]; exact (HE.out y).2)⟩
set_option maxRecDepth 100000 in
set_option maxHeartbeats 2000000 in
theorem covers_4false (p q u v c i x m : Int) (n : Int) (C1 : Hid (∀ w : World, Calls Try.prog 57 #[.int .i64 m] w fun e w' => e = .returned (.int .i64 n) ∧ w' = w)) (C2 : Hid (∀ w : World, Calls Try.prog 56 #[.int .i64 c, .int .i64 n] w fun e w' => e = .returned (.bool false) ∧ w' = w)) (w : World) :
    Calls Try.prog 30 #[.agg #[.int .i64 4, .int .i64 p, .int .i64 q, .int .i64 u, .int .i64 v, .int .i64 c, .int .i64 i, .int .i64 x], .int .i64 m] w fun e w' => e = .returned (.int .i64 (-1)) ∧ Below w.heap.size w w' := by
  go_enter Try.func30, Try.ntmps30
  go_upto_region 1 with (fail)
  obtain ⟨B, hB⟩ : ∃ B, w.heap.size = B := ⟨_, rfl⟩
  obtain ⟨V, hV⟩ : ∃ V, w.alloc (.cells #[.int .i64 4, .int .i64 p, .int .i64 q, .int .i64 u, .int .i64 v, .int .i64 c, .int .i64 i, .int .i64 x] 38) = V := ⟨_, rfl⟩
  have HF : Hid (Ft V B 4 p q u v c i x ∧ Below B w V) := by rw [← hV, ← hB]; exact ⟨Ft.new w 4 p q u v c i x _, (Below.refl _ w).alloc (Nat.le_refl _) _⟩
  have c0 := HF.out.1.c0; have c5 := HF.out.1.c5; have c6 := HF.out.1.c6
  rw [hV, hB]
  clear hV
  go_upto_region 10 with (fail)
  refine region_calm (by kernel_rfl) (by kernel_rfl) (fun W => Below V.heap.size V W) (below_drew1 V) ?_
  intro U hU f hf hof
  have HE : Hid (∀ y, Ft (f y) B 4 p q u v c i x ∧ Below B w (f y)) := fun y => ⟨HF.out.1.next (hf y), HF.out.2.trans ((hf y).mono (Nat.le_of_lt HF.out.1.lt))⟩
  have f5 : ∀ y, (f y).cell? ⟨B, 5, none⟩ = some (.int .i64 c) := fun y => (HE.out y).1.c5
  clear hf hof c0 c5 c6 HF
  go_big_quiet_step (fail)
  go_big_quiet_step (fail)
  go_big_quiet_step (fail)
  go_big_quiet_step ((go_at_call 57; exact calm_same (C1.out _)))
  go_big_quiet_step ((go_at_call 56; exact calm_same (C2.out _)))
  refine wpQuiet_nil ?_
  rintro _ ⟨y, rfl⟩
  have c5 := f5 y
  go_wp2
  go_ret
  exact ⟨rfl, by first | exact (HE.out y).2 | (rw [hB]; exact (HE.out y).2)⟩
set_option maxRecDepth 100000 in
set_option maxHeartbeats 2000000 in
theorem covers_5true (p q u v c i x m : Int) (n : Int) (C1 : Hid (∀ w : World, Calls Try.prog 57 #[.int .i64 m] w fun e w' => e = .returned (.int .i64 n) ∧ w' = w)) (C2 : Hid (∀ w : World, Calls Try.prog 56 #[.int .i64 c, .int .i64 n] w fun e w' => e = .returned (.bool true) ∧ w' = w)) (w : World) :
    Calls Try.prog 30 #[.agg #[.int .i64 5, .int .i64 p, .int .i64 q, .int .i64 u, .int .i64 v, .int .i64 c, .int .i64 i, .int .i64 x], .int .i64 m] w fun e w' => e = .returned (.int .i64 (c)) ∧ Below w.heap.size w w' := by
  go_enter Try.func30, Try.ntmps30
  go_upto_region 1 with (fail)
  obtain ⟨B, hB⟩ : ∃ B, w.heap.size = B := ⟨_, rfl⟩
  obtain ⟨V, hV⟩ : ∃ V, w.alloc (.cells #[.int .i64 5, .int .i64 p, .int .i64 q, .int .i64 u, .int .i64 v, .int .i64 c, .int .i64 i, .int .i64 x] 38) = V := ⟨_, rfl⟩
  have HF : Hid (Ft V B 5 p q u v c i x ∧ Below B w V) := by rw [← hV, ← hB]; exact ⟨Ft.new w 5 p q u v c i x _, (Below.refl _ w).alloc (Nat.le_refl _) _⟩
  have c0 := HF.out.1.c0; have c5 := HF.out.1.c5; have c6 := HF.out.1.c6
  rw [hV, hB]
  clear hV
  go_upto_region 10 with (fail)
  refine region_calm (by kernel_rfl) (by kernel_rfl) (fun W => Below V.heap.size V W) (below_drew1 V) ?_
  intro U hU f hf hof
  have HE : Hid (∀ y, Ft (f y) B 5 p q u v c i x ∧ Below B w (f y)) := fun y => ⟨HF.out.1.next (hf y), HF.out.2.trans ((hf y).mono (Nat.le_of_lt HF.out.1.lt))⟩
  have f5 : ∀ y, (f y).cell? ⟨B, 5, none⟩ = some (.int .i64 c) := fun y => (HE.out y).1.c5
  clear hf hof c0 c5 c6 HF
  go_big_quiet_step (fail)
  go_big_quiet_step (fail)
  go_big_quiet_step (fail)
  go_big_quiet_step ((go_at_call 57; exact calm_same (C1.out _)))
  go_big_quiet_step ((go_at_call 56; exact calm_same (C2.out _)))
  refine wpQuiet_nil ?_
  rintro _ ⟨y, rfl⟩
  have c5 := f5 y
  go_wp2
  go_ret
  exact ⟨rfl, by first | exact (HE.out y).2 | (rw [hB]; exact (HE.out y).2)⟩
set_option maxRecDepth 100000 in
set_option maxHeartbeats 2000000 in
theorem covers_5false (p q u v c i x m : Int) (n : Int) (C1 : Hid (∀ w : World, Calls Try.prog 57 #[.int .i64 m] w fun e w' => e = .returned (.int .i64 n) ∧ w' = w)) (C2 : Hid (∀ w : World, Calls Try.prog 56 #[.int .i64 c, .int .i64 n] w fun e w' => e = .returned (.bool false) ∧ w' = w)) (w : World) :
    Calls Try.prog 30 #[.agg #[.int .i64 5, .int .i64 p, .int .i64 q, .int .i64 u, .int .i64 v, .int .i64 c, .int .i64 i, .int .i64 x], .int .i64 m] w fun e w' => e = .returned (.int .i64 (-1)) ∧ Below w.heap.size w w' := by
  go_enter Try.func30, Try.ntmps30
  go_upto_region 1 with (fail)
  obtain ⟨B, hB⟩ : ∃ B, w.heap.size = B := ⟨_, rfl⟩
  obtain ⟨V, hV⟩ : ∃ V, w.alloc (.cells #[.int .i64 5, .int .i64 p, .int .i64 q, .int .i64 u, .int .i64 v, .int .i64 c, .int .i64 i, .int .i64 x] 38) = V := ⟨_, rfl⟩
  have HF : Hid (Ft V B 5 p q u v c i x ∧ Below B w V) := by rw [← hV, ← hB]; exact ⟨Ft.new w 5 p q u v c i x _, (Below.refl _ w).alloc (Nat.le_refl _) _⟩
  have c0 := HF.out.1.c0; have c5 := HF.out.1.c5; have c6 := HF.out.1.c6
  rw [hV, hB]
  clear hV
  go_upto_region 10 with (fail)
  refine region_calm (by kernel_rfl) (by kernel_rfl) (fun W => Below V.heap.size V W) (below_drew1 V) ?_
  intro U hU f hf hof
  have HE : Hid (∀ y, Ft (f y) B 5 p q u v c i x ∧ Below B w (f y)) := fun y => ⟨HF.out.1.next (hf y), HF.out.2.trans ((hf y).mono (Nat.le_of_lt HF.out.1.lt))⟩
  have f5 : ∀ y, (f y).cell? ⟨B, 5, none⟩ = some (.int .i64 c) := fun y => (HE.out y).1.c5
  clear hf hof c0 c5 c6 HF
  go_big_quiet_step (fail)
  go_big_quiet_step (fail)
  go_big_quiet_step (fail)
  go_big_quiet_step ((go_at_call 57; exact calm_same (C1.out _)))
  go_big_quiet_step ((go_at_call 56; exact calm_same (C2.out _)))
  refine wpQuiet_nil ?_
  rintro _ ⟨y, rfl⟩
  have c5 := f5 y
  go_wp2
  go_ret
  exact ⟨rfl, by first | exact (HE.out y).2 | (rw [hB]; exact (HE.out y).2)⟩
set_option maxRecDepth 100000 in
set_option maxHeartbeats 2000000 in
theorem covers_rest (k p q u v c i x m : Int) (h1 : (k == 1) = false) (h2 : (k == 2) = false) (h3 : (k == 3) = false) (h4 : (k == 4) = false) (h5 : (k == 5) = false) (w : World) :
    Calls Try.prog 30 #[.agg #[.int .i64 k, .int .i64 p, .int .i64 q, .int .i64 u, .int .i64 v, .int .i64 c, .int .i64 i, .int .i64 x], .int .i64 m] w fun e w' => e = .returned (.int .i64 (-1)) ∧ Below w.heap.size w w' := by
  go_enter Try.func30, Try.ntmps30
  go_upto_region 1 with (fail)
  obtain ⟨B, hB⟩ : ∃ B, w.heap.size = B := ⟨_, rfl⟩
  obtain ⟨V, hV⟩ : ∃ V, w.alloc (.cells #[.int .i64 k, .int .i64 p, .int .i64 q, .int .i64 u, .int .i64 v, .int .i64 c, .int .i64 i, .int .i64 x] 38) = V := ⟨_, rfl⟩
  have HF : Hid (Ft V B k p q u v c i x ∧ Below B w V) := by rw [← hV, ← hB]; exact ⟨Ft.new w k p q u v c i x _, (Below.refl _ w).alloc (Nat.le_refl _) _⟩
  have c0 := HF.out.1.c0; have c5 := HF.out.1.c5; have c6 := HF.out.1.c6
  rw [hV, hB]
  clear hV
  go_wp2
  go_ret
  exact ⟨rfl, by first | exact HF.out.2 | (rw [hB]; exact HF.out.2)⟩
theorem wh_yes {m n j : Int} (hm : Md m n j) (i : Int) (h0 : 0 < n) (h1 : 0 ≤ i) (h2 : i < 576) : Hid (∀ w : World, Calls Try.prog 55 #[.int .i64 m, .int .i64 i] w fun e w' => e = .returned (.tuple #[.int .i64 (i / 8 / n), .int .i64 (i / 8 % n), .int .i64 0]) ∧ Below w.heap.size w w') := fun w =>
  (whose_yes hm i h0 h1 h2 w).mono fun _ _ ⟨he, q, hq⟩ => ⟨he, by subst hq; exact (Below.refl _ w).trans ⟨rfl, rfl, rfl, Nat.le_refl _, fun _ _ => rfl⟩⟩
theorem wh_no {m n j : Int} (hm : Md m n j) (i : Int) (h : n = 0 ∨ ¬ (0 ≤ i ∧ i < 576)) : Hid (∀ w : World, Calls Try.prog 55 #[.int .i64 m, .int .i64 i] w fun e w' => e = .returned (.tuple #[.int .i64 0, .int .i64 0, .int .i64 12]) ∧ Below w.heap.size w w') := fun w =>
  (whose_no hm i h w).mono fun _ _ ⟨he, hq⟩ => ⟨he, by subst hq; exact Below.refl _ _⟩
theorem covers_any (k p q u v c i x : Int) (m n j : Int) (hm : Md m n j) (w : World) :
    Calls Try.prog 30 #[.agg #[.int .i64 k, .int .i64 p, .int .i64 q, .int .i64 u, .int .i64 v, .int .i64 c, .int .i64 i, .int .i64 x], .int .i64 m] w fun e w' => e = .returned (.int .i64 (cv n k c i)) ∧ Below w.heap.size w w' := by
  unfold cv
  by_cases h : k = 1 ∨ k = 2
  · rw [if_pos h]
    by_cases h2 : 0 < n ∧ 0 ≤ i ∧ i < 576
    · rw [if_pos h2]
      rcases h with rfl | rfl
      · exact covers_1yes p q u v c i x m _ _ _ rfl (wh_yes hm i h2.1 h2.2.1 h2.2.2) w
      · exact covers_2yes p q u v c i x m _ _ _ rfl (wh_yes hm i h2.1 h2.2.1 h2.2.2) w
    · rw [if_neg h2]
      have hn : 0 ≤ n := by rcases hm with ⟨_, rfl, _⟩ | ⟨_, rfl, _⟩ | ⟨_, _, rfl, _⟩ <;> omega
      rcases h with rfl | rfl
      · exact covers_1no p q u v c i x m _ _ _ rfl (wh_no hm i (by omega)) w
      · exact covers_2no p q u v c i x m _ _ _ rfl (wh_no hm i (by omega)) w
  · rw [if_neg h]
    by_cases h3 : 3 ≤ k ∧ k ≤ 5
    · rw [if_pos h3]
      have C2 : ∀ z : Bool, decide (0 ≤ c ∧ c < n) = z → ∀ w : World, Calls Try.prog 56 #[.int .i64 c, .int .i64 n] w fun e w' => e = .returned (.bool z) ∧ w' = w := fun z hz w => by rw [← hz]; exact fbelow_any c n w
      by_cases h4 : 0 ≤ c ∧ c < n
      · rw [if_pos h4]
        rcases (show k = 3 ∨ k = 4 ∨ k = 5 by omega) with rfl | rfl | rfl
        · exact covers_3true p q u v c i x m n (fun w => countChips_any hm w) (C2 true (decide_eq_true h4)) w
        · exact covers_4true p q u v c i x m n (fun w => countChips_any hm w) (C2 true (decide_eq_true h4)) w
        · exact covers_5true p q u v c i x m n (fun w => countChips_any hm w) (C2 true (decide_eq_true h4)) w
      · rw [if_neg h4]
        rcases (show k = 3 ∨ k = 4 ∨ k = 5 by omega) with rfl | rfl | rfl
        · exact covers_3false p q u v c i x m n (fun w => countChips_any hm w) (C2 false (decide_eq_false h4)) w
        · exact covers_4false p q u v c i x m n (fun w => countChips_any hm w) (C2 false (decide_eq_false h4)) w
        · exact covers_5false p q u v c i x m n (fun w => countChips_any hm w) (C2 false (decide_eq_false h4)) w
    · rw [if_neg h3]
      exact covers_rest k p q u v c i x m (by rw [beq_eq_false_iff_ne]; omega) (by rw [beq_eq_false_iff_ne]; omega) (by rw [beq_eq_false_iff_ne]; omega) (by rw [beq_eq_false_iff_ne]; omega) (by rw [beq_eq_false_iff_ne]; omega) w
end Go.Proofs.Ytcpjmfemgdgplaa

/-
  What a fault changes: bytes of the chip that it covers alone; one bit at most, if it is narrow; one byte of a word at most in mode 2.
-/
namespace Go.Proofs.Ytcpjmfemgdgplaa
open Go.RowKit

theorem frc_only (F : Nat → Int) (i x : Int) (j : Nat) (h : frc F i x j ≠ F j) : 0 ≤ i ∧ i < 576 ∧ j = i.toNat / 8 := by
  unfold frc at h
  by_cases hi : 0 ≤ i ∧ i < 576
  · rw [if_pos hi] at h
    unfold frR at h
    by_cases e : j = i.toNat / 8
    · exact ⟨hi.1, hi.2, e⟩
    · rw [if_neg e] at h; exact absurd rfl h
  · rw [if_neg hi] at h; exact absurd rfl h
theorem chp_only (n : Nat) (c : Int) (F : Nat → Int) (y : Int) (j : Nat) (h : Rw.chp n c F y j ≠ F j) : 0 < n ∧ ((j % n : Nat) : Int) = c := by
  unfold Rw.chp at h
  split at h
  · assumption
  · exact absurd rfl h
theorem apF_same {n k p q u v c i x p' q' u' v' : Int} {F : Nat → Int} {j : Nat} (h : apF n k p q u v c i x p' q' u' v' F j ≠ F j) : (k = 2 ∧ 0 ≤ i ∧ i < 576 ∧ j = i.toNat / 8) ∨ (3 ≤ k ∧ k ≤ 5 ∧ 0 < n.toNat ∧ ((j % n.toNat : Nat) : Int) = c) := by
  unfold apF at h
  split at h
  · rename_i hl
    have hk := of_decide_eq_true hl.1
    split at h
    · rename_i h2
      exact .inl ⟨h2, frc_only F i x j h⟩
    · have := chp_only _ _ _ _ _ h
      exact .inr ⟨by omega, by omega, this⟩
  · exact absurd rfl h
/-- what is read otherwise is the covered chip's -/
theorem apF_cv {n : Int} (hn : n = 9 ∨ n = 36) {k p q u v c i x p' q' u' v' : Int} {F : Nat → Int} {j : Nat} (h : apF n k p q u v c i x p' q' u' v' F j ≠ F j) : (j : Int) % n = cv n k c i := by
  unfold cv
  rcases apF_same h with ⟨rfl, h1, h2, h3⟩ | ⟨h1, h2, h3, h4⟩
  · rw [if_pos (.inr rfl), if_pos (by omega)]
    subst h3
    rcases hn with rfl | rfl <;> omega
  · rcases hn with rfl | rfl
    · have e : (9 : Int).toNat = 9 := rfl
      rw [e] at h4
      rw [if_neg (by omega), if_pos (by omega), if_pos (by omega)]
      omega
    · have e : (36 : Int).toNat = 36 := rfl
      rw [e] at h4
      rw [if_neg (by omega), if_pos (by omega), if_pos (by omega)]
      omega
theorem fc_dl (x : Nat) (hx : x < 256) (r : Nat) (hr : r < 8) (v : Nat) (hv : v < 2) : Rw.dl 1 ((Rw.fc x r v : Nat) : Int) (x : Int) ≤ 1 := by
  have h1 := Rw.fc_flip x hx r hr
  have h2 := Rw.fc_stay x hx r hr
  rcases (show v = x / 2 ^ r % 2 ∨ v = 1 - x / 2 ^ r % 2 by omega) with e | e
  · rw [e, ← h2, Rw.dl_self]; omega
  · rw [e, ← h1, Rw.dl_flip 1 x r hx hr]; omega
/-- a narrow fault changes one bit at most -/
theorem apF_bit (n k p q u v c i x p' q' u' v' : Int) (F : Nat → Int) (hF : Byts 72 F) (hk : k = 1 ∨ k = 2) : ex 1 9 8 (apF n k p q u v c i x p' q' u' v' F) F ≤ 1 := by
  by_cases hi : 0 ≤ i ∧ i < 576
  · have h := Rw.mx_one 1 (apF n k p q u v c i x p' q' u' v' F) F 9 8 (i.toNat / 8) (by omega) (by omega) (fun y _ hy => by
      by_cases e : apF n k p q u v c i x p' q' u' v' F y = F y
      · exact e
      · rcases apF_same e with h | h <;> omega)
    unfold ex
    show Rw.mx 1 (apF n k p q u v c i x p' q' u' v' F) F 9 8 ≤ 1
    rw [h]
    have hb := hF (i.toNat / 8) (by omega)
    unfold apF
    split
    · rw [if_pos (by rename_i hl; have := of_decide_eq_true hl.1; omega)]
      unfold frc
      rw [if_pos hi]
      unfold frR
      rw [if_pos rfl]
      have := fc_dl (F (i.toNat / 8)).toNat (by omega) (i.toNat % 8) (by omega) (x % 2).toNat (by omega)
      rwa [show (((F (i.toNat / 8)).toNat : Nat) : Int) = F (i.toNat / 8) by omega] at this
    · rw [Rw.dl_self]; omega
  · have h : Rw.mx 1 (apF n k p q u v c i x p' q' u' v' F) F 9 8 = 0 := (Rw.mx_zero 1 (apF n k p q u v c i x p' q' u' v' F) F 9 8 (by omega) (fun y hy => apF_byt _ _ _ _ _ _ _ _ _ _ _ _ _ F hF y (by omega)) (fun y hy => hF y (by omega))).2 fun y _ => by
      by_cases e : apF n k p q u v c i x p' q' u' v' F y = F y
      · exact e
      · rcases apF_same e with h | h <;> omega
    unfold ex
    show Rw.mx 1 (apF n k p q u v c i x p' q' u' v' F) F 9 8 ≤ 1
    rw [h]; omega
/-- in mode 2 a fault changes one byte of a word at most -/
theorem apF_byte (k p q u v c i x p' q' u' v' : Int) (F : Nat → Int) (hF : Byts 72 F) : ex 2 36 2 (apF 36 k p q u v c i x p' q' u' v' F) F ≤ 1 := by
  unfold ex
  show Rw.mx 2 (apF 36 k p q u v c i x p' q' u' v' F) F 36 2 ≤ 1
  have hG := apF_byt 36 k p q u v c i x p' q' u' v' F hF
  refine Rw.mx_col 2 _ F 36 2 ((cv 36 k c i).toNat % 36) 1 (by omega) (fun y hy hne => ?_) (fun y hy => (Rw.dl_le 2 _ _ (hG y (by omega)) (hF y (by omega))).2 (by omega))
  by_cases e : apF 36 k p q u v c i x p' q' u' v' F y = F y
  · exact e
  · have := apF_cv (n := 36) (.inr rfl) e
    omega
end Go.Proofs.Ytcpjmfemgdgplaa

/-
  Structs of integers of many kinds (arrays and structs within), and slices of such, as arguments: what a row's condition tells of them.
-/
namespace Go.Proofs.Ytcpjmfemgdgplaa
open Go.ChangeShapes Go.WideShapes Go.ChangeAt Go.RowKit

/-- the cells of the type are integers of these kinds, one behind another -/
def mixB (P : Program) : Nat → TypeId → List IntKind → Bool
  | 0, _, _ => false
  | d + 1, t, ks => match P.underlying t with
    | some (.int k) => decide (ks = [k])
    | some (.array n e) => decide (ks.length = n * P.cellsOf e) && decide (0 < P.cellsOf e) && decide (P.cellsOf t = n * P.cellsOf e) && (List.range n).all fun i => mixB P d e ((ks.drop (i * P.cellsOf e)).take (P.cellsOf e))
    | some (.struct fs) => decide (ks.length = P.cellsOf t) && ((List.range (P.cellsOf t)).all fun j => fs.toList.any fun f => decide (f.offset ≤ j) && decide (j < f.offset + P.cellsOf f.type)) && fs.toList.all fun f => mixB P d f.type ((ks.drop f.offset).take (P.cellsOf f.type))
    | _ => false
/-- integers of these kinds -/
def mints (ks : List IntKind) (F : Nat → Int) : List Value := (List.range ks.length).map fun i => Value.int (ks[i]?.getD .i64) (F i)
theorem mints_len (ks : List IntKind) (F : Nat → Int) : (mints ks F).length = ks.length := by simp [mints]
theorem mints_at (ks : List IntKind) (F : Nat → Int) (i : Nat) (k : IntKind) (h : ks[i]? = some k) : (mints ks F)[i]? = some (.int k (F i)) := by
  have := (List.getElem?_eq_some_iff.1 h).1
  unfold mints
  rw [List.getElem?_map, List.getElem?_range this]
  simp [h]
section
variable {H : Type} {enc : TypeId × Value → H} {P : Program} {w : World} {base : Nat} {spare : Nat → Bool} {held : Bool}

theorem mix_cells : ∀ (d : Nat) (t : TypeId) (ks : List IntKind), mixB P d t ks = true → ∀ {fuel : Nat} {cs : List Value} {x : DataW H × List MemPlace}, DataW.trod enc P w base spare held fuel t cs = some x →
    cs.length = ks.length ∧ ∀ (j : Nat) (k : IntKind), ks[j]? = some k → ∃ z : Int, cs[j]? = some (.int k z) ∧ (Lit.int k z).wf = true
  | 0, _, _, h, _, _, _, _ => by cases h
  | d + 1, t, ks, h, fuel, cs, x, hx => by
    unfold mixB at h
    split at h
    · rename_i k' hu
      simp only [decide_eq_true_eq] at h
      subst h
      obtain ⟨z, rfl, _, hw⟩ := DataW.trod_int hu hx
      refine ⟨rfl, fun j k hj => ?_⟩
      cases j with
      | zero =>
        simp at hj
        subst hj
        exact ⟨z, rfl, hw⟩
      | succ j => simp at hj
    · rename_i n e hu
      simp only [Bool.and_eq_true, List.all_eq_true, decide_eq_true_eq] at h
      obtain ⟨⟨⟨hl, h0⟩, hct⟩, hall⟩ := h
      obtain ⟨xs, m, _, _, hcl, hxl, hel⟩ := DataW.trod_array hu hx
      refine ⟨by rw [hcl, hct, hl], fun j k hj => ?_⟩
      have hjl : j < n * P.cellsOf e := by rw [← hl]; exact (List.getElem?_eq_some_iff.1 hj).1
      have hi : j / P.cellsOf e < n := Nat.div_lt_of_lt_mul (by rwa [Nat.mul_comm])
      have hmod : j % P.cellsOf e < P.cellsOf e := Nat.mod_lt _ h0
      have hj2 : j / P.cellsOf e * P.cellsOf e + j % P.cellsOf e = j := by rw [Nat.mul_comm]; exact Nat.div_add_mod j _
      have hxi := hel (j / P.cellsOf e) hi
      rw [List.getElem?_eq_getElem (by omega)] at hxi
      obtain ⟨_, hv⟩ := mix_cells d e _ (hall _ (List.mem_range.2 hi)) hxi
      obtain ⟨z, hz, hw⟩ := hv (j % P.cellsOf e) k (by rw [List.getElem?_take, if_pos hmod, List.getElem?_drop, hj2]; exact hj)
      rw [List.getElem?_take, if_pos hmod, List.getElem?_drop, hj2] at hz
      exact ⟨z, hz, hw⟩
    · rename_i fs hu
      simp only [Bool.and_eq_true, List.all_eq_true, List.any_eq_true, decide_eq_true_eq] at h
      obtain ⟨⟨hl, hc⟩, hf⟩ := h
      obtain ⟨xs, n, _, _, hcl, hxs, hel⟩ := DataW.trod_struct hu hx
      refine ⟨by rw [hcl, hl], fun j k hj => ?_⟩
      have hjl : j < P.cellsOf t := by rw [← hl]; exact (List.getElem?_eq_some_iff.1 hj).1
      obtain ⟨f, hfm, h1, h2⟩ := hc j (List.mem_range.2 hjl)
      obtain ⟨i, hi⟩ := List.mem_iff_getElem?.1 hfm
      have hi' : fs[i]? = some f := by simpa using hi
      have hxi := hel i f hi'
      have hil : i < xs.length := by rw [hxs]; exact (Array.getElem?_eq_some_iff.1 hi').1
      rw [List.getElem?_eq_getElem hil] at hxi
      obtain ⟨_, hv⟩ := mix_cells d f.type _ (hf f hfm) hxi
      have hj2 : f.offset + (j - f.offset) = j := by omega
      obtain ⟨z, hz, hw⟩ := hv (j - f.offset) k (by rw [List.getElem?_take, if_pos (by omega), List.getElem?_drop, hj2]; exact hj)
      rw [List.getElem?_take, if_pos (by omega), List.getElem?_drop, hj2] at hz
      exact ⟨z, hz, hw⟩
    · cases h
theorem mix_ints {ks : List IntKind} {cs : List Value} (hl : cs.length = ks.length) (h : ∀ (j : Nat) (k : IntKind), ks[j]? = some k → ∃ z : Int, cs[j]? = some (.int k z) ∧ (Lit.int k z).wf = true) : ∃ F : Nat → Int, cs = mints ks F ∧ ∀ j k, ks[j]? = some k → (Lit.int k (F j)).wf = true := by
  obtain ⟨F, hF⟩ := Go.Deep.choose_lt (α := Int) (n := ks.length) (p := fun i z => ∀ k, ks[i]? = some k → cs[i]? = some (.int k z) ∧ (Lit.int k z).wf = true) fun i hi => by
    obtain ⟨z, hz, hw⟩ := h i ks[i] (List.getElem?_eq_getElem hi)
    refine ⟨z, fun k hk => ?_⟩
    rw [List.getElem?_eq_getElem hi] at hk
    cases hk
    exact ⟨hz, hw⟩
  refine ⟨F, List.ext_getElem? fun i => ?_, fun j k hj => (hF j (List.getElem?_eq_some_iff.1 hj).1 k hj).2⟩
  by_cases hi : i < ks.length
  · rw [(hF i hi _ (List.getElem?_eq_getElem hi)).1, mints_at ks F i _ (List.getElem?_eq_getElem hi)]
  · rw [List.getElem?_eq_none (by omega), List.getElem?_eq_none (by rw [mints_len]; omega)]
theorem open_mix {t : TypeId} {ks : List IntKind} {r : Reach} {b0 : Nat} {fs : Array Field} {v : Value} {d : DataW H} {ps : List MemPlace} (ht : P.underlying t = some (.struct fs)) (hf : mixB P 8 t ks = true)
    (hval : Value.okWide P w r b0 t v) (hd : DataW.Trod enc P w base spare held t v d ps) :
    ∃ F : Nat → Int, v = .agg (mints ks F).toArray ∧ ∀ j k, ks[j]? = some k → (Lit.int k (F j)).wf = true := by
  obtain ⟨cs, rfl⟩ : ∃ cs, v = .agg cs := by
    simp only [Value.okWide, ht] at hval
    obtain ⟨cs, h1, _⟩ := hval
    exact ⟨cs, h1⟩
  obtain ⟨fuel, hx⟩ := hd
  obtain ⟨hl, hall⟩ := mix_cells 8 t ks hf hx
  obtain ⟨F, hF, hw⟩ := mix_ints (cs := cs.toList) (by simpa [Value.cells] using hl) (by simpa [Value.cells] using hall)
  exact ⟨F, by rw [← hF], hw⟩
/-- a slice of structs, each of integers of these kinds -/
def IsMix (ks : List IntKind) (w : World) (a : Option Addr) (len cap : Nat) (Z : Nat → Nat → Int) : Prop :=
  (a = none ∧ len = 0 ∧ cap = 0) ∨
  ∃ x, a = some x ∧ len ≤ cap ∧ cap ≤ maxLen ∧ ∀ i, i < cap → ∀ j k, ks[j]? = some k → w.cell? (x.add (i * ks.length + j)) = some (.int k (Z i j)) ∧ (Lit.int k (Z i j)).wf = true
theorem open_mixs {t e : TypeId} {ks : List IntKind} {a : Option Addr} {len cap : Nat} {d : DataW H} {ps : List MemPlace} (ht : P.underlying t = some (.slice e)) (hf : mixB P 8 e ks = true) (hct : P.cellsOf e = ks.length) (hs : spare = fun _ => true)
    (hd : DataW.Trod enc P w base spare held t (.slice a len cap) d ps) : ∃ Z, IsMix ks w a len cap Z := by
  obtain ⟨fuel, hx⟩ := hd
  rcases Go.Deep.open_slice ht hx with ⟨h, _⟩ | ⟨x, l, c, m, n, D, Pl, h, _, hl, hm, hmm, _, hel⟩
  · simp [Value.cells] at h
    obtain ⟨rfl, rfl, rfl⟩ := h
    exact ⟨fun _ _ => 0, .inl ⟨rfl, rfl, rfl⟩⟩
  · simp [Value.cells] at h
    obtain ⟨rfl, rfl, rfl⟩ := h
    obtain rfl : m = cap := by rw [hmm, hs]; rfl
    obtain ⟨Z, hZ⟩ := Go.Deep.choose_lt (α := Nat → Int) (n := m) (p := fun i F => ∀ j k, ks[j]? = some k → w.cell? (x.add (i * ks.length + j)) = some (.int k (F j)) ∧ (Lit.int k (F j)).wf = true) fun i hi => by
      obtain ⟨cs, hcs, htr⟩ := hel i hi
      obtain ⟨hlen, hall⟩ := mix_cells 8 e ks hf htr
      obtain ⟨F, hF, hw⟩ := mix_ints hlen hall
      refine ⟨F, fun j k hj => ⟨?_, hw j k hj⟩⟩
      have hjl := (List.getElem?_eq_some_iff.1 hj).1
      have hc := (World.cells?_some hcs).2.2 j (by rw [hct]; exact hjl)
      rw [Go.Deep.add_add, hct] at hc
      rw [hc, hF, mints_at ks F j k hj]
    exact ⟨Z, .inr ⟨x, rfl, hl, hm, hZ⟩⟩
/-- a slice of Bools -/
def IsBo (w : World) (a : Option Addr) (len cap : Nat) (Z : Nat → Bool) : Prop :=
  (a = none ∧ len = 0 ∧ cap = 0) ∨ ∃ x, a = some x ∧ len ≤ cap ∧ cap ≤ maxLen ∧ ∀ i, i < cap → w.cell? (x.add i) = some (.bool (Z i))
theorem open_bools {t e : TypeId} {a : Option Addr} {len cap : Nat} {d : DataW H} {ps : List MemPlace} (ht : P.underlying t = some (.slice e)) (he : P.underlying e = some .bool) (hct : P.cellsOf e = 1) (hs : spare = fun _ => true)
    (hd : DataW.Trod enc P w base spare held t (.slice a len cap) d ps) : ∃ Z, IsBo w a len cap Z := by
  obtain ⟨fuel, hx⟩ := hd
  rcases Go.Deep.open_slice ht hx with ⟨h, _⟩ | ⟨x, l, c, m, n, D, Pl, h, _, hl, hm, hmm, _, hel⟩
  · simp [Value.cells] at h
    obtain ⟨rfl, rfl, rfl⟩ := h
    exact ⟨fun _ => false, .inl ⟨rfl, rfl, rfl⟩⟩
  · simp [Value.cells] at h
    obtain ⟨rfl, rfl, rfl⟩ := h
    obtain rfl : m = cap := by rw [hmm, hs]; rfl
    obtain ⟨Z, hZ⟩ := Go.Deep.choose_lt (α := Bool) (n := m) (p := fun i z => w.cell? (x.add i) = some (.bool z)) fun i hi => by
      obtain ⟨cs, hcs, htr⟩ := hel i hi
      obtain ⟨b, rfl, _⟩ := DataW.trod_bool he htr
      have hc := (World.cells?_some hcs).2.2 0 (by rw [hct]; omega)
      rw [Go.Deep.add_add, hct] at hc
      exact ⟨b, by simpa using hc⟩
    exact ⟨Z, .inr ⟨x, rfl, hl, hm, hZ⟩⟩
end
end Go.Proofs.Ytcpjmfemgdgplaa
