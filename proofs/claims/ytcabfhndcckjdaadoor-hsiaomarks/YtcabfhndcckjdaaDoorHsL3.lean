/-
  The law HsiaoMarks.
-/
import Derived.Test.YtcabfhndcckjdaaDoorHsL1
namespace Go.Proofs.YtcabfhndcckjdaaDoor
open Go.RowKit Go.Shelf
open Bm (wt wtK cntW)
open Hm (col onesOf nOf idx kd pl xs ap syn)
attribute [local go_sem] Oper.semAt_some

theorem flip_pois : ap 1 73 ^^^ ap 0 73 = col 73 := by
  have := Hm.ap_flip 1 73 (.inr rfl)
  rw [show (1 : Int) - 1 = 0 from rfl] at this
  exact this

set_option maxRecDepth 100000 in
set_option maxHeartbeats 4000000 in
theorem hsiaoMarks_walk (d a i : Int) (w0 : (Lit.int .u64 d).wf = true) (_w1 : (Lit.int .i64 a).wf = true) (_w2 : (Lit.int .i64 i).wf = true) (w : World) (hT : TabW w) :
    Calls Tryd.prog 7 #[.int .u64 d, .int .i64 a, .int .i64 i] w fun e w' => e = .returned (.bool true) ∧ Below w.heap.size w w' := by
  have rd := bounds_u64 w0
  obtain ⟨v, rfl⟩ := Int.eq_ofNat_of_zero_le rd.1
  have hv : v < 18446744073709551616 := by omega
  clear w0 rd _w1 _w2
  have HT : Hid (TabW w) := hT
  clear hT
  obtain ⟨A, ea, hA⟩ := low_bit a
  have hA2 : A ≤ 1 := by omega
  have hA0 : 0 ≤ A := by omega
  have hk := Hm.syn_lt v 0 A 1 (by decide)
  have hl := Hm.syn_lt v 0 A 0 (by decide)
  have e1 : syn v (syn v 0 A 1) A 0 = col 73 := by
    rw [Hm.syn_pois v _ A 1 0, Hm.syn_code, Nat.zero_xor]
    exact flip_pois
  have e2 : syn v (syn v 0 A 0) (1 - A) 0 = col 72 := by
    rw [Hm.syn_addr v _ A (1 - A) 0, Hm.syn_code, Nat.zero_xor]
    exact Hm.ap_flip A 72 hA
  have C1 : Hid (∀ b w, CodeAt w b → TabW w → Calls Tryd.prog 23 #[.pointer (some ⟨b, 0, none⟩), .int .u64 (v : Int), .int .i64 A, .int .i64 1] w fun e w' => e = .returned (.int .u8 (syn v 0 A 1 : Int)) ∧ Below w.heap.size w w') := fun b w h1 h2 => check_any b v A 1 hv w h1 h2
  have C0 : Hid (∀ b w, CodeAt w b → TabW w → Calls Tryd.prog 23 #[.pointer (some ⟨b, 0, none⟩), .int .u64 (v : Int), .int .i64 A, .int .i64 0] w fun e w' => e = .returned (.int .u8 (syn v 0 A 0 : Int)) ∧ Below w.heap.size w w') := fun b w h1 h2 => check_any b v A 0 hv w h1 h2
  obtain ⟨K, hK⟩ : ∃ K, syn v 0 A 1 = K := ⟨_, rfl⟩
  obtain ⟨L, hL⟩ : ∃ L, syn v 0 A 0 = L := ⟨_, rfl⟩
  rw [hK] at hk e1 C1
  rw [hL] at hl e2 C0
  have D1 : Hid (∀ b w, CodeAt w b → TabW w → Calls Tryd.prog 20 #[.pointer (some ⟨b, 0, none⟩), .int .u64 (v : Int), .int .u8 (K : Int), .int .i64 A] w fun e w' => e = .returned (.tuple #[.int .u64 (fx v (col 73) : Int), .int .i64 2, .int .i64 (pl (col 73))]) ∧ Below w.heap.size w w') := fun b w h1 h2 => by
    have := decode_any b v K A hv hk w h1 h2
    rw [e1, Hm.kd_poison] at this
    exact this
  have D2 : Hid (∀ b w, CodeAt w b → TabW w → Calls Tryd.prog 20 #[.pointer (some ⟨b, 0, none⟩), .int .u64 (v : Int), .int .u8 (L : Int), .int .i64 (1 - A)] w fun e w' => e = .returned (.tuple #[.int .u64 (fx v (col 72) : Int), .int .i64 3, .int .i64 (pl (col 72))]) ∧ Below w.heap.size w w') := fun b w h1 h2 => by
    have := decode_any b v L (1 - A) hv hl w h1 h2
    rw [e2, Hm.kd_astray] at this
    exact this
  have E1 : Hid (syn v K A 0 = col 73) := e1
  have E2 : Hid (syn v L (1 - A) 0 = col 72) := e2
  obtain ⟨y1, Hy1⟩ : ∃ y1, fx v (col 73) = y1 := ⟨_, rfl⟩
  obtain ⟨y2, Hy2⟩ : ∃ y2, fx v (col 72) = y2 := ⟨_, rfl⟩
  obtain ⟨z1, Hz1⟩ : ∃ z1, pl (col 73) = z1 := ⟨_, rfl⟩
  obtain ⟨z2, Hz2⟩ : ∃ z2, pl (col 72) = z2 := ⟨_, rfl⟩
  rw [Hy1, Hz1] at D1
  rw [Hy2, Hz2] at D2
  clear hA e1 e2 hK hL Hy1 Hy2 Hz1 Hz2
  go_enter Tryd.func7, Tryd.ntmps7
  go_wp2_with fail
  refine (new_any _).mono ?_
  rintro e V1 ⟨rfl, hC, hB⟩
  have S1 := St.first HT.out hC hB
  clear hC hB HT
  go_wp2_with fail
  refine (anchor4_any _ _ S1.code S1.tab).mono ?_
  rintro e V2 ⟨rfl, hB⟩
  replace S1 := S1.next hB
  clear hB
  go_wp2_with fail
  refine (C1.out _ _ S1.code S1.tab).mono ?_
  rintro e V3 ⟨rfl, hB⟩
  replace S1 := S1.next hB
  clear hB
  go_wp2_with fail
  refine (D1.out _ _ S1.code S1.tab).mono ?_
  rintro e V4 ⟨rfl, hB⟩
  replace S1 := S1.next hB
  clear hB
  go_wp2_with fail
  refine (C0.out _ _ S1.code S1.tab).mono ?_
  rintro e V5 ⟨rfl, hB⟩
  replace S1 := S1.next hB
  clear hB
  go_wp2_with fail
  refine (D2.out _ _ S1.code S1.tab).mono ?_
  rintro e V6 ⟨rfl, hB⟩
  replace S1 := S1.next hB
  clear hB
  rcases (show i < 0 ∨ (0 ≤ i ∧ 71 < i) ∨ (0 ≤ i ∧ i ≤ 71) by omega) with h | ⟨h1, h2⟩ | ⟨h1, h2⟩
  · go_wp2
    go_ret
    exact ⟨rfl, S1.below⟩
  · go_wp2
    go_ret
    exact ⟨rfl, S1.below⟩
  obtain ⟨i, rfl⟩ := Int.eq_ofNat_of_zero_le h1
  have hi : i < 72 := by omega
  clear h1 D1 D2
  obtain ⟨d1, k1, hd1, hk1, e1, f1, t1⟩ := turned_stored v K i A 1 hv hk hi
  obtain ⟨d2, k2, hd2, hk2, e2, f2, t2⟩ := turned_stored v L i A 0 hv hl hi
  have T1 : Hid (∀ w, Calls Tryd.prog 22 #[.int .u64 (v : Int), .int .u8 (K : Int), .int .i64 A, .int .i64 1, .int .i64 (i : Int)] w fun e w' => e = .returned (.tuple #[.int .u64 (d1 : Int), .int .u8 (k1 : Int), .int .i64 A, .int .i64 1]) ∧ w' = w) := t1
  have T2 : Hid (∀ w, Calls Tryd.prog 22 #[.int .u64 (v : Int), .int .u8 (L : Int), .int .i64 A, .int .i64 0, .int .i64 (i : Int)] w fun e w' => e = .returned (.tuple #[.int .u64 (d2 : Int), .int .u8 (k2 : Int), .int .i64 A, .int .i64 0]) ∧ w' = w) := t2
  have D3 : Hid (∀ b w, CodeAt w b → TabW w → Calls Tryd.prog 20 #[.pointer (some ⟨b, 0, none⟩), .int .u64 (d1 : Int), .int .u8 (k1 : Int), .int .i64 A] w fun e w' => (∃ (y : Nat) (z : Int), e = .returned (.tuple #[.int .u64 (y : Int), .int .i64 4, .int .i64 z])) ∧ Below w.heap.size w w') := fun b w h1 h2 => by
    have := decode_any b d1 k1 A hd1 hk1 w h1 h2
    rw [e1, E1.out, Hm.kd_two 73 (by decide) i (by omega) (by omega)] at this
    exact this.mono fun e w' h => ⟨⟨_, _, h.1⟩, h.2⟩
  have D4 : Hid (∀ b w, CodeAt w b → TabW w → Calls Tryd.prog 20 #[.pointer (some ⟨b, 0, none⟩), .int .u64 (d2 : Int), .int .u8 (k2 : Int), .int .i64 (1 - A)] w fun e w' => (∃ (y : Nat) (z : Int), e = .returned (.tuple #[.int .u64 (y : Int), .int .i64 4, .int .i64 z])) ∧ Below w.heap.size w w') := fun b w h1 h2 => by
    have := decode_any b d2 k2 (1 - A) hd2 hk2 w h1 h2
    rw [e2, E2.out, Hm.kd_two 72 (by decide) i (by omega) (by omega)] at this
    exact this.mono fun e w' h => ⟨⟨_, _, h.1⟩, h.2⟩
  clear t1 t2 e1 e2 E1 E2 f1 f2
  go_wp2_with fail
  refine (C1.out _ _ S1.code S1.tab).mono ?_
  rintro e V7 ⟨rfl, hB⟩
  replace S1 := S1.next hB
  clear hB
  go_wp2_with fail
  refine (T1.out _).mono ?_
  rintro e V8 ⟨rfl, rfl⟩
  go_wp2_with fail
  refine (D3.out _ _ S1.code S1.tab).mono ?_
  rintro e V9 ⟨⟨y3, z3, rfl⟩, hB⟩
  replace S1 := S1.next hB
  clear hB
  go_wp2_with fail
  refine (C0.out _ _ S1.code S1.tab).mono ?_
  rintro e V10 ⟨rfl, hB⟩
  replace S1 := S1.next hB
  clear hB
  go_wp2_with fail
  refine (T2.out _).mono ?_
  rintro e V11 ⟨rfl, rfl⟩
  go_wp2_with fail
  refine (D4.out _ _ S1.code S1.tab).mono ?_
  rintro e V12 ⟨⟨y4, z4, rfl⟩, hB⟩
  replace S1 := S1.next hB
  clear hB
  go_wp2
  go_ret
  exact ⟨rfl, S1.below⟩

end Go.Proofs.YtcabfhndcckjdaaDoor
