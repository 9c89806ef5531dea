/-
  The law HsiaoCorrects.
-/
import Derived.Test.YtcabfhndcckjdaaDoorHsL1
namespace Go.Proofs.YtcabfhndcckjdaaDoor
open Go.RowKit Go.Shelf
open Bm (wt wtK cntW)
open Hm (col onesOf nOf idx kd pl xs ap syn)
attribute [local go_sem] Oper.semAt_some

theorem fx_zero (d : Nat) : fx d 0 = d := by
  unfold fx; rw [Hm.kd_zero, if_neg (by omega)]
theorem fx_one (d d' i : Nat) (hi : i < 72) (h : d' = if i < 64 then d ^^^ 2 ^ i else d) : fx d' (col i) = d := by
  obtain ⟨h1, h2⟩ := Hm.fixed_one i hi
  unfold fx
  rw [h1, h2]
  by_cases h3 : i < 64
  · rw [if_pos h3] at h
    rw [if_pos ⟨rfl, by omega⟩, Int.toNat_natCast, h, Nat.xor_assoc, Nat.xor_self, Nat.xor_zero]
  · rw [if_neg h3] at h
    rw [if_neg (by omega), h]

set_option maxRecDepth 100000 in
set_option maxHeartbeats 4000000 in
theorem hsiaoCorrects_walk (d a i : Int) (w0 : (Lit.int .u64 d).wf = true) (_w1 : (Lit.int .i64 a).wf = true) (_w2 : (Lit.int .i64 i).wf = true) (w : World) (hT : TabW w) :
    Calls Tryd.prog 5 #[.int .u64 d, .int .i64 a, .int .i64 i] w fun e w' => e = .returned (.bool true) ∧ Below w.heap.size w w' := by
  have rd := bounds_u64 w0
  obtain ⟨v, rfl⟩ := Int.eq_ofNat_of_zero_le rd.1
  have hv : v < 18446744073709551616 := by omega
  clear w0 rd _w1 _w2
  have HT : Hid (TabW w) := hT
  clear hT
  go_enter Tryd.func5, Tryd.ntmps5
  go_wp2_with fail
  refine (new_any _).mono ?_
  rintro e V1 ⟨rfl, hC, hB⟩
  have S1 := St.first HT.out hC hB
  clear hC hB HT
  go_wp2_with fail
  refine (anchor4_any _ _ S1.code S1.tab).mono ?_
  rintro e V2 ⟨rfl, hB⟩
  replace S1 := S1.next hB
  clear hB
  rcases (show i < 0 ∨ (0 ≤ i ∧ 71 < i) ∨ (0 ≤ i ∧ i ≤ 71) by omega) with h | ⟨h1, h2⟩ | ⟨h1, h2⟩
  · go_wp2
    go_ret
    exact ⟨rfl, S1.below⟩
  · go_wp2
    go_ret
    exact ⟨rfl, S1.below⟩
  obtain ⟨i, rfl⟩ := Int.eq_ofNat_of_zero_le h1
  have hi : i < 72 := by omega
  clear h1
  have hk := Hm.syn_lt v 0 a 0 (by decide)
  have e0 := Hm.syn_code v a 0
  have HCk : Hid (∀ b w, CodeAt w b → TabW w → Calls Tryd.prog 23 #[.pointer (some ⟨b, 0, none⟩), .int .u64 (v : Int), .int .i64 a, .int .i64 0] w fun e w' => e = .returned (.int .u8 (syn v 0 a 0 : Int)) ∧ Below w.heap.size w w') := fun b w h1 h2 => check_any b v a 0 hv w h1 h2
  obtain ⟨K, hK⟩ : ∃ K, syn v 0 a 0 = K := ⟨_, rfl⟩
  rw [hK] at hk e0 HCk
  obtain ⟨d1, k1, hd1, hk1, e1, f1, t1⟩ := turned_stored v K i a 0 hv hk hi
  have e2 := e1 a 0
  rw [e0, Nat.zero_xor] at e2
  have T1 : Hid (∀ w, Calls Tryd.prog 22 #[.int .u64 (v : Int), .int .u8 (K : Int), .int .i64 a, .int .i64 0, .int .i64 (i : Int)] w fun e w' => e = .returned (.tuple #[.int .u64 (d1 : Int), .int .u8 (k1 : Int), .int .i64 a, .int .i64 0]) ∧ w' = w) := t1
  have D1 : Hid (∀ b w, CodeAt w b → TabW w → Calls Tryd.prog 20 #[.pointer (some ⟨b, 0, none⟩), .int .u64 (d1 : Int), .int .u8 (k1 : Int), .int .i64 a] w fun e w' => e = .returned (.tuple #[.int .u64 (v : Int), .int .i64 1, .int .i64 (i : Int)]) ∧ Below w.heap.size w w') := fun b w h1 h2 => by
    have := decode_any b d1 k1 a hd1 hk1 w h1 h2
    rw [e2, fx_one v d1 i hi f1, (Hm.fixed_one i hi).1, (Hm.fixed_one i hi).2] at this
    exact this
  have D2 : Hid (∀ b w, CodeAt w b → TabW w → Calls Tryd.prog 20 #[.pointer (some ⟨b, 0, none⟩), .int .u64 (v : Int), .int .u8 (K : Int), .int .i64 a] w fun e w' => e = .returned (.tuple #[.int .u64 (v : Int), .int .i64 0, .int .i64 (-1)]) ∧ Below w.heap.size w w') := fun b w h1 h2 => by
    have := decode_any b v K a hv hk w h1 h2
    rw [e0, fx_zero, Hm.kd_zero, Hm.pl_zero] at this
    exact this
  clear t1 e1 e2 f1 e0 hK
  go_wp2_with fail
  refine (HCk.out _ _ S1.code S1.tab).mono ?_
  rintro e V3 ⟨rfl, hB⟩
  replace S1 := S1.next hB
  clear hB
  go_wp2_with fail
  refine (T1.out _).mono ?_
  rintro e V4 ⟨rfl, rfl⟩
  go_wp2_with fail
  refine (D1.out _ _ S1.code S1.tab).mono ?_
  rintro e V5 ⟨rfl, hB⟩
  replace S1 := S1.next hB
  clear hB
  go_wp2_with fail
  refine (HCk.out _ _ S1.code S1.tab).mono ?_
  rintro e V6 ⟨rfl, hB⟩
  replace S1 := S1.next hB
  clear hB
  go_wp2_with fail
  refine (D2.out _ _ S1.code S1.tab).mono ?_
  rintro e V7 ⟨rfl, hB⟩
  replace S1 := S1.next hB
  clear hB
  go_wp2
  go_ret
  exact ⟨rfl, S1.below⟩

end Go.Proofs.YtcabfhndcckjdaaDoor
