/-
  The law HsiaoLinear.
-/
import Derived.Test.YtcabfhndcckjdaaDoorHsL1
namespace Go.Proofs.YtcabfhndcckjdaaDoor
open Go.RowKit Go.Shelf
open Bm (wt wtK cntW)
open Hm (col onesOf nOf idx kd pl xs ap syn)
attribute [local go_sem] Oper.semAt_some

theorem ap_add (x y z : Int) (i : Nat) (h : z % 2 = (x + y) % 2) : ap z i = ap x i ^^^ ap y i := by
  unfold ap
  by_cases h1 : x % 2 = 1 <;> by_cases h2 : y % 2 = 1
  · rw [if_pos h1, if_pos h2, if_neg (by omega), Nat.xor_self]
  · rw [if_pos h1, if_neg h2, if_pos (by omega), Nat.xor_zero]
  · rw [if_neg h1, if_pos h2, if_pos (by omega), Nat.zero_xor]
  · rw [if_neg h1, if_neg h2, if_neg (by omega), Nat.xor_self]
theorem syn_sum (a b : Nat) (x y z : Int) (h : z % 2 = (x + y) % 2) : syn (a ^^^ b) 0 z z = syn a 0 x y ^^^ syn b 0 y x := by
  unfold syn
  rw [Hm.xs_xor, ap_add x y z 72 h, ap_add x y z 73 h]
  simp only [Nat.zero_xor]
  ac_rfl
theorem syn_nought : syn 0 0 0 0 = 0 := by decide +kernel

set_option maxRecDepth 100000 in
set_option maxHeartbeats 4000000 in
theorem hsiaoLinear_walk (a b x y : Int) (w0 : (Lit.int .u64 a).wf = true) (w1 : (Lit.int .u64 b).wf = true) (_w2 : (Lit.int .i64 x).wf = true) (_w3 : (Lit.int .i64 y).wf = true) (w : World) (hT : TabW w) :
    Calls Tryd.prog 8 #[.int .u64 a, .int .u64 b, .int .i64 x, .int .i64 y] w fun e w' => e = .returned (.bool true) ∧ Below w.heap.size w w' := by
  have ra := bounds_u64 w0
  have rb := bounds_u64 w1
  obtain ⟨u, rfl⟩ := Int.eq_ofNat_of_zero_le ra.1
  obtain ⟨v, rfl⟩ := Int.eq_ofNat_of_zero_le rb.1
  have hu : u < 18446744073709551616 := by omega
  have hv : v < 18446744073709551616 := by omega
  clear w0 w1 ra rb _w2 _w3
  have HT : Hid (TabW w) := hT
  clear hT
  obtain ⟨z, ez, hz⟩ : ∃ z, bits .xor .i64 x y = z ∧ z % 2 = (x + y) % 2 := ⟨_, rfl, i64_xor_low x y⟩
  have ex := u64_xor_nat u v hu hv
  have hm : u ^^^ v < 18446744073709551616 := Nat.xor_lt_two_pow (n := 64) hu hv
  have es := syn_sum u v x y z hz
  have hp := Hm.syn_lt u 0 x y (by decide)
  have hq := Hm.syn_lt v 0 y x (by decide)
  have et := Hm.syn_check u (syn v 0 y x) x y
  obtain ⟨p, hP⟩ : ∃ p, syn u 0 x y = p := ⟨_, rfl⟩
  obtain ⟨q, hQ⟩ : ∃ q, syn v 0 y x = q := ⟨_, rfl⟩
  rw [hP, hQ] at es et
  rw [hP] at hp
  rw [hQ] at hq
  have C1 : Hid (∀ b w, CodeAt w b → TabW w → Calls Tryd.prog 23 #[.pointer (some ⟨b, 0, none⟩), .int .u64 (u : Int), .int .i64 x, .int .i64 y] w fun e w' => e = .returned (.int .u8 (p : Int)) ∧ Below w.heap.size w w') := fun b w h1 h2 => by rw [← hP]; exact check_any b u x y hu w h1 h2
  have C2 : Hid (∀ b w, CodeAt w b → TabW w → Calls Tryd.prog 23 #[.pointer (some ⟨b, 0, none⟩), .int .u64 (v : Int), .int .i64 y, .int .i64 x] w fun e w' => e = .returned (.int .u8 (q : Int)) ∧ Below w.heap.size w w') := fun b w h1 h2 => by rw [← hQ]; exact check_any b v y x hv w h1 h2
  obtain ⟨m, hM⟩ : ∃ m, u ^^^ v = m := ⟨_, rfl⟩
  rw [hM] at ex hm es
  have xp := u8_xor_nat p q hp hq
  rw [Nat.xor_comm] at et
  obtain ⟨r, hR⟩ : ∃ r, p ^^^ q = r := ⟨_, rfl⟩
  rw [hR] at es et xp
  have C3 : Hid (∀ b w, CodeAt w b → TabW w → Calls Tryd.prog 23 #[.pointer (some ⟨b, 0, none⟩), .int .u64 (m : Int), .int .i64 z, .int .i64 z] w fun e w' => e = .returned (.int .u8 (r : Int)) ∧ Below w.heap.size w w') := fun b w h1 h2 => by rw [← es]; exact check_any b m z z hm w h1 h2
  have C4 : Hid (∀ b w, CodeAt w b → TabW w → Calls Tryd.prog 17 #[.pointer (some ⟨b, 0, none⟩), .int .u64 (u : Int), .int .u8 (q : Int), .int .i64 x, .int .i64 y] w fun e w' => e = .returned (.int .u8 (r : Int)) ∧ Below w.heap.size w w') := fun b w h1 h2 => by rw [← et]; exact syndrome_any b u q x y hu hq w h1 h2
  have C5 : Hid (∀ b w, CodeAt w b → TabW w → Calls Tryd.prog 23 #[.pointer (some ⟨b, 0, none⟩), .int .u64 0, .int .i64 0, .int .i64 0] w fun e w' => e = .returned (.int .u8 0) ∧ Below w.heap.size w w') := fun b w h1 h2 => by
    have := check_any b 0 0 0 (by decide) w h1 h2
    rw [syn_nought] at this; exact this
  clear hz es et hP hQ hM hR
  go_enter Tryd.func8, Tryd.ntmps8
  go_wp2_with fail
  refine (new_any _).mono ?_
  rintro e V1 ⟨rfl, hC, hB⟩
  have S1 := St.first HT.out hC hB
  clear hC hB HT
  go_wp2_with fail
  refine (anchor4_any _ _ S1.code S1.tab).mono ?_
  rintro e V2 ⟨rfl, hB⟩
  replace S1 := S1.next hB
  clear hB
  go_wp2_with fail
  refine (C1.out _ _ S1.code S1.tab).mono ?_
  rintro e V3 ⟨rfl, hB⟩
  replace S1 := S1.next hB
  clear hB
  go_wp2_with fail
  refine (C2.out _ _ S1.code S1.tab).mono ?_
  rintro e V4 ⟨rfl, hB⟩
  replace S1 := S1.next hB
  clear hB
  go_wp2_with fail
  refine (C3.out _ _ S1.code S1.tab).mono ?_
  rintro e V5 ⟨rfl, hB⟩
  replace S1 := S1.next hB
  clear hB
  go_wp2_with fail
  refine (C4.out _ _ S1.code S1.tab).mono ?_
  rintro e V6 ⟨rfl, hB⟩
  replace S1 := S1.next hB
  clear hB
  go_wp2_with fail
  refine (C5.out _ _ S1.code S1.tab).mono ?_
  rintro e V7 ⟨rfl, hB⟩
  replace S1 := S1.next hB
  clear hB
  go_wp2
  go_ret
  exact ⟨rfl, S1.below⟩
end Go.Proofs.YtcabfhndcckjdaaDoor
