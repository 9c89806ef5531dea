/-
  The document's syndrome; one of the 74 bits turned.
-/
import Derived.Test.YtcabfhndcckjdaaDoorHsW2
import Derived.Laws.Bits128
namespace Go.Proofs.YtcabfhndcckjdaaDoor
open Go.RowKit Go.Shelf
open Bm (wt wtK cntW)
open Hm (col onesOf nOf idx kd pl xs ap syn)
attribute [local go_sem] Oper.semAt_some

theorem i64_and1 (n : Int) : bits .and .i64 n 1 = n % 2 := by
  have h1 : (BitVec.ofInt 64 1).toNat = 2 ^ 1 - 1 := by decide
  have key : (BitVec.ofInt 64 n &&& BitVec.ofInt 64 1).toNat = (n % ((2 ^ 64 : Nat) : Int)).toNat % 2 ^ 1 := by
    rw [BitVec.toNat_and, BitVec.toNat_ofInt, h1, Nat.and_two_pow_sub_one_eq_mod]
  show IntKind.i64.wrap ((BitVec.ofInt 64 n &&& BitVec.ofInt 64 1).toNat : Nat) = n % 2
  rw [key, IntKind.wrap_i64]
  omega
theorem i64_xor_low (x y : Int) : bits .xor .i64 x y % 2 = (x + y) % 2 := by
  have key : (BitVec.ofInt 64 x ^^^ BitVec.ofInt 64 y).toNat % 2 = ((x % ((2 ^ 64 : Nat) : Int)).toNat + (y % ((2 ^ 64 : Nat) : Int)).toNat) % 2 := by
    rw [BitVec.toNat_xor, BitVec.toNat_ofInt, BitVec.toNat_ofInt]
    have h := Nat.xor_mod_two_pow (a := (x % ((2 ^ 64 : Nat) : Int)).toNat) (b := (y % ((2 ^ 64 : Nat) : Int)).toNat) (n := 1)
    rw [Nat.pow_one] at h
    rw [h]
    rcases Nat.mod_two_eq_zero_or_one (x % ((2 ^ 64 : Nat) : Int)).toNat with h1 | h1 <;> rcases Nat.mod_two_eq_zero_or_one (y % ((2 ^ 64 : Nat) : Int)).toNat with h2 | h2 <;> rw [h1, h2] <;> simp <;> omega
  show IntKind.i64.wrap ((BitVec.ofInt 64 x ^^^ BitVec.ofInt 64 y).toNat : Nat) % 2 = (x + y) % 2
  generalize (BitVec.ofInt 64 x ^^^ BitVec.ofInt 64 y).toNat = z at key
  rw [IntKind.wrap_i64]
  omega

/-- an address's or a poison's bit, as the program asks it -/
theorem low_ask (a : Int) : (bits .and .i64 a 1 == 1) = decide (a % 2 = 1) := by
  rw [i64_and1]; simp [BEq.beq]

set_option maxRecDepth 100000 in
set_option maxHeartbeats 1000000 in
theorem refSyndrome_any (d k : Nat) (a p : Int) (hd : d < 18446744073709551616) (hk : k < 256) (w : World) :
    Calls Tryd.prog 21 #[.agg colsL.toArray, .int .u64 (d : Int), .int .u8 (k : Int), .int .i64 a, .int .i64 p] w fun e w' => e = .returned (.int .u8 (syn d k a p : Int)) ∧ Below w.heap.size w w' := by
  have Hsyn : Hid (syn d k a p = ((k ^^^ xs d 64) ^^^ ap a 72) ^^^ ap p 73) := rfl
  obtain ⟨S, HS⟩ : ∃ S, syn d k a p = S := ⟨_, rfl⟩
  rw [HS] at Hsyn ⊢
  obtain ⟨A, hA, hAs⟩ : ∃ A : Array Value, colsL.toArray = A ∧ Hid (∀ k, k < 74 → A[k]? = some (.int .u8 (col k : Int))) := ⟨_, rfl, fun k hk => by simpa using colsL_at k hk⟩
  rw [hA]
  clear hA HS
  obtain ⟨x, Hx⟩ : ∃ x : Nat → Nat, Hid (xs d = x) := ⟨_, rfl⟩
  have hx0 : Hid (x 0 = 0) := by rw [← Hx.out]; rfl
  have hxl : Hid (∀ n, x n < 256) := fun n => by rw [← Hx.out]; exact Hm.xs_lt d n
  have Hy : Hid (∀ n, d / 2 ^ n % 2 = 1 → x (n + 1) = x n ^^^ col n) := fun n h => by rw [← Hx.out]; exact Hm.xs_yes d n h
  have Hn : Hid (∀ n, ¬ d / 2 ^ n % 2 = 1 → x (n + 1) = x n) := fun n h => by rw [← Hx.out]; exact Hm.xs_no d n h
  rw [Hx.out] at Hsyn
  have ha := low_ask a
  have hp := low_ask p
  have c72 := Hm.col_lt 72
  have c73 := Hm.col_lt 73
  clear Hx
  go_enter Tryd.func21, Tryd.ntmps21
  go_wp2
  obtain ⟨V, hV⟩ : ∃ V, w.alloc (.cells A 32) = V := ⟨_, rfl⟩
  have hcell : Hid (∀ k, k < 74 → V.cell? ⟨w.heap.size, k, none⟩ = some (.int .u8 (col k : Int))) := fun k hk => by rw [← hV, World.cell?_alloc_new]; exact hAs.out k hk
  have hB : Below w.heap.size w V := by rw [← hV]; exact (Below.refl _ w).alloc (Nat.le_refl _) _
  rw [hV]
  clear hV hAs
  go_loop [1, 11, 12] (fun u s i => ∃ n y z : Nat, n ≤ 64 ∧ y < 18446744073709551616 ∧ z < 256 ∧ Hid (y = d / 2 ^ n) ∧ Hid (z = k ^^^ x n) ∧ u = .int .u64 (y : Int) ∧ s = .int .u8 (z : Int) ∧ i = .int .i64 (n : Int)) (fun _ _ i => 64 - (intOf i).toNat)
  case atStart => exact ⟨0, d, k, by omega, hd, hk, by show _ = _; simp, by show _ = _; rw [hx0.out]; simp, rfl, rfl, rfl⟩
  case round =>
    obtain ⟨n, y, z, hn, hyl, hz, HY, HZ, rfl, rfl, rfl⟩ := hrel
    by_cases hlt : n < 64
    · have e2 : (y : Int).tdiv 2 = ((y / 2 : Nat) : Int) := by rw [Int.tdiv_eq_ediv_of_nonneg (by omega)]; rfl
      have HY' : Hid (y / 2 = d / 2 ^ (n + 1)) := by show _ = _; rw [HY.out, Nat.div_div_eq_div_mul, ← Nat.pow_succ]
      have cell := hcell.out n (by omega)
      have hcl := Hm.col_lt n
      obtain ⟨c, Hc⟩ : ∃ c, Hid (col n = c) := ⟨_, rfl⟩
      rw [Hc.out] at cell hcl
      by_cases hb : y % 2 = 1
      · have e1 : (y : Int).tmod 2 = 1 := by rw [Int.tmod_eq_emod_of_nonneg (by omega)]; omega
        have HZ' : Hid (z ^^^ c = k ^^^ x (n + 1)) := by show _ = _; rw [Hy.out n (by rw [← HY.out]; exact hb), HZ.out, Hc.out, Nat.xor_assoc]
        have hzc : z ^^^ c < 256 := Hm.xor_lt hz hcl
        have ex := u8_xor_nat z c hz hcl
        clear hb
        go_wp2_with (first | simp only [e1] | simp only [e2] | simp only [ex])
        go_round
        case rel => exact ⟨n + 1, y / 2, z ^^^ c, by omega, by omega, hzc, HY', HZ', by first | rfl | go_num, by first | rfl | go_num, by go_num⟩
        case measure => simp [intOf]; omega
      · have e1 : (y : Int).tmod 2 = 0 := by rw [Int.tmod_eq_emod_of_nonneg (by omega)]; omega
        have HZ' : Hid (z = k ^^^ x (n + 1)) := by show _ = _; rw [Hn.out n (by rw [← HY.out]; exact hb)]; exact HZ.out
        clear hb
        go_wp2_with (first | simp only [e1] | simp only [e2])
        go_round
        case rel => exact ⟨n + 1, y / 2, z, by omega, by omega, hz, HY', HZ', by first | rfl | go_num, by first | rfl | go_num, by go_num⟩
        case measure => simp [intOf]; omega
    · have hn' : n = 64 := by omega
      subst hn'
      rw [← HZ.out] at Hsyn
      have l72 := hcell.out 72 (by omega)
      have l73 := hcell.out 73 (by omega)
      obtain ⟨u, Hu⟩ : ∃ u, Hid (col 72 = u) := ⟨_, rfl⟩
      obtain ⟨v, Hv⟩ : ∃ v, Hid (col 73 = v) := ⟨_, rfl⟩
      rw [Hu.out] at l72 c72
      rw [Hv.out] at l73 c73
      have Hap : Hid (ap a 72 = if a % 2 = 1 then u else 0) := by show _ = _; unfold ap; rw [Hu.out]
      have Hpp : Hid (ap p 73 = if p % 2 = 1 then v else 0) := by show _ = _; unfold ap; rw [Hv.out]
      clear hcell Hy Hn hx0 hxl HY HZ hlt Hu Hv
      by_cases h1 : a % 2 = 1
      · have f1 : (bits .and .i64 a 1 == 1) = true := by rw [ha]; simp [h1]
        have x1 := u8_xor_nat z u hz c72
        have q1 := Hm.xor_lt hz c72
        by_cases h2 : p % 2 = 1
        · have f2 : (bits .and .i64 p 1 == 1) = true := by rw [hp]; simp [h2]
          have x2 := u8_xor_nat (z ^^^ u) v q1 c73
          have hr : Hid (S = z ^^^ u ^^^ v) := by show _ = _; rw [Hsyn.out, Hap.out, Hpp.out, if_pos h1, if_pos h2]
          clear ha hp h1 h2
          go_wp2_with (first | simp only [x1] | simp only [x2])
          go_ret
          exact ⟨by rw [hr.out]; rfl, hB⟩
        · have f2 : (bits .and .i64 p 1 == 1) = false := by rw [hp]; simp [h2]
          have hr : Hid (S = z ^^^ u) := by show _ = _; rw [Hsyn.out, Hap.out, Hpp.out, if_pos h1, if_neg h2, Nat.xor_zero]
          clear ha hp h1 h2
          go_wp2_with (first | simp only [x1])
          go_ret
          exact ⟨by rw [hr.out]; rfl, hB⟩
      · have f1 : (bits .and .i64 a 1 == 1) = false := by rw [ha]; simp [h1]
        by_cases h2 : p % 2 = 1
        · have f2 : (bits .and .i64 p 1 == 1) = true := by rw [hp]; simp [h2]
          have x2 := u8_xor_nat z v hz c73
          have hr : Hid (S = z ^^^ v) := by show _ = _; rw [Hsyn.out, Hap.out, Hpp.out, if_neg h1, if_pos h2, Nat.xor_zero]
          clear ha hp h1 h2
          go_wp2_with (first | simp only [x2])
          go_ret
          exact ⟨by rw [hr.out]; rfl, hB⟩
        · have f2 : (bits .and .i64 p 1 == 1) = false := by rw [hp]; simp [h2]
          have hr : Hid (S = z) := by show _ = _; rw [Hsyn.out, Hap.out, Hpp.out, if_neg h1, if_neg h2, Nat.xor_zero, Nat.xor_zero]
          clear ha hp h1 h2
          go_wp2
          go_ret
          exact ⟨by rw [hr.out]; rfl, hB⟩

/-! ### one bit turned -/
theorem results_tmp4 {fn : Func} {t u v x : Tmp} (h : fn.results = #[.tmp t, .tmp u, .tmp v, .tmp x]) (tmps : Array Value) (P : Program) (w : World) :
    (results fn tmps).run P w = .ok (.tuple #[tmps.getD t undef, tmps.getD u undef, tmps.getD v undef, tmps.getD x undef]) w := by
  simp [results, h]
theorem flip64 (d i : Nat) (hd : d < 18446744073709551616) (hi : i < 64) : bits .xor .u64 (d : Int) (IntKind.u64.wrap (2 ^ i)) = ((d ^^^ 2 ^ i : Nat) : Int) := by
  have h : 2 ^ i < 18446744073709551616 := Nat.pow_lt_pow_right (a := 2) (by decide) hi
  have e : IntKind.u64.wrap ((2 : Int) ^ i) = ((2 ^ i : Nat) : Int) := by
    have : ((2 : Int) ^ i) = ((2 ^ i : Nat) : Int) := by simp
    rw [this, IntKind.wrap_u64]
    generalize 2 ^ i = q at h
    omega
  rw [e, u64_xor_nat d (2 ^ i) hd (by omega)]
theorem flip8 (k i : Nat) (hk : k < 256) (hi : i < 8) : bits .xor .u8 (k : Int) (IntKind.u8.wrap (2 ^ i)) = ((k ^^^ 2 ^ i : Nat) : Int) := by
  have h : 2 ^ i < 256 := Nat.pow_lt_pow_right (a := 2) (by decide) hi
  have e : IntKind.u8.wrap ((2 : Int) ^ i) = ((2 ^ i : Nat) : Int) := by
    have : ((2 : Int) ^ i) = ((2 ^ i : Nat) : Int) := by simp
    rw [this, IntKind.wrap_u8]
    generalize 2 ^ i = q at h
    omega
  rw [e, u8_xor_nat k (2 ^ i) hk (by omega)]
theorem flip_lt (d i : Nat) (hd : d < 18446744073709551616) (hi : i < 64) : d ^^^ 2 ^ i < 18446744073709551616 :=
  Nat.xor_lt_two_pow (n := 64) hd (Nat.pow_lt_pow_right (by decide) hi)
theorem flip1 (a : Int) (h : a = 0 ∨ a = 1) : bits .xor .i64 a 1 = 1 - a := by rcases h with rfl | rfl <;> decide
set_option maxRecDepth 100000 in
set_option maxHeartbeats 1000000 in
theorem turned_data (d i : Nat) (k a p : Int) (hd : d < 18446744073709551616) (hi : i < 64) (w : World) :
    Calls Tryd.prog 22 #[.int .u64 (d : Int), .int .u8 k, .int .i64 a, .int .i64 p, .int .i64 (i : Int)] w fun e w' =>
      e = .returned (.tuple #[.int .u64 ((d ^^^ 2 ^ i : Nat) : Int), .int .u8 k, .int .i64 a, .int .i64 p]) ∧ w' = w := by
  have hx := flip64 d i hd hi
  go_enter Tryd.func22, Tryd.ntmps22
  go_wp2
  refine bodyPost_ret (results_tmp4 rfl _ _ _) rfl ?_
  exact ⟨by rw [← hx]; rfl, rfl⟩
set_option maxRecDepth 100000 in
set_option maxHeartbeats 1000000 in
theorem turned_check (k i : Nat) (d a p : Int) (hk : k < 256) (hi : 64 ≤ i) (hi2 : i < 72) (w : World) :
    Calls Tryd.prog 22 #[.int .u64 d, .int .u8 (k : Int), .int .i64 a, .int .i64 p, .int .i64 (i : Int)] w fun e w' =>
      e = .returned (.tuple #[.int .u64 d, .int .u8 ((k ^^^ 2 ^ (i - 64) : Nat) : Int), .int .i64 a, .int .i64 p]) ∧ w' = w := by
  obtain ⟨j, rfl⟩ : ∃ j, i = 64 + j := ⟨i - 64, by omega⟩
  have hj : j < 8 := by omega
  rw [show 64 + j - 64 = j from by omega]
  have hx := flip8 k j hk hj
  have e : ((64 + j : Nat) : Int) - 64 = (j : Int) := by omega
  go_enter Tryd.func22, Tryd.ntmps22
  go_wp2
  refine bodyPost_ret (results_tmp4 rfl _ _ _) rfl ?_
  exact ⟨by rw [← hx]; rfl, rfl⟩
set_option maxRecDepth 100000 in
set_option maxHeartbeats 1000000 in
theorem turned_addr (d k a p : Int) (ha : a = 0 ∨ a = 1) (w : World) :
    Calls Tryd.prog 22 #[.int .u64 d, .int .u8 k, .int .i64 a, .int .i64 p, .int .i64 72] w fun e w' =>
      e = .returned (.tuple #[.int .u64 d, .int .u8 k, .int .i64 (1 - a), .int .i64 p]) ∧ w' = w := by
  have hx := flip1 a ha
  clear ha
  go_enter Tryd.func22, Tryd.ntmps22
  go_wp2
  refine bodyPost_ret (results_tmp4 rfl _ _ _) rfl ?_
  exact ⟨by first | rfl | (rw [← hx]; rfl), rfl⟩
set_option maxRecDepth 100000 in
set_option maxHeartbeats 1000000 in
theorem turned_pois (d k a p : Int) (hp : p = 0 ∨ p = 1) (w : World) :
    Calls Tryd.prog 22 #[.int .u64 d, .int .u8 k, .int .i64 a, .int .i64 p, .int .i64 73] w fun e w' =>
      e = .returned (.tuple #[.int .u64 d, .int .u8 k, .int .i64 a, .int .i64 (1 - p)]) ∧ w' = w := by
  have hx := flip1 p hp
  clear hp
  go_enter Tryd.func22, Tryd.ntmps22
  go_wp2
  refine bodyPost_ret (results_tmp4 rfl _ _ _) rfl ?_
  exact ⟨by first | rfl | (rw [← hx]; rfl), rfl⟩

/-- a stored bit turned: the syndrome turns by its column, whatever address and poison -/
theorem turned_stored (d k i : Nat) (a p : Int) (hd : d < 18446744073709551616) (hk : k < 256) (hi : i < 72) : ∃ d' k' : Nat, d' < 18446744073709551616 ∧ k' < 256 ∧ (∀ a p, syn d' k' a p = syn d k a p ^^^ col i) ∧
    (d' = if i < 64 then d ^^^ 2 ^ i else d) ∧
    ∀ w, Calls Tryd.prog 22 #[.int .u64 (d : Int), .int .u8 (k : Int), .int .i64 a, .int .i64 p, .int .i64 (i : Int)] w fun e w' =>
      e = .returned (.tuple #[.int .u64 (d' : Int), .int .u8 (k' : Int), .int .i64 a, .int .i64 p]) ∧ w' = w := by
  by_cases h : i < 64
  · exact ⟨d ^^^ 2 ^ i, k, flip_lt d i hd h, hk, fun a p => Hm.syn_data d k i a p h, by rw [if_pos h], fun w => turned_data d i k a p hd h w⟩
  · exact ⟨d, k ^^^ 2 ^ (i - 64), hd, Hm.xor_lt hk (Nat.lt_of_lt_of_le (Nat.pow_lt_pow_right (a := 2) (by decide) (show i - 64 < 8 by omega)) (by decide)), fun a p => Hm.syn_chk d k i a p (by omega) hi, by rw [if_neg h], fun w => turned_check k i d a p hk (by omega) hi w⟩
/-- any of the 74 bits turned: the syndrome turns by its column -/
theorem turned_any (d k i : Nat) (a p : Int) (hd : d < 18446744073709551616) (hk : k < 256) (ha : a = 0 ∨ a = 1) (hp : p = 0 ∨ p = 1) (hi : i < 74) : ∃ (d' k' : Nat) (a' p' : Int), d' < 18446744073709551616 ∧ k' < 256 ∧ (a' = 0 ∨ a' = 1) ∧ (p' = 0 ∨ p' = 1) ∧
    syn d' k' a' p' = syn d k a p ^^^ col i ∧
    ∀ w, Calls Tryd.prog 22 #[.int .u64 (d : Int), .int .u8 (k : Int), .int .i64 a, .int .i64 p, .int .i64 (i : Int)] w fun e w' =>
      e = .returned (.tuple #[.int .u64 (d' : Int), .int .u8 (k' : Int), .int .i64 a', .int .i64 p']) ∧ w' = w := by
  by_cases h : i < 72
  · obtain ⟨d', k', h1, h2, h3, _, h5⟩ := turned_stored d k i a p hd hk h
    exact ⟨d', k', a, p, h1, h2, ha, hp, h3 a p, h5⟩
  · by_cases h2 : i = 72
    · subst h2
      exact ⟨d, k, 1 - a, p, hd, hk, by omega, hp, by rw [Hm.syn_addr d k a (1 - a) p, Hm.ap_flip a 72 ha], fun w => turned_addr _ _ a p ha w⟩
    · obtain rfl : i = 73 := by omega
      exact ⟨d, k, a, 1 - p, hd, hk, ha, by omega, by rw [Hm.syn_pois d k a p (1 - p), Hm.ap_flip p 73 hp], fun w => turned_pois _ _ a p hp w⟩
end Go.Proofs.YtcabfhndcckjdaaDoor
