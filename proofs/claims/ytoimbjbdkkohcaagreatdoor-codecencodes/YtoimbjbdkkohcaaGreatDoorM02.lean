/-
  Texts of one family, one behind another: BitW5, Boxes, HsMath, HsW1, HsW2, HsW3, HsW4, HsW5.
-/
import Derived.Test.YtoimbjbdkkohcaaGreatDoorM01
import Derived.Deep.MidRow
import Derived.Laws.Bits128
import Derived.BigRegion
import Derived.WalkSmall

/-
  Ones: the lowest one of a word, by math/bits' table; the iterator that tells the ones of a word; the document's bit.
-/
namespace Go.Proofs.YtoimbjbdkkohcaaGreatDoor
open Go.RowKit Go.Shelf
open Bm (wt wtK lef)
attribute [local go_sem] Oper.semAt_some

theorem TabW.of {W W' : World} (h : TabW W) (k : W'.heap[0]? = W.heap[0]?) : TabW W' := fun j hj => (World.cell?_of_block (w := W) (a := ⟨0, j, none⟩) k).trans (h j hj)
theorem TabW.lt {W : World} (h : TabW W) : 0 < W.heap.size := by
  obtain ⟨x, hx, _⟩ := isCells_of_cell (h 0 (by decide))
  exact (Array.getElem?_eq_some_iff.1 hx).1
theorem TabW.below {C : Nat} {W W' : World} (h : TabW W) (k : Below C W W') (hC : 0 < C) : TabW W' := h.of (k.block 0 hC)
theorem TabW.keep {M : Nat → Prop} {W W' : World} (h : TabW W) (k : Keep M W W') (hM : ¬ M 0) : TabW W' := h.of (k.2 0 h.lt hM)

set_option maxHeartbeats 1000000 in
theorem tz_any (x : Nat) (hx : x < 18446744073709551616) (hx0 : x ≠ 0) (w : World) (hT : TabW w) :
    Calls Tryz.prog 103 #[.int .u64 (x : Int)] w fun e w' => e = .returned (.int .i64 (Lib.ctz 64 x : Int)) ∧ w' = w := by
  obtain ⟨hlow, hk⟩ := Lib.lowest_bit 64 x hx0 hx
  obtain ⟨hi, htab⟩ := Lib.deBruijn64_at _ hk
  have hcell := hT _ hi
  rw [htab] at hcell
  have key := Bm.tz_key x _ hx hx0 hlow
  have e0 : ((x : Int) == 0) = false := by simp; omega
  obtain ⟨p, hp⟩ : ∃ p, Lib.ctz 64 x = p := ⟨_, rfl⟩
  rw [hp] at hk hcell hi key ⊢
  obtain ⟨i, hI⟩ : ∃ i, 2 ^ p * 285870213051353865 % 18446744073709551616 / 288230376151711744 = i := ⟨_, rfl⟩
  rw [hI] at hi hcell key
  clear hlow htab hT hp hI
  go_enter Tryz.func103, Tryz.ntmps103
  go_wp2_with (simp only [key])
  go_ret
  exact ⟨rfl, rfl⟩

set_option maxRecDepth 100000 in
set_option maxHeartbeats 2000000 in
theorem ones64_seq (xb v : Nat) (hv : v < 18446744073709551616) (w : World) (hxb : xb < w.heap.size) (cx : w.cell? ⟨xb, 0, none⟩ = some (.int .u64 (v : Int))) (hT : TabW w) :
    SeqC Tryz.prog 102 #[.pointer (some ⟨xb, 0, none⟩)] (fun x => #[.int .i64 (x : Int)]) 64 (fun q => v / 2 ^ q % 2 = 1) (fun b => b = 0) w := by
  intro l M J Jx W hW hM hJ hJx hskip hY h0
  have cx' : W.cell? ⟨xb, 0, none⟩ = some (.int .u64 (v : Int)) := (hW.cell (p := ⟨xb, 0, none⟩) hxb).trans cx
  have hTW : TabW W := hT.below hW hT.lt
  have hM0 : ¬ M 0 := fun h => (hM 0 h).2 rfl
  have HT : Hid (TabW W) := hTW
  have HSk : Hid (∀ (q r : Nat) (W : World), q ≤ r → r ≤ 64 → (∀ x, q ≤ x → x < r → ¬ v / 2 ^ x % 2 = 1) → J q W → J r W) := fun q r W a b c d => Bm.skips hskip q r W a b c d
  have HY : Hid (∀ (x : Nat) (W1 : World), x < 64 → v / 2 ^ x % 2 = 1 → J x W1 → YieldAt Fence.wide 8 Tryz.prog l #[.int .i64 (x : Int)] W1 fun e W' => (e = .returned (.bool true) ∧ J (x + 1) W' ∧ Keep M W1 W') ∨ (e = .returned (.bool false) ∧ Jx x W' ∧ Keep M W1 W')) := hY
  clear hJ hJx hskip hY hM hW cx hT hTW
  refine callsIn_of_wp Tryz.func102 rfl trivial ?_ rfl
  simp only [Tryz.ntmps102, List.size_toArray, List.length_cons, List.length_nil, Nat.reduceAdd, Nat.reduceSub, Array.replicate_succ, Array.replicate_zero, List.push_toArray, List.append_toArray, List.nil_append, List.cons_append]
  gi_wp2
  gi_loopw [3] (fun lv wr => ∃ q y : Nat, q ≤ 64 ∧ y < 18446744073709551616 ∧ Hid (y = lef v q) ∧ lv = .int .u64 (y : Int) ∧ J q wr ∧ Keep M W wr) (fun lv _ => (intOf lv).toNat)
  case atStart => exact ⟨0, v, by omega, hv, (Bm.lef_zero v).symm, rfl, h0, Keep.refl _ _⟩
  case round =>
    obtain ⟨q, y, hq, hy, Hy, rfl, hJs, hK⟩ := hrel
    by_cases hy0 : y = 0
    · have hJ64 := HSk.out q 64 wr hq (Nat.le_refl _) (fun x hx _ => Bm.lef_nil v q x (by rw [← Hy.out]; exact hy0) hx) hJs
      subst hy0
      gi_wp2
      go_end0
      exact ⟨⟨_, rfl⟩, .inl hJ64⟩
    · obtain ⟨p, hp, hqp, ht, hno, hone, hand⟩ := Bm.low_facts 64 v q (Nat.le_refl _) hv (by rw [← Hy.out]; exact hy0)
      rw [← Hy.out] at ht hand
      have hJp := HSk.out q p wr hqp (by omega) hno hJs
      have hTr : TabW wr := HT.out.keep hK hM0
      have hTz := tz_any y hy hy0 wr hTr
      rw [ht] at hTz
      have HTz : Hid (Calls Tryz.prog 103 #[.int .u64 (y : Int)] wr fun e w' => e = .returned (.int .i64 (p : Int)) ∧ w' = wr) := hTz
      obtain ⟨fn, tmps, assign, body, hyl, hR⟩ := HY.out p wr hp hone hJp
      obtain ⟨z, hz, Hz⟩ : ∃ z : Nat, bits .and .u64 (y : Int) ((y : Int) - 1) = (z : Int) ∧ Hid (z = lef v (p + 1)) := ⟨_, (show ((y : Int) - 1) = ((y - 1 : Nat) : Int) from by omega) ▸ u64_and_nat y (y - 1) hy (by omega), hand⟩
      have hzy : z < y := by
        have h1 : z = y &&& (y - 1) := by rw [Hz.out, hand]
        have := Nat.and_le_right (n := y) (m := y - 1)
        omega
      have e0 : ((y : Int) != 0) = true := by simp; omega
      have hypos : 1 ≤ y := by omega
      clear hTz ht hno hand hJp hTr
      gi_wp2_with (first | (refine ⟨trivial, ?_⟩; gi_at_call 103; refine (callsIn_wide.2 HTz.out).mono ?_; rintro e w' ⟨rfl, rfl⟩) | (refine hR.mono ?_; rintro e W3 hE; obtain ⟨r, rfl, hE2⟩ := yields hE))
      · rcases hE2.out with ⟨rfl, _⟩ | ⟨_, hJx3⟩
        · rename_i hr; cases hr
        · refine bodyPost_ret (results_none rfl _ _ _) rfl ?_
          exact ⟨⟨_, rfl⟩, .inr ⟨p, hp, hone, hJx3.1⟩⟩
      · rcases hE2.out with ⟨_, hJ3, hK3⟩ | ⟨rfl, _⟩
        · refine ⟨⟨p + 1, z, by omega, by omega, Hz, rfl, hJ3, hK.trans hK3⟩, ?_⟩
          simp [intOf]; omega
        · rename_i hr; cases hr


theorem ones64_any (v : Int) (w : World) :
    Calls Tryz.prog 85 #[.int .u64 v] w fun e w' => e = .returned (.func (.func 102) #[] #[.pointer (some ⟨w.heap.size, 0, none⟩)]) ∧ w' = w.alloc (.cells #[.int .u64 v] 46) := by
  go_enter Tryz.func85, Tryz.ntmps85
  go_wp2
  go_ret
  exact ⟨rfl, rfl⟩

end Go.Proofs.YtoimbjbdkkohcaaGreatDoor

/-
  Variables' boxes, laid one by one; the builtins min and max of two.
-/
namespace Go.Proofs.YtoimbjbdkkohcaaGreatDoor
open Go.RowKit

theorem box2 (w : World) (t0 t1 : TypeId) (v0 v1 : Value) (V : World) (h : (w.alloc (.cells #[v0] t0)).alloc (.cells #[v1] t1) = V) :
    V.heap.size = w.heap.size + 2 ∧ Box V w.heap.size v0 ∧ Box V (w.heap.size + 1) v1 ∧ Stay w.heap.size w V := by
  have a0 := Box.new w t0 v0
  have a1 := Box.new (w.alloc (.cells #[v0] t0)) t1 v1
  simp only [World.size_alloc] at a1
  rw [← h]
  exact ⟨by simp, a0.alloc _, a1, (Stay.alloc _ w _ (Nat.le_refl _)).trans (Stay.alloc _ _ _ (by simp))⟩
theorem box3 (w : World) (t0 t1 t2 : TypeId) (v0 v1 v2 : Value) (V : World) (h : ((w.alloc (.cells #[v0] t0)).alloc (.cells #[v1] t1)).alloc (.cells #[v2] t2) = V) :
    V.heap.size = w.heap.size + 3 ∧ Box V w.heap.size v0 ∧ Box V (w.heap.size + 1) v1 ∧ Box V (w.heap.size + 1 + 1) v2 ∧ Stay w.heap.size w V := by
  have a0 := Box.new w t0 v0
  have a1 := Box.new (w.alloc (.cells #[v0] t0)) t1 v1
  have a2 := Box.new ((w.alloc (.cells #[v0] t0)).alloc (.cells #[v1] t1)) t2 v2
  simp only [World.size_alloc] at a1 a2
  rw [← h]
  exact ⟨by simp, (a0.alloc _).alloc _, a1.alloc _, a2, ((Stay.alloc _ w _ (Nat.le_refl _)).trans (Stay.alloc _ _ _ (by simp))).trans (Stay.alloc _ _ _ (by simp; omega))⟩
theorem min_run (a b c : Int) (h : min a b = c) {P : Program} (ts : Array TypeId) (t : TypeId) (w : World) : (Builtin.min_ ts t #[.int .i64 a, .int .i64 b]).run P w = .ok (.int .i64 c) w := by
  have e : (if b < a then b else a) = c := by split <;> omega
  rw [← e]
  simp [Builtin.min_, Builtin.min2]
theorem max_run (a b c : Int) (h : max a b = c) {P : Program} (ts : Array TypeId) (t : TypeId) (w : World) : (Builtin.max_ ts t #[.int .i64 a, .int .i64 b]).run P w = .ok (.int .i64 c) w := by
  have e : (if a < b then b else a) = c := by split <;> omega
  rw [← e]
  simp [Builtin.max_, Builtin.max2]
theorem Box.stayed {B : Nat} {W W' : World} {b : Nat} {v : Value} (h : Box W b v) (k : Stay B W W') : Box W' b v := Box.stay k h
end Go.Proofs.YtoimbjbdkkohcaaGreatDoor

/-
  Plain mathematics of layer 4: the 74 columns, which are the words of 8 bits with three, five, one and five ones, counted; the syndrome as an exclusive or, which is linear; whose column a syndrome is.
-/
namespace Go.Proofs.YtoimbjbdkkohcaaGreatDoor.Hm
open Go Go.RowKit
open Bm (wt wtK cntW)

/-- the 74 columns -/
def colL : List Nat := [7, 11, 13, 14, 19, 21, 22, 25, 26, 28, 35, 37, 38, 41, 42, 44, 49, 50, 52, 56, 67, 69, 70, 73, 74, 76, 81, 82, 84, 88, 97, 98, 100, 104, 112, 131, 133, 134, 137, 138, 140, 145, 146, 148, 152, 161, 162, 164, 168, 176, 193, 194, 196, 200, 208, 224,
  31, 47, 55, 59, 61, 62, 79, 87, 1, 2, 4, 8, 16, 32, 64, 128, 91, 93]
def col (i : Nat) : Nat := colL.getD i 0
/-- how many ones the column of the bit i has, and how many words with so many come ahead of it -/
def onesOf (i : Nat) : Nat := if i < 56 then 3 else if i < 64 then 5 else if i < 72 then 1 else 5
def nOf (i : Nat) : Nat := if i < 56 then i else if i < 64 then i - 56 else i - 64
theorem col_all : ∀ i < 74, col i < 256 ∧ 0 < col i ∧ wt (col i) = onesOf i ∧ cntW (onesOf i : Int) (col i) = nOf i := by decide +kernel
theorem col_lt (i : Nat) : col i < 256 := by
  by_cases h : i < 74
  · exact (col_all i h).1
  · rw [show col i = 0 from by unfold col; rw [List.getD_eq_getElem?_getD, List.getElem?_eq_none (by simpa [colL] using h)]; rfl]; decide
theorem col_at {i x : Nat} (hi : i < 74) (hw : wt x = onesOf i) (hn : cntW (onesOf i : Int) x = nOf i) : x = col i := by
  obtain ⟨_, _, h1, h2⟩ := col_all i hi
  rcases Nat.lt_trichotomy x (col i) with h | h | h
  · have := Bm.cntW_mono (onesOf i : Int) (x + 1) (col i) h
    rw [Bm.cntW_yes _ _ (by rw [hw])] at this; omega
  · exact h
  · have := Bm.cntW_mono (onesOf i : Int) (col i + 1) x h
    rw [Bm.cntW_yes _ _ (by rw [h1])] at this; omega
theorem cnt_before {i x : Nat} (hi : i < 74) (hx : x ≤ col i) : cntW (onesOf i : Int) x ≤ nOf i := by
  have := Bm.cntW_mono (onesOf i : Int) x (col i) hx
  rw [(col_all i hi).2.2.2] at this; exact this
/-- the columns are unlike -/
theorem col_inj : ∀ i < 74, ∀ j < 74, col i = col j → i = j := by decide +kernel
/-- two of them are no column, and not 0 -/
theorem col_odd : ∀ i < 74, wt (col i) % 2 = 1 := by decide +kernel
theorem xor_ne {a b : Nat} (h : a ≠ b) : a ^^^ b ≠ 0 := fun e => h (by
  have : (a ^^^ b) ^^^ b = b := by rw [e, Nat.zero_xor]
  rw [Nat.xor_assoc, Nat.xor_self, Nat.xor_zero] at this
  exact this)
theorem two_lost (i : Nat) (hi : i < 74) (j : Nat) (hj : j < 74) (h : i ≠ j) : col i ^^^ col j ≠ 0 ∧ ∀ l < 74, col l ≠ col i ^^^ col j := by
  refine ⟨xor_ne fun e => h (col_inj i hi j hj e), fun l hl e => ?_⟩
  have h1 := col_odd i hi
  have h2 := col_odd j hj
  have h3 := col_odd l hl
  have h4 : wt (col i ^^^ col j) + 2 * wt (col i &&& col j) = wt (col i) + wt (col j) := Bm.wtK_xor 64 _ _
  rw [← e] at h4
  omega
theorem col_check : ∀ i < 8, col (64 + i) = 2 ^ i := by decide +kernel

/-! ### the syndrome -/
/-- of the lowest n bits of d -/
def xs (d : Nat) : Nat → Nat
  | 0 => 0
  | n + 1 => xs d n ^^^ (if d / 2 ^ n % 2 = 1 then col n else 0)
theorem xor_lt {a b : Nat} (ha : a < 256) (hb : b < 256) : a ^^^ b < 256 := Nat.xor_lt_two_pow (n := 8) ha hb
theorem xs_lt (d n : Nat) : xs d n < 256 := by
  induction n with
  | zero => simp [xs]
  | succ n ih =>
    unfold xs
    refine xor_lt ih ?_
    split
    · exact col_lt n
    · decide
theorem xs_yes (d n : Nat) (h : d / 2 ^ n % 2 = 1) : xs d (n + 1) = xs d n ^^^ col n := by simp [xs, h]
theorem xs_no (d n : Nat) (h : ¬ d / 2 ^ n % 2 = 1) : xs d (n + 1) = xs d n := by simp [xs, h]
theorem bit_iff (b k : Nat) : ((b / 2 ^ k) % 2 = 1) ↔ b.testBit k = true := by
  rw [Nat.testBit_eq_decide_div_mod_eq]; simp
theorem xs_xor (d e n : Nat) : xs (d ^^^ e) n = xs d n ^^^ xs e n := by
  induction n with
  | zero => simp [xs]
  | succ n ih =>
    unfold xs
    rw [ih]
    simp only [bit_iff, Nat.testBit_xor]
    generalize xs d n = u
    generalize xs e n = v
    generalize col n = z
    cases d.testBit n <;> cases e.testBit n <;> simp
    · ac_rfl
    · ac_rfl
    · rw [show u ^^^ z ^^^ (v ^^^ z) = (u ^^^ v) ^^^ (z ^^^ z) from by ac_rfl, Nat.xor_self, Nat.xor_zero]
theorem xs_pow_lo (i n : Nat) (h : n ≤ i) : xs (2 ^ i) n = 0 := by
  induction n with
  | zero => rfl
  | succ n ih =>
    rw [xs_no]
    · exact ih (by omega)
    · rw [bit_iff, Nat.testBit_two_pow_of_ne (by omega)]; simp
theorem xs_pow (i n : Nat) (h : i < n) : xs (2 ^ i) n = col i := by
  induction n with
  | zero => omega
  | succ n ih =>
    by_cases e : i = n
    · subst e
      rw [xs_yes _ _ (by rw [bit_iff, Nat.testBit_two_pow_self]), xs_pow_lo i i (Nat.le_refl _), Nat.zero_xor]
    · rw [xs_no _ _ (by rw [bit_iff, Nat.testBit_two_pow_of_ne e]; simp)]
      exact ih (by omega)
theorem xs_zero (n : Nat) : xs 0 n = 0 := by
  induction n with
  | zero => rfl
  | succ n ih => rw [xs_no _ _ (by simp), ih]

/-- an address's, a poison's part -/
def ap (a : Int) (i : Nat) : Nat := if a % 2 = 1 then col i else 0
theorem ap_lt (a : Int) (i : Nat) : ap a i < 256 := by
  unfold ap; split
  · exact col_lt i
  · decide
/-- the syndrome -/
def syn (d k : Nat) (a p : Int) : Nat := ((k ^^^ xs d 64) ^^^ ap a 72) ^^^ ap p 73
theorem syn_lt (d k : Nat) (a p : Int) (hk : k < 256) : syn d k a p < 256 := xor_lt (xor_lt (xor_lt hk (xs_lt d 64)) (ap_lt a 72)) (ap_lt p 73)
theorem syn_check (d k : Nat) (a p : Int) : syn d k a p = k ^^^ syn d 0 a p := by
  unfold syn; rw [Nat.zero_xor]; simp only [Nat.xor_assoc]
/-- with the check bits of the data it is 0 -/
theorem syn_code (d : Nat) (a p : Int) : syn d (syn d 0 a p) a p = 0 := by
  rw [syn_check]; exact Nat.xor_self _
theorem syn_addr (d k : Nat) (a b p : Int) : syn d k b p = syn d k a p ^^^ (ap a 72 ^^^ ap b 72) := by
  unfold syn
  generalize k ^^^ xs d 64 = z
  generalize ap a 72 = u
  generalize ap b 72 = v
  generalize ap p 73 = x
  rw [show z ^^^ u ^^^ x ^^^ (u ^^^ v) = (z ^^^ v ^^^ x) ^^^ (u ^^^ u) from by ac_rfl, Nat.xor_self, Nat.xor_zero]
theorem syn_pois (d k : Nat) (a p q : Int) : syn d k a q = syn d k a p ^^^ (ap p 73 ^^^ ap q 73) := by
  unfold syn
  generalize k ^^^ xs d 64 ^^^ ap a 72 = z
  generalize ap p 73 = u
  generalize ap q 73 = v
  rw [show z ^^^ u ^^^ (u ^^^ v) = (z ^^^ v) ^^^ (u ^^^ u) from by ac_rfl, Nat.xor_self, Nat.xor_zero]
theorem syn_data (d k i : Nat) (a p : Int) (hi : i < 64) : syn (d ^^^ 2 ^ i) k a p = syn d k a p ^^^ col i := by
  unfold syn; rw [xs_xor, xs_pow i 64 hi]; ac_rfl
theorem syn_chk (d k i : Nat) (a p : Int) (hi : 64 ≤ i) (hi2 : i < 72) : syn d (k ^^^ 2 ^ (i - 64)) a p = syn d k a p ^^^ col i := by
  have := col_check (i - 64) (by omega)
  rw [show 64 + (i - 64) = i from by omega] at this
  unfold syn; rw [this]; ac_rfl
theorem ap_flip (a : Int) (i : Nat) (h : a = 0 ∨ a = 1) : ap a i ^^^ ap (1 - a) i = col i := by
  rcases h with rfl | rfl
  · rw [show ap 0 i = 0 from rfl, show ap (1 - 0) i = col i from rfl, Nat.zero_xor]
  · rw [show ap 1 i = col i from rfl, show ap (1 - 1) i = 0 from rfl, Nat.xor_zero]

/-! ### whose column -/
/-- the first bit from i on, of n, whose column is s; -1 if none -/
def idx (s : Nat) : Nat → Nat → Int
  | 0, _ => -1
  | n + 1, i => if col i = s then i else idx s n (i + 1)
theorem idx_none (s n i : Nat) (h : ∀ j, i ≤ j → j < i + n → col j ≠ s) : idx s n i = -1 := by
  induction n generalizing i with
  | zero => rfl
  | succ n ih =>
    unfold idx
    rw [if_neg (h i (by omega) (by omega))]
    exact ih (i + 1) fun j h1 h2 => h j (by omega) (by omega)
theorem idx_some (s n i j : Nat) (h1 : i ≤ j) (h2 : j < i + n) (hj : col j = s) (hb : ∀ l, i ≤ l → l < j → col l ≠ s) : idx s n i = j := by
  induction n generalizing i with
  | zero => omega
  | succ n ih =>
    unfold idx
    by_cases e : i = j
    · subst e; rw [if_pos hj]
    · rw [if_neg (hb i (by omega) (by omega))]
      exact ih (i + 1) (by omega) (by omega) fun l a b => hb l (by omega) b
/-- a syndrome's verdict and place -/
def kd (s : Nat) : Int := if s = 0 then 0 else if idx s 74 0 = -1 then 4 else if idx s 74 0 = 72 then 3 else if idx s 74 0 = 73 then 2 else 1
def pl (s : Nat) : Int := if s = 0 then -1 else if idx s 74 0 = 72 then -1 else if idx s 74 0 = 73 then -1 else idx s 74 0
theorem kd_zero : kd 0 = 0 := rfl
theorem pl_zero : pl 0 = -1 := rfl
theorem kd_two : ∀ i < 74, ∀ j < 74, i ≠ j → kd (col i ^^^ col j) = 4 := by
  intro i hi j hj h
  obtain ⟨h0, h1⟩ := two_lost i hi j hj h
  unfold kd
  rw [if_neg h0, idx_none _ _ _ (fun l _ hl => h1 l (by omega))]; rfl
theorem kd_three (i j l : Nat) (hi : i < 74) (hj : j < 74) (hl : l < 74) (h : i ≠ j) : kd ((col i ^^^ col j) ^^^ col l) ≠ 0 := by
  obtain ⟨_, h1⟩ := two_lost i hi j hj h
  have h2 : (col i ^^^ col j) ^^^ col l ≠ 0 := xor_ne fun e => h1 l hl e.symm
  unfold kd
  rw [if_neg h2]
  split
  · decide
  · split
    · decide
    · split <;> decide
theorem fixed_one : ∀ i < 72, kd (col i) = 1 ∧ pl (col i) = i := by decide +kernel
theorem kd_poison : kd (col 73) = 2 := by decide +kernel
theorem kd_astray : kd (col 72) = 3 := by decide +kernel
end Go.Proofs.YtoimbjbdkkohcaaGreatDoor.Hm

/-
  The walks of package hsiao and of the document's answers, the readers: a bit's column, whose column a syndrome is, its verdict.
-/
namespace Go.Proofs.YtoimbjbdkkohcaaGreatDoor
open Go.RowKit Go.Shelf
open Bm (wt wtK cntW)
open Hm (col onesOf nOf idx kd pl xs ap syn)
attribute [local go_sem] Oper.semAt_some

/-- a code's columns lie in block b -/
def CodeAt (w : World) (b : Nat) : Prop := ∀ i : Nat, i < 74 → w.cell? ⟨b, i, none⟩ = some (.int .u8 (col i : Int))
theorem CodeAt.of {w w' : World} {b : Nat} (h : CodeAt w b) (hc : w'.heap[b]? = w.heap[b]?) : CodeAt w' b := fun i hi => (World.cell?_of_block (w := w) (a := ⟨b, i, none⟩) hc).trans (h i hi)
theorem CodeAt.below {C : Nat} {W W' : World} {b : Nat} (h : CodeAt W b) (k : Below C W W') (hb : b < C) : CodeAt W' b := h.of (k.block b hb)
theorem CodeAt.lt {W : World} {b : Nat} (h : CodeAt W b) : b < W.heap.size := by
  obtain ⟨x, hx, _⟩ := isCells_of_cell (h 0 (by decide))
  exact (Array.getElem?_eq_some_iff.1 hx).1
theorem CodeAt.stay {B : Nat} {W W' : World} {b : Nat} (h : CodeAt W b) (k : Stay B W W') : CodeAt W' b := fun i hi => k.cell (h i hi)

/-! ### the document's columns -/
set_option maxRecDepth 100000 in
set_option maxHeartbeats 1000000 in
theorem nth_any (i : Nat) (hi : i < 74) (w : World) :
    Calls Tryz.prog 80 #[.int .i64 (onesOf i : Int), .int .i64 (nOf i : Int)] w fun e w' => e = .returned (.int .u8 (col i : Int)) ∧ w' = w := by
  have hcl := Hm.col_lt i
  obtain ⟨on, Hon⟩ : ∃ on, onesOf i = on := ⟨_, rfl⟩
  obtain ⟨nn, hnn, Hnn⟩ : ∃ nn, nn < 74 ∧ nOf i = nn := ⟨_, by unfold nOf; split; omega; split <;> omega, rfl⟩
  obtain ⟨c, Hc⟩ : ∃ c, col i = c := ⟨_, rfl⟩
  obtain ⟨f, Hf, hf⟩ : ∃ f : Nat → Nat, Hid (wt = f) ∧ Hid (∀ x, f x ≤ 64) := ⟨wt, rfl, Bm.wt_le⟩
  have cR : Hid (∀ (x : Nat) (_ : x < 18446744073709551616) (w : World), Calls Tryz.prog 19 #[.int .u64 (x : Int)] w fun e w' => e = .returned (.int .i64 (f x : Int)) ∧ w' = w) := by rw [← Hf.out]; exact refWeight_any
  have hcon : on ≤ 5 := by rw [← Hon]; unfold onesOf; split; omega; split; omega; split <;> omega
  obtain ⟨g, Hg⟩ : ∃ g : Nat → Nat, Hid (cntW (on : Int) = g) := ⟨_, rfl⟩
  have Hg0 : Hid (g 0 = 0) := by rw [← Hg.out]; rfl
  have Hat : Hid (∀ x, f x = on → g x = nn → x = c) := fun x h1 h2 => by rw [← Hc]; exact Hm.col_at hi (by rw [Hf.out, Hon]; exact h1) (by rw [Hon, Hnn, Hg.out]; exact h2)
  have Hend : Hid (f c = on ∧ g c = nn) := ⟨by rw [← Hf.out, ← Hc, (Hm.col_all i hi).2.2.1, Hon], by rw [← Hg.out, ← Hon, ← Hc, (Hm.col_all i hi).2.2.2, Hnn]⟩
  have Hyes : Hid (∀ x, f x = on → g (x + 1) = g x + 1) := fun x h => by rw [← Hg.out]; exact Bm.cntW_yes _ _ (by rw [Hf.out, h])
  have Hno : Hid (∀ x, f x ≠ on → g (x + 1) = g x) := fun x h => by rw [← Hg.out]; exact Bm.cntW_no _ _ (by rw [Hf.out]; omega)
  rw [Hc] at hcl
  rw [Hon, Hnn, Hc]
  clear Hon Hnn Hc Hf Hg hi
  go_enter Tryz.func80, Tryz.ntmps80
  go_wp2
  go_loop [1, 5] (fun a b => ∃ x m : Nat, x ≤ c ∧ m ≤ nn ∧ Hid (m + g x = nn) ∧ a = .int .i64 (m : Int) ∧ b = .int .i64 (x : Int)) (fun _ b => c - (intOf b).toNat)
  case atStart => exact ⟨0, nn, by omega, by omega, by show _ = _; have := Hg0.out; omega, rfl, rfl⟩
  case round =>
    obtain ⟨x, m, hx, hm, Hm', rfl, rfl⟩ := hrel
    have hx64 : x < 18446744073709551616 := by omega
    obtain ⟨t, ht, Ht⟩ : ∃ t, t ≤ 64 ∧ Hid (f x = t) := ⟨_, hf.out x, rfl⟩
    by_cases he : t = on
    · by_cases hm0 : m = 0
      · have hxc : x = c := Hat.out x (by rw [Ht.out, he]) (by have := Hm'.out; omega)
        subst hxc hm0 he
        go_wp2_with (go_at_call 19; refine (cR.out _ hx64 _).mono ?_; rintro e w' ⟨rfl, rfl⟩; rw [Ht.out])
        go_ret
        exact ⟨rfl, rfl⟩
      · have hxc : x ≠ c := fun e => by have h1 := Hend.out.2; rw [← e] at h1; have := Hm'.out; omega
        have Hy := Hyes.out x (by rw [Ht.out, he])
        have Hy' : Hid (m - 1 + g (x + 1) = nn) := by show _ = _; have := Hm'.out; omega
        have hd0 : ((m : Int) == 0) = false := by simp; omega
        have hm1 : 1 ≤ m := by omega
        subst he
        clear Hy hm0
        go_wp2_with (go_at_call 19; refine (cR.out _ hx64 _).mono ?_; rintro e w' ⟨rfl, rfl⟩; rw [Ht.out])
        go_round
        case rel => exact ⟨x + 1, m - 1, by omega, by omega, Hy', by go_num, by go_num⟩
        case measure => simp [intOf]; omega
    · have hxc : x ≠ c := fun e => he (by rw [← Ht.out, e, Hend.out.1])
      have Hy := Hno.out x (by rw [Ht.out]; exact he)
      have Hy' : Hid (m + g (x + 1) = nn) := by show _ = _; have := Hm'.out; omega
      have hd : ((t : Int) == (on : Int)) = false := by simp; omega
      clear Hy he
      go_wp2_with (go_at_call 19; refine (cR.out _ hx64 _).mono ?_; rintro e w' ⟨rfl, rfl⟩; rw [Ht.out])
      go_round
      case rel => exact ⟨x + 1, m, by omega, by omega, Hy', by first | rfl | go_num, by go_num⟩
      case measure => simp [intOf]; omega

set_option maxHeartbeats 1000000 in
theorem refColumn_in (i : Nat) (hi : i < 74) (w : World) :
    Calls Tryz.prog 51 #[.int .i64 (i : Int)] w fun e w' => e = .returned (.int .u8 (col i : Int)) ∧ w' = w := by
  obtain ⟨on, nn, c, HN, Hc, hcase⟩ : ∃ on nn c : Nat, Hid (∀ w, Calls Tryz.prog 80 #[.int .i64 (on : Int), .int .i64 (nn : Int)] w fun e w' => e = .returned (.int .u8 (c : Int)) ∧ w' = w) ∧ col i = c ∧
      ((i < 56 ∧ on = 3 ∧ nn = i) ∨ (56 ≤ i ∧ i < 64 ∧ on = 5 ∧ nn = i - 56) ∨ (64 ≤ i ∧ i < 72 ∧ on = 1 ∧ nn = i - 64) ∨ (72 ≤ i ∧ on = 5 ∧ nn = i - 64)) := by
    refine ⟨onesOf i, nOf i, col i, nth_any i hi, rfl, ?_⟩
    unfold onesOf nOf
    by_cases h1 : i < 56
    · exact .inl ⟨h1, by rw [if_pos h1], by rw [if_pos h1]⟩
    · by_cases h2 : i < 64
      · exact .inr (.inl ⟨by omega, h2, by rw [if_neg h1, if_pos h2], by rw [if_neg h1, if_pos h2]⟩)
      · by_cases h3 : i < 72
        · exact .inr (.inr (.inl ⟨by omega, h3, by rw [if_neg h1, if_neg h2, if_pos h3], by rw [if_neg h1, if_neg h2]⟩))
        · exact .inr (.inr (.inr ⟨by omega, by rw [if_neg h1, if_neg h2, if_neg h3], by rw [if_neg h1, if_neg h2]⟩))
  rw [Hc]
  rcases hcase with ⟨h1, rfl, rfl⟩ | ⟨h0, h1, rfl, rfl⟩ | ⟨h0, h1, rfl, rfl⟩ | ⟨h0, rfl, rfl⟩
  · go_enter Tryz.func51, Tryz.ntmps51
    go_wp2_with (go_at_call 80; refine (HN.out _).mono ?_; rintro e w' ⟨rfl, rfl⟩)
    go_ret
    exact ⟨rfl, rfl⟩
  · have e : (i : Int) - 56 = ((i - 56 : Nat) : Int) := by omega
    obtain ⟨m, hm⟩ : ∃ m, i - 56 = m := ⟨_, rfl⟩
    rw [hm] at HN e
    go_enter Tryz.func51, Tryz.ntmps51
    go_wp2_with (go_at_call 80; refine (HN.out _).mono ?_; rintro e w' ⟨rfl, rfl⟩)
    go_ret
    exact ⟨rfl, rfl⟩
  · have e : (i : Int) - 64 = ((i - 64 : Nat) : Int) := by omega
    obtain ⟨m, hm⟩ : ∃ m, i - 64 = m := ⟨_, rfl⟩
    rw [hm] at HN e
    go_enter Tryz.func51, Tryz.ntmps51
    go_wp2_with (go_at_call 80; refine (HN.out _).mono ?_; rintro e w' ⟨rfl, rfl⟩)
    go_ret
    exact ⟨rfl, rfl⟩
  · have e : (i : Int) - 64 = ((i - 64 : Nat) : Int) := by omega
    obtain ⟨m, hm⟩ : ∃ m, i - 64 = m := ⟨_, rfl⟩
    rw [hm] at HN e
    go_enter Tryz.func51, Tryz.ntmps51
    go_wp2_with (go_at_call 80; refine (HN.out _).mono ?_; rintro e w' ⟨rfl, rfl⟩)
    go_ret
    exact ⟨rfl, rfl⟩
set_option maxHeartbeats 400000 in
theorem refColumn_out (i : Int) (hi : i < 0 ∨ 74 ≤ i) (w : World) :
    Calls Tryz.prog 51 #[.int .i64 i] w fun e w' => e = .returned (.int .u8 0) ∧ w' = w := by
  rcases hi with hi | hi
  · go_enter Tryz.func51, Tryz.ntmps51
    go_wp2
    go_ret
    exact ⟨rfl, rfl⟩
  · have hd : decide (73 < i) = true := by simp; omega
    go_enter Tryz.func51, Tryz.ntmps51
    go_wp2
    go_ret
    exact ⟨rfl, rfl⟩

/-! ### whose column -/
set_option maxHeartbeats 1000000 in
theorem index_any (b s : Nat) (hs : s < 256) (w : World) (hc : CodeAt w b) :
    Calls Tryz.prog 94 #[.slice (some ⟨b, 0, none⟩) 74 74, .int .u8 (s : Int)] w fun e w' => e = .returned (.int .i64 (idx s 74 0)) ∧ w' = w := by
  have HC : Hid (CodeAt w b) := hc
  obtain ⟨r, Hr⟩ : ∃ r, idx s 74 0 = r := ⟨_, rfl⟩
  have HS : Hid (∀ k, k < 74 → col k = s → (∀ l, l < k → col l ≠ s) → r = (k : Int)) := fun k hk h1 h2 => by rw [← Hr]; exact Hm.idx_some s 74 0 k (by omega) (by omega) h1 (fun l _ hl => h2 l hl)
  have HN : Hid ((∀ l, l < 74 → col l ≠ s) → r = -1) := fun h => by rw [← Hr]; exact Hm.idx_none s 74 0 (fun l _ hl => h l (by omega))
  rw [Hr]
  clear hc Hr
  go_enter Tryz.func94, Tryz.ntmps94
  go_wp2
  go_loop [8] (fun a => ∃ k : Nat, k ≤ 74 ∧ Hid (∀ l, l < k → col l ≠ s) ∧ a = .int .i64 (k : Int)) (fun a => 74 - (intOf a).toNat)
  case atStart => exact ⟨0, by omega, fun l hl => by omega, rfl⟩
  case round =>
    obtain ⟨k, hk, Hk, rfl⟩ := hrel
    by_cases hlt : k < 74
    · have cell := HC.out k hlt
      obtain ⟨c, Hc⟩ : ∃ c, Hid (col k = c) := ⟨_, rfl⟩
      rw [Hc.out] at cell
      by_cases he : c = s
      · have hr := HS.out k hlt (by rw [Hc.out]; exact he) Hk.out
        subst he hr
        go_wp2
        go_ret
        exact ⟨rfl, rfl⟩
      · have hd : ((s : Int) == (c : Int)) = false := by simp; omega
        have Hk' : Hid (∀ l, l < k + 1 → col l ≠ s) := fun l hl => by
          by_cases e : l = k
          · rw [e, Hc.out]; exact he
          · exact Hk.out l (by omega)
        clear he
        go_wp2
        go_round
        case rel => exact ⟨k + 1, by omega, Hk', by go_num⟩
        case measure => simp [intOf]; omega
    · have hk' : k = 74 := by omega
      subst hk'
      have hr := HN.out Hk.out
      subst hr
      go_wp2
      go_ret
      exact ⟨rfl, rfl⟩
end Go.Proofs.YtoimbjbdkkohcaaGreatDoor

/-
  The document's columns as an array; what a syndrome is told as.
-/
namespace Go.Proofs.YtoimbjbdkkohcaaGreatDoor
open Go.RowKit Go.Shelf
open Bm (wt wtK cntW)
open Hm (col onesOf nOf idx kd pl xs ap syn)
attribute [local go_sem] Oper.semAt_some

/-- the array's cells behind k rounds -/
def stageC : Nat → Array Value
  | 0 => Array.replicate 74 (.int .u8 0)
  | k + 1 => (stageC k).setIfInBounds k (.int .u8 (col k : Int))
theorem stageC_size (k : Nat) : (stageC k).size = 74 := by
  induction k with
  | zero => simp [stageC]
  | succ k ih => simp [stageC, ih]
theorem stageC_cell (k o : Nat) (h : o < 74) : ∃ v, (stageC k)[o]? = some v :=
  ⟨(stageC k)[o]'(by rw [stageC_size]; exact h), Array.getElem?_eq_getElem (by rw [stageC_size]; exact h)⟩
theorem stageC_at (k n : Nat) (hn : n < k) (hk : k ≤ 74) : (stageC k)[n]? = some (.int .u8 (col n : Int)) := by
  induction k with
  | zero => omega
  | succ k ih =>
    simp only [stageC]
    by_cases e : n = k
    · subst e; rw [Array.getElem?_setIfInBounds_self_of_lt (by rw [stageC_size]; omega)]
    · rw [Array.getElem?_setIfInBounds_ne (by omega)]; exact ih (by omega) (by omega)
theorem below_put {B b : Nat} (hb : B ≤ b) : ∀ (vs : List Value) (o : Nat) {a w : World}, Below B a w → Below B a (w.setCells b o vs)
  | [], _, _, _, h => h
  | v :: vs, o, _, _, h => below_put hb vs (o + 1) (h.setCell (p := ⟨b, o, none⟩) hb v)
/-- all columns -/
def colsL : List Value := (stageC 74).toList
theorem colsL_len : colsL.length = 74 := by simp [colsL, stageC_size]
theorem colsL_at (n : Nat) (h : n < 74) : colsL[n]? = some (.int .u8 (col n : Int)) := by
  rw [← stageC_at 74 n h (Nat.le_refl _)]; simp [colsL]
theorem colsL_one : colsL.toArray.all (·.oneCell') = true := by
  refine all_oneCell_toArray fun v hv => ?_
  obtain ⟨n, hn⟩ := List.mem_iff_getElem?.1 hv
  have hn' : n < 74 := by have := (List.getElem?_eq_some_iff.1 hn).1; rw [colsL_len] at this; exact this
  rw [colsL_at n hn'] at hn
  cases hn; rfl
/-- the array lies in block b -/
theorem range_cols {W : World} {b : Nat} (h : CodeAt W b) : W.rangeAt b 0 colsL := fun j v hv => by
  have hj : j < 74 := by have := (List.getElem?_eq_some_iff.1 hv).1; rw [colsL_len] at this; exact this
  rw [colsL_at j hj] at hv
  cases hv
  rw [Nat.zero_add]; exact h j hj
theorem zero_cols (w : World) : (zeroValue 43).run Tryz.prog w = .ok (.agg (stageC 0)) w := by kernel_rfl
theorem info_cols : (Tryz.prog.info? 43).map (·.size) = some colsL.length := by rw [colsL_len]; kernel_rfl
theorem code_new (w : World) (t : TypeId) : CodeAt (w.alloc (.cells (stageC 74) t)) w.heap.size := fun i hi => by
  rw [World.cell?_alloc_new]; exact stageC_at 74 i hi (Nat.le_refl _)

set_option maxRecDepth 100000 in
set_option maxHeartbeats 400000 in
theorem refColumns_any (w : World) :
    Calls Tryz.prog 18 #[] w fun e w' => e = .returned (.agg colsL.toArray) ∧ Below w.heap.size w w' := by
  have hz := zero_cols
  go_enter Tryz.func18, Tryz.ntmps18
  go_wp2
  go_loopw [2] (fun i wr => ∃ k : Nat, k ≤ 74 ∧ i = .int .i64 k ∧ wr = (w.alloc (.cells (stageC 0) 43)).alloc (.cells (stageC k) 43)) (fun i _ => 74 - (intOf i).toNat)
  case atStart => exact ⟨0, by omega, rfl, rfl⟩
  case round =>
    obtain ⟨k, hk, rfl, rfl⟩ := hrel
    by_cases hlt : k < 74
    · obtain ⟨v1, hv1⟩ := stageC_cell k k (by omega)
      go_wp2_with (go_at_call 51; refine (refColumn_in _ hlt _).mono ?_; rintro e w' ⟨rfl, rfl⟩)
      go_roundw
      case rel => exact ⟨k + 1, by omega, by go_num, rfl⟩
      case measure => simp [intOf]; omega
    · have : k = 74 := by omega
      subst this
      clear hz
      obtain ⟨V, hV⟩ : ∃ V, (w.alloc (.cells (stageC 0) 43)).alloc (.cells (stageC 74) 43) = V := ⟨_, rfl⟩
      have hr : V.rangeAt (w.heap.size + 1) 0 colsL := by
        have h := code_new (w.alloc (.cells (stageC 0) 43)) 43
        rw [World.size_alloc, hV] at h
        exact range_cols h
      have ht : V.there w.heap.size 0 colsL.toArray.size := fun j hj => by
        rw [← hV, World.cell?_of_block (w := w.alloc (.cells (stageC 0) 43)) (Below.heap_alloc _ _ _ (by simp)), World.frozen?_of_block (w := w.alloc (.cells (stageC 0) 43)) (Below.heap_alloc _ _ _ (by simp)), World.cell?_alloc_new]
        have hj' : j < 74 := by simpa [colsL_len] using hj
        obtain ⟨v, hv⟩ := stageC_cell 0 j hj'
        rw [Nat.zero_add, hv]
        exact ⟨rfl, by simp⟩
      have hB : Below w.heap.size w V := by rw [← hV]; exact ((Below.refl _ w).alloc (Nat.le_refl _) _).alloc (by simp) _
      rw [hV]
      clear hV
      go_wp2_with (first | refine wpList_load_mid rfl 43 _ rfl _ 0 rfl colsL _ hr Tryz.underlying43 rfl info_cols ?_ | refine wpList_store_mid rfl 43 _ _ rfl _ 0 colsL.toArray rfl rfl ht info_cols colsL_one ?_)
      have hs : (V.setCells w.heap.size 0 colsL).rangeAt w.heap.size 0 colsL := World.rangeAt_setCells_same V _ 0 colsL (by simpa using ht)
      have hld := run_loadVar_mid (P := Tryz.prog) (V.setCells w.heap.size 0 colsL) w.heap.size 0 43 colsL _ hs Tryz.underlying43 rfl info_cols
      refine bodyPost_ret (v := .agg colsL.toArray) ?_ rfl ⟨rfl, below_put (Nat.le_refl _) colsL 0 hB⟩
      simp [results, Tryz.f18, Act.put, asAddr, hld]

theorem idx_lt (s : Nat) : ∀ n i, -1 ≤ idx s n i ∧ idx s n i < (i + n : Nat)
  | 0, i => by unfold idx; omega
  | n + 1, i => by
    unfold idx
    have := idx_lt s n (i + 1)
    split <;> omega
/-- the ways to tell a syndrome -/
theorem told (s : Nat) : (s = 0 ∧ kd s = 0 ∧ pl s = -1) ∨ (s ≠ 0 ∧ idx s 74 0 = -1 ∧ kd s = 4 ∧ pl s = -1) ∨ (s ≠ 0 ∧ idx s 74 0 = 72 ∧ kd s = 3 ∧ pl s = -1) ∨ (s ≠ 0 ∧ idx s 74 0 = 73 ∧ kd s = 2 ∧ pl s = -1) ∨
    (s ≠ 0 ∧ 0 ≤ idx s 74 0 ∧ idx s 74 0 < 72 ∧ kd s = 1 ∧ pl s = idx s 74 0) := by
  have hr := idx_lt s 74 0
  unfold kd pl
  by_cases h0 : s = 0
  · exact .inl ⟨h0, by rw [if_pos h0], by rw [if_pos h0]⟩
  · by_cases h1 : idx s 74 0 = -1
    · exact .inr (.inl ⟨h0, h1, by rw [if_neg h0, if_pos h1], by rw [if_neg h0, h1]; rfl⟩)
    · by_cases h2 : idx s 74 0 = 72
      · exact .inr (.inr (.inl ⟨h0, h2, by rw [if_neg h0, if_neg h1, if_pos h2], by rw [if_neg h0, if_pos h2]⟩))
      · by_cases h3 : idx s 74 0 = 73
        · exact .inr (.inr (.inr (.inl ⟨h0, h3, by rw [if_neg h0, if_neg h1, if_neg h2, if_pos h3], by rw [if_neg h0, if_neg h2, if_pos h3]⟩)))
        · exact .inr (.inr (.inr (.inr ⟨h0, by omega, by omega, by rw [if_neg h0, if_neg h1, if_neg h2, if_neg h3], by rw [if_neg h0, if_neg h2, if_neg h3]⟩)))

set_option maxHeartbeats 1000000 in
theorem classify_any (b s : Nat) (hs : s < 256) (w : World) (hc : CodeAt w b) :
    Calls Tryz.prog 77 #[.pointer (some ⟨b, 0, none⟩), .int .u8 (s : Int)] w fun e w' => e = .returned (.tuple #[.int .i64 (kd s), .int .i64 (pl s)]) ∧ w' = w := by
  obtain ⟨r, Hr⟩ : ∃ r, idx s 74 0 = r := ⟨_, rfl⟩
  have HI : Hid (∀ w, CodeAt w b → Calls Tryz.prog 94 #[.slice (some ⟨b, 0, none⟩) 74 74, .int .u8 (s : Int)] w fun e w' => e = .returned (.int .i64 r) ∧ w' = w) := fun w hw => by rw [← Hr]; exact index_any b s hs w hw
  have HC : Hid (CodeAt w b) := hc
  have ht := told s
  rw [Hr] at ht
  clear hc
  rcases ht with ⟨h0, h1, h2⟩ | ⟨h0, h3, h1, h2⟩ | ⟨h0, h3, h1, h2⟩ | ⟨h0, h3, h1, h2⟩ | ⟨h0, h3, h4, h1, h2⟩ <;> rw [h1, h2] <;> clear h1 h2 Hr
  · subst h0
    go_enter Tryz.func77, Tryz.ntmps77
    go_wp2
    go_ret2
    exact ⟨rfl, rfl⟩
  all_goals
    have hd : ((s : Int) == 0) = false := by simp; omega
    try subst h3
    clear h0
    go_enter Tryz.func77, Tryz.ntmps77
    go_wp2_with (go_at_call 94; refine (HI.out _ HC.out).mono ?_; rintro e w' ⟨rfl, rfl⟩)
    go_ret2
    exact ⟨rfl, rfl⟩

set_option maxRecDepth 100000 in
set_option maxHeartbeats 1000000 in
theorem refClassify_any (s : Nat) (hs : s < 256) (w : World) :
    Calls Tryz.prog 54 #[.agg colsL.toArray, .int .u8 (s : Int)] w fun e w' => e = .returned (.tuple #[.int .i64 (kd s), .int .i64 (pl s)]) ∧ Below w.heap.size w w' := by
  have Ht : Hid _ := told s
  have HSm : Hid (∀ k, k < 74 → col k = s → (∀ l, l < k → col l ≠ s) → idx s 74 0 = (k : Int)) := fun k hk h1 h2 => Hm.idx_some s 74 0 k (by omega) (by omega) h1 (fun l _ hl => h2 l hl)
  have HN : Hid ((∀ l, l < 74 → col l ≠ s) → idx s 74 0 = -1) := fun h => Hm.idx_none s 74 0 (fun l _ hl => h l (by omega))
  obtain ⟨A, hA, hAs⟩ : ∃ A : Array Value, colsL.toArray = A ∧ Hid (∀ k, k < 74 → A[k]? = some (.int .u8 (col k : Int))) := ⟨_, rfl, fun k hk => by simpa using colsL_at k hk⟩
  rw [hA]
  clear hA
  by_cases h0 : s = 0
  · rcases Ht.out with ⟨_, h1, h2⟩ | ⟨h, _⟩ | ⟨h, _⟩ | ⟨h, _⟩ | ⟨h, _⟩
    · rw [h1, h2]
      clear Ht HSm HN h1 h2
      subst h0
      go_enter Tryz.func54, Tryz.ntmps54
      go_wp2
      go_ret2
      exact ⟨rfl, (Below.refl _ w).alloc (Nat.le_refl _) _⟩
    all_goals exact absurd h0 h
  · have hd : ((s : Int) == 0) = false := by simp; omega
    have H0 : Hid (s ≠ 0) := h0
    clear h0
    go_enter Tryz.func54, Tryz.ntmps54
    go_wp2
    obtain ⟨V, hV⟩ : ∃ V, w.alloc (.cells A 43) = V := ⟨_, rfl⟩
    have hcell : Hid (∀ k, k < 74 → V.cell? ⟨w.heap.size, k, none⟩ = some (.int .u8 (col k : Int))) := fun k hk => by rw [← hV, World.cell?_alloc_new]; exact hAs.out k hk
    have hB : Below w.heap.size w V := by rw [← hV]; exact (Below.refl _ w).alloc (Nat.le_refl _) _
    rw [hV]
    clear hV hAs
    go_loop [6] (fun a => ∃ k : Nat, k ≤ 74 ∧ Hid (∀ l, l < k → col l ≠ s) ∧ a = .int .i64 (k : Int)) (fun a => 74 - (intOf a).toNat)
    case atStart => exact ⟨0, by omega, fun l hl => by omega, rfl⟩
    case round =>
      obtain ⟨k, hk, Hk, rfl⟩ := hrel
      by_cases hlt : k < 74
      · have cell := hcell.out k hlt
        obtain ⟨c, Hc⟩ : ∃ c, Hid (col k = c) := ⟨_, rfl⟩
        rw [Hc.out] at cell
        by_cases he : c = s
        · have hr := HSm.out k hlt (by rw [Hc.out]; exact he) Hk.out
          have ht := Ht.out
          rw [hr] at ht
          have h0 := H0.out
          have ht' : (k = 72 ∧ kd s = 3 ∧ pl s = -1) ∨ (k = 73 ∧ kd s = 2 ∧ pl s = -1) ∨ (k < 72 ∧ kd s = 1 ∧ pl s = (k : Int)) := by omega
          clear ht hr h0 Ht HSm HN hcell Hk H0
          subst he
          rcases ht' with ⟨rfl, h1, h2⟩ | ⟨rfl, h1, h2⟩ | ⟨h3, h1, h2⟩
          all_goals
            have h1' : Hid _ := h1
            have h2' : Hid _ := h2
            clear h1 h2 Hc
            go_wp2
            go_ret2
            exact ⟨by rw [h1'.out, h2'.out]; rfl, hB⟩
        · have hd2 : ((c : Int) == (s : Int)) = false := by simp; omega
          have Hk' : Hid (∀ l, l < k + 1 → col l ≠ s) := fun l hl => by
            by_cases e : l = k
            · rw [e, Hc.out]; exact he
            · exact Hk.out l (by omega)
          clear he
          go_wp2
          go_round
          case rel => exact ⟨k + 1, by omega, Hk', by go_num⟩
          case measure => simp [intOf]; omega
      · have hk' : k = 74 := by omega
        subst hk'
        have hr := HN.out Hk.out
        have ht := Ht.out
        rw [hr] at ht
        have h0 := H0.out
        have ht' : Hid (kd s = 4 ∧ pl s = -1) := by show _ ∧ _; omega
        clear ht hr h0 Ht HSm HN hcell Hk H0
        go_wp2
        go_ret2
        exact ⟨by rw [ht'.out.1, ht'.out.2]; rfl, hB⟩
end Go.Proofs.YtoimbjbdkkohcaaGreatDoor

/-
  The document's syndrome; one of the 74 bits turned.
-/
namespace Go.Proofs.YtoimbjbdkkohcaaGreatDoor
open Go.RowKit Go.Shelf
open Bm (wt wtK cntW)
open Hm (col onesOf nOf idx kd pl xs ap syn)
attribute [local go_sem] Oper.semAt_some

theorem i64_and1 (n : Int) : bits .and .i64 n 1 = n % 2 := by
  have h1 : (BitVec.ofInt 64 1).toNat = 2 ^ 1 - 1 := by decide
  have key : (BitVec.ofInt 64 n &&& BitVec.ofInt 64 1).toNat = (n % ((2 ^ 64 : Nat) : Int)).toNat % 2 ^ 1 := by
    rw [BitVec.toNat_and, BitVec.toNat_ofInt, h1, Nat.and_two_pow_sub_one_eq_mod]
  show IntKind.i64.wrap ((BitVec.ofInt 64 n &&& BitVec.ofInt 64 1).toNat : Nat) = n % 2
  rw [key, IntKind.wrap_i64]
  omega
theorem i64_xor_low (x y : Int) : bits .xor .i64 x y % 2 = (x + y) % 2 := by
  have key : (BitVec.ofInt 64 x ^^^ BitVec.ofInt 64 y).toNat % 2 = ((x % ((2 ^ 64 : Nat) : Int)).toNat + (y % ((2 ^ 64 : Nat) : Int)).toNat) % 2 := by
    rw [BitVec.toNat_xor, BitVec.toNat_ofInt, BitVec.toNat_ofInt]
    have h := Nat.xor_mod_two_pow (a := (x % ((2 ^ 64 : Nat) : Int)).toNat) (b := (y % ((2 ^ 64 : Nat) : Int)).toNat) (n := 1)
    rw [Nat.pow_one] at h
    rw [h]
    rcases Nat.mod_two_eq_zero_or_one (x % ((2 ^ 64 : Nat) : Int)).toNat with h1 | h1 <;> rcases Nat.mod_two_eq_zero_or_one (y % ((2 ^ 64 : Nat) : Int)).toNat with h2 | h2 <;> rw [h1, h2] <;> simp <;> omega
  show IntKind.i64.wrap ((BitVec.ofInt 64 x ^^^ BitVec.ofInt 64 y).toNat : Nat) % 2 = (x + y) % 2
  generalize (BitVec.ofInt 64 x ^^^ BitVec.ofInt 64 y).toNat = z at key
  rw [IntKind.wrap_i64]
  omega

/-- an address's or a poison's bit, as the program asks it -/
theorem low_ask (a : Int) : (bits .and .i64 a 1 == 1) = decide (a % 2 = 1) := by
  rw [i64_and1]; simp [BEq.beq]

set_option maxRecDepth 100000 in
set_option maxHeartbeats 1000000 in
theorem refSyndrome_any (d k : Nat) (a p : Int) (hd : d < 18446744073709551616) (hk : k < 256) (w : World) :
    Calls Tryz.prog 20 #[.agg colsL.toArray, .int .u64 (d : Int), .int .u8 (k : Int), .int .i64 a, .int .i64 p] w fun e w' => e = .returned (.int .u8 (syn d k a p : Int)) ∧ Below w.heap.size w w' := by
  have Hsyn : Hid (syn d k a p = ((k ^^^ xs d 64) ^^^ ap a 72) ^^^ ap p 73) := rfl
  obtain ⟨S, HS⟩ : ∃ S, syn d k a p = S := ⟨_, rfl⟩
  rw [HS] at Hsyn ⊢
  obtain ⟨A, hA, hAs⟩ : ∃ A : Array Value, colsL.toArray = A ∧ Hid (∀ k, k < 74 → A[k]? = some (.int .u8 (col k : Int))) := ⟨_, rfl, fun k hk => by simpa using colsL_at k hk⟩
  rw [hA]
  clear hA HS
  obtain ⟨x, Hx⟩ : ∃ x : Nat → Nat, Hid (xs d = x) := ⟨_, rfl⟩
  have hx0 : Hid (x 0 = 0) := by rw [← Hx.out]; rfl
  have hxl : Hid (∀ n, x n < 256) := fun n => by rw [← Hx.out]; exact Hm.xs_lt d n
  have Hy : Hid (∀ n, d / 2 ^ n % 2 = 1 → x (n + 1) = x n ^^^ col n) := fun n h => by rw [← Hx.out]; exact Hm.xs_yes d n h
  have Hn : Hid (∀ n, ¬ d / 2 ^ n % 2 = 1 → x (n + 1) = x n) := fun n h => by rw [← Hx.out]; exact Hm.xs_no d n h
  rw [Hx.out] at Hsyn
  have ha := low_ask a
  have hp := low_ask p
  have c72 := Hm.col_lt 72
  have c73 := Hm.col_lt 73
  clear Hx
  go_enter Tryz.func20, Tryz.ntmps20
  go_wp2
  obtain ⟨V, hV⟩ : ∃ V, w.alloc (.cells A 43) = V := ⟨_, rfl⟩
  have hcell : Hid (∀ k, k < 74 → V.cell? ⟨w.heap.size, k, none⟩ = some (.int .u8 (col k : Int))) := fun k hk => by rw [← hV, World.cell?_alloc_new]; exact hAs.out k hk
  have hB : Below w.heap.size w V := by rw [← hV]; exact (Below.refl _ w).alloc (Nat.le_refl _) _
  rw [hV]
  clear hV hAs
  go_loop [1, 11, 12] (fun u s i => ∃ n y z : Nat, n ≤ 64 ∧ y < 18446744073709551616 ∧ z < 256 ∧ Hid (y = d / 2 ^ n) ∧ Hid (z = k ^^^ x n) ∧ u = .int .u64 (y : Int) ∧ s = .int .u8 (z : Int) ∧ i = .int .i64 (n : Int)) (fun _ _ i => 64 - (intOf i).toNat)
  case atStart => exact ⟨0, d, k, by omega, hd, hk, by show _ = _; simp, by show _ = _; rw [hx0.out]; simp, rfl, rfl, rfl⟩
  case round =>
    obtain ⟨n, y, z, hn, hyl, hz, HY, HZ, rfl, rfl, rfl⟩ := hrel
    by_cases hlt : n < 64
    · have e2 : (y : Int).tdiv 2 = ((y / 2 : Nat) : Int) := by rw [Int.tdiv_eq_ediv_of_nonneg (by omega)]; rfl
      have HY' : Hid (y / 2 = d / 2 ^ (n + 1)) := by show _ = _; rw [HY.out, Nat.div_div_eq_div_mul, ← Nat.pow_succ]
      have cell := hcell.out n (by omega)
      have hcl := Hm.col_lt n
      obtain ⟨c, Hc⟩ : ∃ c, Hid (col n = c) := ⟨_, rfl⟩
      rw [Hc.out] at cell hcl
      by_cases hb : y % 2 = 1
      · have e1 : (y : Int).tmod 2 = 1 := by rw [Int.tmod_eq_emod_of_nonneg (by omega)]; omega
        have HZ' : Hid (z ^^^ c = k ^^^ x (n + 1)) := by show _ = _; rw [Hy.out n (by rw [← HY.out]; exact hb), HZ.out, Hc.out, Nat.xor_assoc]
        have hzc : z ^^^ c < 256 := Hm.xor_lt hz hcl
        have ex := u8_xor_nat z c hz hcl
        clear hb
        go_wp2_with (first | simp only [e1] | simp only [e2] | simp only [ex])
        go_round
        case rel => exact ⟨n + 1, y / 2, z ^^^ c, by omega, by omega, hzc, HY', HZ', by first | rfl | go_num, by first | rfl | go_num, by go_num⟩
        case measure => simp [intOf]; omega
      · have e1 : (y : Int).tmod 2 = 0 := by rw [Int.tmod_eq_emod_of_nonneg (by omega)]; omega
        have HZ' : Hid (z = k ^^^ x (n + 1)) := by show _ = _; rw [Hn.out n (by rw [← HY.out]; exact hb)]; exact HZ.out
        clear hb
        go_wp2_with (first | simp only [e1] | simp only [e2])
        go_round
        case rel => exact ⟨n + 1, y / 2, z, by omega, by omega, hz, HY', HZ', by first | rfl | go_num, by first | rfl | go_num, by go_num⟩
        case measure => simp [intOf]; omega
    · have hn' : n = 64 := by omega
      subst hn'
      rw [← HZ.out] at Hsyn
      have l72 := hcell.out 72 (by omega)
      have l73 := hcell.out 73 (by omega)
      obtain ⟨u, Hu⟩ : ∃ u, Hid (col 72 = u) := ⟨_, rfl⟩
      obtain ⟨v, Hv⟩ : ∃ v, Hid (col 73 = v) := ⟨_, rfl⟩
      rw [Hu.out] at l72 c72
      rw [Hv.out] at l73 c73
      have Hap : Hid (ap a 72 = if a % 2 = 1 then u else 0) := by show _ = _; unfold ap; rw [Hu.out]
      have Hpp : Hid (ap p 73 = if p % 2 = 1 then v else 0) := by show _ = _; unfold ap; rw [Hv.out]
      clear hcell Hy Hn hx0 hxl HY HZ hlt Hu Hv
      by_cases h1 : a % 2 = 1
      · have f1 : (bits .and .i64 a 1 == 1) = true := by rw [ha]; simp [h1]
        have x1 := u8_xor_nat z u hz c72
        have q1 := Hm.xor_lt hz c72
        by_cases h2 : p % 2 = 1
        · have f2 : (bits .and .i64 p 1 == 1) = true := by rw [hp]; simp [h2]
          have x2 := u8_xor_nat (z ^^^ u) v q1 c73
          have hr : Hid (S = z ^^^ u ^^^ v) := by show _ = _; rw [Hsyn.out, Hap.out, Hpp.out, if_pos h1, if_pos h2]
          clear ha hp h1 h2
          go_wp2_with (first | simp only [x1] | simp only [x2])
          go_ret
          exact ⟨by rw [hr.out]; rfl, hB⟩
        · have f2 : (bits .and .i64 p 1 == 1) = false := by rw [hp]; simp [h2]
          have hr : Hid (S = z ^^^ u) := by show _ = _; rw [Hsyn.out, Hap.out, Hpp.out, if_pos h1, if_neg h2, Nat.xor_zero]
          clear ha hp h1 h2
          go_wp2_with (first | simp only [x1])
          go_ret
          exact ⟨by rw [hr.out]; rfl, hB⟩
      · have f1 : (bits .and .i64 a 1 == 1) = false := by rw [ha]; simp [h1]
        by_cases h2 : p % 2 = 1
        · have f2 : (bits .and .i64 p 1 == 1) = true := by rw [hp]; simp [h2]
          have x2 := u8_xor_nat z v hz c73
          have hr : Hid (S = z ^^^ v) := by show _ = _; rw [Hsyn.out, Hap.out, Hpp.out, if_neg h1, if_pos h2, Nat.xor_zero]
          clear ha hp h1 h2
          go_wp2_with (first | simp only [x2])
          go_ret
          exact ⟨by rw [hr.out]; rfl, hB⟩
        · have f2 : (bits .and .i64 p 1 == 1) = false := by rw [hp]; simp [h2]
          have hr : Hid (S = z) := by show _ = _; rw [Hsyn.out, Hap.out, Hpp.out, if_neg h1, if_neg h2, Nat.xor_zero, Nat.xor_zero]
          clear ha hp h1 h2
          go_wp2
          go_ret
          exact ⟨by rw [hr.out]; rfl, hB⟩

/-! ### one bit turned -/
theorem results_tmp4 {fn : Func} {t u v x : Tmp} (h : fn.results = #[.tmp t, .tmp u, .tmp v, .tmp x]) (tmps : Array Value) (P : Program) (w : World) :
    (results fn tmps).run P w = .ok (.tuple #[tmps.getD t undef, tmps.getD u undef, tmps.getD v undef, tmps.getD x undef]) w := by
  simp [results, h]
theorem flip64 (d i : Nat) (hd : d < 18446744073709551616) (hi : i < 64) : bits .xor .u64 (d : Int) (IntKind.u64.wrap (2 ^ i)) = ((d ^^^ 2 ^ i : Nat) : Int) := by
  have h : 2 ^ i < 18446744073709551616 := Nat.pow_lt_pow_right (a := 2) (by decide) hi
  have e : IntKind.u64.wrap ((2 : Int) ^ i) = ((2 ^ i : Nat) : Int) := by
    have : ((2 : Int) ^ i) = ((2 ^ i : Nat) : Int) := by simp
    rw [this, IntKind.wrap_u64]
    generalize 2 ^ i = q at h
    omega
  rw [e, u64_xor_nat d (2 ^ i) hd (by omega)]
theorem flip8 (k i : Nat) (hk : k < 256) (hi : i < 8) : bits .xor .u8 (k : Int) (IntKind.u8.wrap (2 ^ i)) = ((k ^^^ 2 ^ i : Nat) : Int) := by
  have h : 2 ^ i < 256 := Nat.pow_lt_pow_right (a := 2) (by decide) hi
  have e : IntKind.u8.wrap ((2 : Int) ^ i) = ((2 ^ i : Nat) : Int) := by
    have : ((2 : Int) ^ i) = ((2 ^ i : Nat) : Int) := by simp
    rw [this, IntKind.wrap_u8]
    generalize 2 ^ i = q at h
    omega
  rw [e, u8_xor_nat k (2 ^ i) hk (by omega)]
theorem flip_lt (d i : Nat) (hd : d < 18446744073709551616) (hi : i < 64) : d ^^^ 2 ^ i < 18446744073709551616 :=
  Nat.xor_lt_two_pow (n := 64) hd (Nat.pow_lt_pow_right (by decide) hi)
theorem flip1 (a : Int) (h : a = 0 ∨ a = 1) : bits .xor .i64 a 1 = 1 - a := by rcases h with rfl | rfl <;> decide
end Go.Proofs.YtoimbjbdkkohcaaGreatDoor

/-
  The syndrome, by a range over the ones of the data.
-/
namespace Go.Proofs.YtoimbjbdkkohcaaGreatDoor
open Go.RowKit Go.Shelf
open Bm (wt wtK cntW)
open Hm (col onesOf nOf idx kd pl xs ap syn)
attribute [local go_sem] Oper.semAt_some

/-- between two rounds: B the first block of the call -/
structure SyI (B b k : Nat) (X : Nat → Nat) (w : World) (x : Nat) (W : World) : Prop where
  c : Box W B (.pointer (some ⟨b, 0, none⟩))
  s : Box W (B + 1) (.int .u8 ((k ^^^ X x : Nat) : Int))
  code : CodeAt W b
  below : Below B w W

theorem SyI.drew {B b k : Nat} {X : Nat → Nat} {w : World} {x : Nat} {W : World} (h : SyI B b k X w x W) : SyI B b k X w x W.drew := ⟨h.c, h.s, h.code, below_stay h.below (Stay.drewN B W 1) (Nat.le_refl _)⟩
theorem Keep.drew {M : Nat → Prop} {X Y : World} (h : Keep M X Y) : Keep M X Y.drew := h
/-- what the last step of the syndrome leaves -/
theorem sy_leaves {B D : Nat} {w W : World} {y : Value} (hb : Box W (B + 1) y) (hK : W.heap[D]? = some (.deferred (some []))) (hD : B + 2 ≤ D) (h : Below B w W) (u : Value) :
    Box ((W.setCell ⟨B + 1, 0, none⟩ u).drew) (B + 1) u ∧ ((W.setCell ⟨B + 1, 0, none⟩ u).drew).heap[D]? = some (.deferred (some [])) ∧ Below B w ((W.setCell ⟨B + 1, 0, none⟩ u).drew) :=
  ⟨(hb.set u :), ((Below.heap_setCell W ⟨B + 1, 0, none⟩ u D (by simp; omega)).trans hK :), below_stay (h.setCell (p := ⟨B + 1, 0, none⟩) (by simp) _) (Stay.drewN B _ 1) (Nat.le_refl _)⟩
theorem sy_shut {B D : Nat} {w W : World} (hK : W.heap[D]? = some (.deferred (some []))) (hD : B ≤ D) (h : Below B w W) : Below B w (W.putObj D (.deferred none)) :=
  below_stay h (Stay.putObj (B := D) _ hK rfl (Nat.le_refl _)) hD

set_option maxRecDepth 100000 in
set_option maxHeartbeats 2000000 in
theorem syndrome_any (b d k : Nat) (a p : Int) (hd : d < 18446744073709551616) (hk : k < 256) (w : World) (hc : CodeAt w b) (hT : TabW w) :
    Calls Tryz.prog 64 #[.pointer (some ⟨b, 0, none⟩), .int .u64 (d : Int), .int .u8 (k : Int), .int .i64 a, .int .i64 p] w fun e w' => e = .returned (.int .u8 (syn d k a p : Int)) ∧ Below w.heap.size w w' := by
  have Hsyn : Hid (syn d k a p = ((k ^^^ xs d 64) ^^^ ap a 72) ^^^ ap p 73) := rfl
  obtain ⟨S, HS⟩ : ∃ S, syn d k a p = S := ⟨_, rfl⟩
  rw [HS] at Hsyn ⊢
  clear HS
  obtain ⟨X, Hx⟩ : ∃ X : Nat → Nat, Hid (xs d = X) := ⟨_, rfl⟩
  have hx0 : Hid (X 0 = 0) := by rw [← Hx.out]; rfl
  have hxl : Hid (∀ n, X n < 256) := fun n => by rw [← Hx.out]; exact Hm.xs_lt d n
  have Hy : Hid (∀ n, d / 2 ^ n % 2 = 1 → X (n + 1) = X n ^^^ col n) := fun n h => by rw [← Hx.out]; exact Hm.xs_yes d n h
  have Hn : Hid (∀ n, ¬ d / 2 ^ n % 2 = 1 → X (n + 1) = X n) := fun n h => by rw [← Hx.out]; exact Hm.xs_no d n h
  rw [Hx.out] at Hsyn
  clear Hx
  have hT0 := hT.lt
  have hbl := hc.lt
  have HC : Hid (CodeAt w b) := hc
  have HT : Hid (TabW w) := hT
  clear hc hT
  refine (callsIn_wide (n := 10)).1 ?_
  refine callsIn_of_wp_marks Tryz.func64 rfl trivial ?_ rfl
  simp only [Tryz.ntmps64, List.size_toArray, List.length_cons, List.length_nil, Nat.reduceAdd, Nat.reduceSub, Array.replicate_succ, Array.replicate_zero, List.push_toArray, List.append_toArray, List.nil_append, List.cons_append]
  refine wpIn_wide.2 ?_
  go_wp2_with (go_at_call 85; refine (ones64_any _ _).mono ?_; rintro e w' ⟨rfl, rfl⟩)
  obtain ⟨V, hV⟩ : ∃ V, ((w.alloc (.cells #[.pointer (some ⟨b, 0, none⟩)] 61)).alloc (.cells #[.int .u8 (k : Int)] 5)).alloc (.cells #[.int .u64 (d : Int)] 46) = V := ⟨_, rfl⟩
  obtain ⟨sV, a0, a1, a2, hSV⟩ := box3 w _ _ _ _ _ _ V hV
  rw [hV]
  clear hV
  have hBV : Below w.heap.size w V := below_stay (Below.refl _ w) hSV (Nat.le_refl _)
  have hTV : TabW V := HT.out.below hBV hT0
  have hCV : CodeAt V b := HC.out.below hBV hbl
  obtain ⟨B, hB⟩ : ∃ B, w.heap.size = B := ⟨_, rfl⟩
  rw [hB] at hT0 hbl sV a0 a1 a2 hSV hBV ⊢
  clear HC HT hSV
  refine (wpIn_wide (n := 10)).1 (rangeC rfl (enters_of Tryz.func102 (by kernel_rfl) rfl) (ones64_seq (B + 1 + 1) d hd V a2.lt a2.1 hTV) (fun _ => rfl)
    (fun x => x = B + 1) (by rintro x rfl; constructor <;> omega) (by rintro x rfl; omega)
    (SyI B b k X w) (fun _ _ _ => False)
    (by rintro x A C ⟨h1, h2, h3, h4⟩ hs; exact ⟨h1.stay hs, h2.stay hs, h3.stay hs, below_stay h4 hs (by omega)⟩)
    (fun _ _ _ _ h _ => h.elim) ⟨a0, by rw [hx0.out]; simpa using a1, hCV, hBV⟩
    (by rintro x W hx hp ⟨h1, h2, h3, h4⟩
        exact ⟨h1, by rw [Hn.out x hp]; exact h2, h3, h4⟩) ?round ?done (fun _ _ _ _ _ _ _ h => h.elim))
  case round =>
    rintro l x W W2 hx hp ⟨h1, h2, h3, h4⟩
    have cell := h3 x (by omega)
    have hcl := Hm.col_lt x
    have hxc := Hy.out x hp
    obtain ⟨c, Hc⟩ : ∃ c, Hid (col x = c) := ⟨_, rfl⟩
    rw [Hc.out] at cell hcl hxc
    obtain ⟨z, hz, Hz⟩ : ∃ z, z < 256 ∧ Hid (k ^^^ X x = z) := ⟨_, Hm.xor_lt hk (hxl.out x), rfl⟩
    rw [Hz.out] at h2
    have ex := u8_xor_nat z c hz hcl
    have fin : Hid (Keep (fun x => x = B + 1) W2 (W2.setCell ⟨B + 1, 0, none⟩ (.int .u8 ((z ^^^ c : Nat) : Int))).drew ∧ SyI B b k X w (x + 1) (W2.setCell ⟨B + 1, 0, none⟩ (.int .u8 ((z ^^^ c : Nat) : Int))).drew) := by
      refine ⟨((Keep.refl (fun x => x = B + 1) W2).set (c := B + 1) rfl _).drew, SyI.drew ⟨h1.other (by omega) _, ?_, h3.of (Below.heap_setCell W2 ⟨B + 1, 0, none⟩ _ b (by simp; omega)), h4.setCell (p := ⟨B + 1, 0, none⟩) (by simp) _⟩⟩
      rw [hxc, ← Nat.xor_assoc, Hz.out]
      exact h2.set _
    have q0 := h1.1; have q1 := h2.1; have f1 := h2.2
    have nb : b ≠ B + 1 := by omega
    have nB : B ≠ B + 1 := by omega
    clear h1 h2 h3 h4 hp hxc Hy Hn hx0 hxl Hsyn
    gi_wp2
    try (refine ⟨trivial, ?_⟩)
    try gi_wp2
    gi_region
    all_goals (try gi_wp2)
    all_goals exact fin.out
  case done =>
    rintro D W hD ⟨h1, h2, h3, h4⟩ hK
    have l72 := h3 72 (by omega)
    have l73 := h3 73 (by omega)
    have c72 := Hm.col_lt 72
    have c73 := Hm.col_lt 73
    obtain ⟨z, hz, Hz⟩ : ∃ z, z < 256 ∧ Hid (k ^^^ X 64 = z) := ⟨_, Hm.xor_lt hk (hxl.out 64), rfl⟩
    rw [Hz.out] at h2 Hsyn
    obtain ⟨u, Hu⟩ : ∃ u, Hid (col 72 = u) := ⟨_, rfl⟩
    obtain ⟨v, Hv⟩ : ∃ v, Hid (col 73 = v) := ⟨_, rfl⟩
    rw [Hu.out] at l72 c72
    rw [Hv.out] at l73 c73
    have Hap : Hid (ap a 72 = if a % 2 = 1 then u else 0) := by show _ = _; unfold ap; rw [Hu.out]
    have Hpp : Hid (ap p 73 = if p % 2 = 1 then v else 0) := by show _ = _; unfold ap; rw [Hv.out]
    have q0 := h1.1; have q1 := h2.1; have f1 := h2.2
    have nb : b ≠ B + 1 := by omega
    have nB : B ≠ B + 1 := by omega
    have ha := low_ask a
    have hp := low_ask p
    have H2 : Hid (Box W (B + 1) (.int .u8 (z : Int))) := h2
    have H4 : Hid (Below B w W) := h4
    have HK : Hid (W.heap[D]? = some (.deferred (some []))) := hK
    clear h1 h2 h3 h4 hK Hy Hn hx0 hxl Hu Hv
    by_cases h1 : a % 2 = 1
    · have g1 : (bits .and .i64 a 1 == 1) = true := by rw [ha]; simp [h1]
      have x1 := u8_xor_nat z u hz c72
      have r1 := Hm.xor_lt hz c72
      obtain ⟨k1, k2, k3⟩ := sy_leaves H2.out HK.out (by omega) H4.out (.int .u8 ((z ^^^ u : Nat) : Int))
      have K1 : Hid _ := k1
      have K2 : Hid _ := k2
      have K3 : Hid _ := k3
      clear k1 k2 k3
      by_cases h2 : p % 2 = 1
      · have g2 : (bits .and .i64 p 1 == 1) = true := by rw [hp]; simp [h2]
        have x2 := u8_xor_nat (z ^^^ u) v r1 c73
        have hr : Hid (S = z ^^^ u ^^^ v) := by show _ = _; rw [Hsyn.out, Hap.out, Hpp.out, if_pos h1, if_pos h2]
        obtain ⟨k1, k2, k3⟩ := sy_leaves K1.out K2.out (by omega) K3.out (.int .u8 ((z ^^^ u ^^^ v : Nat) : Int))
        have L2 : Hid _ := k2
        have L3 : Hid _ := k3
        clear ha hp h1 h2 k1 k2 k3
        go_wp2
        go_region
        go_wp2
        go_region
        go_wp2
        refine ⟨by simp, .inl ⟨_, _, rfl, run_takeDeferred L2.out, ?_⟩⟩
        refine ⟨_, results_tmp rfl _ _ _, ?_, by rw [hB]; exact sy_shut L2.out (by omega) L3.out⟩
        rw [hr.out]; rfl
      · have g2 : (bits .and .i64 p 1 == 1) = false := by rw [hp]; simp [h2]
        have hr : Hid (S = z ^^^ u) := by show _ = _; rw [Hsyn.out, Hap.out, Hpp.out, if_pos h1, if_neg h2, Nat.xor_zero]
        clear ha hp h1 h2
        go_wp2
        go_region
        go_wp2
        refine ⟨by simp, .inl ⟨_, _, rfl, run_takeDeferred K2.out, ?_⟩⟩
        refine ⟨_, results_tmp rfl _ _ _, ?_, by rw [hB]; exact sy_shut K2.out (by omega) K3.out⟩
        rw [hr.out]; rfl
    · have g1 : (bits .and .i64 a 1 == 1) = false := by rw [ha]; simp [h1]
      by_cases h2 : p % 2 = 1
      · have g2 : (bits .and .i64 p 1 == 1) = true := by rw [hp]; simp [h2]
        have x2 := u8_xor_nat z v hz c73
        have hr : Hid (S = z ^^^ v) := by show _ = _; rw [Hsyn.out, Hap.out, Hpp.out, if_neg h1, if_pos h2, Nat.xor_zero]
        obtain ⟨k1, k2, k3⟩ := sy_leaves H2.out HK.out (by omega) H4.out (.int .u8 ((z ^^^ v : Nat) : Int))
        have L2 : Hid _ := k2
        have L3 : Hid _ := k3
        clear ha hp h1 h2 k1 k2 k3
        go_wp2
        go_region
        go_wp2
        refine ⟨by simp, .inl ⟨_, _, rfl, run_takeDeferred L2.out, ?_⟩⟩
        refine ⟨_, results_tmp rfl _ _ _, ?_, by rw [hB]; exact sy_shut L2.out (by omega) L3.out⟩
        rw [hr.out]; rfl
      · have g2 : (bits .and .i64 p 1 == 1) = false := by rw [hp]; simp [h2]
        have hr : Hid (S = z) := by show _ = _; rw [Hsyn.out, Hap.out, Hpp.out, if_neg h1, if_neg h2, Nat.xor_zero, Nat.xor_zero]
        clear ha hp h1 h2
        go_wp2
        refine ⟨by simp, .inl ⟨_, _, rfl, run_takeDeferred HK.out, ?_⟩⟩
        refine ⟨_, results_tmp rfl _ _ _, ?_, by rw [hB]; exact sy_shut HK.out (by omega) H4.out⟩
        rw [hr.out]; rfl
end Go.Proofs.YtoimbjbdkkohcaaGreatDoor

/-
  The check bits; the verdict of a word.
-/
namespace Go.Proofs.YtoimbjbdkkohcaaGreatDoor
open Go.RowKit Go.Shelf
open Bm (wt wtK cntW)
open Hm (col onesOf nOf idx kd pl xs ap syn)
attribute [local go_sem] Oper.semAt_some

set_option maxHeartbeats 400000 in
theorem check_any (b d : Nat) (a p : Int) (hd : d < 18446744073709551616) (w : World) (hc : CodeAt w b) (hT : TabW w) :
    Calls Tryz.prog 33 #[.pointer (some ⟨b, 0, none⟩), .int .u64 (d : Int), .int .i64 a, .int .i64 p] w fun e w' => e = .returned (.int .u8 (syn d 0 a p : Int)) ∧ Below w.heap.size w w' := by
  have H : Hid (Calls Tryz.prog 64 #[.pointer (some ⟨b, 0, none⟩), .int .u64 (d : Int), .int .u8 0, .int .i64 a, .int .i64 p] w fun e w' => e = .returned (.int .u8 (syn d 0 a p : Int)) ∧ Below w.heap.size w w') := syndrome_any b d 0 a p hd (by omega) w hc hT
  clear hc hT
  go_enter Tryz.func33, Tryz.ntmps33
  go_wp2_with (go_at_call 64; refine (H.out).mono ?_; rintro e w' ⟨rfl, hB⟩)
  go_ret
  exact ⟨rfl, hB⟩

/-- the data that are told: with the bit turned, if it is one of them -/
def fx (d s : Nat) : Nat := if kd s = 1 ∧ pl s < 64 then d ^^^ 2 ^ (pl s).toNat else d
set_option maxRecDepth 100000 in
set_option maxHeartbeats 1000000 in
theorem decode_any (b d k : Nat) (a : Int) (hd : d < 18446744073709551616) (hk : k < 256) (w : World) (hc : CodeAt w b) (hT : TabW w) :
    Calls Tryz.prog 42 #[.pointer (some ⟨b, 0, none⟩), .int .u64 (d : Int), .int .u8 (k : Int), .int .i64 a] w fun e w' =>
      e = .returned (.tuple #[.int .u64 (fx d (syn d k a 0) : Int), .int .i64 (kd (syn d k a 0)), .int .i64 (pl (syn d k a 0))]) ∧ Below w.heap.size w w' := by
  have H : Hid (Calls Tryz.prog 64 #[.pointer (some ⟨b, 0, none⟩), .int .u64 (d : Int), .int .u8 (k : Int), .int .i64 a, .int .i64 0] w fun e w' => e = .returned (.int .u8 (syn d k a 0 : Int)) ∧ Below w.heap.size w w') := syndrome_any b d k a 0 hd hk w hc hT
  have hbl := hc.lt
  have HC : Hid (CodeAt w b) := hc
  have hs := Hm.syn_lt d k a 0 hk
  obtain ⟨s, Hs⟩ : ∃ s, syn d k a 0 = s := ⟨_, rfl⟩
  rw [Hs] at H hs ⊢
  have ht := told s
  have hf : Hid (fx d s = if kd s = 1 ∧ pl s < 64 then d ^^^ 2 ^ (pl s).toNat else d) := rfl
  have hcl : Hid (∀ w, CodeAt w b → Calls Tryz.prog 77 #[.pointer (some ⟨b, 0, none⟩), .int .u8 (s : Int)] w fun e w' => e = .returned (.tuple #[.int .i64 (kd s), .int .i64 (pl s)]) ∧ w' = w) := fun w hw => classify_any b s hs w hw
  obtain ⟨y, hy⟩ : ∃ y, fx d s = y := ⟨_, rfl⟩
  rw [hy] at hf ⊢
  have hidx := idx_lt s 74 0
  obtain ⟨K, hK⟩ : ∃ K, kd s = K := ⟨_, rfl⟩
  obtain ⟨L, hL⟩ : ∃ L, pl s = L := ⟨_, rfl⟩
  rw [hK, hL] at ht hcl hf ⊢
  have hc3 : (K = 1 ∧ 0 ≤ L ∧ L < 64 ∧ y = d ^^^ 2 ^ L.toNat) ∨ (K = 1 ∧ 64 ≤ L ∧ L < 72 ∧ y = d) ∨ (K ≠ 1 ∧ y = d) := by
    have hf := hf.out
    by_cases h1 : K = 1 ∧ L < 64
    · rw [if_pos h1] at hf
      exact .inl ⟨h1.1, by omega, h1.2, hf⟩
    · rw [if_neg h1] at hf
      by_cases h2 : K = 1
      · exact .inr (.inl ⟨h2, by omega, by omega, hf⟩)
      · exact .inr (.inr ⟨h2, hf⟩)
  clear hc hT hf hK hL hy ht hidx Hs
  rcases hc3 with ⟨rfl, h1, h2, hy⟩ | ⟨rfl, h1, h2, rfl⟩ | ⟨h1, rfl⟩
  · obtain ⟨i, rfl⟩ := Int.eq_ofNat_of_zero_le h1
    have hx := flip64 d i hd (by omega)
    rw [Int.toNat_natCast] at hy
    subst hy
    go_enter Tryz.func42, Tryz.ntmps42
    go_wp2_with (first | (go_at_call 64; refine (H.out).mono ?_; rintro e w' ⟨rfl, hB⟩) | (go_at_call 77; refine (hcl.out _ (HC.out.below hB hbl)).mono ?_; rintro e w' ⟨rfl, rfl⟩))
    go_ret3
    exact ⟨by first | rfl | (rw [← hx]; rfl), hB⟩
  · go_enter Tryz.func42, Tryz.ntmps42
    go_wp2_with (first | (go_at_call 64; refine (H.out).mono ?_; rintro e w' ⟨rfl, hB⟩) | (go_at_call 77; refine (hcl.out _ (HC.out.below hB hbl)).mono ?_; rintro e w' ⟨rfl, rfl⟩))
    go_ret3
    exact ⟨rfl, hB⟩
  · have hd1 : (K == 1) = false := by simpa using h1
    clear h1
    go_enter Tryz.func42, Tryz.ntmps42
    go_wp2_with (first | (go_at_call 64; refine (H.out).mono ?_; rintro e w' ⟨rfl, hB⟩) | (go_at_call 77; refine (hcl.out _ (HC.out.below hB hbl)).mono ?_; rintro e w' ⟨rfl, rfl⟩))
    go_ret3
    exact ⟨rfl, hB⟩
end Go.Proofs.YtoimbjbdkkohcaaGreatDoor
