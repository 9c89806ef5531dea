/-
  Texts of one family, one behind another: BitW5, Boxes, HsMath, HsW1, HsW2, HsW3, HsW4, HsW5, LnMath, RwMath.
-/
import Derived.Test.YtdjknaafefnlcaaDoorM01
import Derived.Deep.MidRow
import Derived.Laws.Bits128
import Derived.BigRegion
import Derived.WalkSmall
import Derived.RowKit3

/-
  Ones: the lowest one of a word, by math/bits' table; the iterator that tells the ones of a word; the document's bit.
-/
namespace Go.Proofs.YtdjknaafefnlcaaDoor
open Go.RowKit Go.Shelf
open Bm (wt wtK lef)
attribute [local go_sem] Oper.semAt_some

theorem TabW.of {W W' : World} (h : TabW W) (k : W'.heap[0]? = W.heap[0]?) : TabW W' := fun j hj => (World.cell?_of_block (w := W) (a := ⟨0, j, none⟩) k).trans (h j hj)
theorem TabW.lt {W : World} (h : TabW W) : 0 < W.heap.size := by
  obtain ⟨x, hx, _⟩ := isCells_of_cell (h 0 (by decide))
  exact (Array.getElem?_eq_some_iff.1 hx).1
theorem TabW.below {C : Nat} {W W' : World} (h : TabW W) (k : Below C W W') (hC : 0 < C) : TabW W' := h.of (k.block 0 hC)
theorem TabW.keep {M : Nat → Prop} {W W' : World} (h : TabW W) (k : Keep M W W') (hM : ¬ M 0) : TabW W' := h.of (k.2 0 h.lt hM)

set_option maxHeartbeats 1000000 in
theorem tz_any (x : Nat) (hx : x < 18446744073709551616) (hx0 : x ≠ 0) (w : World) (hT : TabW w) :
    Calls Tryd.prog 96 #[.int .u64 (x : Int)] w fun e w' => e = .returned (.int .i64 (Lib.ctz 64 x : Int)) ∧ w' = w := by
  obtain ⟨hlow, hk⟩ := Lib.lowest_bit 64 x hx0 hx
  obtain ⟨hi, htab⟩ := Lib.deBruijn64_at _ hk
  have hcell := hT _ hi
  rw [htab] at hcell
  have key := Bm.tz_key x _ hx hx0 hlow
  have e0 : ((x : Int) == 0) = false := by simp; omega
  obtain ⟨p, hp⟩ : ∃ p, Lib.ctz 64 x = p := ⟨_, rfl⟩
  rw [hp] at hk hcell hi key ⊢
  obtain ⟨i, hI⟩ : ∃ i, 2 ^ p * 285870213051353865 % 18446744073709551616 / 288230376151711744 = i := ⟨_, rfl⟩
  rw [hI] at hi hcell key
  clear hlow htab hT hp hI
  go_enter Tryd.func96, Tryd.ntmps96
  go_wp2_with (simp only [key])
  go_ret
  exact ⟨rfl, rfl⟩

set_option maxRecDepth 100000 in
set_option maxHeartbeats 2000000 in
theorem ones64_seq (xb v : Nat) (hv : v < 18446744073709551616) (w : World) (hxb : xb < w.heap.size) (cx : w.cell? ⟨xb, 0, none⟩ = some (.int .u64 (v : Int))) (hT : TabW w) :
    SeqC Tryd.prog 95 #[.pointer (some ⟨xb, 0, none⟩)] (fun x => #[.int .i64 (x : Int)]) 64 (fun q => v / 2 ^ q % 2 = 1) (fun b => b = 0) w := by
  intro l M J Jx W hW hM hJ hJx hskip hY h0
  have cx' : W.cell? ⟨xb, 0, none⟩ = some (.int .u64 (v : Int)) := (hW.cell (p := ⟨xb, 0, none⟩) hxb).trans cx
  have hTW : TabW W := hT.below hW hT.lt
  have hM0 : ¬ M 0 := fun h => (hM 0 h).2 rfl
  have HT : Hid (TabW W) := hTW
  have HSk : Hid (∀ (q r : Nat) (W : World), q ≤ r → r ≤ 64 → (∀ x, q ≤ x → x < r → ¬ v / 2 ^ x % 2 = 1) → J q W → J r W) := fun q r W a b c d => Bm.skips hskip q r W a b c d
  have HY : Hid (∀ (x : Nat) (W1 : World), x < 64 → v / 2 ^ x % 2 = 1 → J x W1 → YieldAt Fence.wide 8 Tryd.prog l #[.int .i64 (x : Int)] W1 fun e W' => (e = .returned (.bool true) ∧ J (x + 1) W' ∧ Keep M W1 W') ∨ (e = .returned (.bool false) ∧ Jx x W' ∧ Keep M W1 W')) := hY
  clear hJ hJx hskip hY hM hW cx hT hTW
  refine callsIn_of_wp Tryd.func95 rfl trivial ?_ rfl
  simp only [Tryd.ntmps95, List.size_toArray, List.length_cons, List.length_nil, Nat.reduceAdd, Nat.reduceSub, Array.replicate_succ, Array.replicate_zero, List.push_toArray, List.append_toArray, List.nil_append, List.cons_append]
  gi_wp2
  gi_loopw [3] (fun lv wr => ∃ q y : Nat, q ≤ 64 ∧ y < 18446744073709551616 ∧ Hid (y = lef v q) ∧ lv = .int .u64 (y : Int) ∧ J q wr ∧ Keep M W wr) (fun lv _ => (intOf lv).toNat)
  case atStart => exact ⟨0, v, by omega, hv, (Bm.lef_zero v).symm, rfl, h0, Keep.refl _ _⟩
  case round =>
    obtain ⟨q, y, hq, hy, Hy, rfl, hJs, hK⟩ := hrel
    by_cases hy0 : y = 0
    · have hJ64 := HSk.out q 64 wr hq (Nat.le_refl _) (fun x hx _ => Bm.lef_nil v q x (by rw [← Hy.out]; exact hy0) hx) hJs
      subst hy0
      gi_wp2
      go_end0
      exact ⟨⟨_, rfl⟩, .inl hJ64⟩
    · obtain ⟨p, hp, hqp, ht, hno, hone, hand⟩ := Bm.low_facts 64 v q (Nat.le_refl _) hv (by rw [← Hy.out]; exact hy0)
      rw [← Hy.out] at ht hand
      have hJp := HSk.out q p wr hqp (by omega) hno hJs
      have hTr : TabW wr := HT.out.keep hK hM0
      have hTz := tz_any y hy hy0 wr hTr
      rw [ht] at hTz
      have HTz : Hid (Calls Tryd.prog 96 #[.int .u64 (y : Int)] wr fun e w' => e = .returned (.int .i64 (p : Int)) ∧ w' = wr) := hTz
      obtain ⟨fn, tmps, assign, body, hyl, hR⟩ := HY.out p wr hp hone hJp
      obtain ⟨z, hz, Hz⟩ : ∃ z : Nat, bits .and .u64 (y : Int) ((y : Int) - 1) = (z : Int) ∧ Hid (z = lef v (p + 1)) := ⟨_, (show ((y : Int) - 1) = ((y - 1 : Nat) : Int) from by omega) ▸ u64_and_nat y (y - 1) hy (by omega), hand⟩
      have hzy : z < y := by
        have h1 : z = y &&& (y - 1) := by rw [Hz.out, hand]
        have := Nat.and_le_right (n := y) (m := y - 1)
        omega
      have e0 : ((y : Int) != 0) = true := by simp; omega
      have hypos : 1 ≤ y := by omega
      clear hTz ht hno hand hJp hTr
      gi_wp2_with (first | (refine ⟨trivial, ?_⟩; gi_at_call 96; refine (callsIn_wide.2 HTz.out).mono ?_; rintro e w' ⟨rfl, rfl⟩) | (refine hR.mono ?_; rintro e W3 hE; obtain ⟨r, rfl, hE2⟩ := yields hE))
      · rcases hE2.out with ⟨rfl, _⟩ | ⟨_, hJx3⟩
        · rename_i hr; cases hr
        · refine bodyPost_ret (results_none rfl _ _ _) rfl ?_
          exact ⟨⟨_, rfl⟩, .inr ⟨p, hp, hone, hJx3.1⟩⟩
      · rcases hE2.out with ⟨_, hJ3, hK3⟩ | ⟨rfl, _⟩
        · refine ⟨⟨p + 1, z, by omega, by omega, Hz, rfl, hJ3, hK.trans hK3⟩, ?_⟩
          simp [intOf]; omega
        · rename_i hr; cases hr


theorem ones64_any (v : Int) (w : World) :
    Calls Tryd.prog 79 #[.int .u64 v] w fun e w' => e = .returned (.func (.func 95) #[] #[.pointer (some ⟨w.heap.size, 0, none⟩)]) ∧ w' = w.alloc (.cells #[.int .u64 v] 47) := by
  go_enter Tryd.func79, Tryd.ntmps79
  go_wp2
  go_ret
  exact ⟨rfl, rfl⟩

end Go.Proofs.YtdjknaafefnlcaaDoor

/-
  Variables' boxes, laid one by one; the builtins min and max of two.
-/
namespace Go.Proofs.YtdjknaafefnlcaaDoor
open Go.RowKit

theorem box2 (w : World) (t0 t1 : TypeId) (v0 v1 : Value) (V : World) (h : (w.alloc (.cells #[v0] t0)).alloc (.cells #[v1] t1) = V) :
    V.heap.size = w.heap.size + 2 ∧ Box V w.heap.size v0 ∧ Box V (w.heap.size + 1) v1 ∧ Stay w.heap.size w V := by
  have a0 := Box.new w t0 v0
  have a1 := Box.new (w.alloc (.cells #[v0] t0)) t1 v1
  simp only [World.size_alloc] at a1
  rw [← h]
  exact ⟨by simp, a0.alloc _, a1, (Stay.alloc _ w _ (Nat.le_refl _)).trans (Stay.alloc _ _ _ (by simp))⟩
theorem box3 (w : World) (t0 t1 t2 : TypeId) (v0 v1 v2 : Value) (V : World) (h : ((w.alloc (.cells #[v0] t0)).alloc (.cells #[v1] t1)).alloc (.cells #[v2] t2) = V) :
    V.heap.size = w.heap.size + 3 ∧ Box V w.heap.size v0 ∧ Box V (w.heap.size + 1) v1 ∧ Box V (w.heap.size + 1 + 1) v2 ∧ Stay w.heap.size w V := by
  have a0 := Box.new w t0 v0
  have a1 := Box.new (w.alloc (.cells #[v0] t0)) t1 v1
  have a2 := Box.new ((w.alloc (.cells #[v0] t0)).alloc (.cells #[v1] t1)) t2 v2
  simp only [World.size_alloc] at a1 a2
  rw [← h]
  exact ⟨by simp, (a0.alloc _).alloc _, a1.alloc _, a2, ((Stay.alloc _ w _ (Nat.le_refl _)).trans (Stay.alloc _ _ _ (by simp))).trans (Stay.alloc _ _ _ (by simp; omega))⟩
theorem min_run (a b c : Int) (h : min a b = c) {P : Program} (ts : Array TypeId) (t : TypeId) (w : World) : (Builtin.min_ ts t #[.int .i64 a, .int .i64 b]).run P w = .ok (.int .i64 c) w := by
  have e : (if b < a then b else a) = c := by split <;> omega
  rw [← e]
  simp [Builtin.min_, Builtin.min2]
theorem max_run (a b c : Int) (h : max a b = c) {P : Program} (ts : Array TypeId) (t : TypeId) (w : World) : (Builtin.max_ ts t #[.int .i64 a, .int .i64 b]).run P w = .ok (.int .i64 c) w := by
  have e : (if a < b then b else a) = c := by split <;> omega
  rw [← e]
  simp [Builtin.max_, Builtin.max2]
theorem Box.stayed {B : Nat} {W W' : World} {b : Nat} {v : Value} (h : Box W b v) (k : Stay B W W') : Box W' b v := Box.stay k h
end Go.Proofs.YtdjknaafefnlcaaDoor

/-
  Plain mathematics of layer 4: the 74 columns, which are the words of 8 bits with three, five, one and five ones, counted; the syndrome as an exclusive or, which is linear; whose column a syndrome is.
-/
namespace Go.Proofs.YtdjknaafefnlcaaDoor.Hm
open Go Go.RowKit
open Bm (wt wtK cntW)

/-- the 74 columns -/
def colL : List Nat := [7, 11, 13, 14, 19, 21, 22, 25, 26, 28, 35, 37, 38, 41, 42, 44, 49, 50, 52, 56, 67, 69, 70, 73, 74, 76, 81, 82, 84, 88, 97, 98, 100, 104, 112, 131, 133, 134, 137, 138, 140, 145, 146, 148, 152, 161, 162, 164, 168, 176, 193, 194, 196, 200, 208, 224,
  31, 47, 55, 59, 61, 62, 79, 87, 1, 2, 4, 8, 16, 32, 64, 128, 91, 93]
def col (i : Nat) : Nat := colL.getD i 0
/-- how many ones the column of the bit i has, and how many words with so many come ahead of it -/
def onesOf (i : Nat) : Nat := if i < 56 then 3 else if i < 64 then 5 else if i < 72 then 1 else 5
def nOf (i : Nat) : Nat := if i < 56 then i else if i < 64 then i - 56 else i - 64
theorem col_all : ∀ i < 74, col i < 256 ∧ 0 < col i ∧ wt (col i) = onesOf i ∧ cntW (onesOf i : Int) (col i) = nOf i := by decide +kernel
theorem col_lt (i : Nat) : col i < 256 := by
  by_cases h : i < 74
  · exact (col_all i h).1
  · rw [show col i = 0 from by unfold col; rw [List.getD_eq_getElem?_getD, List.getElem?_eq_none (by simpa [colL] using h)]; rfl]; decide
theorem col_at {i x : Nat} (hi : i < 74) (hw : wt x = onesOf i) (hn : cntW (onesOf i : Int) x = nOf i) : x = col i := by
  obtain ⟨_, _, h1, h2⟩ := col_all i hi
  rcases Nat.lt_trichotomy x (col i) with h | h | h
  · have := Bm.cntW_mono (onesOf i : Int) (x + 1) (col i) h
    rw [Bm.cntW_yes _ _ (by rw [hw])] at this; omega
  · exact h
  · have := Bm.cntW_mono (onesOf i : Int) (col i + 1) x h
    rw [Bm.cntW_yes _ _ (by rw [h1])] at this; omega
theorem cnt_before {i x : Nat} (hi : i < 74) (hx : x ≤ col i) : cntW (onesOf i : Int) x ≤ nOf i := by
  have := Bm.cntW_mono (onesOf i : Int) x (col i) hx
  rw [(col_all i hi).2.2.2] at this; exact this
/-- the columns are unlike -/
theorem col_inj : ∀ i < 74, ∀ j < 74, col i = col j → i = j := by decide +kernel
/-- two of them are no column, and not 0 -/
theorem col_odd : ∀ i < 74, wt (col i) % 2 = 1 := by decide +kernel
theorem xor_ne {a b : Nat} (h : a ≠ b) : a ^^^ b ≠ 0 := fun e => h (by
  have : (a ^^^ b) ^^^ b = b := by rw [e, Nat.zero_xor]
  rw [Nat.xor_assoc, Nat.xor_self, Nat.xor_zero] at this
  exact this)
theorem two_lost (i : Nat) (hi : i < 74) (j : Nat) (hj : j < 74) (h : i ≠ j) : col i ^^^ col j ≠ 0 ∧ ∀ l < 74, col l ≠ col i ^^^ col j := by
  refine ⟨xor_ne fun e => h (col_inj i hi j hj e), fun l hl e => ?_⟩
  have h1 := col_odd i hi
  have h2 := col_odd j hj
  have h3 := col_odd l hl
  have h4 : wt (col i ^^^ col j) + 2 * wt (col i &&& col j) = wt (col i) + wt (col j) := Bm.wtK_xor 64 _ _
  rw [← e] at h4
  omega
theorem col_check : ∀ i < 8, col (64 + i) = 2 ^ i := by decide +kernel

/-! ### the syndrome -/
/-- of the lowest n bits of d -/
def xs (d : Nat) : Nat → Nat
  | 0 => 0
  | n + 1 => xs d n ^^^ (if d / 2 ^ n % 2 = 1 then col n else 0)
theorem xor_lt {a b : Nat} (ha : a < 256) (hb : b < 256) : a ^^^ b < 256 := Nat.xor_lt_two_pow (n := 8) ha hb
theorem xs_lt (d n : Nat) : xs d n < 256 := by
  induction n with
  | zero => simp [xs]
  | succ n ih =>
    unfold xs
    refine xor_lt ih ?_
    split
    · exact col_lt n
    · decide
theorem xs_yes (d n : Nat) (h : d / 2 ^ n % 2 = 1) : xs d (n + 1) = xs d n ^^^ col n := by simp [xs, h]
theorem xs_no (d n : Nat) (h : ¬ d / 2 ^ n % 2 = 1) : xs d (n + 1) = xs d n := by simp [xs, h]
theorem bit_iff (b k : Nat) : ((b / 2 ^ k) % 2 = 1) ↔ b.testBit k = true := by
  rw [Nat.testBit_eq_decide_div_mod_eq]; simp
theorem xs_xor (d e n : Nat) : xs (d ^^^ e) n = xs d n ^^^ xs e n := by
  induction n with
  | zero => simp [xs]
  | succ n ih =>
    unfold xs
    rw [ih]
    simp only [bit_iff, Nat.testBit_xor]
    generalize xs d n = u
    generalize xs e n = v
    generalize col n = z
    cases d.testBit n <;> cases e.testBit n <;> simp
    · ac_rfl
    · ac_rfl
    · rw [show u ^^^ z ^^^ (v ^^^ z) = (u ^^^ v) ^^^ (z ^^^ z) from by ac_rfl, Nat.xor_self, Nat.xor_zero]
theorem xs_pow_lo (i n : Nat) (h : n ≤ i) : xs (2 ^ i) n = 0 := by
  induction n with
  | zero => rfl
  | succ n ih =>
    rw [xs_no]
    · exact ih (by omega)
    · rw [bit_iff, Nat.testBit_two_pow_of_ne (by omega)]; simp
theorem xs_pow (i n : Nat) (h : i < n) : xs (2 ^ i) n = col i := by
  induction n with
  | zero => omega
  | succ n ih =>
    by_cases e : i = n
    · subst e
      rw [xs_yes _ _ (by rw [bit_iff, Nat.testBit_two_pow_self]), xs_pow_lo i i (Nat.le_refl _), Nat.zero_xor]
    · rw [xs_no _ _ (by rw [bit_iff, Nat.testBit_two_pow_of_ne e]; simp)]
      exact ih (by omega)
theorem xs_zero (n : Nat) : xs 0 n = 0 := by
  induction n with
  | zero => rfl
  | succ n ih => rw [xs_no _ _ (by simp), ih]

/-- an address's, a poison's part -/
def ap (a : Int) (i : Nat) : Nat := if a % 2 = 1 then col i else 0
theorem ap_lt (a : Int) (i : Nat) : ap a i < 256 := by
  unfold ap; split
  · exact col_lt i
  · decide
/-- the syndrome -/
def syn (d k : Nat) (a p : Int) : Nat := ((k ^^^ xs d 64) ^^^ ap a 72) ^^^ ap p 73
theorem syn_lt (d k : Nat) (a p : Int) (hk : k < 256) : syn d k a p < 256 := xor_lt (xor_lt (xor_lt hk (xs_lt d 64)) (ap_lt a 72)) (ap_lt p 73)
theorem syn_check (d k : Nat) (a p : Int) : syn d k a p = k ^^^ syn d 0 a p := by
  unfold syn; rw [Nat.zero_xor]; simp only [Nat.xor_assoc]
/-- with the check bits of the data it is 0 -/
theorem syn_code (d : Nat) (a p : Int) : syn d (syn d 0 a p) a p = 0 := by
  rw [syn_check]; exact Nat.xor_self _
theorem syn_addr (d k : Nat) (a b p : Int) : syn d k b p = syn d k a p ^^^ (ap a 72 ^^^ ap b 72) := by
  unfold syn
  generalize k ^^^ xs d 64 = z
  generalize ap a 72 = u
  generalize ap b 72 = v
  generalize ap p 73 = x
  rw [show z ^^^ u ^^^ x ^^^ (u ^^^ v) = (z ^^^ v ^^^ x) ^^^ (u ^^^ u) from by ac_rfl, Nat.xor_self, Nat.xor_zero]
theorem syn_pois (d k : Nat) (a p q : Int) : syn d k a q = syn d k a p ^^^ (ap p 73 ^^^ ap q 73) := by
  unfold syn
  generalize k ^^^ xs d 64 ^^^ ap a 72 = z
  generalize ap p 73 = u
  generalize ap q 73 = v
  rw [show z ^^^ u ^^^ (u ^^^ v) = (z ^^^ v) ^^^ (u ^^^ u) from by ac_rfl, Nat.xor_self, Nat.xor_zero]
theorem syn_data (d k i : Nat) (a p : Int) (hi : i < 64) : syn (d ^^^ 2 ^ i) k a p = syn d k a p ^^^ col i := by
  unfold syn; rw [xs_xor, xs_pow i 64 hi]; ac_rfl
theorem syn_chk (d k i : Nat) (a p : Int) (hi : 64 ≤ i) (hi2 : i < 72) : syn d (k ^^^ 2 ^ (i - 64)) a p = syn d k a p ^^^ col i := by
  have := col_check (i - 64) (by omega)
  rw [show 64 + (i - 64) = i from by omega] at this
  unfold syn; rw [this]; ac_rfl
theorem ap_flip (a : Int) (i : Nat) (h : a = 0 ∨ a = 1) : ap a i ^^^ ap (1 - a) i = col i := by
  rcases h with rfl | rfl
  · rw [show ap 0 i = 0 from rfl, show ap (1 - 0) i = col i from rfl, Nat.zero_xor]
  · rw [show ap 1 i = col i from rfl, show ap (1 - 1) i = 0 from rfl, Nat.xor_zero]

/-! ### whose column -/
/-- the first bit from i on, of n, whose column is s; -1 if none -/
def idx (s : Nat) : Nat → Nat → Int
  | 0, _ => -1
  | n + 1, i => if col i = s then i else idx s n (i + 1)
theorem idx_none (s n i : Nat) (h : ∀ j, i ≤ j → j < i + n → col j ≠ s) : idx s n i = -1 := by
  induction n generalizing i with
  | zero => rfl
  | succ n ih =>
    unfold idx
    rw [if_neg (h i (by omega) (by omega))]
    exact ih (i + 1) fun j h1 h2 => h j (by omega) (by omega)
theorem idx_some (s n i j : Nat) (h1 : i ≤ j) (h2 : j < i + n) (hj : col j = s) (hb : ∀ l, i ≤ l → l < j → col l ≠ s) : idx s n i = j := by
  induction n generalizing i with
  | zero => omega
  | succ n ih =>
    unfold idx
    by_cases e : i = j
    · subst e; rw [if_pos hj]
    · rw [if_neg (hb i (by omega) (by omega))]
      exact ih (i + 1) (by omega) (by omega) fun l a b => hb l (by omega) b
/-- a syndrome's verdict and place -/
def kd (s : Nat) : Int := if s = 0 then 0 else if idx s 74 0 = -1 then 4 else if idx s 74 0 = 72 then 3 else if idx s 74 0 = 73 then 2 else 1
def pl (s : Nat) : Int := if s = 0 then -1 else if idx s 74 0 = 72 then -1 else if idx s 74 0 = 73 then -1 else idx s 74 0
theorem kd_zero : kd 0 = 0 := rfl
theorem pl_zero : pl 0 = -1 := rfl
theorem kd_two : ∀ i < 74, ∀ j < 74, i ≠ j → kd (col i ^^^ col j) = 4 := by
  intro i hi j hj h
  obtain ⟨h0, h1⟩ := two_lost i hi j hj h
  unfold kd
  rw [if_neg h0, idx_none _ _ _ (fun l _ hl => h1 l (by omega))]; rfl
theorem kd_three (i j l : Nat) (hi : i < 74) (hj : j < 74) (hl : l < 74) (h : i ≠ j) : kd ((col i ^^^ col j) ^^^ col l) ≠ 0 := by
  obtain ⟨_, h1⟩ := two_lost i hi j hj h
  have h2 : (col i ^^^ col j) ^^^ col l ≠ 0 := xor_ne fun e => h1 l hl e.symm
  unfold kd
  rw [if_neg h2]
  split
  · decide
  · split
    · decide
    · split <;> decide
theorem fixed_one : ∀ i < 72, kd (col i) = 1 ∧ pl (col i) = i := by decide +kernel
theorem kd_poison : kd (col 73) = 2 := by decide +kernel
theorem kd_astray : kd (col 72) = 3 := by decide +kernel
end Go.Proofs.YtdjknaafefnlcaaDoor.Hm

/-
  The walks of package hsiao and of the document's answers, the readers: a bit's column, whose column a syndrome is, its verdict.
-/
namespace Go.Proofs.YtdjknaafefnlcaaDoor
open Go.RowKit Go.Shelf
open Bm (wt wtK cntW)
open Hm (col onesOf nOf idx kd pl xs ap syn)
attribute [local go_sem] Oper.semAt_some

/-- a code's columns lie in block b -/
def CodeAt (w : World) (b : Nat) : Prop := ∀ i : Nat, i < 74 → w.cell? ⟨b, i, none⟩ = some (.int .u8 (col i : Int))
theorem CodeAt.of {w w' : World} {b : Nat} (h : CodeAt w b) (hc : w'.heap[b]? = w.heap[b]?) : CodeAt w' b := fun i hi => (World.cell?_of_block (w := w) (a := ⟨b, i, none⟩) hc).trans (h i hi)
theorem CodeAt.below {C : Nat} {W W' : World} {b : Nat} (h : CodeAt W b) (k : Below C W W') (hb : b < C) : CodeAt W' b := h.of (k.block b hb)
theorem CodeAt.lt {W : World} {b : Nat} (h : CodeAt W b) : b < W.heap.size := by
  obtain ⟨x, hx, _⟩ := isCells_of_cell (h 0 (by decide))
  exact (Array.getElem?_eq_some_iff.1 hx).1
theorem CodeAt.stay {B : Nat} {W W' : World} {b : Nat} (h : CodeAt W b) (k : Stay B W W') : CodeAt W' b := fun i hi => k.cell (h i hi)

/-! ### the document's columns -/
/-! ### whose column -/
set_option maxHeartbeats 1000000 in
theorem index_any (b s : Nat) (hs : s < 256) (w : World) (hc : CodeAt w b) :
    Calls Tryd.prog 87 #[.slice (some ⟨b, 0, none⟩) 74 74, .int .u8 (s : Int)] w fun e w' => e = .returned (.int .i64 (idx s 74 0)) ∧ w' = w := by
  have HC : Hid (CodeAt w b) := hc
  obtain ⟨r, Hr⟩ : ∃ r, idx s 74 0 = r := ⟨_, rfl⟩
  have HS : Hid (∀ k, k < 74 → col k = s → (∀ l, l < k → col l ≠ s) → r = (k : Int)) := fun k hk h1 h2 => by rw [← Hr]; exact Hm.idx_some s 74 0 k (by omega) (by omega) h1 (fun l _ hl => h2 l hl)
  have HN : Hid ((∀ l, l < 74 → col l ≠ s) → r = -1) := fun h => by rw [← Hr]; exact Hm.idx_none s 74 0 (fun l _ hl => h l (by omega))
  rw [Hr]
  clear hc Hr
  go_enter Tryd.func87, Tryd.ntmps87
  go_wp2
  go_loop [8] (fun a => ∃ k : Nat, k ≤ 74 ∧ Hid (∀ l, l < k → col l ≠ s) ∧ a = .int .i64 (k : Int)) (fun a => 74 - (intOf a).toNat)
  case atStart => exact ⟨0, by omega, fun l hl => by omega, rfl⟩
  case round =>
    obtain ⟨k, hk, Hk, rfl⟩ := hrel
    by_cases hlt : k < 74
    · have cell := HC.out k hlt
      obtain ⟨c, Hc⟩ : ∃ c, Hid (col k = c) := ⟨_, rfl⟩
      rw [Hc.out] at cell
      by_cases he : c = s
      · have hr := HS.out k hlt (by rw [Hc.out]; exact he) Hk.out
        subst he hr
        go_wp2
        go_ret
        exact ⟨rfl, rfl⟩
      · have hd : ((s : Int) == (c : Int)) = false := by simp; omega
        have Hk' : Hid (∀ l, l < k + 1 → col l ≠ s) := fun l hl => by
          by_cases e : l = k
          · rw [e, Hc.out]; exact he
          · exact Hk.out l (by omega)
        clear he
        go_wp2
        go_round
        case rel => exact ⟨k + 1, by omega, Hk', by go_num⟩
        case measure => simp [intOf]; omega
    · have hk' : k = 74 := by omega
      subst hk'
      have hr := HN.out Hk.out
      subst hr
      go_wp2
      go_ret
      exact ⟨rfl, rfl⟩
end Go.Proofs.YtdjknaafefnlcaaDoor

/-
  The document's columns as an array; what a syndrome is told as.
-/
namespace Go.Proofs.YtdjknaafefnlcaaDoor
open Go.RowKit Go.Shelf
open Bm (wt wtK cntW)
open Hm (col onesOf nOf idx kd pl xs ap syn)
attribute [local go_sem] Oper.semAt_some

/-- the array's cells behind k rounds -/
def stageC : Nat → Array Value
  | 0 => Array.replicate 74 (.int .u8 0)
  | k + 1 => (stageC k).setIfInBounds k (.int .u8 (col k : Int))
theorem stageC_size (k : Nat) : (stageC k).size = 74 := by
  induction k with
  | zero => simp [stageC]
  | succ k ih => simp [stageC, ih]
theorem stageC_cell (k o : Nat) (h : o < 74) : ∃ v, (stageC k)[o]? = some v :=
  ⟨(stageC k)[o]'(by rw [stageC_size]; exact h), Array.getElem?_eq_getElem (by rw [stageC_size]; exact h)⟩
theorem stageC_at (k n : Nat) (hn : n < k) (hk : k ≤ 74) : (stageC k)[n]? = some (.int .u8 (col n : Int)) := by
  induction k with
  | zero => omega
  | succ k ih =>
    simp only [stageC]
    by_cases e : n = k
    · subst e; rw [Array.getElem?_setIfInBounds_self_of_lt (by rw [stageC_size]; omega)]
    · rw [Array.getElem?_setIfInBounds_ne (by omega)]; exact ih (by omega) (by omega)
theorem below_put {B b : Nat} (hb : B ≤ b) : ∀ (vs : List Value) (o : Nat) {a w : World}, Below B a w → Below B a (w.setCells b o vs)
  | [], _, _, _, h => h
  | v :: vs, o, _, _, h => below_put hb vs (o + 1) (h.setCell (p := ⟨b, o, none⟩) hb v)
/-- all columns -/
def colsL : List Value := (stageC 74).toList
theorem colsL_len : colsL.length = 74 := by simp [colsL, stageC_size]
theorem colsL_at (n : Nat) (h : n < 74) : colsL[n]? = some (.int .u8 (col n : Int)) := by
  rw [← stageC_at 74 n h (Nat.le_refl _)]; simp [colsL]
theorem colsL_one : colsL.toArray.all (·.oneCell') = true := by
  refine all_oneCell_toArray fun v hv => ?_
  obtain ⟨n, hn⟩ := List.mem_iff_getElem?.1 hv
  have hn' : n < 74 := by have := (List.getElem?_eq_some_iff.1 hn).1; rw [colsL_len] at this; exact this
  rw [colsL_at n hn'] at hn
  cases hn; rfl
/-- the array lies in block b -/
theorem range_cols {W : World} {b : Nat} (h : CodeAt W b) : W.rangeAt b 0 colsL := fun j v hv => by
  have hj : j < 74 := by have := (List.getElem?_eq_some_iff.1 hv).1; rw [colsL_len] at this; exact this
  rw [colsL_at j hj] at hv
  cases hv
  rw [Nat.zero_add]; exact h j hj
theorem zero_cols (w : World) : (zeroValue 100).run Tryd.prog w = .ok (.agg (stageC 0)) w := by kernel_rfl
theorem info_cols : (Tryd.prog.info? 100).map (·.size) = some colsL.length := by rw [colsL_len]; kernel_rfl
theorem code_new (w : World) (t : TypeId) : CodeAt (w.alloc (.cells (stageC 74) t)) w.heap.size := fun i hi => by
  rw [World.cell?_alloc_new]; exact stageC_at 74 i hi (Nat.le_refl _)

theorem idx_lt (s : Nat) : ∀ n i, -1 ≤ idx s n i ∧ idx s n i < (i + n : Nat)
  | 0, i => by unfold idx; omega
  | n + 1, i => by
    unfold idx
    have := idx_lt s n (i + 1)
    split <;> omega
/-- the ways to tell a syndrome -/
theorem told (s : Nat) : (s = 0 ∧ kd s = 0 ∧ pl s = -1) ∨ (s ≠ 0 ∧ idx s 74 0 = -1 ∧ kd s = 4 ∧ pl s = -1) ∨ (s ≠ 0 ∧ idx s 74 0 = 72 ∧ kd s = 3 ∧ pl s = -1) ∨ (s ≠ 0 ∧ idx s 74 0 = 73 ∧ kd s = 2 ∧ pl s = -1) ∨
    (s ≠ 0 ∧ 0 ≤ idx s 74 0 ∧ idx s 74 0 < 72 ∧ kd s = 1 ∧ pl s = idx s 74 0) := by
  have hr := idx_lt s 74 0
  unfold kd pl
  by_cases h0 : s = 0
  · exact .inl ⟨h0, by rw [if_pos h0], by rw [if_pos h0]⟩
  · by_cases h1 : idx s 74 0 = -1
    · exact .inr (.inl ⟨h0, h1, by rw [if_neg h0, if_pos h1], by rw [if_neg h0, h1]; rfl⟩)
    · by_cases h2 : idx s 74 0 = 72
      · exact .inr (.inr (.inl ⟨h0, h2, by rw [if_neg h0, if_neg h1, if_pos h2], by rw [if_neg h0, if_pos h2]⟩))
      · by_cases h3 : idx s 74 0 = 73
        · exact .inr (.inr (.inr (.inl ⟨h0, h3, by rw [if_neg h0, if_neg h1, if_neg h2, if_pos h3], by rw [if_neg h0, if_neg h2, if_pos h3]⟩)))
        · exact .inr (.inr (.inr (.inr ⟨h0, by omega, by omega, by rw [if_neg h0, if_neg h1, if_neg h2, if_neg h3], by rw [if_neg h0, if_neg h2, if_neg h3]⟩)))

set_option maxHeartbeats 1000000 in
theorem classify_any (b s : Nat) (hs : s < 256) (w : World) (hc : CodeAt w b) :
    Calls Tryd.prog 71 #[.pointer (some ⟨b, 0, none⟩), .int .u8 (s : Int)] w fun e w' => e = .returned (.tuple #[.int .i64 (kd s), .int .i64 (pl s)]) ∧ w' = w := by
  obtain ⟨r, Hr⟩ : ∃ r, idx s 74 0 = r := ⟨_, rfl⟩
  have HI : Hid (∀ w, CodeAt w b → Calls Tryd.prog 87 #[.slice (some ⟨b, 0, none⟩) 74 74, .int .u8 (s : Int)] w fun e w' => e = .returned (.int .i64 r) ∧ w' = w) := fun w hw => by rw [← Hr]; exact index_any b s hs w hw
  have HC : Hid (CodeAt w b) := hc
  have ht := told s
  rw [Hr] at ht
  clear hc
  rcases ht with ⟨h0, h1, h2⟩ | ⟨h0, h3, h1, h2⟩ | ⟨h0, h3, h1, h2⟩ | ⟨h0, h3, h1, h2⟩ | ⟨h0, h3, h4, h1, h2⟩ <;> rw [h1, h2] <;> clear h1 h2 Hr
  · subst h0
    go_enter Tryd.func71, Tryd.ntmps71
    go_wp2
    go_ret2
    exact ⟨rfl, rfl⟩
  all_goals
    have hd : ((s : Int) == 0) = false := by simp; omega
    try subst h3
    clear h0
    go_enter Tryd.func71, Tryd.ntmps71
    go_wp2_with (go_at_call 87; refine (HI.out _ HC.out).mono ?_; rintro e w' ⟨rfl, rfl⟩)
    go_ret2
    exact ⟨rfl, rfl⟩

end Go.Proofs.YtdjknaafefnlcaaDoor

/-
  The document's syndrome; one of the 74 bits turned.
-/
namespace Go.Proofs.YtdjknaafefnlcaaDoor
open Go.RowKit Go.Shelf
open Bm (wt wtK cntW)
open Hm (col onesOf nOf idx kd pl xs ap syn)
attribute [local go_sem] Oper.semAt_some

theorem i64_and1 (n : Int) : bits .and .i64 n 1 = n % 2 := by
  have h1 : (BitVec.ofInt 64 1).toNat = 2 ^ 1 - 1 := by decide
  have key : (BitVec.ofInt 64 n &&& BitVec.ofInt 64 1).toNat = (n % ((2 ^ 64 : Nat) : Int)).toNat % 2 ^ 1 := by
    rw [BitVec.toNat_and, BitVec.toNat_ofInt, h1, Nat.and_two_pow_sub_one_eq_mod]
  show IntKind.i64.wrap ((BitVec.ofInt 64 n &&& BitVec.ofInt 64 1).toNat : Nat) = n % 2
  rw [key, IntKind.wrap_i64]
  omega
theorem i64_xor_low (x y : Int) : bits .xor .i64 x y % 2 = (x + y) % 2 := by
  have key : (BitVec.ofInt 64 x ^^^ BitVec.ofInt 64 y).toNat % 2 = ((x % ((2 ^ 64 : Nat) : Int)).toNat + (y % ((2 ^ 64 : Nat) : Int)).toNat) % 2 := by
    rw [BitVec.toNat_xor, BitVec.toNat_ofInt, BitVec.toNat_ofInt]
    have h := Nat.xor_mod_two_pow (a := (x % ((2 ^ 64 : Nat) : Int)).toNat) (b := (y % ((2 ^ 64 : Nat) : Int)).toNat) (n := 1)
    rw [Nat.pow_one] at h
    rw [h]
    rcases Nat.mod_two_eq_zero_or_one (x % ((2 ^ 64 : Nat) : Int)).toNat with h1 | h1 <;> rcases Nat.mod_two_eq_zero_or_one (y % ((2 ^ 64 : Nat) : Int)).toNat with h2 | h2 <;> rw [h1, h2] <;> simp <;> omega
  show IntKind.i64.wrap ((BitVec.ofInt 64 x ^^^ BitVec.ofInt 64 y).toNat : Nat) % 2 = (x + y) % 2
  generalize (BitVec.ofInt 64 x ^^^ BitVec.ofInt 64 y).toNat = z at key
  rw [IntKind.wrap_i64]
  omega

/-- an address's or a poison's bit, as the program asks it -/
theorem low_ask (a : Int) : (bits .and .i64 a 1 == 1) = decide (a % 2 = 1) := by
  rw [i64_and1]; simp [BEq.beq]

/-! ### one bit turned -/
theorem results_tmp4 {fn : Func} {t u v x : Tmp} (h : fn.results = #[.tmp t, .tmp u, .tmp v, .tmp x]) (tmps : Array Value) (P : Program) (w : World) :
    (results fn tmps).run P w = .ok (.tuple #[tmps.getD t undef, tmps.getD u undef, tmps.getD v undef, tmps.getD x undef]) w := by
  simp [results, h]
theorem flip64 (d i : Nat) (hd : d < 18446744073709551616) (hi : i < 64) : bits .xor .u64 (d : Int) (IntKind.u64.wrap (2 ^ i)) = ((d ^^^ 2 ^ i : Nat) : Int) := by
  have h : 2 ^ i < 18446744073709551616 := Nat.pow_lt_pow_right (a := 2) (by decide) hi
  have e : IntKind.u64.wrap ((2 : Int) ^ i) = ((2 ^ i : Nat) : Int) := by
    have : ((2 : Int) ^ i) = ((2 ^ i : Nat) : Int) := by simp
    rw [this, IntKind.wrap_u64]
    generalize 2 ^ i = q at h
    omega
  rw [e, u64_xor_nat d (2 ^ i) hd (by omega)]
theorem flip8 (k i : Nat) (hk : k < 256) (hi : i < 8) : bits .xor .u8 (k : Int) (IntKind.u8.wrap (2 ^ i)) = ((k ^^^ 2 ^ i : Nat) : Int) := by
  have h : 2 ^ i < 256 := Nat.pow_lt_pow_right (a := 2) (by decide) hi
  have e : IntKind.u8.wrap ((2 : Int) ^ i) = ((2 ^ i : Nat) : Int) := by
    have : ((2 : Int) ^ i) = ((2 ^ i : Nat) : Int) := by simp
    rw [this, IntKind.wrap_u8]
    generalize 2 ^ i = q at h
    omega
  rw [e, u8_xor_nat k (2 ^ i) hk (by omega)]
theorem flip_lt (d i : Nat) (hd : d < 18446744073709551616) (hi : i < 64) : d ^^^ 2 ^ i < 18446744073709551616 :=
  Nat.xor_lt_two_pow (n := 64) hd (Nat.pow_lt_pow_right (by decide) hi)
theorem flip1 (a : Int) (h : a = 0 ∨ a = 1) : bits .xor .i64 a 1 = 1 - a := by rcases h with rfl | rfl <;> decide
end Go.Proofs.YtdjknaafefnlcaaDoor

/-
  The syndrome, by a range over the ones of the data.
-/
namespace Go.Proofs.YtdjknaafefnlcaaDoor
open Go.RowKit Go.Shelf
open Bm (wt wtK cntW)
open Hm (col onesOf nOf idx kd pl xs ap syn)
attribute [local go_sem] Oper.semAt_some

/-- between two rounds: B the first block of the call -/
structure SyI (B b k : Nat) (X : Nat → Nat) (w : World) (x : Nat) (W : World) : Prop where
  c : Box W B (.pointer (some ⟨b, 0, none⟩))
  s : Box W (B + 1) (.int .u8 ((k ^^^ X x : Nat) : Int))
  code : CodeAt W b
  below : Below B w W

theorem SyI.drew {B b k : Nat} {X : Nat → Nat} {w : World} {x : Nat} {W : World} (h : SyI B b k X w x W) : SyI B b k X w x W.drew := ⟨h.c, h.s, h.code, below_stay h.below (Stay.drewN B W 1) (Nat.le_refl _)⟩
theorem Keep.drew {M : Nat → Prop} {X Y : World} (h : Keep M X Y) : Keep M X Y.drew := h
/-- what the last step of the syndrome leaves -/
theorem sy_leaves {B D : Nat} {w W : World} {y : Value} (hb : Box W (B + 1) y) (hK : W.heap[D]? = some (.deferred (some []))) (hD : B + 2 ≤ D) (h : Below B w W) (u : Value) :
    Box ((W.setCell ⟨B + 1, 0, none⟩ u).drew) (B + 1) u ∧ ((W.setCell ⟨B + 1, 0, none⟩ u).drew).heap[D]? = some (.deferred (some [])) ∧ Below B w ((W.setCell ⟨B + 1, 0, none⟩ u).drew) :=
  ⟨(hb.set u :), ((Below.heap_setCell W ⟨B + 1, 0, none⟩ u D (by simp; omega)).trans hK :), below_stay (h.setCell (p := ⟨B + 1, 0, none⟩) (by simp) _) (Stay.drewN B _ 1) (Nat.le_refl _)⟩
theorem sy_shut {B D : Nat} {w W : World} (hK : W.heap[D]? = some (.deferred (some []))) (hD : B ≤ D) (h : Below B w W) : Below B w (W.putObj D (.deferred none)) :=
  below_stay h (Stay.putObj (B := D) _ hK rfl (Nat.le_refl _)) hD

set_option maxRecDepth 100000 in
set_option maxHeartbeats 2000000 in
theorem syndrome_any (b d k : Nat) (a p : Int) (hd : d < 18446744073709551616) (hk : k < 256) (w : World) (hc : CodeAt w b) (hT : TabW w) :
    Calls Tryd.prog 62 #[.pointer (some ⟨b, 0, none⟩), .int .u64 (d : Int), .int .u8 (k : Int), .int .i64 a, .int .i64 p] w fun e w' => e = .returned (.int .u8 (syn d k a p : Int)) ∧ Below w.heap.size w w' := by
  have Hsyn : Hid (syn d k a p = ((k ^^^ xs d 64) ^^^ ap a 72) ^^^ ap p 73) := rfl
  obtain ⟨S, HS⟩ : ∃ S, syn d k a p = S := ⟨_, rfl⟩
  rw [HS] at Hsyn ⊢
  clear HS
  obtain ⟨X, Hx⟩ : ∃ X : Nat → Nat, Hid (xs d = X) := ⟨_, rfl⟩
  have hx0 : Hid (X 0 = 0) := by rw [← Hx.out]; rfl
  have hxl : Hid (∀ n, X n < 256) := fun n => by rw [← Hx.out]; exact Hm.xs_lt d n
  have Hy : Hid (∀ n, d / 2 ^ n % 2 = 1 → X (n + 1) = X n ^^^ col n) := fun n h => by rw [← Hx.out]; exact Hm.xs_yes d n h
  have Hn : Hid (∀ n, ¬ d / 2 ^ n % 2 = 1 → X (n + 1) = X n) := fun n h => by rw [← Hx.out]; exact Hm.xs_no d n h
  rw [Hx.out] at Hsyn
  clear Hx
  have hT0 := hT.lt
  have hbl := hc.lt
  have HC : Hid (CodeAt w b) := hc
  have HT : Hid (TabW w) := hT
  clear hc hT
  refine (callsIn_wide (n := 10)).1 ?_
  refine callsIn_of_wp_marks Tryd.func62 rfl trivial ?_ rfl
  simp only [Tryd.ntmps62, List.size_toArray, List.length_cons, List.length_nil, Nat.reduceAdd, Nat.reduceSub, Array.replicate_succ, Array.replicate_zero, List.push_toArray, List.append_toArray, List.nil_append, List.cons_append]
  refine wpIn_wide.2 ?_
  go_wp2_with (go_at_call 79; refine (ones64_any _ _).mono ?_; rintro e w' ⟨rfl, rfl⟩)
  obtain ⟨V, hV⟩ : ∃ V, ((w.alloc (.cells #[.pointer (some ⟨b, 0, none⟩)] 54)).alloc (.cells #[.int .u8 (k : Int)] 5)).alloc (.cells #[.int .u64 (d : Int)] 47) = V := ⟨_, rfl⟩
  obtain ⟨sV, a0, a1, a2, hSV⟩ := box3 w _ _ _ _ _ _ V hV
  rw [hV]
  clear hV
  have hBV : Below w.heap.size w V := below_stay (Below.refl _ w) hSV (Nat.le_refl _)
  have hTV : TabW V := HT.out.below hBV hT0
  have hCV : CodeAt V b := HC.out.below hBV hbl
  obtain ⟨B, hB⟩ : ∃ B, w.heap.size = B := ⟨_, rfl⟩
  rw [hB] at hT0 hbl sV a0 a1 a2 hSV hBV ⊢
  clear HC HT hSV
  refine (wpIn_wide (n := 10)).1 (rangeC rfl (enters_of Tryd.func95 (by kernel_rfl) rfl) (ones64_seq (B + 1 + 1) d hd V a2.lt a2.1 hTV) (fun _ => rfl)
    (fun x => x = B + 1) (by rintro x rfl; constructor <;> omega) (by rintro x rfl; omega)
    (SyI B b k X w) (fun _ _ _ => False)
    (by rintro x A C ⟨h1, h2, h3, h4⟩ hs; exact ⟨h1.stay hs, h2.stay hs, h3.stay hs, below_stay h4 hs (by omega)⟩)
    (fun _ _ _ _ h _ => h.elim) ⟨a0, by rw [hx0.out]; simpa using a1, hCV, hBV⟩
    (by rintro x W hx hp ⟨h1, h2, h3, h4⟩
        exact ⟨h1, by rw [Hn.out x hp]; exact h2, h3, h4⟩) ?round ?done (fun _ _ _ _ _ _ _ h => h.elim))
  case round =>
    rintro l x W W2 hx hp ⟨h1, h2, h3, h4⟩
    have cell := h3 x (by omega)
    have hcl := Hm.col_lt x
    have hxc := Hy.out x hp
    obtain ⟨c, Hc⟩ : ∃ c, Hid (col x = c) := ⟨_, rfl⟩
    rw [Hc.out] at cell hcl hxc
    obtain ⟨z, hz, Hz⟩ : ∃ z, z < 256 ∧ Hid (k ^^^ X x = z) := ⟨_, Hm.xor_lt hk (hxl.out x), rfl⟩
    rw [Hz.out] at h2
    have ex := u8_xor_nat z c hz hcl
    have fin : Hid (Keep (fun x => x = B + 1) W2 (W2.setCell ⟨B + 1, 0, none⟩ (.int .u8 ((z ^^^ c : Nat) : Int))).drew ∧ SyI B b k X w (x + 1) (W2.setCell ⟨B + 1, 0, none⟩ (.int .u8 ((z ^^^ c : Nat) : Int))).drew) := by
      refine ⟨((Keep.refl (fun x => x = B + 1) W2).set (c := B + 1) rfl _).drew, SyI.drew ⟨h1.other (by omega) _, ?_, h3.of (Below.heap_setCell W2 ⟨B + 1, 0, none⟩ _ b (by simp; omega)), h4.setCell (p := ⟨B + 1, 0, none⟩) (by simp) _⟩⟩
      rw [hxc, ← Nat.xor_assoc, Hz.out]
      exact h2.set _
    have q0 := h1.1; have q1 := h2.1; have f1 := h2.2
    have nb : b ≠ B + 1 := by omega
    have nB : B ≠ B + 1 := by omega
    clear h1 h2 h3 h4 hp hxc Hy Hn hx0 hxl Hsyn
    gi_wp2
    try (refine ⟨trivial, ?_⟩)
    try gi_wp2
    gi_region
    all_goals (try gi_wp2)
    all_goals exact fin.out
  case done =>
    rintro D W hD ⟨h1, h2, h3, h4⟩ hK
    have l72 := h3 72 (by omega)
    have l73 := h3 73 (by omega)
    have c72 := Hm.col_lt 72
    have c73 := Hm.col_lt 73
    obtain ⟨z, hz, Hz⟩ : ∃ z, z < 256 ∧ Hid (k ^^^ X 64 = z) := ⟨_, Hm.xor_lt hk (hxl.out 64), rfl⟩
    rw [Hz.out] at h2 Hsyn
    obtain ⟨u, Hu⟩ : ∃ u, Hid (col 72 = u) := ⟨_, rfl⟩
    obtain ⟨v, Hv⟩ : ∃ v, Hid (col 73 = v) := ⟨_, rfl⟩
    rw [Hu.out] at l72 c72
    rw [Hv.out] at l73 c73
    have Hap : Hid (ap a 72 = if a % 2 = 1 then u else 0) := by show _ = _; unfold ap; rw [Hu.out]
    have Hpp : Hid (ap p 73 = if p % 2 = 1 then v else 0) := by show _ = _; unfold ap; rw [Hv.out]
    have q0 := h1.1; have q1 := h2.1; have f1 := h2.2
    have nb : b ≠ B + 1 := by omega
    have nB : B ≠ B + 1 := by omega
    have ha := low_ask a
    have hp := low_ask p
    have H2 : Hid (Box W (B + 1) (.int .u8 (z : Int))) := h2
    have H4 : Hid (Below B w W) := h4
    have HK : Hid (W.heap[D]? = some (.deferred (some []))) := hK
    clear h1 h2 h3 h4 hK Hy Hn hx0 hxl Hu Hv
    by_cases h1 : a % 2 = 1
    · have g1 : (bits .and .i64 a 1 == 1) = true := by rw [ha]; simp [h1]
      have x1 := u8_xor_nat z u hz c72
      have r1 := Hm.xor_lt hz c72
      obtain ⟨k1, k2, k3⟩ := sy_leaves H2.out HK.out (by omega) H4.out (.int .u8 ((z ^^^ u : Nat) : Int))
      have K1 : Hid _ := k1
      have K2 : Hid _ := k2
      have K3 : Hid _ := k3
      clear k1 k2 k3
      by_cases h2 : p % 2 = 1
      · have g2 : (bits .and .i64 p 1 == 1) = true := by rw [hp]; simp [h2]
        have x2 := u8_xor_nat (z ^^^ u) v r1 c73
        have hr : Hid (S = z ^^^ u ^^^ v) := by show _ = _; rw [Hsyn.out, Hap.out, Hpp.out, if_pos h1, if_pos h2]
        obtain ⟨k1, k2, k3⟩ := sy_leaves K1.out K2.out (by omega) K3.out (.int .u8 ((z ^^^ u ^^^ v : Nat) : Int))
        have L2 : Hid _ := k2
        have L3 : Hid _ := k3
        clear ha hp h1 h2 k1 k2 k3
        go_wp2
        go_region
        go_wp2
        go_region
        go_wp2
        refine ⟨by simp, .inl ⟨_, _, rfl, run_takeDeferred L2.out, ?_⟩⟩
        refine ⟨_, results_tmp rfl _ _ _, ?_, by rw [hB]; exact sy_shut L2.out (by omega) L3.out⟩
        rw [hr.out]; rfl
      · have g2 : (bits .and .i64 p 1 == 1) = false := by rw [hp]; simp [h2]
        have hr : Hid (S = z ^^^ u) := by show _ = _; rw [Hsyn.out, Hap.out, Hpp.out, if_pos h1, if_neg h2, Nat.xor_zero]
        clear ha hp h1 h2
        go_wp2
        go_region
        go_wp2
        refine ⟨by simp, .inl ⟨_, _, rfl, run_takeDeferred K2.out, ?_⟩⟩
        refine ⟨_, results_tmp rfl _ _ _, ?_, by rw [hB]; exact sy_shut K2.out (by omega) K3.out⟩
        rw [hr.out]; rfl
    · have g1 : (bits .and .i64 a 1 == 1) = false := by rw [ha]; simp [h1]
      by_cases h2 : p % 2 = 1
      · have g2 : (bits .and .i64 p 1 == 1) = true := by rw [hp]; simp [h2]
        have x2 := u8_xor_nat z v hz c73
        have hr : Hid (S = z ^^^ v) := by show _ = _; rw [Hsyn.out, Hap.out, Hpp.out, if_neg h1, if_pos h2, Nat.xor_zero]
        obtain ⟨k1, k2, k3⟩ := sy_leaves H2.out HK.out (by omega) H4.out (.int .u8 ((z ^^^ v : Nat) : Int))
        have L2 : Hid _ := k2
        have L3 : Hid _ := k3
        clear ha hp h1 h2 k1 k2 k3
        go_wp2
        go_region
        go_wp2
        refine ⟨by simp, .inl ⟨_, _, rfl, run_takeDeferred L2.out, ?_⟩⟩
        refine ⟨_, results_tmp rfl _ _ _, ?_, by rw [hB]; exact sy_shut L2.out (by omega) L3.out⟩
        rw [hr.out]; rfl
      · have g2 : (bits .and .i64 p 1 == 1) = false := by rw [hp]; simp [h2]
        have hr : Hid (S = z) := by show _ = _; rw [Hsyn.out, Hap.out, Hpp.out, if_neg h1, if_neg h2, Nat.xor_zero, Nat.xor_zero]
        clear ha hp h1 h2
        go_wp2
        refine ⟨by simp, .inl ⟨_, _, rfl, run_takeDeferred HK.out, ?_⟩⟩
        refine ⟨_, results_tmp rfl _ _ _, ?_, by rw [hB]; exact sy_shut HK.out (by omega) H4.out⟩
        rw [hr.out]; rfl
end Go.Proofs.YtdjknaafefnlcaaDoor

/-
  The check bits; the verdict of a word.
-/
namespace Go.Proofs.YtdjknaafefnlcaaDoor
open Go.RowKit Go.Shelf
open Bm (wt wtK cntW)
open Hm (col onesOf nOf idx kd pl xs ap syn)
attribute [local go_sem] Oper.semAt_some

set_option maxHeartbeats 400000 in
theorem check_any (b d : Nat) (a p : Int) (hd : d < 18446744073709551616) (w : World) (hc : CodeAt w b) (hT : TabW w) :
    Calls Tryd.prog 30 #[.pointer (some ⟨b, 0, none⟩), .int .u64 (d : Int), .int .i64 a, .int .i64 p] w fun e w' => e = .returned (.int .u8 (syn d 0 a p : Int)) ∧ Below w.heap.size w w' := by
  have H : Hid (Calls Tryd.prog 62 #[.pointer (some ⟨b, 0, none⟩), .int .u64 (d : Int), .int .u8 0, .int .i64 a, .int .i64 p] w fun e w' => e = .returned (.int .u8 (syn d 0 a p : Int)) ∧ Below w.heap.size w w') := syndrome_any b d 0 a p hd (by omega) w hc hT
  clear hc hT
  go_enter Tryd.func30, Tryd.ntmps30
  go_wp2_with (go_at_call 62; refine (H.out).mono ?_; rintro e w' ⟨rfl, hB⟩)
  go_ret
  exact ⟨rfl, hB⟩

/-- the data that are told: with the bit turned, if it is one of them -/
def fx (d s : Nat) : Nat := if kd s = 1 ∧ pl s < 64 then d ^^^ 2 ^ (pl s).toNat else d
set_option maxRecDepth 100000 in
set_option maxHeartbeats 1000000 in
theorem decode_any (b d k : Nat) (a : Int) (hd : d < 18446744073709551616) (hk : k < 256) (w : World) (hc : CodeAt w b) (hT : TabW w) :
    Calls Tryd.prog 39 #[.pointer (some ⟨b, 0, none⟩), .int .u64 (d : Int), .int .u8 (k : Int), .int .i64 a] w fun e w' =>
      e = .returned (.tuple #[.int .u64 (fx d (syn d k a 0) : Int), .int .i64 (kd (syn d k a 0)), .int .i64 (pl (syn d k a 0))]) ∧ Below w.heap.size w w' := by
  have H : Hid (Calls Tryd.prog 62 #[.pointer (some ⟨b, 0, none⟩), .int .u64 (d : Int), .int .u8 (k : Int), .int .i64 a, .int .i64 0] w fun e w' => e = .returned (.int .u8 (syn d k a 0 : Int)) ∧ Below w.heap.size w w') := syndrome_any b d k a 0 hd hk w hc hT
  have hbl := hc.lt
  have HC : Hid (CodeAt w b) := hc
  have hs := Hm.syn_lt d k a 0 hk
  obtain ⟨s, Hs⟩ : ∃ s, syn d k a 0 = s := ⟨_, rfl⟩
  rw [Hs] at H hs ⊢
  have ht := told s
  have hf : Hid (fx d s = if kd s = 1 ∧ pl s < 64 then d ^^^ 2 ^ (pl s).toNat else d) := rfl
  have hcl : Hid (∀ w, CodeAt w b → Calls Tryd.prog 71 #[.pointer (some ⟨b, 0, none⟩), .int .u8 (s : Int)] w fun e w' => e = .returned (.tuple #[.int .i64 (kd s), .int .i64 (pl s)]) ∧ w' = w) := fun w hw => classify_any b s hs w hw
  obtain ⟨y, hy⟩ : ∃ y, fx d s = y := ⟨_, rfl⟩
  rw [hy] at hf ⊢
  have hidx := idx_lt s 74 0
  obtain ⟨K, hK⟩ : ∃ K, kd s = K := ⟨_, rfl⟩
  obtain ⟨L, hL⟩ : ∃ L, pl s = L := ⟨_, rfl⟩
  rw [hK, hL] at ht hcl hf ⊢
  have hc3 : (K = 1 ∧ 0 ≤ L ∧ L < 64 ∧ y = d ^^^ 2 ^ L.toNat) ∨ (K = 1 ∧ 64 ≤ L ∧ L < 72 ∧ y = d) ∨ (K ≠ 1 ∧ y = d) := by
    have hf := hf.out
    by_cases h1 : K = 1 ∧ L < 64
    · rw [if_pos h1] at hf
      exact .inl ⟨h1.1, by omega, h1.2, hf⟩
    · rw [if_neg h1] at hf
      by_cases h2 : K = 1
      · exact .inr (.inl ⟨h2, by omega, by omega, hf⟩)
      · exact .inr (.inr ⟨h2, hf⟩)
  clear hc hT hf hK hL hy ht hidx Hs
  rcases hc3 with ⟨rfl, h1, h2, hy⟩ | ⟨rfl, h1, h2, rfl⟩ | ⟨h1, rfl⟩
  · obtain ⟨i, rfl⟩ := Int.eq_ofNat_of_zero_le h1
    have hx := flip64 d i hd (by omega)
    rw [Int.toNat_natCast] at hy
    subst hy
    go_enter Tryd.func39, Tryd.ntmps39
    go_wp2_with (first | (go_at_call 62; refine (H.out).mono ?_; rintro e w' ⟨rfl, hB⟩) | (go_at_call 71; refine (hcl.out _ (HC.out.below hB hbl)).mono ?_; rintro e w' ⟨rfl, rfl⟩))
    go_ret3
    exact ⟨by first | rfl | (rw [← hx]; rfl), hB⟩
  · go_enter Tryd.func39, Tryd.ntmps39
    go_wp2_with (first | (go_at_call 62; refine (H.out).mono ?_; rintro e w' ⟨rfl, hB⟩) | (go_at_call 71; refine (hcl.out _ (HC.out.below hB hbl)).mono ?_; rintro e w' ⟨rfl, rfl⟩))
    go_ret3
    exact ⟨rfl, hB⟩
  · have hd1 : (K == 1) = false := by simpa using h1
    clear h1
    go_enter Tryd.func39, Tryd.ntmps39
    go_wp2_with (first | (go_at_call 62; refine (H.out).mono ?_; rintro e w' ⟨rfl, hB⟩) | (go_at_call 71; refine (hcl.out _ (HC.out.below hB hbl)).mono ?_; rintro e w' ⟨rfl, rfl⟩))
    go_ret3
    exact ⟨rfl, hB⟩
end Go.Proofs.YtdjknaafefnlcaaDoor

/-
  Layer 6's mathematics: lines merged, words of bytes.
-/
namespace Go.Proofs.YtdjknaafefnlcaaDoor.Ln

/-- two lines merged by a mask -/
def mrg (F G : Nat → Int) (m i : Nat) : Int := if m / 2 ^ i % 2 = 1 then G i else F i
/-- merged below k alone -/
def mrgK (F G : Nat → Int) (m k i : Nat) : Int := if i < k then mrg F G m i else F i
theorem mrgK_zero (F G : Nat → Int) (m : Nat) : mrgK F G m 0 = F := by
  funext i; unfold mrgK; rw [if_neg (by omega)]
theorem mrgK_skip (F G : Nat → Int) (m k : Nat) (h : ¬ m / 2 ^ k % 2 = 1) (i : Nat) : mrgK F G m k i = mrgK F G m (k + 1) i := by
  unfold mrgK
  by_cases h1 : i < k
  · rw [if_pos h1, if_pos (by omega)]
  · rw [if_neg h1]
    by_cases h2 : i = k
    · subst h2
      rw [if_pos (by omega)]; unfold mrg; rw [if_neg h]
    · rw [if_neg (by omega)]
theorem mrgK_take (F G : Nat → Int) (m k : Nat) (h : m / 2 ^ k % 2 = 1) (i : Nat) : (if i = k then G k else mrgK F G m k i) = mrgK F G m (k + 1) i := by
  unfold mrgK
  by_cases h2 : i = k
  · subst h2
    rw [if_pos rfl, if_pos (by omega)]; unfold mrg; rw [if_pos h]
  · rw [if_neg h2]
    by_cases h1 : i < k
    · rw [if_pos h1, if_pos (by omega)]
    · rw [if_neg h1, if_neg (by omega)]
theorem mrgK_all (F G : Nat → Int) (m i : Nat) (h : i < 64) : mrgK F G m 64 i = mrg F G m i := by
  unfold mrgK; rw [if_pos h]

theorem bt_iff (m i : Nat) : m / 2 ^ i % 2 = 1 ↔ m.testBit i = true := by
  rw [Nat.testBit_eq_decide_div_mod_eq]; simp
theorem mrg_bit (F G : Nat → Int) (m i : Nat) : mrg F G m i = if m.testBit i = true then G i else F i := by
  unfold mrg
  by_cases h : m / 2 ^ i % 2 = 1
  · rw [if_pos h, if_pos ((bt_iff m i).1 h)]
  · rw [if_neg h, if_neg (fun e => h ((bt_iff m i).2 e))]
theorem mrg_not (F G : Nat → Int) (m i : Nat) (hm : m < 18446744073709551616) (hi : i < 64) : mrg (mrg F G m) G (18446744073709551615 - m) i = G i := by
  rw [mrg_bit, mrg_bit, show 18446744073709551615 - m = 2 ^ 64 - (m + 1) from by omega, Nat.testBit_two_pow_sub_succ hm]
  cases m.testBit i <;> simp [hi]
theorem mrg_same (F G : Nat → Int) (m i : Nat) : mrg (mrg F G m) F m i = F i := by
  rw [mrg_bit, mrg_bit]
  cases m.testBit i <;> simp
theorem mrg_or (F G : Nat → Int) (x y i : Nat) : mrg (mrg F G x) G y i = mrg F G (x ||| y) i := by
  rw [mrg_bit, mrg_bit, mrg_bit, Nat.testBit_or]
  cases x.testBit i <;> cases y.testBit i <;> simp
theorem mrg_over (F G H : Nat → Int) (x i : Nat) : mrg (mrg F G x) H x i = mrg F H x i := by
  rw [mrg_bit, mrg_bit, mrg_bit]
  cases x.testBit i <;> simp
theorem mrg_apart (F G H : Nat → Int) (x z i : Nat) (h : z.testBit i = true → x.testBit i = false) : mrg (mrg F G x) H z i = mrg (mrg F H z) G x i := by
  rw [mrg_bit, mrg_bit, mrg_bit, mrg_bit]
  cases h1 : z.testBit i
  · cases x.testBit i <;> simp
  · rw [h h1]; simp
theorem mrg_none (F G : Nat → Int) (i : Nat) : mrg F G 0 i = F i := by
  rw [mrg_bit]; simp
theorem mrg_all (F G : Nat → Int) (i : Nat) (h : i < 64) : mrg F G 18446744073709551615 i = G i := by
  rw [mrg_bit, show 18446744073709551615 = 2 ^ 64 - 1 from rfl, Nat.testBit_two_pow_sub_one]; simp [h]
/-- n digits of base 256, from the place k on -/
def val (f : Nat → Nat) : Nat → Nat → Nat
  | 0, _ => 0
  | n + 1, k => f k + 256 * val f n (k + 1)
theorem val_top (f : Nat → Nat) : ∀ n k, val f (n + 1) k = val f n k + f (k + n) * 256 ^ n
  | 0, k => by simp [val]
  | n + 1, k => by
    rw [val, val_top f n (k + 1), val, Nat.mul_add, show k + (n + 1) = k + 1 + n by omega, Nat.pow_succ]
    have : 256 * (f (k + 1 + n) * 256 ^ n) = f (k + 1 + n) * (256 ^ n * 256) := by
      rw [Nat.mul_comm 256, Nat.mul_assoc]
    omega
theorem val_lt (f : Nat → Nat) (n : Nat) : ∀ k, (∀ j, k ≤ j → j < k + n → f j < 256) → val f n k < 256 ^ n := by
  induction n with
  | zero => intro k _; simp [val]
  | succ n ih =>
    intro k h
    have h1 := ih (k + 1) (fun j a b => h j (by omega) (by omega))
    have h2 := h k (by omega) (by omega)
    rw [val, Nat.pow_succ]
    omega
theorem val_div (f : Nat → Nat) (n k : Nat) (h : f k < 256) : val f (n + 1) k / 256 = val f n (k + 1) := by
  rw [val]; omega
theorem val_mod (f : Nat → Nat) (n k : Nat) (h : f k < 256) : val f (n + 1) k % 256 = f k := by
  rw [val]; omega
theorem val_digit (f : Nat → Nat) : ∀ (i n k : Nat), (∀ j, k ≤ j → j < k + n → f j < 256) → i < n → val f n k / 256 ^ i % 256 = f (k + i)
  | 0, n, k, h, hi => by
    obtain ⟨m, rfl⟩ : ∃ m, n = m + 1 := ⟨n - 1, by omega⟩
    rw [Nat.pow_zero, Nat.div_one, val_mod f m k (h k (by omega) (by omega)), Nat.add_zero]
  | i + 1, n, k, h, hi => by
    obtain ⟨m, rfl⟩ : ∃ m, n = m + 1 := ⟨n - 1, by omega⟩
    rw [Nat.pow_succ, Nat.mul_comm, ← Nat.div_div_eq_div_mul, val_div f m k (h k (by omega) (by omega)), val_digit f i m (k + 1) (fun j a b => h j (by omega) (by omega)) (by omega), show k + 1 + i = k + (i + 1) by omega]
theorem val_congr (f g : Nat → Nat) (n : Nat) : ∀ k, (∀ j, k ≤ j → j < k + n → f j = g j) → val f n k = val g n k := by
  induction n with
  | zero => intro k _; rfl
  | succ n ih => intro k h; rw [val, val, h k (by omega) (by omega), ih (k + 1) (fun j a b => h j (by omega) (by omega))]
theorem or_top (x b i : Nat) (hx : x < 256 ^ i) : x ||| b * 256 ^ i = x + b * 256 ^ i := by
  have e : (256 : Nat) ^ i = 2 ^ (8 * i) := by rw [Nat.pow_mul]
  rw [e] at hx ⊢
  rw [Nat.or_comm, Nat.mul_comm, ← Nat.two_pow_add_eq_or_of_lt hx, Nat.add_comm]
/-- the word k of a line -/
def wrd (F : Nat → Int) (k : Nat) : Nat := val (fun i => (F i).toNat) 8 (8 * k)
theorem wrd_lt (F : Nat → Int) (k : Nat) (h : ∀ i, i < 64 → 0 ≤ F i ∧ F i < 256) (hk : k < 8) : wrd F k < 18446744073709551616 :=
  val_lt _ 8 (8 * k) fun j _ hj => by have := h j (by omega); omega
theorem wrd_byte (F : Nat → Int) (k i : Nat) (h : ∀ i, i < 64 → 0 ≤ F i ∧ F i < 256) (hk : k < 8) (hi : i < 8) : ((wrd F k / 256 ^ i % 256 : Nat) : Int) = F (8 * k + i) := by
  unfold wrd
  rw [val_digit _ i 8 (8 * k) (fun j _ hj => by have := h j (by omega); show (F j).toNat < 256; omega) hi]
  have := h (8 * k + i) (by omega)
  show ((F (8 * k + i)).toNat : Int) = _
  omega
/-- a digit's sign -/
def hexd (n : Nat) : Nat := if n < 10 then 48 + n else 87 + n
/-- the sign at the place j of a line in digits -/
def hxn (F : Nat → Int) (j : Nat) : Nat := hexd (if j % 2 = 0 then (F (j / 2)).toNat / 16 else (F (j / 2)).toNat % 16)
/-- n signs of a line in digits -/
def hxl (F : Nat → Int) (n : Nat) : List UInt8 := (List.range n).map fun j => UInt8.ofNat (hxn F j)
theorem hexd_lt (n : Nat) (h : n < 16) : hexd n < 256 := by unfold hexd; split <;> omega
theorem hxl_len (F : Nat → Int) (n : Nat) : (hxl F n).length = n := by simp [hxl]
theorem hxl_two (F : Nat → Int) (k : Nat) : hxl F (2 * (k + 1)) = hxl F (2 * k) ++ [UInt8.ofNat (hexd ((F k).toNat / 16)), UInt8.ofNat (hexd ((F k).toNat % 16))] := by
  unfold hxl
  rw [show 2 * (k + 1) = 2 * k + 1 + 1 by omega, List.range_succ, List.range_succ]
  simp only [List.map_append, List.map_cons, List.map_nil, List.append_assoc, List.cons_append, List.nil_append]
  have h1 : hxn F (2 * k) = hexd ((F k).toNat / 16) := by unfold hxn; rw [if_pos (by omega), show 2 * k / 2 = k by omega]
  have h2 : hxn F (2 * k + 1) = hexd ((F k).toNat % 16) := by unfold hxn; rw [if_neg (by omega), show (2 * k + 1) / 2 = k by omega]
  rw [h1, h2]
end Go.Proofs.YtdjknaafefnlcaaDoor.Ln

/-
  Layer 9's mathematics: how much two are unlike, word by word; bits turned and set.
-/
namespace Go.Proofs.YtdjknaafefnlcaaDoor.Rw
open Go Go.RowKit Bm

theorem wtK_nil (k x : Nat) (h : wtK k x = 0) (hx : x < 2 ^ k) : x = 0 := by
  induction k generalizing x with
  | zero => simpa using hx
  | succ k ih =>
    simp only [wtK] at h
    have := ih (x / 2) (by omega) (by rw [Nat.pow_succ] at hx; omega)
    omega
theorem wt_xor_le (a b : Nat) : wt (a ^^^ b) ≤ wt a + wt b := by
  have := wtK_xor 64 a b
  unfold wt; omega
theorem wt8 (x : Nat) (h : x < 256) : wt x ≤ 8 := by
  rw [← wtK_wt 8 x (by decide) h]; exact wtK_le 8 x

/-- how unlike two bytes are -/
def dl (m x y : Int) : Nat := if m = 1 then wt (x.toNat ^^^ y.toNat) else if x = y then 0 else 1
theorem dl_self (m x : Int) : dl m x x = 0 := by
  unfold dl
  split
  · rw [Nat.xor_self]; exact wt_zero
  · simp
theorem dl_symm (m x y : Int) : dl m x y = dl m y x := by
  unfold dl
  by_cases h : m = 1
  · rw [if_pos h, if_pos h, Nat.xor_comm]
  · rw [if_neg h, if_neg h]
    by_cases e : x = y
    · rw [if_pos e, if_pos e.symm]
    · rw [if_neg e, if_neg (fun e' => e e'.symm)]
theorem dl_tri (m x y z : Int) : dl m x z ≤ dl m x y + dl m y z := by
  unfold dl
  by_cases h : m = 1
  · rw [if_pos h, if_pos h, if_pos h]
    have e : x.toNat ^^^ z.toNat = (x.toNat ^^^ y.toNat) ^^^ (y.toNat ^^^ z.toNat) := by
      rw [Nat.xor_assoc, ← Nat.xor_assoc y.toNat, Nat.xor_self, Nat.zero_xor]
    rw [e]; exact wt_xor_le _ _
  · rw [if_neg h, if_neg h, if_neg h]
    by_cases e : x = z
    · rw [if_pos e]; omega
    · rw [if_neg e]
      by_cases e1 : x = y
      · rw [if_neg (fun e2 => e (e1.trans e2))]; omega
      · rw [if_neg e1]; omega
theorem dl_zero (m x y : Int) (hx : 0 ≤ x ∧ x < 256) (hy : 0 ≤ y ∧ y < 256) (h : dl m x y = 0) : x = y := by
  unfold dl at h
  split at h
  · have h2 : x.toNat ^^^ y.toNat < 2 ^ 8 := Nat.xor_lt_two_pow (by omega) (by omega)
    rw [← wtK_wt 8 _ (by decide) h2] at h
    have := wtK_nil 8 _ h h2
    have e : x.toNat = y.toNat := by
      have e2 : x.toNat ^^^ y.toNat ^^^ y.toNat = y.toNat := by rw [this, Nat.zero_xor]
      rwa [Nat.xor_assoc, Nat.xor_self, Nat.xor_zero] at e2
    omega
  · split at h
    · assumption
    · omega
theorem dl_le (m x y : Int) (hx : 0 ≤ x ∧ x < 256) (hy : 0 ≤ y ∧ y < 256) : dl m x y ≤ 8 ∧ (m ≠ 1 → dl m x y ≤ 1) := by
  unfold dl
  split
  · exact ⟨wt8 _ (Nat.xor_lt_two_pow (n := 8) (by omega) (by omega)), fun h => absurd ‹m = 1› h⟩
  · split <;> exact ⟨by omega, fun _ => by omega⟩

/-- the same of n bytes from the place o on -/
def sm (m : Int) (F G : Nat → Int) (o : Nat) : Nat → Nat
  | 0 => 0
  | j + 1 => sm m F G o j + dl m (F (o + j)) (G (o + j))
theorem sm_symm (m : Int) (F G : Nat → Int) (o n : Nat) : sm m F G o n = sm m G F o n := by
  induction n with
  | zero => rfl
  | succ n ih => rw [sm, sm, ih, dl_symm]
theorem sm_tri (m : Int) (F G H : Nat → Int) (o n : Nat) : sm m F H o n ≤ sm m F G o n + sm m G H o n := by
  induction n with
  | zero => exact Nat.le_refl _
  | succ n ih =>
    have := dl_tri m (F (o + n)) (G (o + n)) (H (o + n))
    rw [sm, sm, sm]; omega
theorem sm_zero (m : Int) (F G : Nat → Int) (o n : Nat) (hF : ∀ i, i < n → 0 ≤ F (o + i) ∧ F (o + i) < 256) (hG : ∀ i, i < n → 0 ≤ G (o + i) ∧ G (o + i) < 256) (h : sm m F G o n = 0) : ∀ i, i < n → F (o + i) = G (o + i) := by
  induction n with
  | zero => intro i hi; omega
  | succ n ih =>
    rw [sm] at h
    intro i hi
    by_cases e : i = n
    · subst e; exact dl_zero m _ _ (hF _ hi) (hG _ hi) (by omega)
    · exact ih (fun j hj => hF j (by omega)) (fun j hj => hG j (by omega)) (by omega) i (by omega)
theorem sm_same (m : Int) (F G : Nat → Int) (o n : Nat) (h : ∀ i, i < n → F (o + i) = G (o + i)) : sm m F G o n = 0 := by
  induction n with
  | zero => rfl
  | succ n ih => rw [sm, ih (fun j hj => h j (by omega)), h n (by omega), dl_self]
/-- where one alone is unlike -/
theorem sm_one (m : Int) (F G : Nat → Int) (o n p : Nat) (hp : p < n) (h : ∀ i, i < n → i ≠ p → F (o + i) = G (o + i)) : sm m F G o n = dl m (F (o + p)) (G (o + p)) := by
  induction n with
  | zero => omega
  | succ n ih =>
    rw [sm]
    by_cases e : p = n
    · subst e
      rw [sm_same m F G o p fun i hi => h i (by omega) (by omega)]; omega
    · rw [ih (by omega) fun i hi => h i (by omega), h n (by omega) (fun x => e x.symm), dl_self]; omega
theorem sm_le (m : Int) (F G : Nat → Int) (o n : Nat) (hF : ∀ i, i < n → 0 ≤ F (o + i) ∧ F (o + i) < 256) (hG : ∀ i, i < n → 0 ≤ G (o + i) ∧ G (o + i) < 256) : sm m F G o n ≤ 8 * n := by
  induction n with
  | zero => exact Nat.le_refl _
  | succ n ih =>
    have h1 := ih (fun j hj => hF j (by omega)) (fun j hj => hG j (by omega))
    have h2 := (dl_le m _ _ (hF n (by omega)) (hG n (by omega))).1
    rw [sm]; omega
theorem sm_congr (m : Int) (F G F' G' : Nat → Int) (o o' n : Nat) (h : ∀ i, i < n → F (o + i) = F' (o' + i) ∧ G (o + i) = G' (o' + i)) : sm m F G o n = sm m F' G' o' n := by
  induction n with
  | zero => rfl
  | succ n ih => rw [sm, sm, ih fun i hi => h i (by omega), (h n (by omega)).1, (h n (by omega)).2]

/-- of the first k words, each of n bytes, the most -/
def mx (m : Int) (F G : Nat → Int) (n : Nat) : Nat → Nat
  | 0 => 0
  | w + 1 => max (mx m F G n w) (sm m F G (n * w) n)
theorem mx_symm (m : Int) (F G : Nat → Int) (n k : Nat) : mx m F G n k = mx m G F n k := by
  induction k with
  | zero => rfl
  | succ k ih => rw [mx, mx, ih, sm_symm]
theorem mx_tri (m : Int) (F G H : Nat → Int) (n k : Nat) : mx m F H n k ≤ mx m F G n k + mx m G H n k := by
  induction k with
  | zero => exact Nat.le_refl _
  | succ k ih =>
    have := sm_tri m F G H (n * k) n
    rw [mx, mx, mx]; omega
theorem mx_ge (m : Int) (F G : Nat → Int) (n k w : Nat) (h : w < k) : sm m F G (n * w) n ≤ mx m F G n k := by
  induction k with
  | zero => omega
  | succ k ih =>
    rw [mx]
    by_cases e : w = k
    · subst e; omega
    · have := ih (by omega); omega
theorem mx_le (m : Int) (F G : Nat → Int) (n k c : Nat) (h : ∀ w, w < k → sm m F G (n * w) n ≤ c) : mx m F G n k ≤ c := by
  induction k with
  | zero => exact Nat.zero_le _
  | succ k ih =>
    have h1 := ih fun w hw => h w (by omega)
    have h2 := h k (by omega)
    rw [mx]; omega
theorem idx_lt (n k w i : Nat) (hw : w < k) (hi : i < n) : n * w + i < n * k := by
  have : n * (w + 1) ≤ n * k := Nat.mul_le_mul_left n hw
  rw [Nat.mul_succ] at this; omega
theorem mx_bound (m : Int) (F G : Nat → Int) (n k : Nat) (hF : ∀ i, i < n * k → 0 ≤ F i ∧ F i < 256) (hG : ∀ i, i < n * k → 0 ≤ G i ∧ G i < 256) : mx m F G n k ≤ 8 * n :=
  mx_le m F G n k _ fun w hw => sm_le m F G _ n (fun i hi => hF _ (idx_lt n k w i hw hi)) (fun i hi => hG _ (idx_lt n k w i hw hi))
theorem mx_zero (m : Int) (F G : Nat → Int) (n k : Nat) (hn : 0 < n) (hF : ∀ i, i < n * k → 0 ≤ F i ∧ F i < 256) (hG : ∀ i, i < n * k → 0 ≤ G i ∧ G i < 256) : mx m F G n k = 0 ↔ ∀ i, i < n * k → F i = G i := by
  constructor
  · intro h i hi
    have hw : i / n < k := Nat.div_lt_of_lt_mul hi
    have h1 := mx_ge m F G n k (i / n) hw
    have h2 := sm_zero m F G (n * (i / n)) n (fun j hj => hF _ (idx_lt n k _ j hw hj)) (fun j hj => hG _ (idx_lt n k _ j hw hj)) (by omega) (i % n) (Nat.mod_lt _ hn)
    rwa [Nat.div_add_mod] at h2
  · intro h
    have := mx_le m F G n k 0 fun w hw => Nat.le_of_eq (sm_same m F G _ n fun i hi => h _ (idx_lt n k w i hw hi))
    omega
/-- where one byte alone is unlike -/
theorem mx_one (m : Int) (F G : Nat → Int) (n k p : Nat) (hn : 0 < n) (hp : p < n * k) (h : ∀ i, i < n * k → i ≠ p → F i = G i) : mx m F G n k = dl m (F p) (G p) := by
  have hw : p / n < k := Nat.div_lt_of_lt_mul hp
  have hd := Nat.div_add_mod p n
  have hs : sm m F G (n * (p / n)) n = dl m (F p) (G p) := by
    rw [sm_one m F G _ n (p % n) (Nat.mod_lt _ hn) fun i hi hne => h _ (idx_lt n k _ i hw hi) (by omega), hd]
  refine Nat.le_antisymm (mx_le m F G n k _ fun w hw' => ?_) (hs ▸ mx_ge m F G n k _ hw)
  by_cases e : w = p / n
  · subst e; omega
  · rw [sm_same m F G _ n fun i hi => h _ (idx_lt n k w i hw' hi) fun e' => e (by rw [← e', Nat.mul_add_div hn, Nat.div_eq_of_lt hi]; rfl)]
    exact Nat.zero_le _
/-- where in each word one byte at most is unlike -/
theorem mx_col (m : Int) (F G : Nat → Int) (n k p c : Nat) (hp : p < n) (h : ∀ i, i < n * k → i % n ≠ p → F i = G i) (hc : ∀ i, i < n * k → dl m (F i) (G i) ≤ c) : mx m F G n k ≤ c := by
  refine mx_le m F G n k _ fun w hw => ?_
  rw [sm_one m F G _ n p hp fun i hi hne => h _ (idx_lt n k w i hw hi) (by rw [Nat.mul_add_mod, Nat.mod_eq_of_lt hi]; exact hne)]
  exact hc _ (idx_lt n k w p hw hp)

/-! ### bits set and turned -/
/-- a byte with the bit r as v, 0 or 1 -/
def fc (x r v : Nat) : Nat := (x - (if x / 2 ^ r % 2 = 1 then 2 ^ r else 0)) + (if v = 1 then 2 ^ r else 0)
theorem fc_flip : ∀ x < 256, ∀ r < 8, x ^^^ 2 ^ r = fc x r (1 - x / 2 ^ r % 2) := by decide +kernel
theorem fc_stay : ∀ x < 256, ∀ r < 8, x = fc x r (x / 2 ^ r % 2) := by decide +kernel
theorem flip_wt : ∀ x < 256, ∀ r < 8, wtK 8 ((x ^^^ 2 ^ r) ^^^ x) = 1 ∧ (x ^^^ 2 ^ r) ≠ x ∧ (x ^^^ 2 ^ r) < 256 ∧ ((x ^^^ 2 ^ r) ^^^ x) < 256 := by decide +kernel
theorem dl_flip (m : Int) (x r : Nat) (hx : x < 256) (hr : r < 8) : dl m ((x ^^^ 2 ^ r : Nat) : Int) (x : Int) = 1 := by
  obtain ⟨h1, h2, h3, h4⟩ := flip_wt x hx r hr
  unfold dl
  split
  · rw [show ((x ^^^ 2 ^ r : Nat) : Int).toNat = x ^^^ 2 ^ r from rfl, show ((x : Int)).toNat = x from rfl, ← wtK_wt 8 _ (by decide) h4]; exact h1
  · rw [if_neg (by omega)]
/-- all of a chip's bytes as v -/
def chp (n : Nat) (c : Int) (F : Nat → Int) (v : Int) (i : Nat) : Int := if 0 < n ∧ ((i % n : Nat) : Int) = c then v else F i
end Go.Proofs.YtdjknaafefnlcaaDoor.Rw
