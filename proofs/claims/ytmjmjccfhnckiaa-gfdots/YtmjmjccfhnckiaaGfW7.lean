/-
  The iterator Powers, and the law GfDots.
-/
import Derived.RangeFuncNested
import Derived.RangeFuncBound
import Derived.RangeFuncCalls
import Derived.RangeFuncLeaves
import Derived.Shelf.Abstract
import Derived.Shelf.RegionOpen
import Derived.WalkKit
import Derived.OwnWalkIn
import Derived.TacticsInMore
import Derived.LoopNIn
import Derived.LoopIn
import Derived.Test.YtmjmjccfhnckiaaGfW6
namespace Go.Proofs.Ytmjmjccfhnckiaa
open Go.RowKit Go.Shelf
open Gf (eI lI gI dI pI)
attribute [local go_sem] Oper.semAt_some

/-- the cells of the blocks of T are as they were -/
def KeepC (T : Nat → Prop) (W W' : World) : Prop := ∀ b, T b → ∀ o, W'.cell? ⟨b, o, none⟩ = W.cell? ⟨b, o, none⟩
theorem keepC_t {T : Nat → Prop} {A B C : World} (h : KeepC T A B) (k : KeepC T B C) : KeepC T A C := fun b hb o => (k b hb o).trans (h b hb o)
theorem keepC_b {T : Nat → Prop} {w : World} (hT : ∀ b, T b → b < w.heap.size) (W : World) (l : Nat) (o o' : Obj) (hl : w.heap.size ≤ l) (_ : W.heap[l]? = some o) (_ : o.isCells = false) (_ : o.isWalk = false) : KeepC T W (W.putObj l o') := by
  intro b hb off
  have := hT b hb
  exact World.cell?_of_block (w := W) (World.putObj_heap_other (by simp; omega))
theorem grown_drewN (w : World) (n : Nat) (row : Option Nat) : w.grownBy (w.drewN n) row := ⟨rfl, rfl, rfl, Nat.le_refl _, fun _ _ _ => rfl⟩

set_option maxRecDepth 100000 in
set_option maxHeartbeats 2000000 in
theorem powers1_in (m : Nat) (hm : 2 ≤ m) (l nb fb ab b : Nat) (a n : Int) (ha : 0 ≤ a ∧ a < 256) (hn : n ≤ 300) (T : Nat → Prop) (tf : T fb) (ta : T ab) (tb : T b) (J Jx : List Nat → World → Prop) (hJ : ∀ s W k, J s W → J s (W.drewN k))
    (hY : ∀ (pre : List Nat) (x : Nat) (W : World), J pre W → pre.length < n.toNat → YieldAt Fence.wide (m - 1) Try.prog l #[.int .i64 (x : Int), .int .u8 (pI a x)] W fun e W' =>
      (e = .returned (.bool true) ∧ J (pre ++ [x]) W' ∧ KeepC T W W') ∨ (e = .returned (.bool false) ∧ Jx (pre ++ [x]) W'))
    (W : World) (cn : W.cell? ⟨nb, 0, none⟩ = some (.int .i64 n)) (cf : W.cell? ⟨fb, 0, none⟩ = some (.pointer (some ⟨b, 0, none⟩))) (ca : W.cell? ⟨ab, 0, none⟩ = some (.int .u8 a)) (hf : FldAt W b) (h0 : J [] W) :
    CallsIn Fence.wide m Try.prog 24 #[.func (.yield l) #[] #[], .pointer (some ⟨nb, 0, none⟩), .pointer (some ⟨fb, 0, none⟩), .pointer (some ⟨ab, 0, none⟩)] W fun e W' => (∃ v, e = .returned v) ∧
      ((∃ ys, ys = List.range n.toNat ∧ J ys W') ∨ (∃ pre, (∃ k, k ≤ n.toNat ∧ pre = List.range k) ∧ Jx pre W')) := by
  have h1 : 1 ≤ m := by omega
  refine callsIn_of_wp Try.func24 rfl trivial ?_ rfl
  simp only [Try.ntmps24, List.size_toArray, List.length_cons, List.length_nil, Nat.reduceAdd, Nat.reduceSub, Array.replicate_succ, Array.replicate_zero, List.push_toArray, List.append_toArray, List.nil_append, List.cons_append]
  gi_wp2
  gi_loopw [5, 8] (fun p i wr => ∃ (k : Nat) (y : Int), (k : Int) ≤ max n 0 ∧ 0 ≤ y ∧ y < 256 ∧ Hid (y = pI a k) ∧ i = .int .i64 k ∧ p = .int .u8 y ∧ J (List.range k) wr ∧ KeepC T W wr)
    (fun _ i _ => (n - intOf i).toNat)
  case atStart => exact ⟨0, 1, by omega, by omega, by omega, (Gf.pI_zero a).symm, rfl, rfl, h0, fun _ _ _ => rfl⟩
  case round =>
    obtain ⟨k, y, hk, hy0, hy1, Hy, rfl, rfl, hJs, hnx⟩ := hrel
    by_cases hlt : (k : Int) < n
    · obtain ⟨fn, tmps, assign, body, hy, hR⟩ := hY _ k wr hJs (by simp; omega)
      rw [← Hy.out] at hy
      gi_wp2
      refine hR.mono ?_
      rintro e W3 (⟨rfl, hJ3, hk3⟩ | ⟨rfl, hJx3⟩)
      · have hk4 := keepC_t hnx hk3
        have cf3 : W3.cell? ⟨fb, 0, none⟩ = some (.pointer (some ⟨b, 0, none⟩)) := (hk4 fb tf 0).trans cf
        have ca3 : W3.cell? ⟨ab, 0, none⟩ = some (.int .u8 a) := (hk4 ab ta 0).trans ca
        have hf3 : FldAt W3 b := hf.of (hk4 b tb)
        have hg := Gf.gI_bd y a
        have Hy' : Hid (gI y a = pI a ((k + 1 : Nat) : Int)) := by show _ = _; rw [show ((k + 1 : Nat) : Int) = (k : Int) + 1 from by omega, Gf.pI_step a k (by omega), Hy.out]
        gi_wp2_with (refine ⟨trivial, ?_⟩; gi_at_call 13; refine (callsIn_wide.2 (mul_any _ _ _ (by omega) (by omega) (by omega) (by omega) _ (by exact hf3))).mono ?_; rintro e w' ⟨rfl, q, rfl⟩)
        go_roundw
        case rel => exact ⟨k + 1, gI y a, by omega, hg.1, hg.2, Hy', by go_num, rfl, by rw [List.range_succ]; exact hJ _ _ _ hJ3, fun b hb o => hk4 b hb o⟩
        case measure => simp [intOf]; omega
      · gi_wp2
        refine bodyPost_ret (results_none rfl _ _ _) rfl ?_
        exact ⟨⟨_, rfl⟩, .inr ⟨_, ⟨k + 1, by omega, by rw [List.range_succ]⟩, hJx3⟩⟩
    · gi_wp2
      go_end0
      refine ⟨⟨_, rfl⟩, .inl ?_⟩
      rw [show n.toNat = k from by omega]
      exact hJs

theorem powers1_stops (m : Nat) (hm : 2 ≤ m) (nb fb ab b : Nat) (a n : Int) (ha : 0 ≤ a ∧ a < 256) (hn : n ≤ 300) (T : Nat → Prop) (tf : T fb) (ta : T ab) (tb : T b) (w : World)
    (hT : ∀ b, T b → b < w.heap.size) (hnb : nb < w.heap.size) (cn : w.cell? ⟨nb, 0, none⟩ = some (.int .i64 n)) (cf : w.cell? ⟨fb, 0, none⟩ = some (.pointer (some ⟨b, 0, none⟩))) (ca : w.cell? ⟨ab, 0, none⟩ = some (.int .u8 a)) (hf : FldAt w b) :
    SeqStopsK Fence.wide m Try.prog 24 #[.pointer (some ⟨nb, 0, none⟩), .pointer (some ⟨fb, 0, none⟩), .pointer (some ⟨ab, 0, none⟩)] (fun x : Nat => #[Value.int .i64 (x : Int), Value.int .u8 (pI a x)]) (KeepC T)
      (fun ys => ys = List.range n.toNat) (fun pre => ∃ k, k ≤ n.toNat ∧ pre = List.range k) n.toNat w := fun l J Jx W hW hJ _ hY h0 =>
  powers1_in m hm l nb fb ab b a n ha hn T tf ta tb J Jx (fun s W k h => hJ s W _ none h (grown_drewN W k none) (fun r e => by cases e)) hY W
    ((hW.cell (p := ⟨nb, 0, none⟩) hnb).trans cn) ((hW.cell (p := ⟨fb, 0, none⟩) (hT fb tf)).trans cf) ((hW.cell (p := ⟨ab, 0, none⟩) (hT ab ta)).trans ca) (hf.of fun o => hW.cell (p := ⟨b, o, none⟩) (hT b tb)) h0

set_option maxHeartbeats 1000000 in
theorem powers_in (m : Nat) (b : Nat) (a n : Int) (w : World) :
    CallsIn Fence.wide m Try.prog 20 #[.pointer (some ⟨b, 0, none⟩), .int .u8 a, .int .i64 n] w fun e w' =>
      e = .returned (.func (.func 24) #[] #[.pointer (some ⟨w.heap.size + 1 + 1, 0, none⟩), .pointer (some ⟨w.heap.size, 0, none⟩), .pointer (some ⟨w.heap.size + 1, 0, none⟩)]) ∧
      w' = ((w.alloc (.cells #[.pointer (some ⟨b, 0, none⟩)] 22)).alloc (.cells #[.int .u8 a] 5)).alloc (.cells #[.int .i64 n] 3) := by
  refine callsIn_of_wp Try.func20 rfl trivial ?_ rfl
  simp only [Try.ntmps20, List.size_toArray, List.length_cons, List.length_nil, Nat.reduceAdd, Nat.reduceSub, Array.replicate_succ, Array.replicate_zero, List.push_toArray, List.append_toArray, List.nil_append, List.cons_append]
  gi_wp2
  go_ret
  exact ⟨rfl, rfl⟩

theorem first_world (w : World) (x stop : Int) (W1 : World) (h : (((w.alloc (.cells #[.int .u8 x] 5)).alloc (.cells #[.int .i64 stop] 3)).alloc (.cells #[.bool false] 4)).alloc (.cells fieldCells 49) = W1) :
    Hid (W1.heap.size = w.heap.size + 4) ∧ W1.cell? ⟨w.heap.size, 0, none⟩ = some (.int .u8 x) ∧ W1.cell? ⟨w.heap.size + 1, 0, none⟩ = some (.int .i64 stop) ∧ W1.cell? ⟨w.heap.size + 1 + 1, 0, none⟩ = some (.bool false) ∧
      W1.frozen? ⟨w.heap.size + 1 + 1, 0, none⟩ = false ∧ FldAt W1 (w.heap.size + 1 + 1 + 1) ∧ Below w.heap.size w W1 := by
  have b1 := Boxed.new w 5 (.int .u8 x)
  have b2 := Boxed.new (w.alloc (.cells #[.int .u8 x] 5)) 3 (.int .i64 stop)
  have b3 := Boxed.new ((w.alloc (.cells #[.int .u8 x] 5)).alloc (.cells #[.int .i64 stop] 3)) 4 (.bool false)
  have hf := fldAt_new (((w.alloc (.cells #[.int .u8 x] 5)).alloc (.cells #[.int .i64 stop] 3)).alloc (.cells #[.bool false] 4)) 49
  simp only [World.size_alloc] at b2 b3 hf
  rw [← h]
  refine ⟨by simp [Hid], (((b1.alloc _).alloc _).alloc _).cell, ((b2.alloc _).alloc _).cell, (b3.alloc _).cell, (b3.alloc _).frozen, hf, ?_⟩
  exact ((((Below.refl _ w).alloc (Nat.le_refl _) _).alloc (by simp) _).alloc (by simp; omega) _).alloc (by simp; omega) _

theorem like_world (w : World) (x stop : Int) (W1 W2 : World) (h : ∃ k, W2 = W1.drewN k) (h1 : Hid (W1.heap.size = w.heap.size + 4)) (h2 : W1.cell? ⟨w.heap.size, 0, none⟩ = some (.int .u8 x)) (h3 : W1.cell? ⟨w.heap.size + 1, 0, none⟩ = some (.int .i64 stop))
    (h4 : W1.cell? ⟨w.heap.size + 1 + 1, 0, none⟩ = some (.bool false)) (h5 : W1.frozen? ⟨w.heap.size + 1 + 1, 0, none⟩ = false) (h6 : FldAt W1 (w.heap.size + 1 + 1 + 1)) (h7 : Below w.heap.size w W1) :
    Hid (W2.heap.size = w.heap.size + 4) ∧ W2.cell? ⟨w.heap.size, 0, none⟩ = some (.int .u8 x) ∧ W2.cell? ⟨w.heap.size + 1, 0, none⟩ = some (.int .i64 stop) ∧ W2.cell? ⟨w.heap.size + 1 + 1, 0, none⟩ = some (.bool false) ∧
      W2.frozen? ⟨w.heap.size + 1 + 1, 0, none⟩ = false ∧ FldAt W2 (w.heap.size + 1 + 1 + 1) ∧ Below w.heap.size w W2 := by
  obtain ⟨k, rfl⟩ := h
  exact ⟨h1, h2, h3, h4, h5, h6.drewN k, below_drewN h7 k⟩

theorem second_world (w : World) (x n stop : Int) (W2 W3 : World) (h : (((W2.alloc (.cells #[.int .i64 0] 3)).alloc (.cells #[.pointer (some ⟨w.heap.size + 1 + 1 + 1, 0, none⟩)] 22)).alloc (.cells #[.int .u8 x] 5)).alloc (.cells #[.int .i64 n] 3) = W3)
    (h2 : W2.cell? ⟨w.heap.size, 0, none⟩ = some (.int .u8 x)) (h3 : W2.cell? ⟨w.heap.size + 1, 0, none⟩ = some (.int .i64 stop))
    (h4 : W2.cell? ⟨w.heap.size + 1 + 1, 0, none⟩ = some (.bool false)) (h5 : W2.frozen? ⟨w.heap.size + 1 + 1, 0, none⟩ = false) (h6 : FldAt W2 (w.heap.size + 1 + 1 + 1)) (h7 : Below w.heap.size w W2) (l3 : w.heap.size + 1 + 1 + 1 < W2.heap.size) :
    Hid (W3.heap.size = W2.heap.size + 4) ∧ W3.cell? ⟨w.heap.size, 0, none⟩ = some (.int .u8 x) ∧ W3.cell? ⟨w.heap.size + 1, 0, none⟩ = some (.int .i64 stop) ∧ W3.cell? ⟨w.heap.size + 1 + 1, 0, none⟩ = some (.bool false) ∧
      W3.frozen? ⟨w.heap.size + 1 + 1, 0, none⟩ = false ∧ FldAt W3 (w.heap.size + 1 + 1 + 1) ∧
      W3.cell? ⟨W2.heap.size, 0, none⟩ = some (.int .i64 0) ∧ W3.frozen? ⟨W2.heap.size, 0, none⟩ = false ∧ W3.cell? ⟨W2.heap.size + 1, 0, none⟩ = some (.pointer (some ⟨w.heap.size + 1 + 1 + 1, 0, none⟩)) ∧
      W3.cell? ⟨W2.heap.size + 1 + 1, 0, none⟩ = some (.int .u8 x) ∧ W3.cell? ⟨W2.heap.size + 1 + 1 + 1, 0, none⟩ = some (.int .i64 n) ∧ Below w.heap.size w W3 := by
  have b1 := Boxed.new W2 3 (.int .i64 0)
  have b2 := Boxed.new (W2.alloc (.cells #[.int .i64 0] 3)) 22 (.pointer (some ⟨w.heap.size + 1 + 1 + 1, 0, none⟩))
  have b3 := Boxed.new ((W2.alloc (.cells #[.int .i64 0] 3)).alloc (.cells #[.pointer (some ⟨w.heap.size + 1 + 1 + 1, 0, none⟩)] 22)) 5 (.int .u8 x)
  have b4 := Boxed.new (((W2.alloc (.cells #[.int .i64 0] 3)).alloc (.cells #[.pointer (some ⟨w.heap.size + 1 + 1 + 1, 0, none⟩)] 22)).alloc (.cells #[.int .u8 x] 5)) 3 (.int .i64 n)
  simp only [World.size_alloc] at b2 b3 b4
  have hb : Below W2.heap.size W2 W3 := by
    rw [← h]; exact ((((Below.refl _ W2).alloc (Nat.le_refl _) _).alloc (by simp) _).alloc (by simp; omega) _).alloc (by simp; omega) _
  have e : W3.heap.size = W2.heap.size + 4 := by rw [← h]; simp
  refine ⟨e, (hb.cell (p := ⟨_, 0, none⟩) (by simp; omega)).trans h2, (hb.cell (p := ⟨_, 0, none⟩) (by simp; omega)).trans h3, (hb.cell (p := ⟨_, 0, none⟩) (by simp; omega)).trans h4, (hb.frozen (p := ⟨_, 0, none⟩) (by simp; omega)).trans h5, h6.of (fun o => hb.cell (p := ⟨_, o, none⟩) (by simp; omega)), ?_, ?_, ?_, ?_, ?_, h7.trans (hb.mono (by omega))⟩
  · rw [← h]; exact (((b1.alloc _).alloc _).alloc _).cell
  · rw [← h]; exact (((b1.alloc _).alloc _).alloc _).frozen
  · rw [← h]; exact ((b2.alloc _).alloc _).cell
  · rw [← h]; exact (b3.alloc _).cell
  · rw [← h]; exact b4.cell
/-- what holds between two rounds: B the first of the law's blocks, K the counter's -/
def DotI (B K : Nat) (x stop : Int) (pre : List Nat) (W : World) : Prop :=
  pre = List.range pre.length ∧ W.cell? ⟨K, 0, none⟩ = some (.int .i64 (pre.length : Int)) ∧ W.frozen? ⟨K, 0, none⟩ = false ∧ W.cell? ⟨B + 1 + 1, 0, none⟩ = some (.bool false) ∧ W.frozen? ⟨B + 1 + 1, 0, none⟩ = false ∧
  W.cell? ⟨B, 0, none⟩ = some (.int .u8 x) ∧ W.cell? ⟨B + 1, 0, none⟩ = some (.int .i64 stop) ∧ FldAt W (B + 1 + 1 + 1) ∧ (stop ≤ 0 ∨ (pre.length : Int) < stop)
/-- what holds where a round has left -/
def DotX (B K : Nat) (x stop : Int) (c : Code) (pre : List Nat) (W : World) : Prop :=
  (c = .ret ∧ pre ≠ List.range pre.length) ∨
  (c = .exit 0 ∧ W.cell? ⟨K, 0, none⟩ = some (.int .i64 stop) ∧ W.frozen? ⟨K, 0, none⟩ = false ∧ W.cell? ⟨B + 1 + 1, 0, none⟩ = some (.bool false) ∧ W.frozen? ⟨B + 1 + 1, 0, none⟩ = false ∧
    W.cell? ⟨B, 0, none⟩ = some (.int .u8 x) ∧ W.cell? ⟨B + 1, 0, none⟩ = some (.int .i64 stop) ∧ FldAt W (B + 1 + 1 + 1) ∧ 1 ≤ stop ∧ (pre.length : Int) = stop)
theorem set_other (W : World) (K : Nat) (v : Value) (b o : Nat) (h : b ≠ K) : (W.setCell ⟨K, 0, none⟩ v).cell? ⟨b, o, none⟩ = W.cell? ⟨b, o, none⟩ :=
  World.cell?_of_block (w := W) (Below.heap_setCell W _ v b h)
theorem range_snoc (pre : List Nat) (i L : Nat) (hp : pre = List.range pre.length) (hL : pre.length = L) (hi : i = L) : pre ++ [i] = List.range (pre ++ [i]).length := by
  simp only [List.length_append, List.length_cons, List.length_nil]
  rw [hL, hi, List.range_succ, ← hL, ← hp]
theorem range_bad (pre : List Nat) (i L : Nat) (hL : pre.length = L) (hi : i ≠ L) : pre ++ [i] ≠ List.range (pre ++ [i]).length := by
  intro h
  simp only [List.length_append, List.length_cons, List.length_nil] at h
  rw [hL, List.range_succ] at h
  have h2 := congrArg List.getLast? h
  simp at h2
  exact hi h2
theorem run_max0 {P : Program} (n : Int) (N : Nat) (h : n.toNat = N) (ts : Array TypeId) (t : TypeId) (w : World) : (Builtin.max_ ts t #[.int .i64 n, .int .i64 0]).run P w = .ok (.int .i64 (N : Int)) w := by
  have e : (if n < 0 then (0 : Int) else n) = (N : Int) := by split <;> omega
  rw [← e]
  simp [Builtin.max_, Builtin.max2]
theorem SlAt.like {w w' : World} {a : Option Addr} {l : List Int} (h : SlAt w a l) (hl : ∃ k, w' = w.drewN k) : SlAt w' a l := by
  obtain ⟨k, rfl⟩ := hl; exact h.drewN k
theorem like_two {w W W4 W5 : World} {B D : Nat} {v : Value} {o : Obj} (h4 : ∃ k, W4 = W.drewN k) (h5 : ∃ k, W5 = W4.drewN k) (hc : W.cell? ⟨B, 0, none⟩ = some v) (hf : W.frozen? ⟨B, 0, none⟩ = false) (hK : W.heap[D]? = some o) (hB : Below w.heap.size w W) :
    W5.cell? ⟨B, 0, none⟩ = some v ∧ W5.frozen? ⟨B, 0, none⟩ = false ∧ W5.heap[D]? = some o ∧ Below w.heap.size w W5 := by
  obtain ⟨k, rfl⟩ := h4
  obtain ⟨k', rfl⟩ := h5
  exact ⟨hc, hf, hK, below_drewN (below_drewN hB k) k'⟩
theorem fld_kept {A B : World} {b : Nat} {row : Option Nat} (h : FldAt A b) (hg : A.grownBy B row) (hr : ∀ r, row = some r → ∃ o : Obj, A.heap[r]? = some o ∧ o.isCells = false) : FldAt B b :=
  ⟨fun n hn => cell_kept (h.1 n hn) hg hr, fun a ha => cell_kept (h.2 a ha) hg hr⟩
theorem dotI_own (B K : Nat) (x stop : Int) : Own (DotI B K x stop) := fun _ _ _ _ hs hg hr =>
  ⟨hs.1, cell_kept hs.2.1 hg hr, (frozen_kept hs.2.1 hg hr).trans hs.2.2.1, cell_kept hs.2.2.2.1 hg hr, (frozen_kept hs.2.2.2.1 hg hr).trans hs.2.2.2.2.1, cell_kept hs.2.2.2.2.2.1 hg hr, cell_kept hs.2.2.2.2.2.2.1 hg hr, fld_kept hs.2.2.2.2.2.2.2.1 hg hr, hs.2.2.2.2.2.2.2.2⟩
theorem dotX_own (B K : Nat) (x stop : Int) (c : Code) : Own (DotX B K x stop c) := fun _ _ _ _ hs hg hr => by
  rcases hs with hs | ⟨h0, h1, h2, h3, h4, h5, h6, h7, h8⟩
  · exact .inl hs
  · exact .inr ⟨h0, cell_kept h1 hg hr, (frozen_kept h1 hg hr).trans h2, cell_kept h3 hg hr, (frozen_kept h3 hg hr).trans h4, cell_kept h5 hg hr, cell_kept h6 hg hr, fld_kept h7 hg hr, h8⟩

set_option maxRecDepth 100000 in
set_option maxHeartbeats 2000000 in
theorem gfDots_core (a0 : Option Addr) (cap0 : Nat) (la : List Int) (a1 : Option Addr) (cap1 : Nat) (lb : List Int) (x n stop : Int) (w : World)
    (sa : SlAt w a0 la) (ba : Byt la) (ma : la.length ≤ 200) (sb : SlAt w a1 lb) (bb : Byt lb) (mb : lb.length ≤ 200) (hx : 0 ≤ x ∧ x ≤ 255) (hn : n ≤ 300) (hs : -9223372036854775808 ≤ stop ∧ stop ≤ 9223372036854775807) :
    CallsIn Fence.wide 5 Try.prog 6 #[.slice a0 la.length cap0, .slice a1 lb.length cap1, .int .u8 x, .int .i64 n, .int .i64 stop] w fun e w' => e = .returned (.bool true) ∧ Below w.heap.size w w' := by
  have d1 : decide (200 < (la.length : Int)) = false := by simp; omega
  have d2 : decide (200 < (lb.length : Int)) = false := by simp; omega
  have d3 : decide (300 < n) = false := by simp; omega
  have hz := zero_field
  refine callsIn_of_wp_marks Try.func6 rfl trivial ?_ rfl
  simp only [Try.ntmps6, List.size_toArray, List.length_cons, List.length_nil, Nat.reduceAdd, Nat.reduceSub, Array.replicate_succ, Array.replicate_zero, List.push_toArray, List.append_toArray, List.nil_append, List.cons_append]
  gi_wp2_with fail
  refine ⟨trivial, ?_⟩
  refine (callsIn_wide.2 (new_any _)).mono ?_
  rintro e w' ⟨rfl, rfl⟩
  obtain ⟨W1, hW1⟩ : ∃ W1, (((w.alloc (.cells #[.int .u8 x] 5)).alloc (.cells #[.int .i64 stop] 3)).alloc (.cells #[.bool false] 4)).alloc (.cells fieldCells 49) = W1 := ⟨_, rfl⟩
  obtain ⟨HZ, cX, cS, cR, fR, hf, hB1⟩ := first_world w x stop W1 hW1
  gi_wp2_with fail
  clear hW1
  refine ⟨trivial, ?_⟩
  refine (callsIn_wide.2 (anchor_any _ _ hf)).mono ?_
  rintro e W2 ⟨rfl, HL⟩
  obtain ⟨HZ2, cX2, cS2, cR2, fR2, hf2, hB2⟩ := like_world w x stop W1 W2 HL HZ cX cS cR fR hf hB1
  clear HL HZ cX cS cR fR hf hB1
  have l3 : w.heap.size + 1 + 1 + 1 < W2.heap.size := by have := HZ2.out; omega
  have l2 : w.heap.size + 1 + 1 < W2.heap.size := by omega
  have l1 : w.heap.size + 1 < W2.heap.size := by omega
  have l0 : w.heap.size < W2.heap.size := by omega
  gi_wp2_with fail
  refine ⟨trivial, ?_⟩
  refine (powers_in _ _ _ _ _).mono ?_
  rintro e w' ⟨rfl, rfl⟩
  gi_wp2_with fail
  obtain ⟨W3, hW3⟩ : ∃ W3, (((W2.alloc (.cells #[.int .i64 0] 3)).alloc (.cells #[.pointer (some ⟨w.heap.size + 1 + 1 + 1, 0, none⟩)] 22)).alloc (.cells #[.int .u8 x] 5)).alloc (.cells #[.int .i64 n] 3) = W3 := ⟨_, rfl⟩
  obtain ⟨HZ3, cX, cS, cR, fR, hf, cK, fK, cF, cA, cN, hB⟩ := second_world w x n stop W2 W3 hW3 cX2 cS2 cR2 fR2 hf2 hB2 l3
  rw [hW3]
  clear hW3 cX2 cS2 cR2 fR2 hf2 hB2
  have hz3 := HZ3.out
  refine wpIn_rangeFunc_ownF rfl (by omega) (gf := 24) (lb := #[.pointer (some ⟨W2.heap.size + 1 + 1 + 1, 0, none⟩), .pointer (some ⟨W2.heap.size + 1, 0, none⟩), .pointer (some ⟨W2.heap.size + 1 + 1, 0, none⟩)]) rfl trivial (enters_of Try.func24 (by kernel_rfl) rfl)
    (powers1_stops 4 (by omega) (W2.heap.size + 1 + 1 + 1) (W2.heap.size + 1) (W2.heap.size + 1 + 1) (w.heap.size + 1 + 1 + 1) x n ⟨hx.1, by omega⟩ hn (fun b => b = w.heap.size + 1 + 1 + 1 ∨ b = W2.heap.size + 1 ∨ b = W2.heap.size + 1 + 1) (.inr (.inl rfl)) (.inr (.inr rfl)) (.inl rfl) W3 (by rintro b (rfl | rfl | rfl) <;> omega) (by omega) cN cF cA hf)
    keepC_t (keepC_b (by rintro b (rfl | rfl | rfl) <;> omega)) (Below.refl _ _) (fun _ => rfl)
    (fun pre W => DotI w.heap.size W2.heap.size x stop pre W ∧ Below w.heap.size w W) (fun c pre W => DotX w.heap.size W2.heap.size x stop c pre W ∧ Below w.heap.size w W)
    (OwnFrom.and (Own.from (dotI_own _ _ _ _) _) (ownFrom_below (Nat.le_refl _) (by omega)))
    (fun c => OwnFrom.and (Own.from (dotX_own _ _ _ _ c) _) (ownFrom_below (Nat.le_refl _) (by omega)))
    ⟨⟨rfl, cK, fK, cR, fR, cX, cS, hf, by have : (([] : List Nat).length : Int) = 0 := rfl; omega⟩, hB⟩
    (fun i => { tmps := #[.slice a0 la.length cap0, .slice a1 lb.length cap1, .int .u8 x, .int .i64 n, .int .i64 stop, undef, undef, .pointer (some ⟨w.heap.size, 0, none⟩), undef, .pointer (some ⟨w.heap.size + 1, 0, none⟩), .pointer (some ⟨w.heap.size + 1 + 1, 0, none⟩), .pointer (some ⟨w.heap.size + 1 + 1 + 1, 0, none⟩), .pointer (some ⟨W2.heap.size, 0, none⟩), .int .i64 (i : Int), .int .u8 (pI x i), undef, .pointer (some ⟨w.heap.size + 1 + 1 + 1, 0, none⟩), .pointer (some ⟨w.heap.size + 1 + 1 + 1, 0, none⟩), .bool true, .bool false, .slice a0 la.length cap0, .int .i64 (la.length : Int), .bool false, .bool false, .slice a1 lb.length cap1, .int .i64 (lb.length : Int), .bool false, .bool false, .bool false, .int .i64 n, .bool false, .bool false, .pointer (some ⟨w.heap.size + 1 + 1 + 1, 0, none⟩), .int .u8 x, .int .i64 n, .func (.func 24) #[] #[.pointer (some ⟨W2.heap.size + 1 + 1 + 1, 0, none⟩), .pointer (some ⟨W2.heap.size + 1, 0, none⟩), .pointer (some ⟨W2.heap.size + 1 + 1, 0, none⟩)], .int .i64 (i : Int), .int .u8 (pI x i), undef, undef, undef, undef, undef, undef, undef, undef, undef, undef, undef, undef, undef, undef, undef, undef, undef, undef, undef, undef, undef, undef, undef, undef, undef, undef, undef, undef, undef, undef, undef, undef, undef, undef, undef, undef, undef, undef], defers := [] }) ?assign ?body ?done ?stop
  case assign =>
    intro l i W K hK
    gi_wp2
    exact hK
  case body =>
    rintro l pre i W ⟨⟨hp, cK, fK, cR, fR, cX, cS, hf, hst⟩, hB⟩ hlen
    have HP : Hid (pre = List.range pre.length) := hp
    clear hp
    have hl300 : pre.length < 300 := by omega
    obtain ⟨L, hL, HL⟩ : ∃ L : Nat, L < 300 ∧ Hid (pre.length = L) := ⟨_, hl300, rfl⟩
    rw [HL.out] at cK hst
    by_cases hi : i = L
    · have HI : Hid (i = L) := hi
      have e1 : ((i : Int) != (L : Int)) = false := by simp [hi]
      have e2 : (pI x (i : Int) != pI x (i : Int)) = false := by simp
      have hpb := Gf.pI_bd x i
      have hi3 : i < 300 := by omega
      clear hi
      by_cases hst' : (L : Int) + 1 = stop
      · have HS : Hid ((L : Int) + 1 = stop) := hst'
        have e3 : ((L : Int) + 1 == stop) = true := by rw [beq_iff_eq]; exact hst'
        clear hst'
        gi_wp2_with (refine ⟨trivial, ?_⟩; gi_at_call 19; refine (CallsIn.inRound l (callsIn_wide.2 (refPow_any _ _ (by omega) (by omega) (by omega) (by omega) _))).mono ?_; rintro e w' ⟨rfl, rfl⟩)
        refine ⟨KeepsOthers.setCell _ _ _, .inr ⟨rfl, ?_, by rw [World.frozen?_setCell]; exact fK, (set_other _ _ _ _ _ (by omega)).trans cR, by rw [World.frozen?_setCell]; exact fR, (set_other _ _ _ _ _ (by omega)).trans cX, (set_other _ _ _ _ _ (by omega)).trans cS, hf.of (fun o => set_other _ _ _ _ _ (by omega)), ?_, ?_⟩, hB.setCell (p := ⟨W2.heap.size, 0, none⟩) (by simp; omega) _⟩
        · rw [← HS.out]; exact World.cell?_setCell_same' _ _ _ (by rw [cK]; rfl)
        · have := HS.out; omega
        · have h1 := HS.out; have h2 := HL.out; simp only [List.length_append, List.length_cons, List.length_nil]; omega
      · have e3 : ((L : Int) + 1 == stop) = false := by rw [beq_eq_false_iff_ne]; exact hst'
        gi_wp2_with (refine ⟨trivial, ?_⟩; gi_at_call 19; refine (CallsIn.inRound l (callsIn_wide.2 (refPow_any _ _ (by omega) (by omega) (by omega) (by omega) _))).mono ?_; rintro e w' ⟨rfl, rfl⟩)
        refine ⟨KeepsOthers.setCell _ _ _, fun b hb o => set_other _ _ _ _ _ (by omega), ⟨range_snoc _ _ _ HP.out HL.out HI.out, ?_, by rw [World.frozen?_setCell]; exact fK, (set_other _ _ _ _ _ (by omega)).trans cR, by rw [World.frozen?_setCell]; exact fR, (set_other _ _ _ _ _ (by omega)).trans cX, (set_other _ _ _ _ _ (by omega)).trans cS, hf.of (fun o => set_other _ _ _ _ _ (by omega)), ?_⟩, hB.setCell (p := ⟨W2.heap.size, 0, none⟩) (by simp; omega) _⟩
        · have e : (((pre ++ [i]).length : Nat) : Int) = (L : Int) + 1 := by have := HL.out; simp only [List.length_append, List.length_cons, List.length_nil]; omega
          rw [e]; exact World.cell?_setCell_same' _ _ _ (by rw [cK]; rfl)
        · have h2 := HL.out; simp only [List.length_append, List.length_cons, List.length_nil]; omega
    · have HI : Hid (¬ i = L) := hi
      have e1 : ((i : Int) != (L : Int)) = true := by simp; omega
      clear hi
      gi_wp2
      refine ⟨trivial, ?_⟩
      gi_wp2
      exact ⟨KeepsOthers.setCell _ _ _, .inl ⟨rfl, range_bad _ _ _ HL.out HI.out⟩, hB.setCell (p := ⟨w.heap.size + 1 + 1, 0, none⟩) (by simp; omega) _⟩
  case done =>
    rintro D ys W hD rfl ⟨⟨hp, cK, fK, cR, fR, cX, cS, hf, hst⟩, hB⟩ hK
    simp only [List.length_range] at cK hst
    obtain ⟨N, hN0, hN1, HN⟩ : ∃ N : Nat, (N : Int) ≤ 300 ∧ N ≤ 300 ∧ Hid (n.toNat = N) := ⟨n.toNat, by omega, by omega, rfl⟩
    rw [HN.out] at cK hst
    have sa' := sa.below hB
    have sb' := sb.below hB
    have e5 : (dotI la lb == dotI la lb) = true := by simp
    have e6 : ((N : Int) == (N : Int)) = true := by simp
    have hmx : ∀ (ts : Array TypeId) (t : TypeId) (w : World), (Builtin.max_ ts t #[.int .i64 n, .int .i64 0]).run Try.prog w = .ok (.int .i64 (N : Int)) w := fun ts t w => run_max0 n N HN.out ts t w
    have hmax : (la.length ≤ maxLen) ∧ lb.length ≤ maxLen := by unfold maxLen; omega
    by_cases hs1 : 1 ≤ stop
    · have e7 : decide (1 ≤ stop) = true := by simp [hs1]
      have e8 : decide (stop < (N : Int)) = false := by simp; omega
      gi_wp2_with (first | (refine ⟨trivial, ?_⟩; gi_at_call 21; refine (callsIn_wide.2 (dot_any _ _ _ _ _ _ _ _ (by exact hf) (by exact sa') ba hmax.1 (by exact sb') bb hmax.2)).mono ?_; rintro e W4 ⟨rfl, HL4⟩) | (refine ⟨trivial, ?_⟩; gi_at_call 22; refine (callsIn_wide.2 (refDot_any _ _ _ _ _ _ _ (by exact sa'.like HL4) ba hmax.1 (by exact sb'.like HL4) bb hmax.2)).mono ?_; rintro e W5 ⟨rfl, HL5⟩; obtain ⟨cR5, fR5, hK5, hB5⟩ := like_two HL4 HL5 cR fR hK hB))
      have hK' := (KeepsOthers.setCell W5 ⟨w.heap.size + 1 + 1, 0, none⟩ (.bool true)).same D _ hK5 rfl
      refine ⟨by simp, .inl ⟨_, _, rfl, run_takeDeferred hK', ?_⟩⟩
      have hc5 := cell_kept (World.cell?_setCell_same' W5 ⟨w.heap.size + 1 + 1, 0, none⟩ (.bool true) (by rw [cR5]; rfl)) (grownBy_putObj' _ D (.deferred none)) (fun r e => by cases e; exact ⟨_, hK', rfl⟩)
      refine ⟨.bool true, ?_, rfl, (hB5.setCell (p := ⟨w.heap.size + 1 + 1, 0, none⟩) (by simp; omega) _).trans (belowK_b (w := w) (Nat.le_refl _) _ D _ _ (by omega) hK' rfl rfl)⟩
      simp [results, Try.f6, go_sem, hc5]
    · have e7 : decide (1 ≤ stop) = false := by simp; omega
      gi_wp2_with (first | (refine ⟨trivial, ?_⟩; gi_at_call 21; refine (callsIn_wide.2 (dot_any _ _ _ _ _ _ _ _ (by exact hf) (by exact sa') ba hmax.1 (by exact sb') bb hmax.2)).mono ?_; rintro e W4 ⟨rfl, HL4⟩) | (refine ⟨trivial, ?_⟩; gi_at_call 22; refine (callsIn_wide.2 (refDot_any _ _ _ _ _ _ _ (by exact sa'.like HL4) ba hmax.1 (by exact sb'.like HL4) bb hmax.2)).mono ?_; rintro e W5 ⟨rfl, HL5⟩; obtain ⟨cR5, fR5, hK5, hB5⟩ := like_two HL4 HL5 cR fR hK hB))
      have hK' := (KeepsOthers.setCell W5 ⟨w.heap.size + 1 + 1, 0, none⟩ (.bool true)).same D _ hK5 rfl
      refine ⟨by simp, .inl ⟨_, _, rfl, run_takeDeferred hK', ?_⟩⟩
      have hc5 := cell_kept (World.cell?_setCell_same' W5 ⟨w.heap.size + 1 + 1, 0, none⟩ (.bool true) (by rw [cR5]; rfl)) (grownBy_putObj' _ D (.deferred none)) (fun r e => by cases e; exact ⟨_, hK', rfl⟩)
      refine ⟨.bool true, ?_, rfl, (hB5.setCell (p := ⟨w.heap.size + 1 + 1, 0, none⟩) (by simp; omega) _).trans (belowK_b (w := w) (Nat.le_refl _) _ D _ _ (by omega) hK' rfl rfl)⟩
      simp [results, Try.f6, go_sem, hc5]
  case stop =>
    rintro D c pre W hD ⟨k, hk, rfl⟩ ⟨hX, hB⟩ hK
    rcases hX with ⟨rfl, hbad⟩ | ⟨rfl, cK, fK, cR, fR, cX, cS, hf, hs1, hlen⟩
    · exact absurd (by simp) hbad
    simp only [List.length_range] at hlen
    obtain ⟨N, hN0, hN1, HN⟩ : ∃ N : Nat, (N : Int) ≤ 300 ∧ N ≤ 300 ∧ Hid (n.toNat = N) := ⟨n.toNat, by omega, by omega, rfl⟩
    have hle : stop ≤ (N : Int) := by have := HN.out; omega
    have sa' := sa.below hB
    have sb' := sb.below hB
    have e5 : (dotI la lb == dotI la lb) = true := by simp
    have e6 : (stop == stop) = true := by simp
    have hmx : ∀ (ts : Array TypeId) (t : TypeId) (w : World), (Builtin.max_ ts t #[.int .i64 n, .int .i64 0]).run Try.prog w = .ok (.int .i64 (N : Int)) w := fun ts t w => run_max0 n N HN.out ts t w
    have hmax : (la.length ≤ maxLen) ∧ lb.length ≤ maxLen := by unfold maxLen; omega
    have e7 : decide (1 ≤ stop) = true := by simp [hs1]
    clear hlen hk
    by_cases hlt : stop < (N : Int)
    · have e8 : decide (stop < (N : Int)) = true := by simp [hlt]
      gi_wp2_with (first | (refine ⟨trivial, ?_⟩; gi_at_call 21; refine (callsIn_wide.2 (dot_any _ _ _ _ _ _ _ _ (by exact hf) (by exact sa') ba hmax.1 (by exact sb') bb hmax.2)).mono ?_; rintro e W4 ⟨rfl, HL4⟩) | (refine ⟨trivial, ?_⟩; gi_at_call 22; refine (callsIn_wide.2 (refDot_any _ _ _ _ _ _ _ (by exact sa'.like HL4) ba hmax.1 (by exact sb'.like HL4) bb hmax.2)).mono ?_; rintro e W5 ⟨rfl, HL5⟩; obtain ⟨cR5, fR5, hK5, hB5⟩ := like_two HL4 HL5 cR fR hK hB))
      have hK' := (KeepsOthers.setCell W5 ⟨w.heap.size + 1 + 1, 0, none⟩ (.bool true)).same D _ hK5 rfl
      refine ⟨by simp, .inl ⟨_, _, rfl, run_takeDeferred hK', ?_⟩⟩
      have hc5 := cell_kept (World.cell?_setCell_same' W5 ⟨w.heap.size + 1 + 1, 0, none⟩ (.bool true) (by rw [cR5]; rfl)) (grownBy_putObj' _ D (.deferred none)) (fun r e => by cases e; exact ⟨_, hK', rfl⟩)
      refine ⟨.bool true, ?_, rfl, (hB5.setCell (p := ⟨w.heap.size + 1 + 1, 0, none⟩) (by simp; omega) _).trans (belowK_b (w := w) (Nat.le_refl _) _ D _ _ (by omega) hK' rfl rfl)⟩
      simp [results, Try.f6, go_sem, hc5]
    · have e8 : decide (stop < (N : Int)) = false := by simp [hlt]
      have e9 : (stop == (N : Int)) = true := by rw [beq_iff_eq]; omega
      gi_wp2_with (first | (refine ⟨trivial, ?_⟩; gi_at_call 21; refine (callsIn_wide.2 (dot_any _ _ _ _ _ _ _ _ (by exact hf) (by exact sa') ba hmax.1 (by exact sb') bb hmax.2)).mono ?_; rintro e W4 ⟨rfl, HL4⟩) | (refine ⟨trivial, ?_⟩; gi_at_call 22; refine (callsIn_wide.2 (refDot_any _ _ _ _ _ _ _ (by exact sa'.like HL4) ba hmax.1 (by exact sb'.like HL4) bb hmax.2)).mono ?_; rintro e W5 ⟨rfl, HL5⟩; obtain ⟨cR5, fR5, hK5, hB5⟩ := like_two HL4 HL5 cR fR hK hB))
      have hK' := (KeepsOthers.setCell W5 ⟨w.heap.size + 1 + 1, 0, none⟩ (.bool true)).same D _ hK5 rfl
      refine ⟨by simp, .inl ⟨_, _, rfl, run_takeDeferred hK', ?_⟩⟩
      have hc5 := cell_kept (World.cell?_setCell_same' W5 ⟨w.heap.size + 1 + 1, 0, none⟩ (.bool true) (by rw [cR5]; rfl)) (grownBy_putObj' _ D (.deferred none)) (fun r e => by cases e; exact ⟨_, hK', rfl⟩)
      refine ⟨.bool true, ?_, rfl, (hB5.setCell (p := ⟨w.heap.size + 1 + 1, 0, none⟩) (by simp; omega) _).trans (belowK_b (w := w) (Nat.le_refl _) _ D _ _ (by omega) hK' rfl rfl)⟩
      simp [results, Try.f6, go_sem, hc5]

end Go.Proofs.Ytmjmjccfhnckiaa
