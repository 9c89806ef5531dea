/-
  Ones: the lowest one of a word, by math/bits' table; the iterator that tells the ones of a word; the document's bit.
-/
import Derived.Test.YtdjknaafefnlcaaDoorBitW4
import Derived.Test.YtdjknaafefnlcaaDoorBitMath2
import Derived.Test.YtdjknaafefnlcaaDoorDoorTab
import Derived.Test.YtdjknaafefnlcaaDoorQuiet
namespace Go.Proofs.YtdjknaafefnlcaaDoor
open Go.RowKit Go.Shelf
open Bm (wt wtK lef)
attribute [local go_sem] Oper.semAt_some

theorem TabW.of {W W' : World} (h : TabW W) (k : W'.heap[0]? = W.heap[0]?) : TabW W' := fun j hj => (World.cell?_of_block (w := W) (a := ⟨0, j, none⟩) k).trans (h j hj)
theorem TabW.lt {W : World} (h : TabW W) : 0 < W.heap.size := by
  obtain ⟨x, hx, _⟩ := isCells_of_cell (h 0 (by decide))
  exact (Array.getElem?_eq_some_iff.1 hx).1
theorem TabW.below {C : Nat} {W W' : World} (h : TabW W) (k : Below C W W') (hC : 0 < C) : TabW W' := h.of (k.block 0 hC)
theorem TabW.keep {M : Nat → Prop} {W W' : World} (h : TabW W) (k : Keep M W W') (hM : ¬ M 0) : TabW W' := h.of (k.2 0 h.lt hM)

set_option maxHeartbeats 1000000 in
theorem tz_any (x : Nat) (hx : x < 18446744073709551616) (hx0 : x ≠ 0) (w : World) (hT : TabW w) :
    Calls Tryd.prog 96 #[.int .u64 (x : Int)] w fun e w' => e = .returned (.int .i64 (Lib.ctz 64 x : Int)) ∧ w' = w := by
  obtain ⟨hlow, hk⟩ := Lib.lowest_bit 64 x hx0 hx
  obtain ⟨hi, htab⟩ := Lib.deBruijn64_at _ hk
  have hcell := hT _ hi
  rw [htab] at hcell
  have key := Bm.tz_key x _ hx hx0 hlow
  have e0 : ((x : Int) == 0) = false := by simp; omega
  obtain ⟨p, hp⟩ : ∃ p, Lib.ctz 64 x = p := ⟨_, rfl⟩
  rw [hp] at hk hcell hi key ⊢
  obtain ⟨i, hI⟩ : ∃ i, 2 ^ p * 285870213051353865 % 18446744073709551616 / 288230376151711744 = i := ⟨_, rfl⟩
  rw [hI] at hi hcell key
  clear hlow htab hT hp hI
  go_enter Tryd.func96, Tryd.ntmps96
  go_wp2_with (simp only [key])
  go_ret
  exact ⟨rfl, rfl⟩

set_option maxRecDepth 100000 in
set_option maxHeartbeats 2000000 in
theorem ones64_seq (xb v : Nat) (hv : v < 18446744073709551616) (w : World) (hxb : xb < w.heap.size) (cx : w.cell? ⟨xb, 0, none⟩ = some (.int .u64 (v : Int))) (hT : TabW w) :
    SeqC Tryd.prog 95 #[.pointer (some ⟨xb, 0, none⟩)] (fun x => #[.int .i64 (x : Int)]) 64 (fun q => v / 2 ^ q % 2 = 1) (fun b => b = 0) w := by
  intro l M J Jx W hW hM hJ hJx hskip hY h0
  have cx' : W.cell? ⟨xb, 0, none⟩ = some (.int .u64 (v : Int)) := (hW.cell (p := ⟨xb, 0, none⟩) hxb).trans cx
  have hTW : TabW W := hT.below hW hT.lt
  have hM0 : ¬ M 0 := fun h => (hM 0 h).2 rfl
  have HT : Hid (TabW W) := hTW
  have HSk : Hid (∀ (q r : Nat) (W : World), q ≤ r → r ≤ 64 → (∀ x, q ≤ x → x < r → ¬ v / 2 ^ x % 2 = 1) → J q W → J r W) := fun q r W a b c d => Bm.skips hskip q r W a b c d
  have HY : Hid (∀ (x : Nat) (W1 : World), x < 64 → v / 2 ^ x % 2 = 1 → J x W1 → YieldAt Fence.wide 8 Tryd.prog l #[.int .i64 (x : Int)] W1 fun e W' => (e = .returned (.bool true) ∧ J (x + 1) W' ∧ Keep M W1 W') ∨ (e = .returned (.bool false) ∧ Jx x W' ∧ Keep M W1 W')) := hY
  clear hJ hJx hskip hY hM hW cx hT hTW
  refine callsIn_of_wp Tryd.func95 rfl trivial ?_ rfl
  simp only [Tryd.ntmps95, List.size_toArray, List.length_cons, List.length_nil, Nat.reduceAdd, Nat.reduceSub, Array.replicate_succ, Array.replicate_zero, List.push_toArray, List.append_toArray, List.nil_append, List.cons_append]
  gi_wp2
  gi_loopw [3] (fun lv wr => ∃ q y : Nat, q ≤ 64 ∧ y < 18446744073709551616 ∧ Hid (y = lef v q) ∧ lv = .int .u64 (y : Int) ∧ J q wr ∧ Keep M W wr) (fun lv _ => (intOf lv).toNat)
  case atStart => exact ⟨0, v, by omega, hv, (Bm.lef_zero v).symm, rfl, h0, Keep.refl _ _⟩
  case round =>
    obtain ⟨q, y, hq, hy, Hy, rfl, hJs, hK⟩ := hrel
    by_cases hy0 : y = 0
    · have hJ64 := HSk.out q 64 wr hq (Nat.le_refl _) (fun x hx _ => Bm.lef_nil v q x (by rw [← Hy.out]; exact hy0) hx) hJs
      subst hy0
      gi_wp2
      go_end0
      exact ⟨⟨_, rfl⟩, .inl hJ64⟩
    · obtain ⟨p, hp, hqp, ht, hno, hone, hand⟩ := Bm.low_facts 64 v q (Nat.le_refl _) hv (by rw [← Hy.out]; exact hy0)
      rw [← Hy.out] at ht hand
      have hJp := HSk.out q p wr hqp (by omega) hno hJs
      have hTr : TabW wr := HT.out.keep hK hM0
      have hTz := tz_any y hy hy0 wr hTr
      rw [ht] at hTz
      have HTz : Hid (Calls Tryd.prog 96 #[.int .u64 (y : Int)] wr fun e w' => e = .returned (.int .i64 (p : Int)) ∧ w' = wr) := hTz
      obtain ⟨fn, tmps, assign, body, hyl, hR⟩ := HY.out p wr hp hone hJp
      obtain ⟨z, hz, Hz⟩ : ∃ z : Nat, bits .and .u64 (y : Int) ((y : Int) - 1) = (z : Int) ∧ Hid (z = lef v (p + 1)) := ⟨_, (show ((y : Int) - 1) = ((y - 1 : Nat) : Int) from by omega) ▸ u64_and_nat y (y - 1) hy (by omega), hand⟩
      have hzy : z < y := by
        have h1 : z = y &&& (y - 1) := by rw [Hz.out, hand]
        have := Nat.and_le_right (n := y) (m := y - 1)
        omega
      have e0 : ((y : Int) != 0) = true := by simp; omega
      have hypos : 1 ≤ y := by omega
      clear hTz ht hno hand hJp hTr
      gi_wp2_with (first | (refine ⟨trivial, ?_⟩; gi_at_call 96; refine (callsIn_wide.2 HTz.out).mono ?_; rintro e w' ⟨rfl, rfl⟩) | (refine hR.mono ?_; rintro e W3 hE; obtain ⟨r, rfl, hE2⟩ := yields hE))
      · rcases hE2.out with ⟨rfl, _⟩ | ⟨_, hJx3⟩
        · rename_i hr; cases hr
        · refine bodyPost_ret (results_none rfl _ _ _) rfl ?_
          exact ⟨⟨_, rfl⟩, .inr ⟨p, hp, hone, hJx3.1⟩⟩
      · rcases hE2.out with ⟨_, hJ3, hK3⟩ | ⟨rfl, _⟩
        · refine ⟨⟨p + 1, z, by omega, by omega, Hz, rfl, hJ3, hK.trans hK3⟩, ?_⟩
          simp [intOf]; omega
        · rename_i hr; cases hr


theorem ones64_any (v : Int) (w : World) :
    Calls Tryd.prog 79 #[.int .u64 v] w fun e w' => e = .returned (.func (.func 95) #[] #[.pointer (some ⟨w.heap.size, 0, none⟩)]) ∧ w' = w.alloc (.cells #[.int .u64 v] 47) := by
  go_enter Tryd.func79, Tryd.ntmps79
  go_wp2
  go_ret
  exact ⟨rfl, rfl⟩

end Go.Proofs.YtdjknaafefnlcaaDoor
