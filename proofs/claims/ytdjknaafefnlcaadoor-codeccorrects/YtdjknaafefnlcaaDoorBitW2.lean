/-
  Choose: which arguments it answers; the iterator that it makes; the document's example.
-/
import Derived.Test.YtdjknaafefnlcaaDoorBitW1
import Derived.Shelf.Abstract
import Derived.Shelf.RegionOpen
import Derived.Sort.QuietIn
import Derived.Sort.QuietTacIn
import Derived.OwnWalkIn
import Derived.TacticsInMore
import Derived.LoopNIn
import Derived.LoopIn
namespace Go.Proofs.YtdjknaafefnlcaaDoor
open Go.RowKit Go.Shelf
open Bm (wt wtK)
attribute [local go_sem] Oper.semAt_some

/-- what a round may hand back, its answer left open -/
theorem yields {e : Ending} {A B : Prop} (h : (e = .returned (.bool true) ∧ A) ∨ (e = .returned (.bool false) ∧ B)) : ∃ r : Bool, e = .returned (.bool r) ∧ Hid ((r = true ∧ A) ∨ (r = false ∧ B)) := by
  rcases h with ⟨rfl, h⟩ | ⟨rfl, h⟩
  · exact ⟨true, rfl, .inl ⟨rfl, h⟩⟩
  · exact ⟨false, rfl, .inr ⟨rfl, h⟩⟩

set_option maxRecDepth 100000 in
set_option maxHeartbeats 2000000 in
theorem choose8_seq (nb kb : Nat) (n : Nat) (hn : n ≤ 8) (k : Int) (w : World) (hnb : nb < w.heap.size) (hkb : kb < w.heap.size)
    (cn : w.cell? ⟨nb, 0, none⟩ = some (.int .i64 (n : Int))) (ck : w.cell? ⟨kb, 0, none⟩ = some (.int .i64 k)) :
    SeqC Tryd.prog 92 #[.pointer (some ⟨nb, 0, none⟩), .pointer (some ⟨kb, 0, none⟩)] (fun x => #[.int .u8 (x : Int)]) (2 ^ n) (fun x => (wt x : Int) = k) (fun b => b = kb) w := by
  intro l M J Jx W hW hM hJ hJx hskip hY h0
  have cn' : W.cell? ⟨nb, 0, none⟩ = some (.int .i64 (n : Int)) := (hW.cell (p := ⟨nb, 0, none⟩) hnb).trans cn
  have ck' : W.cell? ⟨kb, 0, none⟩ = some (.int .i64 k) := (hW.cell (p := ⟨kb, 0, none⟩) hkb).trans ck
  have hkbW : kb < W.heap.size := Nat.lt_of_lt_of_le hkb hW.size
  have hMk : ¬ M kb := fun h => (hM kb h).2 rfl
  obtain ⟨N, hN, hNb, HN⟩ : ∃ N : Nat, (2 : Int) ^ n = (N : Int) ∧ N ≤ 256 ∧ Hid (N = 2 ^ n) := ⟨2 ^ n, by simp, Nat.pow_le_pow_right (by decide) hn, rfl⟩
  rw [← HN.out] at hskip hY ⊢
  have HJ : Hid (Abide W.heap.size J) := hJ
  have Hskip : Hid (∀ (x : Nat) (W1 : World), x < N → ¬ (wt x : Int) = k → J x W1 → J (x + 1) W1) := hskip
  have HY : Hid (∀ (x : Nat) (W1 : World), x < N → (wt x : Int) = k → J x W1 → YieldAt Fence.wide 8 Tryd.prog l #[.int .u8 (x : Int)] W1 fun e W' => (e = .returned (.bool true) ∧ J (x + 1) W' ∧ Keep M W1 W') ∨ (e = .returned (.bool false) ∧ Jx x W' ∧ Keep M W1 W')) := hY
  have mix : Tryd.prog.follows .mixedOrders = true := by kernel_rfl
  clear hJ hJx hskip hY hM hW cn ck
  refine callsIn_of_wp Tryd.func92 rfl trivial ?_ rfl
  simp only [Tryd.ntmps92, List.size_toArray, List.length_cons, List.length_nil, Nat.reduceAdd, Nat.reduceSub, Array.replicate_succ, Array.replicate_zero, List.push_toArray, List.append_toArray, List.nil_append, List.cons_append]
  gi_wp2_with (simp only [hN])
  gi_loopw [8] (fun i wr => ∃ x : Nat, x ≤ N ∧ i = .int .i64 (x : Int) ∧ J x wr ∧ Keep M W wr) (fun i _ => (N - (intOf i).toNat))
  case atStart => exact ⟨0, by omega, rfl, h0, Keep.refl _ _⟩
  case round =>
    obtain ⟨x, hx, rfl, hJs, hK⟩ := hrel
    by_cases hlt : x < N
    · have ckr : wr.cell? ⟨kb, 0, none⟩ = some (.int .i64 k) := (World.cell?_of_block (w := W) (hK.2 kb hkbW hMk)).trans ck'
      have ckr2 : wr.drew.cell? ⟨kb, 0, none⟩ = some (.int .i64 k) := ckr
      obtain ⟨t, ht, Ht⟩ : ∃ t, t ≤ 64 ∧ Hid (wt x = t) := ⟨_, Bm.wt_le x, rfl⟩
      have hWt : Hid (∀ w, Calls Tryd.prog 93 #[.int .u8 (x : Int)] w fun e w' => e = .returned (.int .i64 (t : Int)) ∧ w' = w) := fun w => by rw [← Ht.out]; exact weight8_any x (by omega) w
      by_cases hp : (t : Int) = k
      · have HP : Hid ((wt x : Int) = k) := by rw [Ht.out]; exact hp
        have hd : ((t : Int) == k) = true := by rw [hp]; simp
        have hx8 : x < 256 := by omega
        obtain ⟨fn, tmps, assign, body, hy, hR⟩ := HY.out x wr.drew hlt HP.out (HJ.out x wr _ hJs (Stay.drewN _ wr 1))
        gi_wp2
        gi_region_with (first | (refine ⟨trivial, ?_⟩; gi_at_call 93; refine (callsIn_wide.2 (hWt.out _)).mono ?_; rintro e w' ⟨rfl, rfl⟩) | (gi_at_call 93; refine (callsIn_wide.2 (hWt.out _)).mono ?_; rintro e w' ⟨rfl, rfl⟩) | (refine hR.mono ?_; rintro e W3 hE; obtain ⟨r, rfl, hE2⟩ := yields hE))
        all_goals
          clear HY Hskip hR hy
          rcases hE2.out with ⟨rfl, hJ3, hK3⟩ | ⟨rfl, hJx3⟩
          · go_wp2
            repeat (refine wpIn_wide.2 ?_; go_wp2)
            go_roundw
            case rel => exact ⟨x + 1, by omega, by go_num, hJ3, hK.trans hK3⟩
            case measure => simp [intOf]; omega
          · go_wp2
            repeat (refine wpIn_wide.2 ?_; go_wp2)
            refine bodyPost_ret (results_none rfl _ _ _) rfl ?_
            exact ⟨⟨_, rfl⟩, .inr ⟨x, hlt, HP.out, hJx3.1⟩⟩
      · have hd : ((t : Int) == k) = false := by simpa using hp
        have HJ' := Hskip.out x wr hlt (by rw [Ht.out]; exact hp) hJs
        clear hp
        have hx8 : x < 256 := by omega
        refine wpIn_wide.2 ?_
        go_wp2
        go_quiet ((go_at_call 93; exact Calls.quiet_of_same (hWt.out _)))
        go_wp2
        go_roundw
        case rel => exact ⟨x + 1, by omega, by go_num, HJ.out _ _ _ HJ' (Stay.drewN _ _ _), hK⟩
        case measure => simp [intOf]; omega
    · gi_wp2
      go_end0
      obtain rfl : x = N := by omega
      exact ⟨⟨_, rfl⟩, .inl hJs⟩


end Go.Proofs.YtdjknaafefnlcaaDoor
