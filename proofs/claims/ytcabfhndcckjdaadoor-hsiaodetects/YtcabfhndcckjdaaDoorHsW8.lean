/-
  The document's example; the iterator over the columns.
-/
import Derived.Test.YtcabfhndcckjdaaDoorHsW7
namespace Go.Proofs.YtcabfhndcckjdaaDoor
open Go.RowKit Go.Shelf
open Bm (wt wtK cntW)
open Hm (col onesOf nOf idx kd pl xs ap syn)
attribute [local go_sem] Oper.semAt_some

set_option maxHeartbeats 400000 in
theorem anchor4_any (b : Nat) (w : World) (hc : CodeAt w b) (hT : TabW w) :
    Calls Tryd.prog 11 #[.pointer (some ⟨b, 0, none⟩)] w fun e w' => e = .returned (.bool true) ∧ Below w.heap.size w w' := by
  have H : Hid (Calls Tryd.prog 23 #[.pointer (some ⟨b, 0, none⟩), .int .u64 1, .int .i64 0, .int .i64 0] w fun e w' => e = .returned (.int .u8 7) ∧ Below w.heap.size w w') := by
    have := check_any b 1 0 0 (by decide) w hc hT
    rw [show syn 1 0 0 0 = 7 from by decide +kernel] at this; exact this
  have H2 : Hid (∀ w, CodeAt w b → Calls Tryd.prog 12 #[.pointer (some ⟨b, 0, none⟩), .int .i64 64] w fun e w' => e = .returned (.int .u8 1) ∧ w' = w) := fun w hw => by
    have := column_in b 64 (by decide) w hw
    rw [show col 64 = 1 from rfl] at this; exact this
  have hbl := hc.lt
  have HC : Hid (CodeAt w b) := hc
  clear hc hT
  go_enter Tryd.func11, Tryd.ntmps11
  go_wp2_with (first | (go_at_call 23; refine (H.out).mono ?_; rintro e w' ⟨rfl, hB⟩) | (go_at_call 12; refine (H2.out _ (HC.out.below hB hbl)).mono ?_; rintro e w' ⟨rfl, rfl⟩))
  go_ret
  exact ⟨rfl, hB⟩

theorem run_index_cols (x : Nat) (hx : x < 74) (w : World) : (Instr.index 32 (.agg colsL.toArray) (.int .i64 (x : Int))).run Tryd.prog w = .ok (.int .u8 (col x : Int)) w := by
  have hu := Tryd.underlying32
  have hc := colsL_at x hx
  simp [Instr.index, run_underlying hu, asIntOf, go_sem, hx]
  rw [hc]; rfl
theorem columns_any (b : Nat) (w : World) :
    Calls Tryd.prog 15 #[.pointer (some ⟨b, 0, none⟩)] w fun e w' => e = .returned (.func (.func 26) #[] #[.pointer (some ⟨w.heap.size, 0, none⟩)]) ∧ w' = w.alloc (.cells #[.pointer (some ⟨b, 0, none⟩)] 22) := by
  go_enter Tryd.func15, Tryd.ntmps15
  go_wp2
  go_ret
  exact ⟨rfl, rfl⟩

set_option maxRecDepth 100000 in
set_option maxHeartbeats 2000000 in
theorem columns_seq (xb b : Nat) (w : World) (hxb : xb < w.heap.size) (cx : w.cell? ⟨xb, 0, none⟩ = some (.pointer (some ⟨b, 0, none⟩))) (hc : CodeAt w b) :
    SeqC Tryd.prog 26 #[.pointer (some ⟨xb, 0, none⟩)] (fun x => #[.int .i64 (x : Int), .int .u8 (col x : Int)]) 74 (fun _ => True) (fun _ => False) w := by
  intro l M J Jx W hW hM hJ hJx hskip hY h0
  have cx' : W.cell? ⟨xb, 0, none⟩ = some (.pointer (some ⟨b, 0, none⟩)) := (hW.cell (p := ⟨xb, 0, none⟩) hxb).trans cx
  have hcW : CodeAt W b := hc.below hW hc.lt
  have hr := range_cols hcW
  have HY : Hid (∀ (x : Nat) (W1 : World), x < 74 → J x W1 → YieldAt Fence.wide 8 Tryd.prog l #[.int .i64 (x : Int), .int .u8 (col x : Int)] W1 fun e W' => (e = .returned (.bool true) ∧ J (x + 1) W' ∧ Keep M W1 W') ∨ (e = .returned (.bool false) ∧ Jx x W' ∧ Keep M W1 W')) := fun x W1 h1 h2 => hY x W1 h1 trivial h2
  clear hJ hJx hskip hY hM hW cx hc hcW
  refine callsIn_of_wp Tryd.func26 rfl trivial ?_ rfl
  simp only [Tryd.ntmps26, List.size_toArray, List.length_cons, List.length_nil, Nat.reduceAdd, Nat.reduceSub, Array.replicate_succ, Array.replicate_zero, List.push_toArray, List.append_toArray, List.nil_append, List.cons_append]
  refine wpIn_wide.2 ?_
  go_wp2_with (refine wpList_load_mid rfl 32 _ rfl _ 0 rfl colsL _ hr Tryd.underlying32 rfl info_cols ?_)
  refine (wpIn_wide (n := 9)).1 ?_
  clear hr cx'
  gi_loopw [9] (fun i wr => ∃ x : Nat, x ≤ 74 ∧ i = .int .i64 (x : Int) ∧ J x wr) (fun i _ => (74 - (intOf i).toNat))
  case atStart => exact ⟨0, by omega, rfl, h0⟩
  case round =>
    obtain ⟨x, hx, rfl, hJs⟩ := hrel
    by_cases hlt : x < 74
    · have hcx := run_index_cols x hlt
      obtain ⟨fn, tmps, assign, body, hyl, hR⟩ := HY.out x wr hlt hJs
      obtain ⟨c, Hc⟩ : ∃ c, Hid (col x = c) := ⟨_, rfl⟩
      rw [Hc.out] at hcx hyl
      gi_wp2_with (refine hR.mono ?_; rintro e W3 hE; obtain ⟨r, rfl, hE2⟩ := yields hE)
      · rcases hE2.out with ⟨rfl, _⟩ | ⟨_, hJx3⟩
        · rename_i hr; cases hr
        · refine bodyPost_ret (results_none rfl _ _ _) rfl ?_
          exact ⟨⟨_, rfl⟩, .inr ⟨x, hlt, trivial, hJx3.1⟩⟩
      · rcases hE2.out with ⟨_, hJ3, hK3⟩ | ⟨rfl, _⟩
        · refine ⟨⟨x + 1, by omega, by go_num, hJ3⟩, ?_⟩
          simp [intOf]; omega
        · rename_i hr; cases hr
    · obtain rfl : x = 74 := by omega
      gi_wp2
      go_end0
      exact ⟨⟨_, rfl⟩, .inl hJs⟩
end Go.Proofs.YtcabfhndcckjdaaDoor
