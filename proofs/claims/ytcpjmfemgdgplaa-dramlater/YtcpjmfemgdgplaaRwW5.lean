/-
  Where a chip's bytes stand: what Of tells, and the iterator.
-/
import Derived.Test.YtcpjmfemgdgplaaRwW2
import Derived.Test.YtcpjmfemgdgplaaBitW2
import Derived.Test.YtcpjmfemgdgplaaQuiet
import Derived.Test.YtcpjmfemgdgplaaBoxes
import Derived.Deep.DeepCutAuto
namespace Go.Proofs.Ytcpjmfemgdgplaa
open Go.RowKit Go.Shelf
attribute [local go_sem] Oper.semAt_some

theorem stay_below9 {W W' : World} (k : Below W.heap.size W W') : Stay W.heap.size W W' :=
  ⟨k.os, k.tape, k.output, k.size, fun b _ hb _ => (k.block b (Array.getElem?_eq_some_iff.1 hb).1).trans hb, fun b hb => k.block b hb⟩
theorem of9_yes {m n k : Int} (h : Md m n k) (c : Int) (hc : 0 ≤ c ∧ c < n) (w : World) :
    Calls Try.prog 78 #[.int .i64 m, .int .i64 c] w fun e w' =>
      e = .returned (.func (.func 84) #[] #[.pointer (some ⟨w.heap.size, 0, none⟩), .pointer (some ⟨w.heap.size + 1, 0, none⟩)]) ∧
      ∃ q, w' = ((w.alloc (.cells #[.int .i64 m] 3)).alloc (.cells #[.int .i64 c] 3)).drewN q := by
  have hC : Hid (∀ w : World, Calls Try.prog 57 #[.int .i64 m] w fun e w' => e = .returned (.int .i64 n) ∧ w' = w) := countChips_any h
  have hL : Hid (∀ w : World, Calls Try.prog 76 #[.int .i64 c, .int .i64 n] w fun e w' => e = .returned (.bool true) ∧ w' = w) := below9_yes c n hc
  clear h hc
  go_enter Try.func78, Try.ntmps78
  go_wp2
  go_quiet (first | (go_at_call 57; exact Calls.quiet_of_same (hC.out _)) | (go_at_call 76; exact Calls.quiet_of_same (hL.out _)))
  go_wp2
  go_ret
  exact ⟨rfl, ⟨_, rfl⟩⟩
theorem of9_no {m n k : Int} (h : Md m n k) (c : Int) (hc : ¬ (0 ≤ c ∧ c < n)) (w : World) :
    Calls Try.prog 78 #[.int .i64 m, .int .i64 c] w fun e w' =>
      e = .returned (.func (.func 83) #[] #[]) ∧ Below w.heap.size w w' := by
  have hC : Hid (∀ w : World, Calls Try.prog 57 #[.int .i64 m] w fun e w' => e = .returned (.int .i64 n) ∧ w' = w) := countChips_any h
  have hL : Hid (∀ w : World, Calls Try.prog 76 #[.int .i64 c, .int .i64 n] w fun e w' => e = .returned (.bool false) ∧ w' = w) := below9_no c n hc
  clear h hc
  go_enter Try.func78, Try.ntmps78
  go_wp2
  go_quiet (first | (go_at_call 57; exact Calls.quiet_of_same (hC.out _)) | (go_at_call 76; exact Calls.quiet_of_same (hL.out _)))
  go_wp2
  go_ret
  exact ⟨rfl, below_stay (((Below.refl _ w).alloc (Nat.le_refl _) _).alloc (by simp) _) (Stay.drewN _ _ _) (Nat.le_refl _)⟩
/-- none come -/
theorem of1_seq (enc : Nat → Array Value) (p T : Nat → Prop) (w : World) : SeqC Try.prog 83 #[] enc 0 p T w := by
  intro l M J Jx W hW hM hJ hJx hskip hY h0
  clear hskip hY
  refine callsIn_of_wp Try.func83 rfl trivial ?_ rfl
  simp only [Try.ntmps83, List.size_toArray, List.length_cons, List.length_nil, Nat.reduceAdd, Nat.reduceSub, Array.replicate_succ, Array.replicate_zero, List.push_toArray, List.append_toArray, List.nil_append, List.cons_append, Array.append_empty]
  gi_wp2
  go_end0
  exact ⟨⟨_, rfl⟩, .inl h0⟩

set_option maxRecDepth 100000 in
set_option maxHeartbeats 1000000 in
theorem of2_seq1 (c : Int) (hc0 : 0 ≤ c) (hc1 : c < 9) (ab bb : Nat) (w : World) (ha : Box w ab (.int .i64 1)) (hb : Box w bb (.int .i64 c)) :
    SeqC Try.prog 84 #[.pointer (some ⟨ab, 0, none⟩), .pointer (some ⟨bb, 0, none⟩)] (fun x => #[.int .i64 ((x : Int) * 9 + c)]) 8 (fun _ => True) (fun x => x = ab ∨ x = bb) w := by
  intro l M J Jx W hW hM hJ hJx hskip hY h0
  have haW : Hid (Box W ab (.int .i64 1)) := ha.below hW ha.lt
  have hbW : Hid (Box W bb (.int .i64 c)) := hb.below hW hb.lt
  have d0 := haW.out.1
  have HM : Hid (¬ M ab ∧ ¬ M bb) := ⟨fun h => (hM ab h).2 (.inl rfl), fun h => (hM bb h).2 (.inr rfl)⟩
  have cW : Hid (∀ W : World, Calls Try.prog 85 #[.int .i64 1] W fun e w' => e = .returned (.int .i64 8) ∧ w' = W) := countWords_any .bits
  have cP : Hid (∀ (x : Nat), x < 8 → ∀ W : World, Calls Try.prog 86 #[.int .i64 1, .int .i64 (x : Int), .int .i64 c] W fun e w' => e = .returned (.int .i64 ((x : Int) * 9 + c)) ∧ w' = W) := fun x hx W => placeOf9_any .bits x c ⟨by omega, by omega⟩ ⟨by omega, by omega⟩ W
  have HY : Hid (∀ (x : Nat) (W1 : World), x < 8 → J x W1 → YieldAt Fence.wide 8 Try.prog l #[.int .i64 ((x : Int) * 9 + c)] W1 fun e W' => (e = .returned (.bool true) ∧ J (x + 1) W' ∧ Keep M W1 W') ∨ (e = .returned (.bool false) ∧ Jx x W' ∧ Keep M W1 W')) := fun x W1 h1 h2 => hY x W1 h1 trivial h2
  clear hJ hJx hskip hY hM hW ha hb
  refine callsIn_of_wp Try.func84 rfl trivial ?_ rfl
  simp only [Try.ntmps84, List.size_toArray, List.length_cons, List.length_nil, Nat.reduceAdd, Nat.reduceSub, Array.replicate_succ, Array.replicate_zero, List.push_toArray, List.append_toArray, List.nil_append, List.cons_append]
  gi_wp2_with (refine ⟨trivial, ?_⟩; gi_at_call 85; refine (callsIn_wide.2 (cW.out _)).mono ?_; rintro e W2 ⟨rfl, hw2⟩; rw [hw2]; clear hw2 W2)
  gi_loopw [7] (fun i wr => ∃ x : Nat, x ≤ 8 ∧ i = .int .i64 (x : Int) ∧ J x wr ∧ Keep M W wr) (fun i _ => (8 - (intOf i).toNat))
  case atStart => exact ⟨0, by omega, rfl, h0, Keep.refl _ _⟩
  case round =>
    obtain ⟨x, hx, rfl, hJs, hK⟩ := hrel
    by_cases hlt : x < 8
    · have e0 := (hK.box haW.out HM.out.1).1
      have e1 := (hK.box hbW.out HM.out.2).1
      have cX : Hid (∀ W : World, Calls Try.prog 86 #[.int .i64 1, .int .i64 (x : Int), .int .i64 c] W fun e w' => e = .returned (.int .i64 ((x : Int) * 9 + c)) ∧ w' = W) := cP.out x hlt
      obtain ⟨fn, tmps, assign, body, hyl, hR⟩ := HY.out x wr hlt hJs
      clear cP cW HY d0
      gi_wp2_with (first | (refine ⟨trivial, ?_⟩; gi_at_call 86; refine (callsIn_wide.2 (cX.out _)).mono ?_; rintro e W2 ⟨rfl, hw2⟩; subst hw2) | (refine hR.mono ?_; rintro e W3 hE; obtain ⟨r, rfl, hE2⟩ := yields hE))
      · rcases hE2.out with ⟨rfl, _⟩ | ⟨_, hJx3⟩
        · rename_i hr; cases hr
        · refine bodyPost_ret (results_none rfl _ _ _) rfl ?_
          exact ⟨⟨_, rfl⟩, .inr ⟨x, hlt, trivial, hJx3.1⟩⟩
      · rcases hE2.out with ⟨_, hJ3, hK3⟩ | ⟨rfl, _⟩
        · refine ⟨⟨x + 1, by omega, by go_num, hJ3, hK.trans hK3⟩, ?_⟩
          simp [intOf]; omega
        · rename_i hr; cases hr
    · obtain rfl : x = 8 := by omega
      gi_wp2
      go_end0
      exact ⟨⟨_, rfl⟩, .inl hJs⟩

set_option maxRecDepth 100000 in
set_option maxHeartbeats 1000000 in
theorem of2_seq2 (c : Int) (hc0 : 0 ≤ c) (hc1 : c < 36) (ab bb : Nat) (w : World) (ha : Box w ab (.int .i64 2)) (hb : Box w bb (.int .i64 c)) :
    SeqC Try.prog 84 #[.pointer (some ⟨ab, 0, none⟩), .pointer (some ⟨bb, 0, none⟩)] (fun x => #[.int .i64 ((x : Int) * 36 + c)]) 2 (fun _ => True) (fun x => x = ab ∨ x = bb) w := by
  intro l M J Jx W hW hM hJ hJx hskip hY h0
  have haW : Hid (Box W ab (.int .i64 2)) := ha.below hW ha.lt
  have hbW : Hid (Box W bb (.int .i64 c)) := hb.below hW hb.lt
  have d0 := haW.out.1
  have HM : Hid (¬ M ab ∧ ¬ M bb) := ⟨fun h => (hM ab h).2 (.inl rfl), fun h => (hM bb h).2 (.inr rfl)⟩
  have cW : Hid (∀ W : World, Calls Try.prog 85 #[.int .i64 2] W fun e w' => e = .returned (.int .i64 2) ∧ w' = W) := countWords_any .chips
  have cP : Hid (∀ (x : Nat), x < 2 → ∀ W : World, Calls Try.prog 86 #[.int .i64 2, .int .i64 (x : Int), .int .i64 c] W fun e w' => e = .returned (.int .i64 ((x : Int) * 36 + c)) ∧ w' = W) := fun x hx W => placeOf9_any .chips x c ⟨by omega, by omega⟩ ⟨by omega, by omega⟩ W
  have HY : Hid (∀ (x : Nat) (W1 : World), x < 2 → J x W1 → YieldAt Fence.wide 8 Try.prog l #[.int .i64 ((x : Int) * 36 + c)] W1 fun e W' => (e = .returned (.bool true) ∧ J (x + 1) W' ∧ Keep M W1 W') ∨ (e = .returned (.bool false) ∧ Jx x W' ∧ Keep M W1 W')) := fun x W1 h1 h2 => hY x W1 h1 trivial h2
  clear hJ hJx hskip hY hM hW ha hb
  refine callsIn_of_wp Try.func84 rfl trivial ?_ rfl
  simp only [Try.ntmps84, List.size_toArray, List.length_cons, List.length_nil, Nat.reduceAdd, Nat.reduceSub, Array.replicate_succ, Array.replicate_zero, List.push_toArray, List.append_toArray, List.nil_append, List.cons_append]
  gi_wp2_with (refine ⟨trivial, ?_⟩; gi_at_call 85; refine (callsIn_wide.2 (cW.out _)).mono ?_; rintro e W2 ⟨rfl, hw2⟩; rw [hw2]; clear hw2 W2)
  gi_loopw [7] (fun i wr => ∃ x : Nat, x ≤ 2 ∧ i = .int .i64 (x : Int) ∧ J x wr ∧ Keep M W wr) (fun i _ => (2 - (intOf i).toNat))
  case atStart => exact ⟨0, by omega, rfl, h0, Keep.refl _ _⟩
  case round =>
    obtain ⟨x, hx, rfl, hJs, hK⟩ := hrel
    by_cases hlt : x < 2
    · have e0 := (hK.box haW.out HM.out.1).1
      have e1 := (hK.box hbW.out HM.out.2).1
      have cX : Hid (∀ W : World, Calls Try.prog 86 #[.int .i64 2, .int .i64 (x : Int), .int .i64 c] W fun e w' => e = .returned (.int .i64 ((x : Int) * 36 + c)) ∧ w' = W) := cP.out x hlt
      obtain ⟨fn, tmps, assign, body, hyl, hR⟩ := HY.out x wr hlt hJs
      clear cP cW HY d0
      gi_wp2_with (first | (refine ⟨trivial, ?_⟩; gi_at_call 86; refine (callsIn_wide.2 (cX.out _)).mono ?_; rintro e W2 ⟨rfl, hw2⟩; subst hw2) | (refine hR.mono ?_; rintro e W3 hE; obtain ⟨r, rfl, hE2⟩ := yields hE))
      · rcases hE2.out with ⟨rfl, _⟩ | ⟨_, hJx3⟩
        · rename_i hr; cases hr
        · refine bodyPost_ret (results_none rfl _ _ _) rfl ?_
          exact ⟨⟨_, rfl⟩, .inr ⟨x, hlt, trivial, hJx3.1⟩⟩
      · rcases hE2.out with ⟨_, hJ3, hK3⟩ | ⟨rfl, _⟩
        · refine ⟨⟨x + 1, by omega, by go_num, hJ3, hK.trans hK3⟩, ?_⟩
          simp [intOf]; omega
        · rename_i hr; cases hr
    · obtain rfl : x = 2 := by omega
      gi_wp2
      go_end0
      exact ⟨⟨_, rfl⟩, .inl hJs⟩
end Go.Proofs.Ytcpjmfemgdgplaa
