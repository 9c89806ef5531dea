/-
  The words of raw bytes, one by one.
-/
import Derived.Test.YtdjknaafefnlcaaDoorCoW2
import Derived.Test.YtdjknaafefnlcaaDoorRangeG
namespace Go.Proofs.YtdjknaafefnlcaaDoor
open Go.RowKit Go.Shelf
attribute [local go_sem] Oper.semAt_some

/-- what is handed on with the number x: a slice in memory that holds the word x -/
def WordAt (n : Nat) (F : Nat → Int) (x : Nat) (v : Value) (W : World) : Prop := ∃ g, v = .slice (some ⟨g, 0, none⟩) n n ∧ Bk .u8 W g n (fun j => F (n * x + j))
theorem WordAt.stay {n : Nat} {F : Nat → Int} {B x : Nat} {v : Value} {W W' : World} (h : WordAt n F x v W) (k : Stay B W W') : WordAt n F x v W' := by
  obtain ⟨g, hv, hg⟩ := h
  exact ⟨g, hv, hg.stay k⟩
theorem wordsOf_any (m : Int) (F : Nat → Int) (w : World) :
    Calls Tryd.prog 38 #[.int .i64 m, .agg (ints .u8 72 F).toArray] w fun e w' => e = .returned (.func (.func 69) #[] #[.pointer (some ⟨w.heap.size, 0, none⟩), .pointer (some ⟨w.heap.size + 1, 0, none⟩)]) ∧
      w' = (w.alloc (.cells #[.int .i64 m] 3)).alloc (.cells (ints .u8 72 F).toArray 25) := by
  obtain ⟨A0, hA0⟩ : ∃ A, (ints .u8 72 F).toArray = A := ⟨_, rfl⟩
  rw [hA0]
  go_enter Tryd.func38, Tryd.ntmps38
  go_wp2
  go_ret
  exact ⟨rfl, rfl⟩

set_option maxRecDepth 100000 in
set_option maxHeartbeats 2000000 in
theorem wordsOf_seq (m : Int) (n k : Nat) (hm : Md m (n : Int) (k : Int)) (hk8 : k ≤ 8) (mb xb : Nat) (F : Nat → Int) (w : World) (hmb : Box w mb (.int .i64 m)) (hb : Bk .u8 w xb 72 F)
    (cWd : ∀ (x : Nat), x < k → ∀ W : World, Calls Tryd.prog 70 #[.agg (ints .u8 72 F).toArray, .int .i64 m, .int .i64 (x : Int)] W fun e w' => ∃ g, e = .returned (.slice (some ⟨g, 0, none⟩) n n) ∧ W.heap.size ≤ g ∧ Bk .u8 w' g n (fun j => F (n * x + j)) ∧ Below W.heap.size W w') :
    SeqG Tryd.prog 69 #[.pointer (some ⟨mb, 0, none⟩), .pointer (some ⟨xb, 0, none⟩)] (fun x v => #[.int .i64 (x : Int), v]) k (WordAt n F) (fun b => b = mb ∨ b = xb) w := by
  intro l M J Jx W hW hM hJ hJx hY h0
  have hbW : Bk .u8 W xb 72 F := hb.below hW hb.lt
  have hmW : Box W mb (.int .i64 m) := hmb.below hW hmb.lt
  have HM : Hid (¬ M xb ∧ ¬ M mb) := ⟨fun h => (hM xb h).2 (.inr rfl), fun h => (hM mb h).2 (.inl rfl)⟩
  have HJ : Hid (∀ (x : Nat) (A A' : World), W.heap.size ≤ A.heap.size → J x A → Below A.heap.size A A' → J x A') := fun x A A' hl h k => hJ x A A' h ((stay_below k).mono hl)
  have cN : Hid (∀ W : World, Calls Tryd.prog 52 #[.int .i64 m] W fun e w' => e = .returned (.int .i64 (k : Int)) ∧ w' = W) := countWords_any hm
  have i0 : (Tryd.prog.info? 25).map (·.size) = some (ints .u8 72 F).length := by rw [ints_len]; exact infoR
  have cW : Hid (∀ (x : Nat), x < k → ∀ W : World, Calls Tryd.prog 70 #[.agg (ints .u8 72 F).toArray, .int .i64 m, .int .i64 (x : Int)] W fun e w' => ∃ g, e = .returned (.slice (some ⟨g, 0, none⟩) n n) ∧ W.heap.size ≤ g ∧ Bk .u8 w' g n (fun j => F (n * x + j)) ∧ Below W.heap.size W w') := cWd
  obtain ⟨L, hL⟩ : ∃ A, ints .u8 72 F = A := ⟨_, rfl⟩
  rw [hL] at cW i0
  have HL : Hid (ints .u8 72 F = L) := hL
  have HB : Hid (Bk .u8 W xb 72 F ∧ Box W mb (.int .i64 m)) := ⟨hbW, hmW⟩
  have HY : Hid (∀ (x : Nat) (v : Value) (W1 : World), x < k → WordAt n F x v W1 → J x W1 → YieldAt Fence.wide 8 Tryd.prog l #[.int .i64 (x : Int), v] W1 fun e W' => (e = .returned (.bool true) ∧ J (x + 1) W' ∧ Keep M W1 W') ∨ (e = .returned (.bool false) ∧ Jx x W' ∧ Keep M W1 W')) := hY
  have c0 := hmW.1
  clear hJ hJx hY hM hW hb hL hbW hmb hmW cWd hm
  refine callsIn_of_wp Tryd.func69 rfl trivial ?_ rfl
  simp only [Tryd.ntmps69, List.size_toArray, List.length_cons, List.length_nil, Nat.reduceAdd, Nat.reduceSub, Array.replicate_succ, Array.replicate_zero, List.push_toArray, List.append_toArray, List.nil_append, List.cons_append]
  gi_wp2_with (refine ⟨trivial, ?_⟩; gi_at_call 52; refine (callsIn_wide.2 (cN.out _)).mono ?_; rintro e w' ⟨rfl, hw2⟩; rw [hw2]; clear hw2 w')
  clear c0
  gi_loopw [7] (fun i wr => ∃ x : Nat, x ≤ k ∧ i = .int .i64 (x : Int) ∧ J x wr ∧ Keep M W wr) (fun i _ => (k - (intOf i).toNat))
  case atStart => exact ⟨0, by omega, rfl, h0, Keep.refl _ _⟩
  case round =>
    obtain ⟨x, hx, rfl, hJs, hK⟩ := hrel
    by_cases hlt : x < k
    · have hr := (HB.out.1.keep hK HM.out.1).range
      have c0 := (hK.box HB.out.2 HM.out.2).1
      rw [HL.out] at hr
      have HX : Hid (∀ W : World, Calls Tryd.prog 70 #[.agg L.toArray, .int .i64 m, .int .i64 (x : Int)] W fun e w' => ∃ g, e = .returned (.slice (some ⟨g, 0, none⟩) n n) ∧ W.heap.size ≤ g ∧ Bk .u8 w' g n (fun j => F (n * x + j)) ∧ Below W.heap.size W w') := cW.out x hlt
      have hlk : (x : Int) < (k : Int) := by omega
      clear cW
      gi_wp2_with (first | (refine load_wide rfl 25 _ rfl xb 0 rfl L _ hr Tryd.underlying25 rfl i0 ?_) | (refine ⟨trivial, ?_⟩; gi_at_call 70; refine (callsIn_wide.2 (HX.out _)).mono ?_; rintro e W2 ⟨g, rfl, hg, hbk, b2⟩; obtain ⟨fn, tmps, assign, body, hyl, hR⟩ := HY.out x _ W2 hlt ⟨g, rfl, hbk⟩ (HJ.out x wr W2 hK.1 hJs b2)) | (refine hR.mono ?_; rintro e W3 hE; obtain ⟨r, rfl, hE2⟩ := yields hE))
      · rcases hE2.out with ⟨rfl, _⟩ | ⟨_, hJx3⟩
        · rename_i hr; cases hr
        · refine bodyPost_ret (results_none rfl _ _ _) rfl ?_
          exact ⟨⟨_, rfl⟩, .inr ⟨x, hlt, hJx3.1⟩⟩
      · rcases hE2.out with ⟨_, hJ3, hK3⟩ | ⟨rfl, _⟩
        · refine ⟨⟨x + 1, by omega, by go_num, hJ3, hK.trans ((Keep.below b2 (Nat.le_refl _)).trans hK3)⟩, ?_⟩
          simp [intOf]; omega
        · rename_i hr; cases hr
    · obtain rfl : x = k := by omega
      gi_wp2
      go_end0
      exact ⟨⟨_, rfl⟩, .inl hJs⟩
end Go.Proofs.YtdjknaafefnlcaaDoor
