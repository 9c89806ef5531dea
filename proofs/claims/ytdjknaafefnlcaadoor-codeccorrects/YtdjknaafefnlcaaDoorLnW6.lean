/-
  A line's words, by the document and by the program.
-/
import Derived.Test.YtdjknaafefnlcaaDoorLnW5
import Derived.Test.YtdjknaafefnlcaaDoorRoundM
namespace Go.Proofs.YtdjknaafefnlcaaDoor
open Go.RowKit Go.Shelf
open Ln (val wrd)
attribute [local go_sem] Oper.semAt_some


theorem or_byte (y b j : Nat) (hy : y < 256 ^ j) (hb : b < 256) (hj : j < 8) : bits .or .u64 (y : Int) (IntKind.u64.wrap ((b : Int) * 2 ^ (8 * j))) = ((y + b * 256 ^ j : Nat) : Int) := by
  have e : (2 : Nat) ^ (8 * j) = 256 ^ j := by rw [Nat.pow_mul]
  have hp : 256 ^ j ≤ 72057594037927936 := by rw [show 72057594037927936 = 256 ^ 7 from rfl]; exact Nat.pow_le_pow_right (by omega) (by omega)
  have hl : b * 256 ^ j < 18446744073709551616 := Nat.lt_of_le_of_lt (Nat.mul_le_mul (show b ≤ 255 by omega) hp) (by decide)
  have e2 : (b : Int) * 2 ^ (8 * j) = ((b * 256 ^ j : Nat) : Int) := by rw [← e]; simp
  rw [e2, show IntKind.u64.wrap ((b * 256 ^ j : Nat) : Int) = ((b * 256 ^ j : Nat) : Int) from by rw [IntKind.wrap_u64]; omega, u64_or_nat y _ (by omega) hl, Ln.or_top y b j hy]
set_option maxRecDepth 100000 in
set_option maxHeartbeats 1000000 in
theorem word6_any (F : Nat → Int) (hF : Byts 64 F) (k : Nat) (hk : k < 8) (w : World) :
    Calls Tryd.prog 61 #[.agg (ints .u8 64 F).toArray, .int .i64 (k : Int)] w fun e w' => e = .returned (.int .u64 (wrd F k : Int)) ∧ Below w.heap.size w w' := by
  obtain ⟨A0, hA0⟩ : ∃ A, (ints .u8 64 F).toArray = A := ⟨_, rfl⟩
  rw [hA0]
  obtain ⟨u, Hu⟩ : ∃ u, Hid (wrd F k = u) := ⟨_, rfl⟩
  rw [Hu.out]
  go_enter Tryd.func61, Tryd.ntmps61
  go_wp2
  obtain ⟨V, hV⟩ : ∃ V, w.alloc (.cells A0 23) = V := ⟨_, rfl⟩
  have HI : Hid (Bk .u8 V w.heap.size 64 F ∧ Below w.heap.size w V) := by
    rw [← hV, ← hA0]
    exact ⟨Bk.new .u8 w 64 F _, (Below.refl _ w).alloc (Nat.le_refl _) _⟩
  obtain ⟨B, hB⟩ : ∃ B, w.heap.size = B := ⟨_, rfl⟩
  rw [hV]
  rw [hB] at HI ⊢
  clear hV hA0
  go_loop [5, 7] (fun x i => ∃ j y : Nat, j ≤ 8 ∧ y < 18446744073709551616 ∧ Hid (y = val (fun i => (F i).toNat) j (8 * k)) ∧ x = .int .u64 (y : Int) ∧ i = .int .i64 (j : Int)) (fun _ i => 8 - (intOf i).toNat)
  case atStart => exact ⟨0, 0, by omega, by omega, rfl, rfl, rfl⟩
  case round =>
    obtain ⟨j, y, hj, hy, Hy, rfl, rfl⟩ := hrel
    by_cases hlt : j < 8
    · have c0 := HI.out.1.cell (8 * k + j) (by omega)
      have hb := hF (8 * k + j) (by omega)
      obtain ⟨b, hb', Hb⟩ : ∃ b : Nat, b < 256 ∧ Hid (F (8 * k + j) = (b : Int)) := ⟨(F (8 * k + j)).toNat, by omega, by show _ = _; omega⟩
      rw [Hb.out] at c0
      have hyl : y < 256 ^ j := by
        rw [Hy.out]
        exact Ln.val_lt (fun i => (F i).toNat) j (8 * k) (fun j _ h2 => by have := hF j (by omega); show (F j).toNat < 256; omega)
      have Ho : Hid (bits .or .u64 (y : Int) (IntKind.u64.wrap ((b : Int) * 2 ^ (8 * j))) = ((y + b * 256 ^ j : Nat) : Int)) := or_byte y b j hyl hb' hlt
      have HN : Hid (y + b * 256 ^ j = val (fun i => (F i).toNat) (j + 1) (8 * k)) := by
        show _ = _
        rw [Ln.val_top, ← Hy.out]
        show y + b * 256 ^ j = y + (F (8 * k + j)).toNat * 256 ^ j
        rw [Hb.out]; rfl
      have HL : Hid (y + b * 256 ^ j < 18446744073709551616) := by
        show _ < _
        rw [HN.out]
        exact Nat.lt_of_lt_of_le (Ln.val_lt (fun i => (F i).toNat) (j + 1) (8 * k) (fun j _ h2 => by have := hF j (by omega); show (F j).toNat < 256; omega)) (by rw [show 18446744073709551616 = 256 ^ 8 from rfl]; exact Nat.pow_le_pow_right (by omega) (by omega))
      clear hb hyl Hy
      go_wp2
      go_round
      case rel => exact ⟨j + 1, y + b * 256 ^ j, by omega, HL.out, HN, by rw [Ho.out], by first | rfl | go_num⟩
      case measure => simp [intOf]; omega
    · obtain rfl : j = 8 := by omega
      have He : Hid (y = u) := by show _ = _; rw [← Hu.out, Hy.out]; rfl
      clear Hy
      go_wp2
      go_ret
      exact ⟨by rw [← He.out]; rfl, HI.out.2⟩
theorem stay_below {W W' : World} (k : Below W.heap.size W W') : Stay W.heap.size W W' :=
  ⟨k.os, k.tape, k.output, k.size, fun b _ hb _ => (k.block b (Array.getElem?_eq_some_iff.1 hb).1).trans hb, fun b hb => k.block b hb⟩
theorem words_any (F : Nat → Int) (w : World) :
    Calls Tryd.prog 29 #[.agg (ints .u8 64 F).toArray] w fun e w' => e = .returned (.func (.func 60) #[] #[.pointer (some ⟨w.heap.size, 0, none⟩)]) ∧ w' = w.alloc (.cells (ints .u8 64 F).toArray 23) := by
  obtain ⟨A0, hA0⟩ : ∃ A, (ints .u8 64 F).toArray = A := ⟨_, rfl⟩
  rw [hA0]
  go_enter Tryd.func29, Tryd.ntmps29
  go_wp2
  go_ret
  exact ⟨rfl, rfl⟩

set_option maxRecDepth 100000 in
set_option maxHeartbeats 2000000 in
theorem words_seq (xb : Nat) (F : Nat → Int) (hF : Byts 64 F) (w : World) (hb : Bk .u8 w xb 64 F) :
    SeqC Tryd.prog 60 #[.pointer (some ⟨xb, 0, none⟩)] (fun x => #[.int .i64 (x : Int), .int .u64 (wrd F x : Int)]) 8 (fun _ => True) (fun b => b = xb) w := by
  intro l M J Jx W hW hM hJ hJx hskip hY h0
  have hbW : Bk .u8 W xb 64 F := hb.below hW hb.lt
  have HM : Hid (¬ M xb) := fun h => (hM xb h).2 rfl
  have HJ : Hid (∀ (x : Nat) (A A' : World), W.heap.size ≤ A.heap.size → J x A → Below A.heap.size A A' → J x A') := fun x A A' hl h k => hJ x A A' h ((stay_below k).mono hl)
  have cW : Hid (∀ (k : Nat), k < 8 → ∀ W : World, Calls Tryd.prog 61 #[.agg (ints .u8 64 F).toArray, .int .i64 (k : Int)] W fun e w' => e = .returned (.int .u64 (wrd F k : Int)) ∧ Below W.heap.size W w') := fun k hk W => word6_any F hF k hk W
  have i0 : (Tryd.prog.info? 23).map (·.size) = some (ints .u8 64 F).length := by rw [ints_len]; exact infoL
  obtain ⟨L, hL⟩ : ∃ A, ints .u8 64 F = A := ⟨_, rfl⟩
  rw [hL] at cW i0
  have HL : Hid (ints .u8 64 F = L) := hL
  have HB : Hid (Bk .u8 W xb 64 F) := hbW
  have HY : Hid (∀ (x : Nat) (W1 : World), x < 8 → J x W1 → YieldAt Fence.wide 8 Tryd.prog l #[.int .i64 (x : Int), .int .u64 (wrd F x : Int)] W1 fun e W' => (e = .returned (.bool true) ∧ J (x + 1) W' ∧ Keep M W1 W') ∨ (e = .returned (.bool false) ∧ Jx x W' ∧ Keep M W1 W')) := fun x W1 h1 h2 => hY x W1 h1 trivial h2
  clear hJ hJx hskip hY hM hW hb hL hbW
  refine callsIn_of_wp Tryd.func60 rfl trivial ?_ rfl
  simp only [Tryd.ntmps60, List.size_toArray, List.length_cons, List.length_nil, Nat.reduceAdd, Nat.reduceSub, Array.replicate_succ, Array.replicate_zero, List.push_toArray, List.append_toArray, List.nil_append, List.cons_append]
  gi_wp2
  gi_loopw [4] (fun i wr => ∃ x : Nat, x ≤ 8 ∧ i = .int .i64 (x : Int) ∧ J x wr ∧ Keep M W wr) (fun i _ => (8 - (intOf i).toNat))
  case atStart => exact ⟨0, by omega, rfl, h0, Keep.refl _ _⟩
  case round =>
    obtain ⟨x, hx, rfl, hJs, hK⟩ := hrel
    by_cases hlt : x < 8
    · have hr := (HB.out.keep hK HM.out).range
      rw [HL.out] at hr
      have cX := cW.out x hlt
      obtain ⟨c, Hc⟩ : ∃ c, Hid (wrd F x = c) := ⟨_, rfl⟩
      rw [Hc.out] at cX
      have HX : Hid (∀ W : World, Calls Tryd.prog 61 #[.agg L.toArray, .int .i64 (x : Int)] W fun e w' => e = .returned (.int .u64 (c : Int)) ∧ Below W.heap.size W w') := cX
      clear cX cW
      have HYx : Hid (∀ W1 : World, J x W1 → YieldAt Fence.wide 8 Tryd.prog l #[.int .i64 (x : Int), .int .u64 (c : Int)] W1 fun e W' => (e = .returned (.bool true) ∧ J (x + 1) W' ∧ Keep M W1 W') ∨ (e = .returned (.bool false) ∧ Jx x W' ∧ Keep M W1 W')) := fun W1 h => by
        have := HY.out x W1 hlt h
        rw [Hc.out] at this
        exact this
      gi_wp2_with (first | (refine load_wide rfl 23 _ rfl xb 0 rfl L _ hr Tryd.underlying23 rfl i0 ?_) | (refine ⟨trivial, ?_⟩; gi_at_call 61; refine (callsIn_wide.2 (HX.out _)).mono ?_; rintro e W2 ⟨rfl, b2⟩; obtain ⟨fn, tmps, assign, body, hyl, hR⟩ := HYx.out W2 (HJ.out x wr W2 hK.1 hJs b2)) | (refine hR.mono ?_; rintro e W3 hE; obtain ⟨r, rfl, hE2⟩ := yields hE))
      · rcases hE2.out with ⟨rfl, _⟩ | ⟨_, hJx3⟩
        · rename_i hr; cases hr
        · refine bodyPost_ret (results_none rfl _ _ _) rfl ?_
          exact ⟨⟨_, rfl⟩, .inr ⟨x, hlt, trivial, hJx3.1⟩⟩
      · rcases hE2.out with ⟨_, hJ3, hK3⟩ | ⟨rfl, _⟩
        · refine ⟨⟨x + 1, by omega, by go_num, hJ3, hK.trans ((Keep.below b2 (Nat.le_refl _)).trans hK3)⟩, ?_⟩
          simp [intOf]; omega
        · rename_i hr; cases hr
    · obtain rfl : x = 8 := by omega
      gi_wp2
      go_end0
      exact ⟨⟨_, rfl⟩, .inl hJs⟩
end Go.Proofs.YtdjknaafefnlcaaDoor
