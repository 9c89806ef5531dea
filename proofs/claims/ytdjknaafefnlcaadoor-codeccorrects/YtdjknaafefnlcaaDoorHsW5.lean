/-
  The check bits; the verdict of a word.
-/
import Derived.Test.YtdjknaafefnlcaaDoorHsW4
namespace Go.Proofs.YtdjknaafefnlcaaDoor
open Go.RowKit Go.Shelf
open Bm (wt wtK cntW)
open Hm (col onesOf nOf idx kd pl xs ap syn)
attribute [local go_sem] Oper.semAt_some

set_option maxHeartbeats 400000 in
theorem check_any (b d : Nat) (a p : Int) (hd : d < 18446744073709551616) (w : World) (hc : CodeAt w b) (hT : TabW w) :
    Calls Tryd.prog 30 #[.pointer (some ⟨b, 0, none⟩), .int .u64 (d : Int), .int .i64 a, .int .i64 p] w fun e w' => e = .returned (.int .u8 (syn d 0 a p : Int)) ∧ Below w.heap.size w w' := by
  have H : Hid (Calls Tryd.prog 62 #[.pointer (some ⟨b, 0, none⟩), .int .u64 (d : Int), .int .u8 0, .int .i64 a, .int .i64 p] w fun e w' => e = .returned (.int .u8 (syn d 0 a p : Int)) ∧ Below w.heap.size w w') := syndrome_any b d 0 a p hd (by omega) w hc hT
  clear hc hT
  go_enter Tryd.func30, Tryd.ntmps30
  go_wp2_with (go_at_call 62; refine (H.out).mono ?_; rintro e w' ⟨rfl, hB⟩)
  go_ret
  exact ⟨rfl, hB⟩

/-- the data that are told: with the bit turned, if it is one of them -/
def fx (d s : Nat) : Nat := if kd s = 1 ∧ pl s < 64 then d ^^^ 2 ^ (pl s).toNat else d
set_option maxRecDepth 100000 in
set_option maxHeartbeats 1000000 in
theorem decode_any (b d k : Nat) (a : Int) (hd : d < 18446744073709551616) (hk : k < 256) (w : World) (hc : CodeAt w b) (hT : TabW w) :
    Calls Tryd.prog 39 #[.pointer (some ⟨b, 0, none⟩), .int .u64 (d : Int), .int .u8 (k : Int), .int .i64 a] w fun e w' =>
      e = .returned (.tuple #[.int .u64 (fx d (syn d k a 0) : Int), .int .i64 (kd (syn d k a 0)), .int .i64 (pl (syn d k a 0))]) ∧ Below w.heap.size w w' := by
  have H : Hid (Calls Tryd.prog 62 #[.pointer (some ⟨b, 0, none⟩), .int .u64 (d : Int), .int .u8 (k : Int), .int .i64 a, .int .i64 0] w fun e w' => e = .returned (.int .u8 (syn d k a 0 : Int)) ∧ Below w.heap.size w w') := syndrome_any b d k a 0 hd hk w hc hT
  have hbl := hc.lt
  have HC : Hid (CodeAt w b) := hc
  have hs := Hm.syn_lt d k a 0 hk
  obtain ⟨s, Hs⟩ : ∃ s, syn d k a 0 = s := ⟨_, rfl⟩
  rw [Hs] at H hs ⊢
  have ht := told s
  have hf : Hid (fx d s = if kd s = 1 ∧ pl s < 64 then d ^^^ 2 ^ (pl s).toNat else d) := rfl
  have hcl : Hid (∀ w, CodeAt w b → Calls Tryd.prog 71 #[.pointer (some ⟨b, 0, none⟩), .int .u8 (s : Int)] w fun e w' => e = .returned (.tuple #[.int .i64 (kd s), .int .i64 (pl s)]) ∧ w' = w) := fun w hw => classify_any b s hs w hw
  obtain ⟨y, hy⟩ : ∃ y, fx d s = y := ⟨_, rfl⟩
  rw [hy] at hf ⊢
  have hidx := idx_lt s 74 0
  obtain ⟨K, hK⟩ : ∃ K, kd s = K := ⟨_, rfl⟩
  obtain ⟨L, hL⟩ : ∃ L, pl s = L := ⟨_, rfl⟩
  rw [hK, hL] at ht hcl hf ⊢
  have hc3 : (K = 1 ∧ 0 ≤ L ∧ L < 64 ∧ y = d ^^^ 2 ^ L.toNat) ∨ (K = 1 ∧ 64 ≤ L ∧ L < 72 ∧ y = d) ∨ (K ≠ 1 ∧ y = d) := by
    have hf := hf.out
    by_cases h1 : K = 1 ∧ L < 64
    · rw [if_pos h1] at hf
      exact .inl ⟨h1.1, by omega, h1.2, hf⟩
    · rw [if_neg h1] at hf
      by_cases h2 : K = 1
      · exact .inr (.inl ⟨h2, by omega, by omega, hf⟩)
      · exact .inr (.inr ⟨h2, hf⟩)
  clear hc hT hf hK hL hy ht hidx Hs
  rcases hc3 with ⟨rfl, h1, h2, hy⟩ | ⟨rfl, h1, h2, rfl⟩ | ⟨h1, rfl⟩
  · obtain ⟨i, rfl⟩ := Int.eq_ofNat_of_zero_le h1
    have hx := flip64 d i hd (by omega)
    rw [Int.toNat_natCast] at hy
    subst hy
    go_enter Tryd.func39, Tryd.ntmps39
    go_wp2_with (first | (go_at_call 62; refine (H.out).mono ?_; rintro e w' ⟨rfl, hB⟩) | (go_at_call 71; refine (hcl.out _ (HC.out.below hB hbl)).mono ?_; rintro e w' ⟨rfl, rfl⟩))
    go_ret3
    exact ⟨by first | rfl | (rw [← hx]; rfl), hB⟩
  · go_enter Tryd.func39, Tryd.ntmps39
    go_wp2_with (first | (go_at_call 62; refine (H.out).mono ?_; rintro e w' ⟨rfl, hB⟩) | (go_at_call 71; refine (hcl.out _ (HC.out.below hB hbl)).mono ?_; rintro e w' ⟨rfl, rfl⟩))
    go_ret3
    exact ⟨rfl, hB⟩
  · have hd1 : (K == 1) = false := by simpa using h1
    clear h1
    go_enter Tryd.func39, Tryd.ntmps39
    go_wp2_with (first | (go_at_call 62; refine (H.out).mono ?_; rintro e w' ⟨rfl, hB⟩) | (go_at_call 71; refine (hcl.out _ (HC.out.below hB hbl)).mono ?_; rintro e w' ⟨rfl, rfl⟩))
    go_ret3
    exact ⟨rfl, hB⟩
end Go.Proofs.YtdjknaafefnlcaaDoor
