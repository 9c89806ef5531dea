/-
  The law BitWeights.
-/
import Derived.Test.YtfjhaihingmnoaaDoorBitW5
import Derived.Test.YtfjhaihingmnoaaDoorBoxes
import Derived.OpenShut
namespace Go.Proofs.YtfjhaihingmnoaaDoor
open Go.RowKit Go.Shelf
open Bm (wt wtK lef)
attribute [local go_sem] Oper.semAt_some

/-- between two rounds: B the law's first block, S the block of 'last' -/
def WtI (B S v : Nat) (w : World) (x : Nat) (W : World) : Prop :=
  (∃ L : Int, -1 ≤ L ∧ L < x ∧ L ≤ 64 ∧ Box W S (.int .i64 L)) ∧ Box W (S + 1) (.int .i64 (wtK x v : Int)) ∧ Box W B (.int .u64 (v : Int)) ∧ Box W (B + 1) (.bool false) ∧ Below B w W

set_option maxRecDepth 100000 in
set_option maxHeartbeats 4000000 in
theorem bitWeights_walk (a : Int) (w0 : (Lit.int .u64 a).wf = true) (w : World) (hT : TabW w) :
    Calls Tryd.prog 3 #[.int .u64 a] w fun e w' => e = .returned (.bool true) ∧ Below w.heap.size w w' := by
  have ra := bounds_u64 w0
  obtain ⟨v, rfl⟩ := Int.eq_ofNat_of_zero_le ra.1
  have hv : v < 18446744073709551616 := by omega
  clear w0 ra
  have hT0 := hT.lt
  have HT : Hid (TabW w) := hT
  clear hT
  obtain ⟨f, Hf, hf⟩ : ∃ f : Nat → Nat, Hid (wt = f) ∧ Hid (∀ x, f x ≤ 64) := ⟨wt, rfl, Bm.wt_le⟩
  have cR : Hid (∀ (x : Nat) (_ : x < 18446744073709551616) (w : World), Calls Tryd.prog 7 #[.int .u64 (x : Int)] w fun e w' => e = .returned (.int .i64 (f x : Int)) ∧ w' = w) := by rw [← Hf.out]; exact refWeight_any
  have cW : Hid (∀ (x : Nat) (_ : x < 18446744073709551616) (w : World), Calls Tryd.prog 10 #[.int .u64 (x : Int)] w fun e w' => e = .returned (.int .i64 (f x : Int)) ∧ w' = w) := by rw [← Hf.out]; exact weight64_any
  have cP : Hid (∀ (x : Nat) (_ : x < 18446744073709551616) (w : World), Calls Tryd.prog 11 #[.int .u64 (x : Int)] w fun e w' => e = .returned (.int .i64 ((f x % 2 : Nat) : Int)) ∧ w' = w) := by rw [← Hf.out]; exact parity64_any
  have cW8 : Hid (∀ (x : Nat) (_ : x < 256) (w : World), Calls Tryd.prog 12 #[.int .u8 (x : Int)] w fun e w' => e = .returned (.int .i64 (f x : Int)) ∧ w' = w) := by rw [← Hf.out]; exact weight8_any
  have cP8 : Hid (∀ (x : Nat) (_ : x < 256) (w : World), Calls Tryd.prog 13 #[.int .u8 (x : Int)] w fun e w' => e = .returned (.int .i64 ((f x % 2 : Nat) : Int)) ∧ w' = w) := by rw [← Hf.out]; exact parity8_any
  have cW16 : Hid (∀ (x : Nat) (_ : x < 65536) (w : World), Calls Tryd.prog 14 #[.int .u16 (x : Int)] w fun e w' => e = .returned (.int .i64 (f x : Int)) ∧ w' = w) := by rw [← Hf.out]; exact weight16_any
  have cW32 : Hid (∀ (x : Nat) (_ : x < 4294967296) (w : World), Calls Tryd.prog 15 #[.int .u32 (x : Int)] w fun e w' => e = .returned (.int .i64 (f x : Int)) ∧ w' = w) := by rw [← Hf.out]; exact weight32_any
  have Hend : Hid (wtK 64 v = f v) := by rw [← Hf.out]; rfl
  obtain ⟨v8, r8, m8, n8⟩ : ∃ x : Nat, x < 256 ∧ (v : Int) % 256 = (x : Int) ∧ (v : Int).tmod 256 = (x : Int) := ⟨v % 256, by omega, by omega, by rw [Int.tmod_eq_emod_of_nonneg (by omega)]; omega⟩
  obtain ⟨v16, r16, m16, n16⟩ : ∃ x : Nat, x < 65536 ∧ (v : Int) % 65536 = (x : Int) ∧ (v : Int).tmod 65536 = (x : Int) := ⟨v % 65536, by omega, by omega, by rw [Int.tmod_eq_emod_of_nonneg (by omega)]; omega⟩
  obtain ⟨v32, r32, m32, n32⟩ : ∃ x : Nat, x < 4294967296 ∧ (v : Int) % 4294967296 = (x : Int) ∧ (v : Int).tmod 4294967296 = (x : Int) := ⟨v % 4294967296, by omega, by omega, by rw [Int.tmod_eq_emod_of_nonneg (by omega)]; omega⟩
  have wr16 : IntKind.u16.wrap (v : Int) = (v16 : Int) := by rw [IntKind.wrap_u16]; exact m16
  have wr32 : IntKind.u32.wrap (v : Int) = (v32 : Int) := by rw [IntKind.wrap_u32']; exact m32
  have q8 : v8 < 18446744073709551616 := by omega
  have q16 : v16 < 18446744073709551616 := by omega
  have q32 : v32 < 18446744073709551616 := by omega
  have lv := hf.out v; have l8 := hf.out v8; have l16 := hf.out v16; have l32 := hf.out v32
  refine (callsIn_wide (n := 10)).1 ?_
  refine callsIn_of_wp_marks Tryd.func3 rfl trivial ?_ rfl
  simp only [Tryd.ntmps3, List.size_toArray, List.length_cons, List.length_nil, Nat.reduceAdd, Nat.reduceSub, Array.replicate_succ, Array.replicate_zero, List.push_toArray, List.append_toArray, List.nil_append, List.cons_append]
  refine wpIn_wide.2 ?_
  go_wp2_with fail
  obtain ⟨V0, hV0⟩ : ∃ V0, (w.alloc (.cells #[.int .u64 (v : Int)] 22)).alloc (.cells #[.bool false] 4) = V0 := ⟨_, rfl⟩
  obtain ⟨s0, a0, a1, hS0⟩ := box2 w _ _ _ _ V0 hV0
  rw [hV0]
  clear hV0
  refine (anchor_any _).mono ?_
  rintro e V1 ⟨rfl, hB1⟩
  have b0 := a0.below hB1 a0.lt
  have b1 := a1.below hB1 a1.lt
  have hB : Below w.heap.size w V1 := (below_stay (Below.refl _ w) hS0 (Nat.le_refl _)).trans (hB1.mono (by omega))
  have s1 : w.heap.size + 2 ≤ V1.heap.size := by have := hB1.size; omega
  clear a0 a1 hS0 hB1 s0
  have c0 := b0.1; have l0 : w.heap.size < V1.heap.size := by omega
  have l1 : w.heap.size + 1 < V1.heap.size := by omega
  go_wp2_with (first | (go_at_call 7; refine (cR.out _ (by assumption) _).mono ?_; rintro e w' ⟨rfl, rfl⟩) | (go_at_call 8; refine (ones64_any _ _).mono ?_; rintro e w' ⟨rfl, rfl⟩))
  obtain ⟨V, hV⟩ : ∃ V, ((w'.alloc (.cells #[.int .i64 (-1)] 3)).alloc (.cells #[.int .i64 0] 3)).alloc (.cells #[.int .u64 (v : Int)] 22) = V := ⟨_, rfl⟩
  obtain ⟨sV, a0, a1, a2, hSV⟩ := box3 w' _ _ _ _ _ _ V hV
  rw [hV]
  clear hV c0
  obtain ⟨S, hS⟩ : ∃ S, w'.heap.size = S := ⟨_, rfl⟩
  rw [hS] at a0 a1 a2 sV l0 l1 s1 ⊢
  have e0 := b0.stayed hSV
  have e1 := b1.stayed hSV
  have hBV : Below w.heap.size w V := below_stay hB hSV (by omega)
  have hTV : TabW V := HT.out.below hBV hT0
  clear b0 b1 hB hSV hS
  refine (wpIn_wide (n := 10)).1 (rangeC rfl (enters_of Tryd.func23 (by kernel_rfl) rfl) (ones64_seq (S + 1 + 1) v hv V a2.lt a2.1 hTV) (fun _ => rfl)
    (fun b => b = S ∨ b = S + 1) (by rintro b (rfl | rfl) <;> constructor <;> omega) (by rintro b rfl; omega)
    (WtI w.heap.size S v w) (fun _ _ _ => False)
    (by rintro x A B ⟨⟨L, h1, h2, h3, h4⟩, h5, h6, h7, h8⟩ hs; exact ⟨⟨L, h1, h2, h3, h4.stay hs⟩, h5.stay hs, h6.stay hs, h7.stay hs, below_stay h8 hs (by omega)⟩)
    (fun _ _ _ _ h _ => h.elim) ⟨⟨-1, by omega, by omega, by omega, a0⟩, a1, e0, e1, hBV⟩
    (by rintro x W hx hp ⟨⟨L, h1, h2, h3, h4⟩, h5, h6, h7, h8⟩
        refine ⟨⟨L, h1, by omega, h3, h4⟩, ?_, h6, h7, h8⟩
        rw [Bm.wtK_succ_hi, show v / 2 ^ x % 2 = 0 from by omega]; exact h5) ?round ?done (fun _ _ _ _ _ _ _ h => h.elim))
  case round =>
    rintro l x W W2 hx hp ⟨⟨L, h1, h2, h3, h4⟩, h5, h6, h7, h8⟩
    obtain ⟨c, hc, Hc⟩ : ∃ c, c ≤ x ∧ Hid (wtK x v = c) := ⟨_, Bm.wtK_le x v, rfl⟩
    rw [Hc.out] at h5
    have hBit : Hid (∀ w, Calls Tryd.prog 9 #[.int .u64 (v : Int), .int .i64 (x : Int)] w fun e w' => e = .returned (.int .i64 1) ∧ w' = w) := fun w => by
      have := refBit_any v x hv (by omega) w
      rw [hp] at this; exact this
    have fin : Hid (Keep (fun b => b = S ∨ b = S + 1) W2 ((W2.setCell ⟨S, 0, none⟩ (.int .i64 (x : Int))).setCell ⟨S + 1, 0, none⟩ (.int .i64 ((c : Int) + 1))) ∧ WtI w.heap.size S v w (x + 1) ((W2.setCell ⟨S, 0, none⟩ (.int .i64 (x : Int))).setCell ⟨S + 1, 0, none⟩ (.int .i64 ((c : Int) + 1)))) := by
      refine ⟨((Keep.refl _ _).set (.inl rfl) _).set (.inr rfl) _, ⟨(x : Int), by omega, by omega, by omega, (h4.set _).other (by omega) _⟩, ?_, (h6.other (by omega) _).other (by omega) _, (h7.other (by omega) _).other (by omega) _, (h8.setCell (p := ⟨S, 0, none⟩) (by simp; omega) _).setCell (p := ⟨S + 1, 0, none⟩) (by simp; omega) _⟩
      rw [Bm.wtK_succ_hi, Hc.out, hp]
      exact (h5.other (by omega) _).set _
    have q0 := h4.1; have f0 := h4.2; have q1 := h5.1; have f1 := h5.2; have q2 := h6.1
    have dL : decide ((x : Int) ≤ L) = false := by simp; omega
    have ns : S ≠ S + 1 := by omega
    clear h4 h5 h6 h7 h8 hp
    gi_wp2
    try (refine ⟨trivial, ?_⟩)
    gi_wp2_with (first | (refine ⟨trivial, ?_⟩; gi_at_call 9; refine (CallsIn.inRound l (callsIn_wide.2 (hBit.out _))).mono ?_; rintro e w' ⟨rfl, rfl⟩))
    exact fin.out
  case done =>
    rintro D W hD ⟨_, h5, h6, h7, h8⟩ hK
    rw [Hend.out] at h5
    have q1 := h5.1; have q2 := h6.1; have q3 := h7.1; have f3 := h7.2
    have H7 : Hid (Box W (w.heap.size + 1) (.bool false)) := h7
    have H8 : Hid (Below w.heap.size w W) := h8
    have HK : Hid (W.heap[D]? = some (.deferred (some []))) := hK
    clear h5 h6 h7 h8 hK
    go_wp2_with (first | (go_at_call 7; refine (cR.out _ (by assumption) _).mono ?_; rintro e w' ⟨rfl, rfl⟩) | (go_at_call 10; refine (cW.out _ (by assumption) _).mono ?_; rintro e w' ⟨rfl, rfl⟩) | (go_at_call 11; refine (cP.out _ (by assumption) _).mono ?_; rintro e w' ⟨rfl, rfl⟩) | (go_at_call 12; refine (cW8.out _ (by assumption) _).mono ?_; rintro e w' ⟨rfl, rfl⟩) | (go_at_call 13; refine (cP8.out _ (by assumption) _).mono ?_; rintro e w' ⟨rfl, rfl⟩) | (go_at_call 14; refine (cW16.out _ (by assumption) _).mono ?_; rintro e w' ⟨rfl, rfl⟩) | (go_at_call 15; refine (cW32.out _ (by assumption) _).mono ?_; rintro e w' ⟨rfl, rfl⟩))
    obtain ⟨k1, k2, k3⟩ := leaves (u := .bool true) H7.out HK.out (by omega) (by omega) (by omega) H8.out
    refine ⟨by simp, .inl ⟨_, _, rfl, run_takeDeferred k1, ?_⟩⟩
    refine ⟨.bool true, ?_, rfl, k3⟩
    simp [results, Tryd.f3, go_sem, k2]
end Go.Proofs.YtfjhaihingmnoaaDoor
