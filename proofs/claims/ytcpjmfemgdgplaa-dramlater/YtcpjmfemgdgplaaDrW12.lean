/-
  New chips.
-/
import Derived.Test.YtcpjmfemgdgplaaDrW11
import Derived.Test.YtcpjmfemgdgplaaDrW7
namespace Go.Proofs.Ytcpjmfemgdgplaa
open Go.RowKit Go.Shelf
open Ge (pw rt hd ix)
attribute [local go_sem] Oper.semAt_some

theorem built_dr (r s b o d m : Int) (M : Nat) : Try.prog.built 82 [(0, .agg #[.int .i64 r, .int .i64 s, .int .i64 b, .int .i64 o, .int .i64 d]), (1, .int .i64 m), (2, .map (some M))] = some (dl r s b o d m (.map (some M)) (.slice none 0 0) (.slice none 0 0)).toArray := by kernel_rfl
theorem exec_dr {op : Oper} {a : Act} (x y z : Nat) (ho : op.op = .build 82 #[(0, .tmp x), (1, .tmp y), (2, .tmp z)]) (r s b o d m : Int) (M : Nat) (hx : a.eval (.tmp x) = .agg #[.int .i64 r, .int .i64 s, .int .i64 b, .int .i64 o, .int .i64 d]) (hy : a.eval (.tmp y) = .int .i64 m) (hz : a.eval (.tmp z) = .map (some M)) (w : World) :
    (execOp a.eval op).run Try.prog w = .ok (.value (.agg (dl r s b o d m (.map (some M)) (.slice none 0 0) (.slice none 0 0)).toArray)) w := by
  have h := run_build (P := Try.prog) w 82 #[(0, .agg #[.int .i64 r, .int .i64 s, .int .i64 b, .int .i64 o, .int .i64 d]), (1, .int .i64 m), (2, .map (some M))] _ (built_dr r s b o d m M)
  simp [execOp, ho, hx, hy, hz, h]
set_option maxHeartbeats 1000000 in
theorem dNew_geom (r s b o d m : Int) (h : rt r s b o d = false) (w : World) :
    Calls Try.prog 9 #[.agg #[.int .i64 r, .int .i64 s, .int .i64 b, .int .i64 o, .int .i64 d], .int .i64 m] w fun e w' => e = .returned (.tuple #[.pointer none, .int .i64 20]) ∧ Below w.heap.size w w' := by
  have CR : Hid (∀ w : World, Calls Try.prog 34 #[.agg #[.int .i64 r, .int .i64 s, .int .i64 b, .int .i64 o, .int .i64 d]] w fun e w' => e = .returned (.bool false) ∧ Below w.heap.size w w') := fun w => by rw [← h]; exact right_any r s b o d w
  clear h
  go_enter Try.func9, Try.ntmps9
  go_upto_region 1 with (fail)
  obtain ⟨C, hC⟩ : ∃ C, w.heap.size = C := ⟨_, rfl⟩
  obtain ⟨V, hV⟩ : ∃ V, w.alloc (.cells #[.int .i64 r, .int .i64 s, .int .i64 b, .int .i64 o, .int .i64 d] 23) = V := ⟨_, rfl⟩
  have HB : Hid (Below w.heap.size w V) := by rw [← hV]; exact (Below.refl _ w).alloc (Nat.le_refl _) _
  have hg : V.rangeAt C 0 [.int .i64 r, .int .i64 s, .int .i64 b, .int .i64 o, .int .i64 d] := by rw [← hV, ← hC]; exact Bk.range (Gm.new w r s b o d _)
  rw [hV, hC]
  clear hV
  go_wp2_with (first | refine wpList_load_mid rfl 23 _ rfl C 0 rfl [.int .i64 r, .int .i64 s, .int .i64 b, .int .i64 o, .int .i64 d] _ hg Try.underlying23 rfl infoGm ?_)
  refine (CR.out _).mono ?_
  rintro e W1 ⟨rfl, b1⟩
  replace HB : Hid (Below w.heap.size w W1) := HB.out.trans (b1.mono HB.out.size)
  clear b1 hg CR
  go_wp2
  exact bodyPost_ret (results_tmp2 rfl _ _ _) rfl ⟨rfl, by first | exact HB.out | (rw [hC] at HB; exact HB.out)⟩
set_option maxHeartbeats 1000000 in
theorem dNew_mode (r s b o d m : Int) (h : rt r s b o d = true) (hm : Md m 0 0) (w : World) :
    Calls Try.prog 9 #[.agg #[.int .i64 r, .int .i64 s, .int .i64 b, .int .i64 o, .int .i64 d], .int .i64 m] w fun e w' => e = .returned (.tuple #[.pointer none, .int .i64 21]) ∧ Below w.heap.size w w' := by
  have CR : Hid (∀ w : World, Calls Try.prog 34 #[.agg #[.int .i64 r, .int .i64 s, .int .i64 b, .int .i64 o, .int .i64 d]] w fun e w' => e = .returned (.bool true) ∧ Below w.heap.size w w') := fun w => by rw [← h]; exact right_any r s b o d w
  have CM : Hid (∀ w : World, Calls Try.prog 35 #[.int .i64 m] w fun e w' => e = .returned (.bool false) ∧ w' = w) := fun w => right9_any hm w
  clear h hm
  go_enter Try.func9, Try.ntmps9
  go_upto_region 1 with (fail)
  obtain ⟨C, hC⟩ : ∃ C, w.heap.size = C := ⟨_, rfl⟩
  obtain ⟨V, hV⟩ : ∃ V, w.alloc (.cells #[.int .i64 r, .int .i64 s, .int .i64 b, .int .i64 o, .int .i64 d] 23) = V := ⟨_, rfl⟩
  have HB : Hid (Below w.heap.size w V) := by rw [← hV]; exact (Below.refl _ w).alloc (Nat.le_refl _) _
  have hg : V.rangeAt C 0 [.int .i64 r, .int .i64 s, .int .i64 b, .int .i64 o, .int .i64 d] := by rw [← hV, ← hC]; exact Bk.range (Gm.new w r s b o d _)
  rw [hV, hC]
  clear hV
  go_wp2_with (first | refine wpList_load_mid rfl 23 _ rfl C 0 rfl [.int .i64 r, .int .i64 s, .int .i64 b, .int .i64 o, .int .i64 d] _ hg Try.underlying23 rfl infoGm ?_)
  refine (CR.out _).mono ?_
  rintro e W1 ⟨rfl, b1⟩
  replace HB : Hid (Below w.heap.size w W1) := HB.out.trans (b1.mono HB.out.size)
  clear b1 hg CR
  go_wp2_with fail
  refine (CM.out _).mono ?_
  rintro e W2 ⟨rfl, rfl⟩
  clear CM
  go_wp2
  exact bodyPost_ret (results_tmp2 rfl _ _ _) rfl ⟨rfl, by first | exact HB.out | (rw [hC] at HB; exact HB.out)⟩
set_option maxHeartbeats 1000000 in
theorem dNew_ok (r s b o d m k j : Int) (h : rt r s b o d = true) (hm : Md m k j) (hk : 0 < k) (w : World) (lo : Nat) (hlo : lo ≤ w.heap.size) :
    Calls Try.prog 9 #[.agg #[.int .i64 r, .int .i64 s, .int .i64 b, .int .i64 o, .int .i64 d], .int .i64 m] w fun e w' => ∃ B M, e = .returned (.tuple #[.pointer (some ⟨B, 0, none⟩), .int .i64 0]) ∧ w.heap.size ≤ B ∧ w.heap.size ≤ M ∧ Dm w' lo B M r s b o d m 0 (fun _ _ => 0) (.slice none 0 0) 0 (fun _ _ => 0) (.slice none 0 0) 0 (fun _ _ => 0) ∧ Below w.heap.size w w' := by
  have CR : Hid (∀ w : World, Calls Try.prog 34 #[.agg #[.int .i64 r, .int .i64 s, .int .i64 b, .int .i64 o, .int .i64 d]] w fun e w' => e = .returned (.bool true) ∧ Below w.heap.size w w') := fun w => by rw [← h]; exact right_any r s b o d w
  have CM : Hid (∀ w : World, Calls Try.prog 35 #[.int .i64 m] w fun e w' => e = .returned (.bool true) ∧ w' = w) := fun w => by
    have := right9_any hm w
    rwa [decide_eq_true hk] at this
  have HLO : Hid (lo ≤ w.heap.size) := hlo
  have hmm := @run_makeMap Try.prog
  clear h hm hk hlo
  go_enter Try.func9, Try.ntmps9
  go_upto_region 1 with (fail)
  obtain ⟨C, hC⟩ : ∃ C, w.heap.size = C := ⟨_, rfl⟩
  obtain ⟨V, hV⟩ : ∃ V, w.alloc (.cells #[.int .i64 r, .int .i64 s, .int .i64 b, .int .i64 o, .int .i64 d] 23) = V := ⟨_, rfl⟩
  have HB : Hid (Below w.heap.size w V) := by rw [← hV]; exact (Below.refl _ w).alloc (Nat.le_refl _) _
  have HG : Hid (Gm V C r s b o d) := by rw [← hV, ← hC]; exact Gm.new w r s b o d _
  have hg := Bk.range HG.out
  rw [hV, hC]
  clear hV
  go_wp2_with (first | refine wpList_load_mid rfl 23 _ rfl C 0 rfl [.int .i64 r, .int .i64 s, .int .i64 b, .int .i64 o, .int .i64 d] _ hg Try.underlying23 rfl infoGm ?_)
  refine (CR.out _).mono ?_
  rintro e W1 ⟨rfl, b1⟩
  replace HB : Hid (Below w.heap.size w W1) := HB.out.trans (b1.mono HB.out.size)
  replace HG : Hid (Gm W1 C r s b o d) := HG.out.next b1
  clear b1 hg CR
  have hg := Bk.range HG.out
  go_wp2_with fail
  refine (CM.out _).mono ?_
  rintro e W2 ⟨rfl, rfl⟩
  clear CM
  obtain ⟨K, hK⟩ : ∃ K, W2.heap.size = K := ⟨_, rfl⟩
  have HE : Hid (Dm ((W2.alloc (.map #[] 0)).alloc (.cells (dl r s b o d m (.map (some K)) (.slice none 0 0) (.slice none 0 0)).toArray 82)) lo (K + 1) K r s b o d m 0 (fun _ _ => 0) (.slice none 0 0) 0 (fun _ _ => 0) (.slice none 0 0) 0 (fun _ _ => 0) ∧ w.heap.size ≤ K) := by
    have h1 := HB.out.size
    have c1 := Cb.new (W2.alloc (.map #[] 0)) (dl r s b o d m (.map (some K)) (.slice none 0 0) (.slice none 0 0)) 82
    rw [World.size_alloc, hK] at c1
    have m1 := MpAt.new W2
    rw [hK] at m1
    have hl := HLO.out
    refine ⟨⟨c1, m1.of (Below.heap_alloc _ _ _ m1.lt), World.ownsRow_nil _ _ _ _, World.ownsRow_nil _ _ _ _, fun i hi => absurd hi (by omega), fun i hi => absurd hi (by omega), fun i hi => absurd hi (by omega), fun _ _ _ => ⟨Int.le_refl _, show (0 : Int) < 256 by decide⟩, by omega, by omega, by omega, ⟨by simp [Value.ownBlock], by simp [Value.ownBlock]⟩, ⟨by simp [Value.ownBlock], by simp [Value.ownBlock]⟩, fun g e => by simp [Value.ownBlock] at e, ⟨by omega, by omega⟩⟩, by omega⟩
  obtain ⟨L9, hL9⟩ : ∃ L, dl r s b o d m (.map (some K)) (.slice none 0 0) (.slice none 0 0) = L := ⟨_, rfl⟩
  have HX : Hid (∀ (op : Oper) (a : Act) (x y z : Nat), op.op = .build 82 #[(0, .tmp x), (1, .tmp y), (2, .tmp z)] → a.eval (.tmp x) = .agg #[.int .i64 r, .int .i64 s, .int .i64 b, .int .i64 o, .int .i64 d] → a.eval (.tmp y) = .int .i64 m → a.eval (.tmp z) = .map (some K) → ∀ w, (execOp a.eval op).run Try.prog w = .ok (.value (.agg L9.toArray)) w) := fun op a x y z h1 h2 h3 h4 w => by rw [← hL9]; exact exec_dr x y z h1 r s b o d m K h2 h3 h4 w
  rw [hL9] at HE
  clear hL9
  go_wp2_with (first
    | refine wpList_load_mid rfl 23 _ rfl C 0 rfl [.int .i64 r, .int .i64 s, .int .i64 b, .int .i64 o, .int .i64 d] _ hg Try.underlying23 rfl infoGm ?_
    | refine wpList_known rfl _ (HX.out _ _ 12 13 14 rfl rfl rfl rfl _) ?_)
  have hb := HE.out.2
  refine bodyPost_ret (results_tmp2 rfl _ _ _) rfl ⟨K + 1, K, rfl, by omega, by omega, HE.out.1, (HB.out.alloc HB.out.size _).alloc (by simp; omega) _⟩
end Go.Proofs.Ytcpjmfemgdgplaa
