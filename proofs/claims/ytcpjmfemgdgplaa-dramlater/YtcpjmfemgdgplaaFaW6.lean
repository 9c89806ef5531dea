/-
  The walks of package fault: where a fault lies.
-/
import Derived.Test.YtcpjmfemgdgplaaFaW5
namespace Go.Proofs.Ytcpjmfemgdgplaa
open Go.RowKit Go.Shelf
open Ge (pw rt hd ix)
attribute [local go_sem] Oper.semAt_some

/-- does a fault lie there -/
def lz (k p q u v p' q' u' v' : Int) : Bool := (nw k || ls k) && decide (p' = p ∧ nq k q' = nq k q ∧ nu k u' = nu k u ∧ nv k v' = nv k v)
/-- what Lies was given -/
structure Lf (B C : Nat) (k p q u v c i x : Int) (p' q' u' v' : Int) (w W : World) : Prop where
  f : Ft W B k p q u v c i x
  g : Pl W C p' q' u' v'
  n : Below B w W
  l : B ≤ W.heap.size
theorem Lf.next {B C : Nat} {k p q u v c i x : Int} {p' q' u' v' : Int} {w W W' : World} (h : Lf B C k p q u v c i x p' q' u' v' w W) (e : Below W.heap.size W W') : Lf B C k p q u v c i x p' q' u' v' w W' :=
  ⟨h.f.next e, h.g.next e, h.n.trans (e.mono h.l), Nat.le_trans h.l e.size⟩
set_option maxRecDepth 100000 in
set_option maxHeartbeats 4000000 in
theorem lies_any (k p q u v c i x : Int) (p' q' u' v' : Int) (w : World) :
    Calls Try.prog 29 #[.agg #[.int .i64 k, .int .i64 p, .int .i64 q, .int .i64 u, .int .i64 v, .int .i64 c, .int .i64 i, .int .i64 x], .agg #[.int .i64 p', .int .i64 q', .int .i64 u', .int .i64 v']] w fun e w' => e = .returned (.bool (lz k p q u v p' q' u' v')) ∧ Below w.heap.size w w' := by
  obtain ⟨z0, Z0⟩ : ∃ z, nw k = z := ⟨_, rfl⟩
  obtain ⟨z1, Z1⟩ : ∃ z, ls k = z := ⟨_, rfl⟩
  obtain ⟨z2, Z2⟩ : ∃ z, decide (p' = p ∧ nq k q' = nq k q ∧ nu k u' = nu k u ∧ nv k v' = nv k v) = z := ⟨_, rfl⟩
  have C0 : Hid (∀ w : World, Calls Try.prog 28 #[.agg #[.int .i64 k, .int .i64 p, .int .i64 q, .int .i64 u, .int .i64 v, .int .i64 c, .int .i64 i, .int .i64 x]] w fun e w' => e = .returned (.bool z0) ∧ Below w.heap.size w w') := fun w => by rw [← Z0]; exact narrow_any k p q u v c i x w
  have C1 : Hid (∀ w : World, Calls Try.prog 27 #[.agg #[.int .i64 k, .int .i64 p, .int .i64 q, .int .i64 u, .int .i64 v, .int .i64 c, .int .i64 i, .int .i64 x]] w fun e w' => e = .returned (.bool z1) ∧ Below w.heap.size w w') := fun w => by rw [← Z1]; exact lasts_any k p q u v c i x w
  have C2 : Hid (∀ w : World, (binOp .eql 36 (.agg #[.int .i64 p', .int .i64 (nq k q'), .int .i64 (nu k u'), .int .i64 (nv k v')]) (.agg #[.int .i64 p, .int .i64 (nq k q), .int .i64 (nu k u), .int .i64 (nv k v)])).run Try.prog w = .ok (.bool z2) w) := fun w => by rw [← Z2]; exact eqP_eql p' (nq k q') (nu k u') (nv k v') p (nq k q) (nu k u) (nv k v) w
  have C3 : Hid (∀ w : World, Calls Try.prog 54 #[.agg #[.int .i64 k, .int .i64 p, .int .i64 q, .int .i64 u, .int .i64 v, .int .i64 c, .int .i64 i, .int .i64 x], .agg #[.int .i64 p', .int .i64 q', .int .i64 u', .int .i64 v']] w fun e w' => e = .returned (.agg #[.int .i64 p', .int .i64 (nq k q'), .int .i64 (nu k u'), .int .i64 (nv k v')]) ∧ Below w.heap.size w w') := fun w => named_any k p q u v c i x p' q' u' v' w
  have C4 : Hid (∀ w : World, Calls Try.prog 54 #[.agg #[.int .i64 k, .int .i64 p, .int .i64 q, .int .i64 u, .int .i64 v, .int .i64 c, .int .i64 i, .int .i64 x], .agg #[.int .i64 p, .int .i64 q, .int .i64 u, .int .i64 v]] w fun e w' => e = .returned (.agg #[.int .i64 p, .int .i64 (nq k q), .int .i64 (nu k u), .int .i64 (nv k v)]) ∧ Below w.heap.size w w') := fun w => named_any k p q u v c i x p q u v w
  unfold lz
  rw [Z0, Z1, Z2]
  clear Z0 Z1 Z2
  go_enter Try.func29, Try.ntmps29
  go_upto_region 1 with (fail)
  obtain ⟨B, hB⟩ : ∃ B, w.heap.size = B := ⟨_, rfl⟩
  obtain ⟨C, hC⟩ : ∃ C, B + 1 = C := ⟨_, rfl⟩
  obtain ⟨V, hV⟩ : ∃ V, (w.alloc (.cells #[.int .i64 k, .int .i64 p, .int .i64 q, .int .i64 u, .int .i64 v, .int .i64 c, .int .i64 i, .int .i64 x] 38)).alloc (.cells #[.int .i64 p', .int .i64 q', .int .i64 u', .int .i64 v'] 36) = V := ⟨_, rfl⟩
  have HS : Hid (Lf B C k p q u v c i x p' q' u' v' w V) := by
    rw [← hV, ← hC, ← hB]
    have h1 := Pl.new (w.alloc (.cells #[.int .i64 k, .int .i64 p, .int .i64 q, .int .i64 u, .int .i64 v, .int .i64 c, .int .i64 i, .int .i64 x] 38)) p' q' u' v' 36
    simp only [World.size_alloc] at h1
    exact ⟨(Ft.new w k p q u v c i x _).alloc _, h1, ((Below.refl _ w).alloc (Nat.le_refl _) _).alloc (by simp) _, by simp only [World.size_alloc]; omega⟩
  rw [hV, hB, hC]
  clear hV hC
  cases z0 with
  | true =>
    go_upto_region 3 with (first
        | refine wpList_load_mid rfl 38 _ rfl B 0 rfl [.int .i64 k, .int .i64 p, .int .i64 q, .int .i64 u, .int .i64 v, .int .i64 c, .int .i64 i, .int .i64 x] _ (by exact HS.out.f.range) Try.underlying38 rfl infoF ?_
        | refine wpList_load_g (by rfl) 38 _ rfl B 0 rfl [.int .i64 k, .int .i64 p, .int .i64 q, .int .i64 u, .int .i64 v, .int .i64 c, .int .i64 i, .int .i64 x] _ (by exact HS.out.f.range) Try.underlying38 rfl infoF ?_
        | (go_at_call 28; refine (C0.out _).mono ?_; rintro e W1 ⟨rfl, b1⟩; replace HS : Hid (Lf B C k p q u v c i x p' q' u' v' w W1) := HS.out.next b1; clear b1)
        | (go_at_call 27; refine (C1.out _).mono ?_; rintro e W2 ⟨rfl, b1⟩; replace HS : Hid (Lf B C k p q u v c i x p' q' u' v' w W2) := HS.out.next b1; clear b1))
    obtain ⟨V3, hV3⟩ : ∃ V3, V3 = W1 := ⟨_, rfl⟩
    rw [← hV3] at HS ⊢
    clear hV3
    refine region_calm (by kernel_rfl) (by kernel_rfl) (fun W => Below V3.heap.size V3 W) (below_drew1 V3) ?_
    intro U hU f hf hof
    have HN : Hid (∀ u W, Below (f u).heap.size (f u) W → ∃ x, W = f x) := fun u W h => hof W ((hf u).trans (h.mono (hf u).size))
    have HE : Hid (∀ y, Lf B C k p q u v c i x p' q' u' v' w (f y)) := fun y => HS.out.next (hf y)
    have gd := eqP_gd
    clear hf hof HS
    refine quiet_load rfl 38 _ rfl B 0 rfl [.int .i64 k, .int .i64 p, .int .i64 q, .int .i64 u, .int .i64 v, .int .i64 c, .int .i64 i, .int .i64 x] _ (by rintro _ ⟨y, rfl⟩; exact (HE.out y).f.range) Try.underlying38 rfl infoF ?_
    simp only [Act.put, List.setIfInBounds_toArray, List.set_cons_zero, List.set_cons_succ]
    refine quiet_load rfl 36 _ rfl C 0 rfl [.int .i64 p', .int .i64 q', .int .i64 u', .int .i64 v'] _ (by rintro _ ⟨y, rfl⟩; exact Pl.range (HE.out y).g) Try.underlying36 rfl infoP ?_
    simp only [Act.put, List.setIfInBounds_toArray, List.set_cons_zero, List.set_cons_succ]
    go_big_quiet_step ((go_at_call 54; exact calm_next HN.out (C3.out _)))
    refine quiet_load rfl 38 _ rfl B 0 rfl [.int .i64 k, .int .i64 p, .int .i64 q, .int .i64 u, .int .i64 v, .int .i64 c, .int .i64 i, .int .i64 x] _ (by rintro _ ⟨y, rfl⟩; exact (HE.out y).f.range) Try.underlying38 rfl infoF ?_
    simp only [Act.put, List.setIfInBounds_toArray, List.set_cons_zero, List.set_cons_succ]
    go_big_quiet_step (fail)
    refine quiet_load rfl 36 _ rfl B 1 rfl [.int .i64 p, .int .i64 q, .int .i64 u, .int .i64 v] _ (by rintro _ ⟨y, rfl⟩; exact (HE.out y).f.place) Try.underlying36 rfl infoP ?_
    simp only [Act.put, List.setIfInBounds_toArray, List.set_cons_zero, List.set_cons_succ]
    go_big_quiet_step ((go_at_call 54; exact calm_next HN.out (C4.out _)))
    refine quiet_one rfl _ (exec_eqlA 36 _ _ _ rfl _ _ _ rfl rfl gd (fun w => C2.out w)) ?_
    simp only [Act.put, List.setIfInBounds_toArray, List.set_cons_zero, List.set_cons_succ]
    go_big_quiet_step (fail)
    refine wpQuiet_nil ?_
    rintro _ ⟨y, rfl⟩
    go_wp2
    go_ret
    exact ⟨rfl, by first | exact (HE.out y).n | (rw [hB]; exact (HE.out y).n)⟩
  | false =>
    cases z1 with
    | true =>
      go_upto_region 3 with (first
          | refine wpList_load_mid rfl 38 _ rfl B 0 rfl [.int .i64 k, .int .i64 p, .int .i64 q, .int .i64 u, .int .i64 v, .int .i64 c, .int .i64 i, .int .i64 x] _ (by exact HS.out.f.range) Try.underlying38 rfl infoF ?_
          | refine wpList_load_g (by rfl) 38 _ rfl B 0 rfl [.int .i64 k, .int .i64 p, .int .i64 q, .int .i64 u, .int .i64 v, .int .i64 c, .int .i64 i, .int .i64 x] _ (by exact HS.out.f.range) Try.underlying38 rfl infoF ?_
          | (go_at_call 28; refine (C0.out _).mono ?_; rintro e W1 ⟨rfl, b1⟩; replace HS : Hid (Lf B C k p q u v c i x p' q' u' v' w W1) := HS.out.next b1; clear b1)
          | (go_at_call 27; refine (C1.out _).mono ?_; rintro e W2 ⟨rfl, b1⟩; replace HS : Hid (Lf B C k p q u v c i x p' q' u' v' w W2) := HS.out.next b1; clear b1))
      obtain ⟨V3, hV3⟩ : ∃ V3, V3 = W2 := ⟨_, rfl⟩
      rw [← hV3] at HS ⊢
      clear hV3
      refine region_calm (by kernel_rfl) (by kernel_rfl) (fun W => Below V3.heap.size V3 W) (below_drew1 V3) ?_
      intro U hU f hf hof
      have HN : Hid (∀ u W, Below (f u).heap.size (f u) W → ∃ x, W = f x) := fun u W h => hof W ((hf u).trans (h.mono (hf u).size))
      have HE : Hid (∀ y, Lf B C k p q u v c i x p' q' u' v' w (f y)) := fun y => HS.out.next (hf y)
      have gd := eqP_gd
      clear hf hof HS
      refine quiet_load rfl 38 _ rfl B 0 rfl [.int .i64 k, .int .i64 p, .int .i64 q, .int .i64 u, .int .i64 v, .int .i64 c, .int .i64 i, .int .i64 x] _ (by rintro _ ⟨y, rfl⟩; exact (HE.out y).f.range) Try.underlying38 rfl infoF ?_
      simp only [Act.put, List.setIfInBounds_toArray, List.set_cons_zero, List.set_cons_succ]
      refine quiet_load rfl 36 _ rfl C 0 rfl [.int .i64 p', .int .i64 q', .int .i64 u', .int .i64 v'] _ (by rintro _ ⟨y, rfl⟩; exact Pl.range (HE.out y).g) Try.underlying36 rfl infoP ?_
      simp only [Act.put, List.setIfInBounds_toArray, List.set_cons_zero, List.set_cons_succ]
      go_big_quiet_step ((go_at_call 54; exact calm_next HN.out (C3.out _)))
      refine quiet_load rfl 38 _ rfl B 0 rfl [.int .i64 k, .int .i64 p, .int .i64 q, .int .i64 u, .int .i64 v, .int .i64 c, .int .i64 i, .int .i64 x] _ (by rintro _ ⟨y, rfl⟩; exact (HE.out y).f.range) Try.underlying38 rfl infoF ?_
      simp only [Act.put, List.setIfInBounds_toArray, List.set_cons_zero, List.set_cons_succ]
      go_big_quiet_step (fail)
      refine quiet_load rfl 36 _ rfl B 1 rfl [.int .i64 p, .int .i64 q, .int .i64 u, .int .i64 v] _ (by rintro _ ⟨y, rfl⟩; exact (HE.out y).f.place) Try.underlying36 rfl infoP ?_
      simp only [Act.put, List.setIfInBounds_toArray, List.set_cons_zero, List.set_cons_succ]
      go_big_quiet_step ((go_at_call 54; exact calm_next HN.out (C4.out _)))
      refine quiet_one rfl _ (exec_eqlA 36 _ _ _ rfl _ _ _ rfl rfl gd (fun w => C2.out w)) ?_
      simp only [Act.put, List.setIfInBounds_toArray, List.set_cons_zero, List.set_cons_succ]
      go_big_quiet_step (fail)
      refine wpQuiet_nil ?_
      rintro _ ⟨y, rfl⟩
      go_wp2
      go_ret
      exact ⟨rfl, by first | exact (HE.out y).n | (rw [hB]; exact (HE.out y).n)⟩
    | false =>
      go_wp2_with (first
          | refine wpList_load_mid rfl 38 _ rfl B 0 rfl [.int .i64 k, .int .i64 p, .int .i64 q, .int .i64 u, .int .i64 v, .int .i64 c, .int .i64 i, .int .i64 x] _ (by exact HS.out.f.range) Try.underlying38 rfl infoF ?_
          | refine wpList_load_g (by rfl) 38 _ rfl B 0 rfl [.int .i64 k, .int .i64 p, .int .i64 q, .int .i64 u, .int .i64 v, .int .i64 c, .int .i64 i, .int .i64 x] _ (by exact HS.out.f.range) Try.underlying38 rfl infoF ?_
          | (go_at_call 28; refine (C0.out _).mono ?_; rintro e W1 ⟨rfl, b1⟩; replace HS : Hid (Lf B C k p q u v c i x p' q' u' v' w W1) := HS.out.next b1; clear b1)
          | (go_at_call 27; refine (C1.out _).mono ?_; rintro e W2 ⟨rfl, b1⟩; replace HS : Hid (Lf B C k p q u v c i x p' q' u' v' w W2) := HS.out.next b1; clear b1))
      go_ret
      exact ⟨rfl, by first | exact HS.out.n | (rw [hB]; exact HS.out.n)⟩
end Go.Proofs.Ytcpjmfemgdgplaa
