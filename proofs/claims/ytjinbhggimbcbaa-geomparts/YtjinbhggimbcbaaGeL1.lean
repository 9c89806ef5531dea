/-
  GeomUnlike.
-/
import Derived.Test.YtjinbhggimbcbaaGeW4
import Derived.Test.YtjinbhggimbcbaaRecArgs
namespace Go.Proofs.Ytjinbhggimbcbaa
open Go.RowKit
open Ge (pw rt hd ix)

/-- a geometry and two places in B, B + 1, B + 2 -/
structure GPQ (B : Nat) (r s b o c p q u v p' q' u' v' : Int) (w W : World) : Prop where
  g : Gm W B r s b o c
  p : Pl W (B + 1) p q u v
  q : Pl W (B + 1 + 1) p' q' u' v'
  below : Below B w W
theorem GPQ.next {B : Nat} {r s b o c p q u v p' q' u' v' : Int} {w W W' : World} (h : GPQ B r s b o c p q u v p' q' u' v' w W) (k : Below W.heap.size W W') : GPQ B r s b o c p q u v p' q' u' v' w W' :=
  ⟨h.g.next k, h.p.next k, h.q.next k, h.below.trans (k.mono (Nat.le_of_lt h.g.lt))⟩
theorem index_told (r s b o c p q u v : Int) : ∃ i f : Int, Hid ((hd r s b o c p q u v = true ∧ i = ix p q u v ∧ f = 0) ∨ (hd r s b o c p q u v = false ∧ i = 0 ∧ f = 12)) ∧
    Hid (∀ w : World, Calls Try.prog 9 #[.agg #[.int .i64 r, .int .i64 s, .int .i64 b, .int .i64 o, .int .i64 c], .agg #[.int .i64 p, .int .i64 q, .int .i64 u, .int .i64 v]] w fun e w' => e = .returned (.tuple #[.int .i64 i, .int .i64 f]) ∧ Below w.heap.size w w') := by
  cases h : hd r s b o c p q u v with
  | true => exact ⟨_, _, .inl ⟨rfl, rfl, rfl⟩, fun w => index_yes r s b o c p q u v h w⟩
  | false => exact ⟨_, _, .inr ⟨rfl, rfl, rfl⟩, fun w => index_no r s b o c p q u v h w⟩

set_option maxRecDepth 100000 in
set_option maxHeartbeats 4000000 in
theorem geomUnlike_core (r s b o c p q u v p' q' u' v' : Int) (w : World) :
    Calls Try.prog 6 #[.agg #[.int .i64 r, .int .i64 s, .int .i64 b, .int .i64 o, .int .i64 c], .agg #[.int .i64 p, .int .i64 q, .int .i64 u, .int .i64 v], .agg #[.int .i64 p', .int .i64 q', .int .i64 u', .int .i64 v']] w fun e w' => e = .returned (.bool true) ∧ Below w.heap.size w w' := by
  obtain ⟨i, f, Hi, C1⟩ := index_told r s b o c p q u v
  obtain ⟨k, g, Hk, C2⟩ := index_told r s b o c p' q' u' v'
  go_enter Try.func6, Try.ntmps6
  go_wp2_with fail
  obtain ⟨B, hB⟩ : ∃ B, w.heap.size = B := ⟨_, rfl⟩
  obtain ⟨V, hV⟩ : ∃ V, ((w.alloc (.cells #[.int .i64 r, .int .i64 s, .int .i64 b, .int .i64 o, .int .i64 c] 23)).alloc (.cells #[.int .i64 p, .int .i64 q, .int .i64 u, .int .i64 v] 25)).alloc (.cells #[.int .i64 p', .int .i64 q', .int .i64 u', .int .i64 v'] 25) = V := ⟨_, rfl⟩
  have HS : Hid (GPQ B r s b o c p q u v p' q' u' v' w V) := by
    have h0 := Gm.new w r s b o c 23
    have h1 := Pl.new (w.alloc (.cells #[.int .i64 r, .int .i64 s, .int .i64 b, .int .i64 o, .int .i64 c] 23)) p q u v 25
    have h2 := Pl.new ((w.alloc (.cells #[.int .i64 r, .int .i64 s, .int .i64 b, .int .i64 o, .int .i64 c] 23)).alloc (.cells #[.int .i64 p, .int .i64 q, .int .i64 u, .int .i64 v] 25)) p' q' u' v' 25
    simp only [World.size_alloc] at h1 h2
    rw [← hV, ← hB]
    exact ⟨(h0.alloc _).alloc _, h1.alloc _, h2, (((Below.refl _ w).alloc (Nat.le_refl _) _).alloc (by simp) _).alloc (by simp only [World.size_alloc]; omega) _⟩
  rw [hV, hB]
  clear hV
  refine (anchor7_any _).mono ?_
  rintro e W1 ⟨rfl, bW⟩
  replace HS : Hid (GPQ B r s b o c p q u v p' q' u' v' w W1) := HS.out.next bW
  have g0 := HS.out.g.c0; have g1 := HS.out.g.c1; have g2 := HS.out.g.c2; have g3 := HS.out.g.c3; have g4 := HS.out.g.c4
  have p0 := HS.out.p.c0; have p1 := HS.out.p.c1; have p2 := HS.out.p.c2; have p3 := HS.out.p.c3
  clear bW
  go_wp2_with fail
  refine (C1.out _).mono ?_
  rintro e W2 ⟨rfl, bW⟩
  replace HS : Hid (GPQ B r s b o c p q u v p' q' u' v' w W2) := HS.out.next bW
  clear g0 g1 g2 g3 g4 p0 p1 p2 p3 bW
  have g0 := HS.out.g.c0; have g1 := HS.out.g.c1; have g2 := HS.out.g.c2; have g3 := HS.out.g.c3; have g4 := HS.out.g.c4
  have q0 := HS.out.q.c0; have q1 := HS.out.q.c1; have q2 := HS.out.q.c2; have q3 := HS.out.q.c3
  go_wp2_with fail
  refine (C2.out _).mono ?_
  rintro e W3 ⟨rfl, bW⟩
  replace HS : Hid (GPQ B r s b o c p q u v p' q' u' v' w W3) := HS.out.next bW
  clear g0 g1 g2 g3 g4 q0 q1 q2 q3 bW C1 C2
  have p0 := HS.out.p.c0; have p1 := HS.out.p.c1; have p2 := HS.out.p.c2; have p3 := HS.out.p.c3
  have q0 := HS.out.q.c0; have q1 := HS.out.q.c1; have q2 := HS.out.q.c2; have q3 := HS.out.q.c3
  rcases Hi.out with ⟨hp, hi, rfl⟩ | ⟨hp, hi, rfl⟩
  · rcases Hk.out with ⟨hq, hk, rfl⟩ | ⟨hq, hk, rfl⟩
    · obtain ⟨⟨a0, a1⟩, ⟨a2, a3⟩, ⟨a4, a5⟩, ⟨a6, a7⟩⟩ := hd_bounds hp
      obtain ⟨⟨b0, b1⟩, ⟨b2, b3⟩, ⟨b4, b5⟩, ⟨b6, b7⟩⟩ := hd_bounds hq
      have ri0 : 0 ≤ i := by rw [hi]; unfold ix; omega
      have ri1 : i < 8388608 := by rw [hi]; unfold ix; omega
      have rk0 : 0 ≤ k := by rw [hk]; unfold ix; omega
      have rk1 : k < 8388608 := by rw [hk]; unfold ix; omega
      have HI : Hid (i = ix p q u v ∧ k = ix p' q' u' v') := ⟨hi, hk⟩
      clear hi hk hp hq Hi Hk
      rcases Int.lt_trichotomy p p' with hlt | rfl | hlt
      · have hl : i < k := by have := HI.out; unfold ix at this; omega
        have dn : (i == k) = false := by rw [beq_eq_false_iff_ne]; omega
        have dx : (p == p') = false := by rw [beq_eq_false_iff_ne]; omega
        go_wp2
        go_ret
        exact ⟨rfl, by rw [hB]; exact HS.out.below⟩
      rotate_left
      · have hl : decide (i < k) = false := decide_eq_false (by have := HI.out; unfold ix at this; omega)
        have d1 : decide (p < p') = false := decide_eq_false (by omega)
        have dn : (i == k) = false := by rw [beq_eq_false_iff_ne]; have := HI.out; unfold ix at this; omega
        have dx : (p == p') = false := by rw [beq_eq_false_iff_ne]; omega
        go_wp2
        go_ret
        exact ⟨rfl, by rw [hB]; exact HS.out.below⟩
      rcases Int.lt_trichotomy q q' with hlt | rfl | hlt
      · have hl : i < k := by have := HI.out; unfold ix at this; omega
        have dn : (i == k) = false := by rw [beq_eq_false_iff_ne]; omega
        have dx : (q == q') = false := by rw [beq_eq_false_iff_ne]; omega
        go_wp2
        go_ret
        exact ⟨rfl, by rw [hB]; exact HS.out.below⟩
      rotate_left
      · have hl : decide (i < k) = false := decide_eq_false (by have := HI.out; unfold ix at this; omega)
        have d1 : decide (q < q') = false := decide_eq_false (by omega)
        have dn : (i == k) = false := by rw [beq_eq_false_iff_ne]; have := HI.out; unfold ix at this; omega
        have dx : (q == q') = false := by rw [beq_eq_false_iff_ne]; omega
        go_wp2
        go_ret
        exact ⟨rfl, by rw [hB]; exact HS.out.below⟩
      rcases Int.lt_trichotomy u u' with hlt | rfl | hlt
      · have hl : i < k := by have := HI.out; unfold ix at this; omega
        have dn : (i == k) = false := by rw [beq_eq_false_iff_ne]; omega
        have dx : (u == u') = false := by rw [beq_eq_false_iff_ne]; omega
        go_wp2
        go_ret
        exact ⟨rfl, by rw [hB]; exact HS.out.below⟩
      rotate_left
      · have hl : decide (i < k) = false := decide_eq_false (by have := HI.out; unfold ix at this; omega)
        have d1 : decide (u < u') = false := decide_eq_false (by omega)
        have dn : (i == k) = false := by rw [beq_eq_false_iff_ne]; have := HI.out; unfold ix at this; omega
        have dx : (u == u') = false := by rw [beq_eq_false_iff_ne]; omega
        go_wp2
        go_ret
        exact ⟨rfl, by rw [hB]; exact HS.out.below⟩
      rcases Int.lt_trichotomy v v' with hlt | rfl | hlt
      · have hl : i < k := by have := HI.out; unfold ix at this; omega
        have dn : (i == k) = false := by rw [beq_eq_false_iff_ne]; omega
        have dx : (v == v') = false := by rw [beq_eq_false_iff_ne]; omega
        go_wp2
        go_ret
        exact ⟨rfl, by rw [hB]; exact HS.out.below⟩
      · obtain rfl : i = k := by have := HI.out; omega
        go_wp2
        go_ret
        exact ⟨rfl, by rw [hB]; exact HS.out.below⟩
      · have hl : decide (i < k) = false := decide_eq_false (by have := HI.out; unfold ix at this; omega)
        have d1 : decide (v < v') = false := decide_eq_false (by omega)
        have dn : (i == k) = false := by rw [beq_eq_false_iff_ne]; have := HI.out; unfold ix at this; omega
        have dx : (v == v') = false := by rw [beq_eq_false_iff_ne]; omega
        go_wp2
        go_ret
        exact ⟨rfl, by rw [hB]; exact HS.out.below⟩
    · clear hi hk hp hq Hi Hk
      go_wp2
      go_ret
      exact ⟨rfl, by rw [hB]; exact HS.out.below⟩
  · clear hi hp Hi Hk
    go_wp2
    go_ret
    exact ⟨rfl, by rw [hB]; exact HS.out.below⟩

theorem geomUnlike_walk (a0 a1 a2 : Nat → Int) (_w0 : ∀ i, i < 5 → (Lit.int .i64 (a0 i)).wf = true) (_w1 : ∀ i, i < 4 → (Lit.int .i64 (a1 i)).wf = true) (_w2 : ∀ i, i < 4 → (Lit.int .i64 (a2 i)).wf = true) (w : World) :
    Calls Try.prog 6 #[.agg (ints .i64 5 a0).toArray, .agg (ints .i64 4 a1).toArray, .agg (ints .i64 4 a2).toArray] w fun e w' => e = .returned (.bool true) ∧ Below w.heap.size w w' :=
  geomUnlike_core (a0 0) (a0 1) (a0 2) (a0 3) (a0 4) (a1 0) (a1 1) (a1 2) (a1 3) (a2 0) (a2 1) (a2 2) (a2 3) w
end Go.Proofs.Ytjinbhggimbcbaa
