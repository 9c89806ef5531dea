/-
  RawExposes.
-/
import Derived.Test.YtkbbnpjjfhmlkaaRwW7
import Derived.Test.YtkbbnpjjfhmlkaaRwW4
namespace Go.Proofs.Ytkbbnpjjfhmlkaa
open Go.RowKit Go.Shelf
attribute [local go_sem] Oper.semAt_some

/-- what RawExposes was given -/
structure E3 (B : Nat) (L0 L1 L2 : List Value) (w W : World) : Prop where
  a : At9 W B L0
  b : At9 W (B + 1) L1
  c : At9 W (B + 1 + 1) L2
  below : Below B w W
theorem E3.next {B : Nat} {L0 L1 L2 : List Value} {w W W' : World} (h : E3 B L0 L1 L2 w W) (k : Below W.heap.size W W') : E3 B L0 L1 L2 w W' :=
  ⟨h.a.next k, h.b.next k, h.c.next k, h.below.trans (k.mono (Nat.le_of_lt h.a.s))⟩
theorem md_cases {m n k : Int} (h : Md m n k) : (m = 1 ∧ n = 9 ∧ k = 8) ∨ (m = 2 ∧ n = 36 ∧ k = 2) ∨ (m ≠ 1 ∧ m ≠ 2 ∧ n = 0 ∧ k = 0) := by
  rcases h with ⟨rfl, rfl, rfl⟩ | ⟨rfl, rfl, rfl⟩ | ⟨h1, h2, rfl, rfl⟩
  · exact .inl ⟨rfl, rfl, rfl⟩
  · exact .inr (.inl ⟨rfl, rfl, rfl⟩)
  · exact .inr (.inr ⟨h1, h2, rfl, rfl⟩)
theorem ex_none {m : Int} (F G : Nat → Int) : ex m 0 0 F G = 0 := rfl
theorem ex_zero {m n k : Int} (h : Md m n k) (h0 : 0 < n) (F G : Nat → Int) (hF : Byts 72 F) (hG : Byts 72 G) : ex m n k F G = 0 ↔ ∀ i, i < 72 → F i = G i := by
  rcases h with ⟨rfl, rfl, rfl⟩ | ⟨rfl, rfl, rfl⟩ | ⟨_, _, rfl, rfl⟩
  · exact Rw.mx_zero 1 F G 9 8 (by omega) (fun i hi => hF i (by omega)) (fun i hi => hG i (by omega))
  · exact Rw.mx_zero 2 F G 36 2 (by omega) (fun i hi => hF i (by omega)) (fun i hi => hG i (by omega))
  · omega
theorem ex_bound {m n k : Int} (h : Md m n k) (F G : Nat → Int) (hF : Byts 72 F) (hG : Byts 72 G) : ex m n k F G ≤ 288 := by
  rcases h with ⟨rfl, rfl, rfl⟩ | ⟨rfl, rfl, rfl⟩ | ⟨_, _, rfl, rfl⟩
  · exact Nat.le_trans (Rw.mx_bound 1 F G 9 8 (fun i hi => hF i (by omega)) (fun i hi => hG i (by omega))) (by omega)
  · exact Rw.mx_bound 2 F G 36 2 (fun i hi => hF i (by omega)) (fun i hi => hG i (by omega))
  · exact Nat.zero_le _

set_option maxRecDepth 100000 in
set_option maxHeartbeats 2000000 in
theorem rawExposes_core (m : Int) (F G H : Nat → Int) (hF : Byts 72 F) (hG : Byts 72 G) (hH : Byts 72 H) (w : World) :
    Calls Try.prog 4 #[.int .i64 m, .agg (ints .u8 72 F).toArray, .agg (ints .u8 72 G).toArray, .agg (ints .u8 72 H).toArray] w fun e w' => e = .returned (.bool true) ∧ Below w.heap.size w w' := by
  obtain ⟨n, k, hm⟩ := md_any m
  have cA : Hid (∀ W : World, Calls Try.prog 8 #[] W fun e w' => e = .returned (.bool true) ∧ Below W.heap.size W w') := anchor9_any
  have c1 : ExR m (ints .u8 72 F) (ints .u8 72 G) (ex m n k F G) := ⟨exposure_any hm F G hF hG⟩
  have c2 : ExR m (ints .u8 72 G) (ints .u8 72 H) (ex m n k G H) := ⟨exposure_any hm G H hG hH⟩
  have c3 : ExR m (ints .u8 72 F) (ints .u8 72 H) (ex m n k F H) := ⟨exposure_any hm F H hF hH⟩
  have c4 : ExR m (ints .u8 72 G) (ints .u8 72 F) (ex m n k F G) := by
    have := exposure_any hm G F hG hF
    rw [show ex m n k G F = ex m n k F G from Rw.mx_symm m G F _ _] at this
    exact ⟨this⟩
  have c5 : Hid (∀ W : World, Calls Try.prog 17 #[.int .i64 m, .agg (ints .u8 72 F).toArray, .agg (ints .u8 72 G).toArray] W fun e w' => e = .returned (.int .i64 (ex m n k F G : Int)) ∧ Below W.heap.size W w') := refExposure_any hm F G hF hG
  have tri : ex m n k F H ≤ ex m n k F G + ex m n k G H := Rw.mx_tri m F G H _ _
  have bx := ex_bound hm F G hF hG
  have by_ := ex_bound hm G H hG hH
  obtain ⟨q, hq⟩ : ∃ q : Bool, q = true ↔ ∀ i, i < 72 → F i = G i := by
    by_cases h : ∀ i, i < 72 → F i = G i
    · exact ⟨true, fun _ => h, fun _ => rfl⟩
    · refine ⟨false, ?_, fun e => absurd e h⟩
      intro e; cases e
  have eq := eqlR F G hF hG q hq
  have hcase : Hid ((m = 1 ∧ (ex m n k F G = 0 ↔ q = true)) ∨ (m = 2 ∧ (ex m n k F G = 0 ↔ q = true)) ∨ (m ≠ 1 ∧ m ≠ 2 ∧ ex m n k F G = 0)) := by
    rcases md_cases hm with ⟨h1, h2, _⟩ | ⟨h1, h2, _⟩ | ⟨h1, h2, h3, h4⟩
    · exact .inl ⟨h1, (ex_zero hm (by omega) F G hF hG).trans hq.symm⟩
    · exact .inr (.inl ⟨h1, (ex_zero hm (by omega) F G hF hG).trans hq.symm⟩)
    · subst h3 h4; exact .inr (.inr ⟨h1, h2, rfl⟩)
  obtain ⟨x, hx⟩ : ∃ x, ex m n k F G = x := ⟨_, rfl⟩
  obtain ⟨y, hy⟩ : ∃ x, ex m n k G H = x := ⟨_, rfl⟩
  obtain ⟨z, hz⟩ : ∃ x, ex m n k F H = x := ⟨_, rfl⟩
  rw [hx] at c1 c4 c5 tri bx hcase
  rw [hy] at c2 tri by_
  rw [hz] at c3 tri
  obtain ⟨A0, hA0⟩ : ∃ A, ints .u8 72 F = A := ⟨_, rfl⟩
  obtain ⟨A1, hA1⟩ : ∃ A, ints .u8 72 G = A := ⟨_, rfl⟩
  obtain ⟨A2, hA2⟩ : ∃ A, ints .u8 72 H = A := ⟨_, rfl⟩
  have i0 : (Try.prog.info? 23).map (·.size) = some A0.length := by rw [← hA0, ints_len]; exact infoR
  have i1 : (Try.prog.info? 23).map (·.size) = some A1.length := by rw [← hA1, ints_len]; exact infoR
  have i2 : (Try.prog.info? 23).map (·.size) = some A2.length := by rw [← hA2, ints_len]; exact infoR
  have HN : Hid (E3 w.heap.size A0 A1 A2 w (((w.alloc (.cells A0.toArray 23)).alloc (.cells A1.toArray 23)).alloc (.cells A2.toArray 23))) := by
    rw [← hA0, ← hA1, ← hA2]
    have h1 := Bk.new .u8 (w.alloc (.cells (ints .u8 72 F).toArray 23)) 72 G 23
    have h2 := Bk.new .u8 ((w.alloc (.cells (ints .u8 72 F).toArray 23)).alloc (.cells (ints .u8 72 G).toArray 23)) 72 H 23
    simp only [World.size_alloc] at h1 h2
    exact ⟨(((Bk.new .u8 w 72 F _).alloc _).alloc _).at9, (h1.alloc _).at9, h2.at9, (((Below.refl _ w).alloc (Nat.le_refl _) _).alloc (by simp) _).alloc (by simp; omega) _⟩
  rw [hA0, hA1] at c1 c5 eq
  rw [hA1, hA2] at c2
  rw [hA0, hA2] at c3
  rw [hA0, hA1] at c4
  rw [hA0, hA1, hA2]
  have gd := gdR
  clear hA0 hA1 hA2 hx hy hz hF hG hH hm hq F G H n k
  go_enter Try.func4, Try.ntmps4
  go_upto_region 1 with (fail)
  obtain ⟨V, hV⟩ : ∃ V, ((w.alloc (.cells A0.toArray 23)).alloc (.cells A1.toArray 23)).alloc (.cells A2.toArray 23) = V := ⟨_, rfl⟩
  obtain ⟨B, hB⟩ : ∃ B, w.heap.size = B := ⟨_, rfl⟩
  rw [hV] at HN ⊢
  rw [hB] at HN ⊢
  clear hV
  go_wp2_with fail
  refine (cA.out _).mono ?_
  rintro e V1 ⟨rfl, b1⟩
  replace HN : Hid (E3 B A0 A1 A2 w V1) := HN.out.next b1
  clear b1
  go_upto_region 3 with (fail)
  refine region_calm (by kernel_rfl) (by kernel_rfl) (fun W => Below V1.heap.size V1 W) (below_drew1 V1) ?_
  intro U hU f hf hof
  have HU : Hid (∀ x W, Below (f x).heap.size (f x) W → ∃ y, W = f y) := fun x W h => hof W ((hf x).trans (h.mono (hf x).size))
  have HE : Hid (∀ u, E3 B A0 A1 A2 w (f u)) := fun u => HN.out.next (hf u)
  clear hf hof
  repeat (first
    | (refine quiet_load rfl 23 _ rfl B 0 rfl A0 _ (by rintro _ ⟨u, rfl⟩; exact (HE.out u).a.r) Try.underlying23 rfl i0 ?_; simp only [Act.put, List.setIfInBounds_toArray, List.set_cons_zero, List.set_cons_succ])
    | (refine quiet_load rfl 23 _ rfl (B + 1) 0 rfl A1 _ (by rintro _ ⟨u, rfl⟩; exact (HE.out u).b.r) Try.underlying23 rfl i1 ?_; simp only [Act.put, List.setIfInBounds_toArray, List.set_cons_zero, List.set_cons_succ])
    | (refine quiet_load rfl 23 _ rfl (B + 1 + 1) 0 rfl A2 _ (by rintro _ ⟨u, rfl⟩; exact (HE.out u).c.r) Try.underlying23 rfl i2 ?_; simp only [Act.put, List.setIfInBounds_toArray, List.set_cons_zero, List.set_cons_succ])
    | go_big_quiet_step ((go_at_call 16; exact calm_next HU.out (ExR.c (by first | exact c1 | exact c2 | exact c3) _))))
  refine wpQuiet_nil ?_
  rintro _ ⟨u9, rfl⟩
  replace HN : Hid (E3 B A0 A1 A2 w (f u9)) := HE.out u9
  obtain ⟨W3, hW3⟩ : ∃ W, f u9 = W := ⟨_, rfl⟩
  rw [hW3] at HN ⊢
  clear hW3 HU HE hU c1 c2 c3
  go_upto_region 6 with (first
    | refine wpList_load_mid rfl 23 _ rfl B 0 rfl A0 _ (by exact HN.out.a.r) Try.underlying23 rfl i0 ?_
    | refine wpList_load_mid rfl 23 _ rfl (B + 1) 0 rfl A1 _ (by exact HN.out.b.r) Try.underlying23 rfl i1 ?_
    | refine wpList_load_g (by rfl) 23 _ rfl B 0 rfl A0 _ (by exact HN.out.a.r) Try.underlying23 rfl i0 ?_
    | refine wpList_load_g (by rfl) 23 _ rfl (B + 1) 0 rfl A1 _ (by exact HN.out.b.r) Try.underlying23 rfl i1 ?_
    | (go_at_call 17; refine (c5.out _).mono ?_; rintro e W4 ⟨rfl, b4⟩; replace HN : Hid (E3 B A0 A1 A2 w W4) := HN.out.next b4; clear b4)
    | (go_at_call 16; refine (c4.c _).mono ?_; rintro e W4 ⟨rfl, b4⟩; replace HN : Hid (E3 B A0 A1 A2 w W4) := HN.out.next b4; clear b4))
  obtain ⟨p, hp, HQ⟩ : ∃ p : Bool, ((x : Int) == 0) = p ∧ Hid ((q = p ∧ m = 1) ∨ (q = p ∧ m = 2) ∨ (p = true ∧ m ≠ 1 ∧ m ≠ 2)) := by
    refine ⟨_, rfl, ?_⟩
    rcases hcase.out with ⟨h1, h2⟩ | ⟨h1, h2⟩ | ⟨h1, h2, h3⟩
    · refine .inl ⟨?_, h1⟩
      rw [Bool.eq_iff_iff, ← h2]; simp
    · refine .inr (.inl ⟨?_, h1⟩)
      rw [Bool.eq_iff_iff, ← h2]; simp
    · refine .inr (.inr ⟨?_, h1, h2⟩)
      simp [h3]
  clear c4 c5 hcase
  rcases HQ.out with ⟨rfl, rfl⟩ | ⟨rfl, rfl⟩ | ⟨rfl, h1, h2⟩
  · cases q
    all_goals
      go_wp2_with (first
        | refine wpList_load_mid rfl 23 _ rfl B 0 rfl A0 _ (by exact HN.out.a.r) Try.underlying23 rfl i0 ?_
        | refine wpList_load_mid rfl 23 _ rfl (B + 1) 0 rfl A1 _ (by exact HN.out.b.r) Try.underlying23 rfl i1 ?_)
      go_ret
      exact ⟨rfl, HN.out.below⟩
  · cases q
    all_goals
      go_wp2_with (first
        | refine wpList_load_mid rfl 23 _ rfl B 0 rfl A0 _ (by exact HN.out.a.r) Try.underlying23 rfl i0 ?_
        | refine wpList_load_mid rfl 23 _ rfl (B + 1) 0 rfl A1 _ (by exact HN.out.b.r) Try.underlying23 rfl i1 ?_)
      go_ret
      exact ⟨rfl, HN.out.below⟩
  · have d1 : (m != 1) = true := by simpa using h1
    have d2 : (m != 2) = true := by simpa using h2
    cases q
    all_goals
      go_wp2_with (first
        | refine wpList_load_mid rfl 23 _ rfl B 0 rfl A0 _ (by exact HN.out.a.r) Try.underlying23 rfl i0 ?_
        | refine wpList_load_mid rfl 23 _ rfl (B + 1) 0 rfl A1 _ (by exact HN.out.b.r) Try.underlying23 rfl i1 ?_)
      go_ret
      exact ⟨rfl, HN.out.below⟩
theorem rawExposes_walk (a0 : Int) (a1 a2 a3 : Nat → Int) (_w0 : (Lit.int .i64 a0).wf = true) (w1 : ∀ i, i < 72 → (Lit.int .u8 (a1 i)).wf = true) (w2 : ∀ i, i < 72 → (Lit.int .u8 (a2 i)).wf = true) (w3 : ∀ i, i < 72 → (Lit.int .u8 (a3 i)).wf = true) (w : World) :
    Calls Try.prog 4 #[.int .i64 a0, .agg (ints .u8 72 a1).toArray, .agg (ints .u8 72 a2).toArray, .agg (ints .u8 72 a3).toArray] w fun e w' => e = .returned (.bool true) ∧ Below w.heap.size w w' :=
  rawExposes_core a0 a1 a2 a3 (args_byts 72 _ w1) (args_byts 72 _ w2) (args_byts 72 _ w3) w
end Go.Proofs.Ytkbbnpjjfhmlkaa
