/-
  FaultApplies.
-/
import Derived.Test.YtlacmkcmfkakjaaFaW8
import Derived.Test.YtlacmkcmfkakjaaFaW10
import Derived.Test.YtlacmkcmfkakjaaFaR4
namespace Go.Proofs.Ytlacmkcmfkakjaa
open Go.RowKit Go.Shelf
attribute [local go_sem] Oper.semAt_some

/-- did one of the first faults lie there -/
def lyF (Z : Nat → Nat → Int) (p' q' u' v' : Int) : Nat → Bool
  | 0 => false
  | s + 1 => lyF Z p' q' u' v' s || lz (Z s 0) (Z s 1) (Z s 2) (Z s 3) (Z s 4) p' q' u' v'
theorem ovF_none (n : Int) (Z : Nat → Nat → Int) (p' q' u' v' : Int) (F : Nat → Int) : ∀ s, lyF Z p' q' u' v' s = false → ovF n Z p' q' u' v' F s = F
  | 0, _ => rfl
  | s + 1, h => by
    have h' : (lyF Z p' q' u' v' s || lz (Z s 0) (Z s 1) (Z s 2) (Z s 3) (Z s 4) p' q' u' v') = false := h
    rw [Bool.or_eq_false_iff] at h'
    show apF n (Z s 0) (Z s 1) (Z s 2) (Z s 3) (Z s 4) (Z s 5) (Z s 6) (Z s 7) p' q' u' v' (ovF n Z p' q' u' v' F s) = F
    rw [ovF_none n Z p' q' u' v' F s h'.1]
    unfold apF
    rw [if_neg (by rw [h'.2]; simp)]
/-- between two rounds -/
structure Ls4 (B C D : Nat) (p' q' u' v' : Int) (L : List Value) (F X : Nat → Int) (w W : World) : Prop where
  g : Pl W B p' q' u' v'
  r : Bk .u8 W C 72 F
  x : Bk .u8 W D 72 X
  n : Below B w W
  e : ints .u8 72 F = L
/-- in a round: the fault in K, as the document has it in J -/
structure Lr4 (B C D K J : Nat) (z0 z1 z2 z3 z4 z5 z6 z7 : Int) (p' q' u' v' : Int) (L : List Value) (F X : Nat → Int) (w W : World) : Prop where
  s : Ls4 B C D p' q' u' v' L F X w W
  f : Ft W K z0 z1 z2 z3 z4 z5 z6 z7
  y : Ft W J z0 z1 z2 z3 z4 z5 z6 z7
section
variable {B C D K J : Nat} {z0 z1 z2 z3 z4 z5 z6 z7 : Int} {p' q' u' v' : Int} {L : List Value} {F X : Nat → Int} {w W W' : World}
theorem Ls4.next (h : Ls4 B C D p' q' u' v' L F X w W) (e : Below W.heap.size W W') : Ls4 B C D p' q' u' v' L F X w W' :=
  ⟨h.g.next e, h.r.next e, h.x.next e, h.n.trans (e.mono (Nat.le_of_lt h.g.lt)), h.e⟩
theorem Ls4.rr (h : Ls4 B C D p' q' u' v' L F X w W) : W.rangeAt C 0 L := by have := h.r.range; rwa [h.e] at this
theorem Ls4.put (h : Ls4 B C D p' q' u' v' L F X w W) (hC : B < C) (hD : C < D) (Y : Nat → Int) : Ls4 B C D p' q' u' v' L F Y w (W.setCells D 0 (ints .u8 72 Y)) :=
  ⟨Bk.putOther h.g (by omega) 0 _, Bk.putOther h.r (by omega) 0 _, Bk.put h.x Y, belows_put (by omega) _ 0 h.n, h.e⟩
theorem Lr4.next (h : Lr4 B C D K J z0 z1 z2 z3 z4 z5 z6 z7 p' q' u' v' L F X w W) (e : Below W.heap.size W W') : Lr4 B C D K J z0 z1 z2 z3 z4 z5 z6 z7 p' q' u' v' L F X w W' := ⟨h.s.next e, h.f.next e, h.y.next e⟩
end
/-- what the calls of a round tell -/
structure Cr4 (m : Int) (z0 z1 z2 z3 z4 z5 z6 z7 : Int) (p' q' u' v' : Int) (L M N1 N2 : List Value) (t : Bool) : Prop where
  a1 : ∀ w : World, Calls Try.prog 16 #[.agg #[.int .i64 z0, .int .i64 z1, .int .i64 z2, .int .i64 z3, .int .i64 z4, .int .i64 z5, .int .i64 z6, .int .i64 z7], .int .i64 m, .agg #[.int .i64 p', .int .i64 q', .int .i64 u', .int .i64 v'], .agg L.toArray] w fun e w' => e = .returned (.agg N1.toArray) ∧ Below w.heap.size w w'
  a2 : ∀ w : World, Calls Try.prog 17 #[.agg #[.int .i64 z0, .int .i64 z1, .int .i64 z2, .int .i64 z3, .int .i64 z4, .int .i64 z5, .int .i64 z6, .int .i64 z7], .int .i64 m, .agg #[.int .i64 p', .int .i64 q', .int .i64 u', .int .i64 v'], .agg L.toArray] w fun e w' => e = .returned (.agg N1.toArray) ∧ Below w.heap.size w w'
  a3 : ∀ w : World, Calls Try.prog 17 #[.agg #[.int .i64 z0, .int .i64 z1, .int .i64 z2, .int .i64 z3, .int .i64 z4, .int .i64 z5, .int .i64 z6, .int .i64 z7], .int .i64 m, .agg #[.int .i64 p', .int .i64 q', .int .i64 u', .int .i64 v'], .agg M.toArray] w fun e w' => e = .returned (.agg N2.toArray) ∧ Below w.heap.size w w'
  a4 : ∀ w : World, Calls Try.prog 14 #[.agg #[.int .i64 z0, .int .i64 z1, .int .i64 z2, .int .i64 z3, .int .i64 z4, .int .i64 z5, .int .i64 z6, .int .i64 z7], .agg #[.int .i64 p', .int .i64 q', .int .i64 u', .int .i64 v']] w fun e w' => e = .returned (.bool t) ∧ Below w.heap.size w w'
  n : ∀ w : World, (binOp .neq 40 (.agg N1.toArray) (.agg N1.toArray)).run Try.prog w = .ok (.bool false) w
theorem gdA11 : Try.prog.eqGuardType Try.prog.depth 40 = false := by kernel_rfl
theorem eqlA11 (F G : Nat → Int) (hF : Byts 72 F) (hG : Byts 72 G) (b : Bool) (hb : b = true ↔ ∀ i, i < 72 → F i = G i) (w : World) : (binOp .eql 40 (.agg (ints .u8 72 F).toArray) (.agg (ints .u8 72 G).toArray)).run Try.prog w = .ok (.bool b) w :=
  eql_ints 40 72 Try.underlying40 F G hF hG b hb w
theorem neqA11 (F G : Nat → Int) (hF : Byts 72 F) (hG : Byts 72 G) (b : Bool) (hb : b = true ↔ ∀ i, i < 72 → F i = G i) (w : World) : (binOp .neq 40 (.agg (ints .u8 72 F).toArray) (.agg (ints .u8 72 G).toArray)).run Try.prog w = .ok (.bool (!b)) w :=
  neq_ints 40 72 Try.underlying40 F G hF hG b hb w
set_option maxRecDepth 100000 in
set_option maxHeartbeats 4000000 in
theorem faultApplies_core (a : Option Addr) (len cap : Nat) (Z : Nat → Nat → Int) (p' q' u' v' m : Int) (F : Nat → Int) (hF : Byts 72 F) (h40 : len ≤ 40) (w : World) (hs : Fs w a len cap Z) :
    Calls Try.prog 4 #[.slice a len cap, .int .i64 m, .agg #[.int .i64 p', .int .i64 q', .int .i64 u', .int .i64 v'], .agg (ints .u8 72 F).toArray] w fun e w' => e = .returned (.bool true) ∧ Below w.heap.size w w' := by
  obtain ⟨n, j, hm⟩ := md_any m
  have A0 : Hid (∀ w : World, Calls Try.prog 8 #[] w fun e w' => e = .returned (.bool true) ∧ Below w.heap.size w w') := anchor11_any
  have HO : Hid (∀ W, Below w.heap.size w W → Calls Try.prog 18 #[.slice a len cap, .int .i64 m, .agg #[.int .i64 p', .int .i64 q', .int .i64 u', .int .i64 v'], .agg (ints .u8 72 F).toArray] W fun e w' => e = .returned (.agg (ints .u8 72 (ovF n Z p' q' u' v' F len)).toArray) ∧ Below W.heap.size W w') := fun W hW => overlay_any a len cap Z p' q' u' v' F hF m n j hm W (hs.below hW)
  have HC : Hid (∀ s, s < len → Cr4 m (Z s 0) (Z s 1) (Z s 2) (Z s 3) (Z s 4) (Z s 5) (Z s 6) (Z s 7) p' q' u' v' (ints .u8 72 F) (ints .u8 72 (ovF n Z p' q' u' v' F s)) (ints .u8 72 (apF n (Z s 0) (Z s 1) (Z s 2) (Z s 3) (Z s 4) (Z s 5) (Z s 6) (Z s 7) p' q' u' v' F)) (ints .u8 72 (ovF n Z p' q' u' v' F (s + 1))) (lz (Z s 0) (Z s 1) (Z s 2) (Z s 3) (Z s 4) p' q' u' v')) := fun s h =>
    ⟨apply_any (Z s 0) (Z s 1) (Z s 2) (Z s 3) (Z s 4) (Z s 5) (Z s 6) (Z s 7) p' q' u' v' F hF m n j hm (bounds_i64 (hs.wf s h 6 (by omega))).2, refApply_any (Z s 0) (Z s 1) (Z s 2) (Z s 3) (Z s 4) (Z s 5) (Z s 6) (Z s 7) p' q' u' v' F hF m n j hm, refApply_any (Z s 0) (Z s 1) (Z s 2) (Z s 3) (Z s 4) (Z s 5) (Z s 6) (Z s 7) p' q' u' v' _ (ovF_byt n Z p' q' u' v' F hF s) m n j hm, refLies_any (Z s 0) (Z s 1) (Z s 2) (Z s 3) (Z s 4) (Z s 5) (Z s 6) (Z s 7) p' q' u' v', neqA11 _ _ (apF_byt _ _ _ _ _ _ _ _ _ _ _ _ _ _ hF) (apF_byt _ _ _ _ _ _ _ _ _ _ _ _ _ _ hF) true (by simp)⟩
  have HR : Hid (0 < len → ∃ b o, a = some ⟨b, o, none⟩ ∧ ∀ W, Below w.heap.size w W → ∀ s, s < len → W.rangeAt b (o + s * 8) [.int .i64 (Z s 0), .int .i64 (Z s 1), .int .i64 (Z s 2), .int .i64 (Z s 3), .int .i64 (Z s 4), .int .i64 (Z s 5), .int .i64 (Z s 6), .int .i64 (Z s 7)]) := fun h0 => by
    obtain ⟨b, o, h1, h2, h3⟩ := hs.at_ h0
    refine ⟨b, o, h1, fun W hW s hs => fs_range (fun i hi j hj => ?_) s hs⟩
    exact (hW.cell (p := ⟨b, o + (i * 8 + j), none⟩) h2).trans (h3 i hi j hj)
  have hXb := ovF_byt n Z p' q' u' v' F hF
  have HE1 : Hid (∀ w : World, (binOp .eql 40 (.agg (ints .u8 72 (ovF n Z p' q' u' v' F len)).toArray) (.agg (ints .u8 72 (ovF n Z p' q' u' v' F len)).toArray)).run Try.prog w = .ok (.bool true) w) := eqlA11 _ _ (hXb len) (hXb len) true (by simp)
  have HE2 : Hid (lyF Z p' q' u' v' len = false → ∀ w : World, (binOp .eql 41 (.agg (ints .u8 72 (ovF n Z p' q' u' v' F len)).toArray) (.agg (ints .u8 72 F).toArray)).run Try.prog w = .ok (.bool true) w) := fun h => by rw [ovF_none n Z p' q' u' v' F len h]; exact eqlR _ _ hF hF true (by simp)
  clear hs hm hF hXb
  have hz := zeroR
  have hz9 := zeroA9
  have gd := gdA11
  have gdr := gdR
  obtain ⟨L, hL⟩ : ∃ L, ints .u8 72 F = L := ⟨_, rfl⟩
  obtain ⟨T, hT⟩ : ∃ Z, (ints .u8 72 fun _ => 0).toArray = Z := ⟨_, rfl⟩
  have i0 : (Try.prog.info? 41).map (·.size) = some L.length := by rw [← hL, ints_len]; exact infoR
  have k9 : (Try.prog.info? 40).map (·.size) = some L.toArray.size := by rw [← hL]; simpa [ints] using infoA9
  have one0 : L.toArray.all (·.oneCell') = true := by rw [← hL]; exact ints_one .u8 72 F
  have HL : Hid (ints .u8 72 F = L) := hL
  have HT : Hid ((ints .u8 72 fun _ => 0).toArray = T) := hT
  have d40 : decide (40 < (len : Int)) = false := decide_eq_false (by omega)
  rw [hL] at HO HC HE2 ⊢
  rw [hT] at hz hz9
  clear hT hL
  go_enter Try.func4, Try.ntmps4
  go_upto_region 1 with (fail)
  obtain ⟨B, hB⟩ : ∃ B, w.heap.size = B := ⟨_, rfl⟩
  obtain ⟨C, hC⟩ : ∃ C, B + 1 = C := ⟨_, rfl⟩
  obtain ⟨V, hV⟩ : ∃ V, (w.alloc (.cells #[.int .i64 p', .int .i64 q', .int .i64 u', .int .i64 v'] 23)).alloc (.cells L.toArray 41) = V := ⟨_, rfl⟩
  have HI : Hid (Pl V B p' q' u' v' ∧ Bk .u8 V C 72 F ∧ Below B w V) := by
    have a1 := Bk.new .u8 (w.alloc (.cells #[.int .i64 p', .int .i64 q', .int .i64 u', .int .i64 v'] 23)) 72 F 41
    rw [HL.out] at a1
    simp only [World.size_alloc] at a1
    rw [← hV, ← hC, ← hB]
    exact ⟨(Pl.new w p' q' u' v' _).alloc _, a1, ((Below.refl _ w).alloc (Nat.le_refl _) _).alloc (by simp) _⟩
  rw [hB] at HR HO
  have oC : B < C := by omega
  rw [hV, hB, hC]
  clear hV hC
  go_wp2_with (fail)
  refine (A0.out _).mono ?_
  rintro e W0 ⟨rfl, b0⟩
  replace HI : Hid (Pl W0 B p' q' u' v' ∧ Bk .u8 W0 C 72 F ∧ Below B w W0) := ⟨HI.out.1.next b0, HI.out.2.1.next b0, HI.out.2.2.trans (b0.mono (Nat.le_of_lt HI.out.1.lt))⟩
  have hr := HI.out.2.1.range
  rw [HL.out] at hr
  have h9 := laid72 W0 40 F
  obtain ⟨ht, HS⟩ : (W0.alloc (.cells T 40)).there W0.heap.size 0 L.toArray.size ∧ Hid (Ls4 B C W0.heap.size p' q' u' v' L F (ovF n Z p' q' u' v' F 0) w ((W0.alloc (.cells T 40)).setCells W0.heap.size 0 L)) := by
    rw [HL.out, HT.out] at h9
    exact ⟨h9.2.2, HI.out.1.next h9.2.1, HI.out.2.1.next h9.2.1, h9.1, HI.out.2.2.trans (h9.2.1.mono (Nat.le_of_lt HI.out.1.lt)), HL.out⟩
  have oD : C < W0.heap.size := HI.out.2.1.lt
  clear h9 HI b0
  go_upto_region 6 with (first | refine wpList_load_mid rfl 41 _ rfl C 0 rfl L _ hr Try.underlying41 rfl i0 ?_ | refine wpList_store_mid rfl 40 _ _ rfl _ 0 L.toArray rfl rfl ht k9 one0 ?_)
  obtain ⟨W4, hW4⟩ : ∃ W4, (W0.alloc (.cells T 40)).setCells W0.heap.size 0 L = W4 := ⟨_, rfl⟩
  obtain ⟨D, hD⟩ : ∃ D, W0.heap.size = D := ⟨_, rfl⟩
  rw [hD] at hW4 HS oD ⊢
  rw [hW4] at HS ⊢
  clear hW4 ht hD hr
  go_wp2
  go_loopw [10, 23] (fun t i wr => ∃ s : Nat, s ≤ len ∧ i = .int .i64 (s : Int) ∧ t = .bool (lyF Z p' q' u' v' s) ∧ Hid (Ls4 B C D p' q' u' v' L F (ovF n Z p' q' u' v' F s) w wr)) (fun _ i _ => len - (intOf i).toNat)
  case atStart => exact ⟨0, by omega, rfl, rfl, HS⟩
  case round =>
    clear HS
    obtain ⟨s, hs, rfl, rfl, HS⟩ := hrel
    by_cases hlt : s < len
    · obtain ⟨b, o, rfl, HQ⟩ := HR.out (by omega)
      have hr := HQ wr HS.out.n s hlt
      have CA := HC.out s hlt
      obtain ⟨X, hX⟩ : ∃ X, ovF n Z p' q' u' v' F s = X := ⟨_, rfl⟩
      obtain ⟨Y, hY⟩ : ∃ Y, ovF n Z p' q' u' v' F (s + 1) = Y := ⟨_, rfl⟩
      obtain ⟨y, hy⟩ : ∃ y, lyF Z p' q' u' v' s = y := ⟨_, rfl⟩
      obtain ⟨t, htt⟩ : ∃ t, lz (Z s 0) (Z s 1) (Z s 2) (Z s 3) (Z s 4) p' q' u' v' = t := ⟨_, rfl⟩
      have HY : Hid (lyF Z p' q' u' v' (s + 1) = (y || t)) := by rw [← hy, ← htt]; rfl
      rw [hX] at HS
      rw [hX, hY, htt] at CA
      rw [hy]
      obtain ⟨M, hM⟩ : ∃ M, ints .u8 72 X = M := ⟨_, rfl⟩
      obtain ⟨N1, hN1⟩ : ∃ N, ints .u8 72 (apF n (Z s 0) (Z s 1) (Z s 2) (Z s 3) (Z s 4) (Z s 5) (Z s 6) (Z s 7) p' q' u' v' F) = N := ⟨_, rfl⟩
      obtain ⟨N2, hN2⟩ : ∃ N, ints .u8 72 Y = N := ⟨_, rfl⟩
      have i1 : (Try.prog.info? 40).map (·.size) = some M.length := by rw [← hM, ints_len]; exact infoA9
      have j9 : (Try.prog.info? 40).map (·.size) = some N2.toArray.size := by rw [← hN2]; simpa [ints] using infoA9
      have one1 : N2.toArray.all (·.oneCell') = true := by rw [← hN2]; exact ints_one .u8 72 Y
      have HM : Hid (ints .u8 72 X = M) := hM
      have HN2 : Hid (ints .u8 72 Y = N2) := hN2
      rw [hM, hN1, hN2] at CA
      obtain ⟨z0, hz0⟩ : ∃ y, Z s 0 = y := ⟨_, rfl⟩
      obtain ⟨z1, hz1⟩ : ∃ y, Z s 1 = y := ⟨_, rfl⟩
      obtain ⟨z2, hz2⟩ : ∃ y, Z s 2 = y := ⟨_, rfl⟩
      obtain ⟨z3, hz3⟩ : ∃ y, Z s 3 = y := ⟨_, rfl⟩
      obtain ⟨z4, hz4⟩ : ∃ y, Z s 4 = y := ⟨_, rfl⟩
      obtain ⟨z5, hz5⟩ : ∃ y, Z s 5 = y := ⟨_, rfl⟩
      obtain ⟨z6, hz6⟩ : ∃ y, Z s 6 = y := ⟨_, rfl⟩
      obtain ⟨z7, hz7⟩ : ∃ y, Z s 7 = y := ⟨_, rfl⟩
      rw [hz0, hz1, hz2, hz3, hz4, hz5, hz6, hz7] at CA hr
      have CB : Hid (Cr4 m z0 z1 z2 z3 z4 z5 z6 z7 p' q' u' v' L M N1 N2 t) := CA
      have HO11 : Hid (∀ w : World, Calls Try.prog 9 #[.agg #[.int .i64 z0, .int .i64 z1, .int .i64 z2, .int .i64 z3, .int .i64 z4, .int .i64 z5, .int .i64 z6, .int .i64 z7]] w fun e w' => e = .returned (.agg #[.int .i64 z0, .int .i64 z1, .int .i64 z2, .int .i64 z3, .int .i64 z4, .int .i64 z5, .int .i64 z6, .int .i64 z7]) ∧ Below w.heap.size w w') := of11_any z0 z1 z2 z3 z4 z5 z6 z7
      have HYy : Hid (ovF n Z p' q' u' v' F (s + 1) = Y) := hY
      clear HQ HC HR hX hY hy htt hM hN1 hN2 CA hz0 hz1 hz2 hz3 hz4 hz5 hz6 hz7 HE1 HE2 HO
      go_upto_region 10 with (first | refine wpList_load_mid rfl 25 _ rfl b (o + s * 8) rfl [.int .i64 z0, .int .i64 z1, .int .i64 z2, .int .i64 z3, .int .i64 z4, .int .i64 z5, .int .i64 z6, .int .i64 z7] _ hr Try.underlying25 rfl infoF ?_)
      obtain ⟨K, hK⟩ : ∃ K, wr.heap.size = K := ⟨_, rfl⟩
      have nK : K ≠ D := by have := HS.out.x.lt; omega
      obtain ⟨W1, hW1⟩ : ∃ W1, wr.alloc (.cells #[.int .i64 z0, .int .i64 z1, .int .i64 z2, .int .i64 z3, .int .i64 z4, .int .i64 z5, .int .i64 z6, .int .i64 z7] 25) = W1 := ⟨_, rfl⟩
      have HN : Hid (Ft W1 K z0 z1 z2 z3 z4 z5 z6 z7) := by rw [← hW1, ← hK]; exact Ft.new wr _ _ _ _ _ _ _ _ _
      replace HS : Hid (Ls4 B C D p' q' u' v' L F X w W1) := by rw [← hW1]; exact HS.out.next ((Below.refl _ wr).alloc (Nat.le_refl _) _)
      rw [hW1, hK]
      clear hr hW1 hK
      go_wp2_with (first | refine wpList_load_mid rfl 25 _ rfl K 0 rfl [.int .i64 z0, .int .i64 z1, .int .i64 z2, .int .i64 z3, .int .i64 z4, .int .i64 z5, .int .i64 z6, .int .i64 z7] _ (by exact HN.out.range) Try.underlying25 rfl infoF ?_)
      refine (HO11.out _).mono ?_
      rintro e W2 ⟨rfl, b2⟩
      replace HS : Hid (Ls4 B C D p' q' u' v' L F X w W2) := HS.out.next b2
      replace HN : Hid (Ft W2 K z0 z1 z2 z3 z4 z5 z6 z7) := HN.out.next b2
      clear b2 HO11
      go_upto_region 11 with (fail)
      obtain ⟨J, hJ⟩ : ∃ J, W2.heap.size = J := ⟨_, rfl⟩
      have nJ : J ≠ D := by have := HS.out.x.lt; omega
      obtain ⟨W3, hW3⟩ : ∃ W3, W2.alloc (.cells #[.int .i64 z0, .int .i64 z1, .int .i64 z2, .int .i64 z3, .int .i64 z4, .int .i64 z5, .int .i64 z6, .int .i64 z7] 31) = W3 := ⟨_, rfl⟩
      have HX : Hid (Lr4 B C D K J z0 z1 z2 z3 z4 z5 z6 z7 p' q' u' v' L F X w W3) := by
        rw [← hW3, ← hJ]
        exact ⟨HS.out.next ((Below.refl _ W2).alloc (Nat.le_refl _) _), HN.out.alloc _, Ft.new W2 _ _ _ _ _ _ _ _ _⟩
      rw [hW3, hJ]
      clear hW3 hJ HS HN
      refine region_calm (by kernel_rfl) (by kernel_rfl) (fun W => Below W3.heap.size W3 W) (below_drew1 W3) ?_
      intro U hU f hf hof
      have HNx : Hid (∀ u W, Below (f u).heap.size (f u) W → ∃ x, W = f x) := fun u W h => hof W ((hf u).trans (h.mono (hf u).size))
      have HE : Hid (∀ y, Lr4 B C D K J z0 z1 z2 z3 z4 z5 z6 z7 p' q' u' v' L F X w (f y)) := fun y => HX.out.next (hf y)
      clear hf hof HX
      refine quiet_load rfl 25 _ rfl K 0 rfl [.int .i64 z0, .int .i64 z1, .int .i64 z2, .int .i64 z3, .int .i64 z4, .int .i64 z5, .int .i64 z6, .int .i64 z7] _ (by rintro _ ⟨y, rfl⟩; exact (HE.out y).f.range) Try.underlying25 rfl infoF ?_
      simp only [Act.put, List.setIfInBounds_toArray, List.set_cons_zero, List.set_cons_succ]
      go_big_quiet_step (fail)
      refine quiet_load rfl 23 _ rfl B 0 rfl [.int .i64 p', .int .i64 q', .int .i64 u', .int .i64 v'] _ (by rintro _ ⟨y, rfl⟩; exact (HE.out y).s.g.range) Try.underlying23 rfl infoP ?_
      simp only [Act.put, List.setIfInBounds_toArray, List.set_cons_zero, List.set_cons_succ]
      refine quiet_load rfl 41 _ rfl C 0 rfl L _ (by rintro _ ⟨y, rfl⟩; exact (HE.out y).s.rr) Try.underlying41 rfl i0 ?_
      simp only [Act.put, List.setIfInBounds_toArray, List.set_cons_zero, List.set_cons_succ]
      go_big_quiet_step ((go_at_call 16; exact calm_next HNx.out (CB.out.a1 _)))
      refine quiet_load rfl 31 _ rfl J 0 rfl [.int .i64 z0, .int .i64 z1, .int .i64 z2, .int .i64 z3, .int .i64 z4, .int .i64 z5, .int .i64 z6, .int .i64 z7] _ (by rintro _ ⟨y, rfl⟩; exact (HE.out y).y.range) Try.underlying31 rfl infoG ?_
      simp only [Act.put, List.setIfInBounds_toArray, List.set_cons_zero, List.set_cons_succ]
      go_big_quiet_step (fail)
      refine quiet_load rfl 23 _ rfl B 0 rfl [.int .i64 p', .int .i64 q', .int .i64 u', .int .i64 v'] _ (by rintro _ ⟨y, rfl⟩; exact (HE.out y).s.g.range) Try.underlying23 rfl infoP ?_
      simp only [Act.put, List.setIfInBounds_toArray, List.set_cons_zero, List.set_cons_succ]
      refine quiet_load rfl 41 _ rfl C 0 rfl L _ (by rintro _ ⟨y, rfl⟩; exact (HE.out y).s.rr) Try.underlying41 rfl i0 ?_
      simp only [Act.put, List.setIfInBounds_toArray, List.set_cons_zero, List.set_cons_succ]
      go_big_quiet_step ((go_at_call 17; exact calm_next HNx.out (CB.out.a2 _)))
      refine quiet_one rfl _ (exec_neqA 40 _ _ _ rfl _ _ _ rfl rfl gd (fun w => CB.out.n w)) ?_
      simp only [Act.put, List.setIfInBounds_toArray, List.set_cons_zero, List.set_cons_succ]
      refine wpQuiet_nil ?_
      rintro _ ⟨y9, rfl⟩
      have HX : Hid (Lr4 B C D K J z0 z1 z2 z3 z4 z5 z6 z7 p' q' u' v' L F X w (f y9)) := HE.out y9
      obtain ⟨W5, hW5⟩ : ∃ W, f y9 = W := ⟨_, rfl⟩
      rw [hW5] at HX ⊢
      clear hW5 HE HNx hU
      have hrm : W5.rangeAt D 0 M := by rw [← HM.out]; exact HX.out.s.x.range
      go_wp2_with (first | refine wpList_load_mid rfl 31 _ rfl J 0 rfl [.int .i64 z0, .int .i64 z1, .int .i64 z2, .int .i64 z3, .int .i64 z4, .int .i64 z5, .int .i64 z6, .int .i64 z7] _ (by exact HX.out.y.range) Try.underlying31 rfl infoG ?_ | refine wpList_load_mid rfl 23 _ rfl B 0 rfl [.int .i64 p', .int .i64 q', .int .i64 u', .int .i64 v'] _ (by exact HX.out.s.g.range) Try.underlying23 rfl infoP ?_ | refine wpList_load_mid rfl 40 _ rfl D 0 rfl M _ (by exact hrm) Try.underlying40 rfl i1 ?_)
      refine (CB.out.a3 _).mono ?_
      rintro e W6 ⟨rfl, b6⟩
      replace HX : Hid (Lr4 B C D K J z0 z1 z2 z3 z4 z5 z6 z7 p' q' u' v' L F X w W6) := HX.out.next b6
      have ht : W6.there D 0 N2.toArray.size := by rw [← HN2.out]; exact Bk.there HX.out.s.x .u8 Y
      have HV : Hid (Lr4 B C D K J z0 z1 z2 z3 z4 z5 z6 z7 p' q' u' v' L F Y w (W6.setCells D 0 N2) ∧ True) := by
        rw [← HN2.out]
        exact ⟨⟨HX.out.s.put oC oD Y, Bk.putOther HX.out.f nK 0 _, Bk.putOther HX.out.y nJ 0 _⟩, trivial⟩
      clear hrm b6
      go_upto_region 14 with (refine wpList_store_mid rfl 40 _ _ rfl D 0 N2.toArray rfl rfl ht j9 one1 ?_)
      obtain ⟨W7, hW7⟩ : ∃ W, W6.setCells D 0 N2 = W := ⟨_, rfl⟩
      rw [show W6.setCells D 0 N2.toArray.toList = W7 from hW7]
      rw [hW7] at HV
      replace HX : Hid (Lr4 B C D K J z0 z1 z2 z3 z4 z5 z6 z7 p' q' u' v' L F Y w W7) := HV.out.1
      clear HV hW7 ht
      cases y with
      | true =>
        go_wp2
        go_roundw
        case rel => exact ⟨s + 1, by omega, by go_num, by rw [HY.out]; rfl, by rw [HYy.out]; exact HX.out.s⟩
        case measure => simp [intOf]; omega
      | false =>
        go_wp2_with (first | refine wpList_load_g (by rfl) 31 _ rfl J 0 rfl [.int .i64 z0, .int .i64 z1, .int .i64 z2, .int .i64 z3, .int .i64 z4, .int .i64 z5, .int .i64 z6, .int .i64 z7] _ (by exact HX.out.y.range) Try.underlying31 rfl infoG ?_ | refine wpList_load_g (by rfl) 23 _ rfl B 0 rfl [.int .i64 p', .int .i64 q', .int .i64 u', .int .i64 v'] _ (by exact HX.out.s.g.range) Try.underlying23 rfl infoP ?_)
        refine (CB.out.a4 _).mono ?_
        rintro e W8 ⟨rfl, b8⟩
        replace HX : Hid (Lr4 B C D K J z0 z1 z2 z3 z4 z5 z6 z7 p' q' u' v' L F Y w W8) := HX.out.next b8
        clear b8
        go_wp2
        go_roundw
        case rel => exact ⟨s + 1, by omega, by go_num, by rw [HY.out]; rfl, by rw [HYy.out]; exact HX.out.s⟩
        case measure => simp [intOf]; omega
    · obtain rfl : s = len := by omega
      have HO2 := HO.out
      obtain ⟨X, hX⟩ : ∃ X, ovF n Z p' q' u' v' F s = X := ⟨_, rfl⟩
      obtain ⟨y, hy⟩ : ∃ y, lyF Z p' q' u' v' s = y := ⟨_, rfl⟩
      rw [hX] at HS HE1 HE2 HO2
      rw [hy] at HE2 ⊢
      obtain ⟨M, hM⟩ : ∃ M, ints .u8 72 X = M := ⟨_, rfl⟩
      have i1 : (Try.prog.info? 40).map (·.size) = some M.length := by rw [← hM, ints_len]; exact infoA9
      have i2 : (Try.prog.info? 41).map (·.size) = some M.length := by rw [← hM, ints_len]; exact infoR
      have j9 : (Try.prog.info? 41).map (·.size) = some M.toArray.size := by simpa using i2
      have one1 : M.toArray.all (·.oneCell') = true := by rw [← hM]; exact ints_one .u8 72 X
      have HM : Hid (ints .u8 72 X = M) := hM
      rw [hM] at HE1 HE2 HO2
      have CO : Hid (∀ W, Below B w W → Calls Try.prog 18 #[.slice a s cap, .int .i64 m, .agg #[.int .i64 p', .int .i64 q', .int .i64 u', .int .i64 v'], .agg L.toArray] W fun e w' => e = .returned (.agg M.toArray) ∧ Below W.heap.size W w') := HO2
      clear hX hy hM HO HO2 HC HR
      go_wp2_with (first
        | refine wpList_load_mid rfl 23 _ rfl B 0 rfl [.int .i64 p', .int .i64 q', .int .i64 u', .int .i64 v'] _ (by exact HS.out.g.range) Try.underlying23 rfl infoP ?_
        | refine wpList_load_mid rfl 41 _ rfl C 0 rfl L _ (by exact HS.out.rr) Try.underlying41 rfl i0 ?_)
      refine (CO.out _ HS.out.n).mono ?_
      rintro e W2 ⟨rfl, b2⟩
      have h9 := laid72 W2 41 X
      obtain ⟨ht, HX⟩ : (W2.alloc (.cells T 41)).there W2.heap.size 0 M.toArray.size ∧ Hid (Ls4 B C D p' q' u' v' L F X w ((W2.alloc (.cells T 41)).setCells W2.heap.size 0 M) ∧ Bk .u8 ((W2.alloc (.cells T 41)).setCells W2.heap.size 0 M) W2.heap.size 72 X) := by
        rw [HM.out, HT.out] at h9
        exact ⟨h9.2.2, (HS.out.next b2).next h9.2.1, h9.1⟩
      clear h9 HS b2
      go_upto_region 17 with (first | refine wpList_store_mid rfl 41 _ _ rfl _ 0 M.toArray rfl rfl ht j9 one1 ?_)
      obtain ⟨W4, hW4⟩ : ∃ W4, (W2.alloc (.cells T 41)).setCells W2.heap.size 0 M = W4 := ⟨_, rfl⟩
      obtain ⟨E, hE⟩ : ∃ E, W2.heap.size = E := ⟨_, rfl⟩
      rw [hE] at hW4 HX ⊢
      rw [hW4] at HX ⊢
      clear hW4 ht hE
      have r1 : W4.rangeAt E 0 M := by rw [← HM.out]; exact HX.out.2.range
      have r2 : W4.rangeAt D 0 M := by rw [← HM.out]; exact HX.out.1.x.range
      have r3 : W4.rangeAt C 0 L := HX.out.1.rr
      cases y with
      | true =>
        clear HE2
        go_wp2_with (first | refine wpList_load_mid rfl 41 _ rfl E 0 rfl M _ (by exact r1) Try.underlying41 rfl i2 ?_ | refine wpList_load_mid rfl 40 _ rfl D 0 rfl M _ (by exact r2) Try.underlying40 rfl i1 ?_ | refine wpList_known rfl _ (exec_eqlA 40 _ _ _ rfl _ _ _ rfl rfl gd (fun w => HE1.out w) _) ?_)
        go_ret
        exact ⟨rfl, by first | exact HX.out.1.n | (rw [hB]; exact HX.out.1.n)⟩
      | false =>
        have HE3 : Hid (∀ w : World, (binOp .eql 41 (.agg M.toArray) (.agg L.toArray)).run Try.prog w = .ok (.bool true) w) := HE2.out rfl
        clear HE2
        go_wp2_with (first | refine wpList_load_mid rfl 41 _ rfl E 0 rfl M _ (by exact r1) Try.underlying41 rfl i2 ?_ | refine wpList_load_mid rfl 40 _ rfl D 0 rfl M _ (by exact r2) Try.underlying40 rfl i1 ?_ | refine wpList_known rfl _ (exec_eqlA 40 _ _ _ rfl _ _ _ rfl rfl gd (fun w => HE1.out w) _) ?_ | refine wpList_load_g (by rfl) 41 _ rfl E 0 rfl M _ (by exact r1) Try.underlying41 rfl i2 ?_ | refine wpList_load_g (by rfl) 41 _ rfl C 0 rfl L _ (by exact r3) Try.underlying41 rfl i0 ?_ | refine wpList_known (by rfl) _ (exec_eqlA 41 _ _ _ rfl _ _ _ rfl rfl gdr (fun w => HE3.out w) _) ?_)
        go_ret
        exact ⟨rfl, by first | exact HX.out.1.n | (rw [hB]; exact HX.out.1.n)⟩
set_option maxHeartbeats 1000000 in
theorem faultApplies_long (a : Option Addr) (len cap : Nat) (p' q' u' v' m : Int) (F : Nat → Int) (h40 : 40 < len) (w : World) :
    Calls Try.prog 4 #[.slice a len cap, .int .i64 m, .agg #[.int .i64 p', .int .i64 q', .int .i64 u', .int .i64 v'], .agg (ints .u8 72 F).toArray] w fun e w' => e = .returned (.bool true) ∧ Below w.heap.size w w' := by
  have A0 : Hid (∀ w : World, Calls Try.prog 8 #[] w fun e w' => e = .returned (.bool true) ∧ Below w.heap.size w w') := anchor11_any
  have d40 : decide (40 < (len : Int)) = true := decide_eq_true (by omega)
  clear h40
  obtain ⟨L, hL⟩ : ∃ L, (ints .u8 72 F).toArray = L := ⟨_, rfl⟩
  rw [hL]
  clear hL
  go_enter Try.func4, Try.ntmps4
  go_upto_region 1 with (fail)
  have HB : Hid (Below w.heap.size w ((w.alloc (.cells #[.int .i64 p', .int .i64 q', .int .i64 u', .int .i64 v'] 23)).alloc (.cells L 41)) ∧ w.heap.size ≤ ((w.alloc (.cells #[.int .i64 p', .int .i64 q', .int .i64 u', .int .i64 v'] 23)).alloc (.cells L 41)).heap.size) := ⟨((Below.refl _ w).alloc (Nat.le_refl _) _).alloc (by simp) _, by simp only [World.size_alloc]; omega⟩
  obtain ⟨V, hV⟩ : ∃ V, (w.alloc (.cells #[.int .i64 p', .int .i64 q', .int .i64 u', .int .i64 v'] 23)).alloc (.cells L 41) = V := ⟨_, rfl⟩
  rw [hV] at HB ⊢
  clear hV
  go_wp2_with (fail)
  refine (A0.out _).mono ?_
  rintro e W0 ⟨rfl, b0⟩
  replace HB : Hid (Below w.heap.size w W0) := HB.out.1.trans (b0.mono HB.out.2)
  clear b0
  go_wp2
  go_ret
  exact ⟨rfl, HB.out⟩
theorem faultApplies_walk (a0 : Option Addr) (len0 cap0 : Nat) (Z0 : Nat → Nat → Int) (a1 : Int) (a2 a3 : Nat → Int) (_w1 : (Lit.int .i64 a1).wf = true) (_w2 : ∀ i, i < 4 → (Lit.int .i64 (a2 i)).wf = true) (w3 : ∀ i, i < 72 → (Lit.int .u8 (a3 i)).wf = true) (w : World) (w0 : IsFlat .i64 8 w a0 len0 cap0 Z0) :
    Calls Try.prog 4 #[.slice a0 len0 cap0, .int .i64 a1, .agg (ints .i64 4 a2).toArray, .agg (ints .u8 72 a3).toArray] w fun e w' => e = .returned (.bool true) ∧ Below w.heap.size w w' := by
  have hs := w0.fs
  by_cases h40 : len0 ≤ 40
  · exact faultApplies_core a0 len0 cap0 Z0 (a2 0) (a2 1) (a2 2) (a2 3) a1 a3 (args_byts 72 _ w3) h40 w hs
  · exact faultApplies_long a0 len0 cap0 (a2 0) (a2 1) (a2 2) (a2 3) a1 a3 (by omega) w
end Go.Proofs.Ytlacmkcmfkakjaa
