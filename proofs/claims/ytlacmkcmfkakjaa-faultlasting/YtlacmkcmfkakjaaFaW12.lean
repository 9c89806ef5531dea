/-
  The walks of package fault: the iterator over those that last.
-/
import Derived.Test.YtlacmkcmfkakjaaFaW11
import Derived.Test.YtlacmkcmfkakjaaRoundM
namespace Go.Proofs.Ytlacmkcmfkakjaa
open Go.RowKit Go.Shelf
attribute [local go_sem] Oper.semAt_some

/-- the faults of a slice lie on in a world that keeps their block -/
theorem fs_keep {M : Nat → Prop} {W W' : World} {g o len : Nat} {Z : Nat → Nat → Int} (hg : g < W.heap.size) (hm : ¬ M g) (k : Keep M W W') (h : ∀ i, i < len → ∀ j, j < 8 → W.cell? ⟨g, o + (i * 8 + j), none⟩ = some (.int .i64 (Z i j))) :
    ∀ i, i < len → ∀ j, j < 8 → W'.cell? ⟨g, o + (i * 8 + j), none⟩ = some (.int .i64 (Z i j)) := fun i hi j hj =>
  (World.cell?_of_block (w := W) (a := ⟨g, o + (i * 8 + j), none⟩) (k.2 g hg hm)).trans (h i hi j hj)
theorem stay_below11 {W W' : World} (k : Below W.heap.size W W') : Stay W.heap.size W W' :=
  ⟨k.os, k.tape, k.output, k.size, fun b _ hb _ => (k.block b (Array.getElem?_eq_some_iff.1 hb).1).trans hb, fun b hb => k.block b hb⟩
set_option maxRecDepth 100000 in
set_option maxHeartbeats 2000000 in
theorem lasting_seq (w w0 : World) (T : Nat) (a' : Option Addr) (len c' : Nat) (Z : Nat → Nat → Int) (H : Lg w0 w T a' len c' Z) :
    SeqC Try.prog 38 #[.pointer (some ⟨T, 0, none⟩)] (fun x => #[.int .i64 (x : Int), .agg #[.int .i64 (Z x 0), .int .i64 (Z x 1), .int .i64 (Z x 2), .int .i64 (Z x 3), .int .i64 (Z x 4), .int .i64 (Z x 5), .int .i64 (Z x 6), .int .i64 (Z x 7)]]) len (fun x => ls (Z x 0) = true) (fun b => b = T ∨ (0 < len ∧ ∃ o, a' = some ⟨b, o, none⟩)) w := by
  intro l M J Jx W hW hM hJ hJx hskip hY h0
  have hlen : len ≤ maxLen := Nat.le_trans H.f.le H.f.cm
  unfold maxLen at hlen
  have HT : Hid (Box W T (.slice a' len c') ∧ ¬ M T) := ⟨H.b.below hW H.b.lt, fun h => (hM T h).2 (.inl rfl)⟩
  have HG : Hid (0 < len → ∃ g o, a' = some ⟨g, o, none⟩ ∧ g < W.heap.size ∧ ¬ M g ∧ ∀ i, i < len → ∀ j, j < 8 → W.cell? ⟨g, o + (i * 8 + j), none⟩ = some (.int .i64 (Z i j))) := fun h => by
    obtain ⟨g, o, e, h1, h2⟩ := (H.f.below (hW.mono (Nat.le_refl _))).at_ h
    exact ⟨g, o, e, h1, fun hm => (hM g hm).2 (.inr ⟨h, o, e⟩), h2⟩
  have HJ : Hid (∀ (x : Nat) (A A' : World), W.heap.size ≤ A.heap.size → J x A → Below A.heap.size A A' → J x A') := fun x A A' hl h k => hJ x A A' h ((stay_below11 k).mono hl)
  have HSk : Hid (∀ x W1, x < len → ls (Z x 0) = false → J x W1 → J (x + 1) W1) := fun x W1 h1 h2 h3 => hskip x W1 h1 (by show ¬ (ls (Z x 0) = true); rw [h2]; simp) h3
  have HY : Hid (∀ (x : Nat) (W1 : World), x < len → ls (Z x 0) = true → J x W1 → YieldAt Fence.wide 8 Try.prog l #[.int .i64 (x : Int), .agg #[.int .i64 (Z x 0), .int .i64 (Z x 1), .int .i64 (Z x 2), .int .i64 (Z x 3), .int .i64 (Z x 4), .int .i64 (Z x 5), .int .i64 (Z x 6), .int .i64 (Z x 7)]] W1 fun e W' => (e = .returned (.bool true) ∧ J (x + 1) W' ∧ Keep M W1 W') ∨ (e = .returned (.bool false) ∧ Jx x W' ∧ Keep M W1 W')) := hY
  have c0 := HT.out.1.1
  clear hJ hJx hskip hY hM hW H
  refine callsIn_of_wp Try.func38 rfl trivial ?_ rfl
  simp only [Try.ntmps38, List.size_toArray, List.length_cons, List.length_nil, Nat.reduceAdd, Nat.reduceSub, Array.replicate_succ, Array.replicate_zero, List.push_toArray, List.append_toArray, List.nil_append, List.cons_append]
  gi_wp2
  clear c0
  gi_loopw [7] (fun i wr => ∃ x : Nat, x ≤ len ∧ i = .int .i64 (x : Int) ∧ J x wr ∧ Keep M W wr) (fun i _ => (len - (intOf i).toNat))
  case atStart => exact ⟨0, by omega, rfl, h0, Keep.refl _ _⟩
  case round =>
    obtain ⟨x, hx, rfl, hJs, hK⟩ := hrel
    by_cases hlt : x < len
    · obtain ⟨g, o, rfl, hg, hm, hc⟩ := HG.out (by omega)
      have hr := fs_range (fs_keep hg hm hK hc) x hlt
      have HYx := HY.out x
      have HSx := HSk.out x
      have CL0 := lasts_any (Z x 0) (Z x 1) (Z x 2) (Z x 3) (Z x 4) (Z x 5) (Z x 6) (Z x 7)
      obtain ⟨z0, hz0⟩ : ∃ y, Z x 0 = y := ⟨_, rfl⟩
      obtain ⟨z1, hz1⟩ : ∃ y, Z x 1 = y := ⟨_, rfl⟩
      obtain ⟨z2, hz2⟩ : ∃ y, Z x 2 = y := ⟨_, rfl⟩
      obtain ⟨z3, hz3⟩ : ∃ y, Z x 3 = y := ⟨_, rfl⟩
      obtain ⟨z4, hz4⟩ : ∃ y, Z x 4 = y := ⟨_, rfl⟩
      obtain ⟨z5, hz5⟩ : ∃ y, Z x 5 = y := ⟨_, rfl⟩
      obtain ⟨z6, hz6⟩ : ∃ y, Z x 6 = y := ⟨_, rfl⟩
      obtain ⟨z7, hz7⟩ : ∃ y, Z x 7 = y := ⟨_, rfl⟩
      rw [hz0, hz1, hz2, hz3, hz4, hz5, hz6, hz7] at CL0 hr HYx
      rw [hz0] at HSx
      have HZ0 : Hid (Z x 0 = z0) := hz0
      obtain ⟨y, hy⟩ : ∃ y, ls z0 = y := ⟨_, rfl⟩
      rw [hy] at CL0 HYx HSx
      have HYy : Hid (ls z0 = y) := hy
      have CL : Hid (∀ w : World, Calls Try.prog 12 #[.agg #[.int .i64 z0, .int .i64 z1, .int .i64 z2, .int .i64 z3, .int .i64 z4, .int .i64 z5, .int .i64 z6, .int .i64 z7]] w fun e w' => e = .returned (.bool y) ∧ Below w.heap.size w w') := CL0
      have HYz : Hid (∀ W1 : World, y = true → J x W1 → YieldAt Fence.wide 8 Try.prog l #[.int .i64 (x : Int), .agg #[.int .i64 z0, .int .i64 z1, .int .i64 z2, .int .i64 z3, .int .i64 z4, .int .i64 z5, .int .i64 z6, .int .i64 z7]] W1 fun e W' => (e = .returned (.bool true) ∧ J (x + 1) W' ∧ Keep M W1 W') ∨ (e = .returned (.bool false) ∧ Jx x W' ∧ Keep M W1 W')) := fun W1 h1 h2 => HYx W1 hlt h1 h2
      have HSz : Hid (∀ W1 : World, y = false → J x W1 → J (x + 1) W1) := fun W1 h1 h2 => HSx W1 hlt h1 h2
      have HR : Hid (J x wr ∧ Keep M W wr) := ⟨hJs, hK⟩
      clear hz0 hz1 hz2 hz3 hz4 hz5 hz6 hz7 hy CL0 HYx HSx HG HSk HY hJs hK hc hg hm
      cases y with
      | true =>
        gi_wp2_with (first | (refine load_wide rfl 25 _ rfl g (o + x * 8) rfl [.int .i64 z0, .int .i64 z1, .int .i64 z2, .int .i64 z3, .int .i64 z4, .int .i64 z5, .int .i64 z6, .int .i64 z7] _ hr Try.underlying25 rfl infoF ?_))
        obtain ⟨K, hK⟩ : ∃ K, wr.heap.size = K := ⟨_, rfl⟩
        refine ⟨trivial, ?_⟩
        refine (callsIn_wide.2 (CL.out _)).mono ?_
        rintro e W2 ⟨rfl, b2⟩
        have b3 : Below wr.heap.size wr W2 := ((Below.refl _ wr).alloc (Nat.le_refl _) _).trans (b2.mono (by simp))
        have HF : Hid (Ft W2 K z0 z1 z2 z3 z4 z5 z6 z7 ∧ J x W2 ∧ Keep M W W2) := by
          rw [← hK]
          exact ⟨(Ft.new wr _ _ _ _ _ _ _ _ _).next b2, HJ.out x wr W2 HR.out.2.1 HR.out.1 b3, HR.out.2.trans (Keep.below b3 (Nat.le_refl _))⟩
        have c0 := HF.out.1.c0; have c1 := HF.out.1.c1; have c2 := HF.out.1.c2; have c3 := HF.out.1.c3; have c4 := HF.out.1.c4; have c5 := HF.out.1.c5; have c6 := HF.out.1.c6; have c7 := HF.out.1.c7
        rw [hK]
        clear b2 b3 hr HR hK
        obtain ⟨fn, tmps, assign, body, hyl, hR⟩ := HYz.out W2 (by simp) HF.out.2.1
        gi_wp2_with (first | (refine hR.mono ?_; rintro e W3 hE; obtain ⟨r, rfl, hE2⟩ := yields hE))
        · rcases hE2.out with ⟨rfl, _⟩ | ⟨_, hJx3⟩
          · rename_i hr; cases hr
          · refine bodyPost_ret (results_none rfl _ _ _) rfl ?_
            exact ⟨⟨_, rfl⟩, .inr ⟨x, hlt, by rw [HZ0.out]; exact HYy.out, hJx3.1⟩⟩
        · rcases hE2.out with ⟨_, hJ3, hK3⟩ | ⟨rfl, _⟩
          · refine ⟨⟨x + 1, by omega, by go_num, hJ3, HF.out.2.2.trans hK3⟩, ?_⟩
            simp [intOf]; omega
          · rename_i hr; cases hr
      | false =>
        gi_wp2_with (first | (refine load_wide rfl 25 _ rfl g (o + x * 8) rfl [.int .i64 z0, .int .i64 z1, .int .i64 z2, .int .i64 z3, .int .i64 z4, .int .i64 z5, .int .i64 z6, .int .i64 z7] _ hr Try.underlying25 rfl infoF ?_))
        obtain ⟨K, hK⟩ : ∃ K, wr.heap.size = K := ⟨_, rfl⟩
        refine ⟨trivial, ?_⟩
        refine (callsIn_wide.2 (CL.out _)).mono ?_
        rintro e W2 ⟨rfl, b2⟩
        have b3 : Below wr.heap.size wr W2 := ((Below.refl _ wr).alloc (Nat.le_refl _) _).trans (b2.mono (by simp))
        have HF : Hid (J (x + 1) W2 ∧ Keep M W W2) := ⟨HSz.out W2 (by simp) (HJ.out x wr W2 HR.out.2.1 HR.out.1 b3), HR.out.2.trans (Keep.below b3 (Nat.le_refl _))⟩
        clear b2 b3 hr HR hK
        gi_wp2
        refine ⟨fun _ h => (by cases h), ?_⟩
        gi_wp2
        refine ⟨⟨x + 1, by omega, by go_num, HF.out.1, HF.out.2⟩, ?_⟩
        simp [intOf]; omega
    · obtain rfl : x = len := by omega
      gi_wp2
      go_end0
      exact ⟨⟨_, rfl⟩, .inl hJs⟩
end Go.Proofs.Ytlacmkcmfkakjaa
