/-
  RsCorrects.
-/
import Derived.Test.YtmkjdpokcfeieaaRsL1
namespace Go.Proofs.Ytmkjdpokcfeieaa
open Go.RowKit Go.Shelf
open Gf (gI eI dI lI)
open Po (El mu pwr ev S cf toE cv Low rts)
open Rm (al sy At IsCode)
attribute [local go_sem] Oper.semAt_some

/-- a word with E added to its symbol n, and virtual symbols so -/
def adW (F : Nat → El) (n : Nat) (E : El) (i : Nat) : El := if i = n then F i ^^^ E else F i
def adV (G : Nat → El) (n : Nat) (E : El) (i : Nat) : El := if 36 + i = n then G i ^^^ E else G i
theorem wd_ad (F G : Nat → El) (n : Nat) (E : El) (i : Nat) (_ : i < 39) : wd (adW F n E) (adV G n E) i = wd F G i ^^^ Rm.one' n E i := by
  unfold wd adW adV Rm.one'
  by_cases h : i < 36
  · rw [if_pos h, if_pos h]
    by_cases e : i = n
    · rw [if_pos e, if_pos e]
    · rw [if_neg e, if_neg e, Po.x0]
  · rw [if_neg h, if_neg h, show 36 + (i - 36) = i from by omega]
    by_cases e : i = n
    · rw [if_pos e, if_pos e]
    · rw [if_neg e, if_neg e, Po.x0]
theorem sy_xor (W U : Nat → El) : sy (fun i => W i ^^^ U i) = fun j => sy W j ^^^ sy U j := by
  funext j; exact Po.ev_xor 39 W U (al j)
/-- the syndromes tell what was added to a code word -/
theorem nought_only {s u : Nat → El} (h : ∀ j, j < 4 → s j = u j) : (Nought s ↔ Nought u) ∧ (∀ i, At s i ↔ At u i) := by
  have h0 := h 0 (by omega); have h1 := h 1 (by omega); have h2 := h 2 (by omega); have h3 := h 3 (by omega)
  constructor
  · unfold Nought; rw [h0, h1, h2, h3]
  · intro i; unfold At; rw [h0, h1, h2, h3]
theorem plc_congr {s u : Nat → El} (h : ∀ j, j < 4 → s j = u j) : ∀ n i, plc s n i = plc u n i
  | 0, _ => rfl
  | n + 1, i => by
    show (if At s i then (i : Int) else plc s n (i + 1)) = if At u i then (i : Int) else plc u n (i + 1)
    by_cases ha : At s i
    · rw [if_pos ha, if_pos ((nought_only h).2 i |>.1 ha)]
    · rw [if_neg ha, if_neg (fun e => ha ((nought_only h).2 i |>.2 e)), plc_congr h n (i + 1)]
theorem v_congr {s u : Nat → El} (h : ∀ j, j < 4 → s j = u j) : vk s = vk u ∧ vp s = vp u ∧ vv s = vv u := by
  have hp := plc_congr h 39 0
  have hn := (nought_only h).1
  unfold vk vp vv
  rw [hp]
  by_cases hs : Nought s
  · have hu := hn.1 hs
    rw [if_pos hs, if_pos hs, if_pos hs, if_pos hu, if_pos hu, if_pos hu]; exact ⟨rfl, rfl, rfl⟩
  · have hu : ¬ Nought u := fun e => hs (hn.2 e)
    rw [if_neg hs, if_neg hs, if_neg hs, if_neg hu, if_neg hu, if_neg hu, h 0 (by omega)]; exact ⟨rfl, rfl, rfl⟩
theorem vd_congr {s u : Nat → El} (h : ∀ j, j < 4 → s j = u j) : vd s = vd u := by
  obtain ⟨h1, h2, h3⟩ := v_congr h
  unfold vd; rw [h1, h2, h3]
theorem mnd_congr {s u : Nat → El} (F : Nat → El) (h : ∀ j, j < 4 → s j = u j) (i : Nat) : mnd F s i = mnd F u i := by
  obtain ⟨h1, h2, h3⟩ := v_congr h
  unfold mnd; rw [h1, h2, h3]
/-- the syndromes of a code word with E added to symbol n -/
theorem sy_ad {F G : Nat → El} (hc : IsCode (wd F G)) (n : Nat) (E : El) : ∀ j, j < 4 → sy (wd (adW F n E) (adV G n E)) j = sy (Rm.one' n E) j := fun j hj => by
  rw [sy_congr (wd_ad F G n E), sy_xor]
  show sy (wd F G) j ^^^ _ = _
  rw [show sy (wd F G) j = 0 from hc j hj, Po.z0]
theorem one_zero (n : Nat) (i : Nat) : Rm.one' n 0 i = 0 := by unfold Rm.one'; split <;> rfl
/-- what is told of a code word with one symbol replaced -/
theorem told_one {K D G : Nat → El} (hc : IsCode (wd (ck K D) G)) (n : Nat) (hn : n < 39) (E : El) :
    (∀ i, i < 32 → mnd (adW (ck K D) n E) (sy (wd (adW (ck K D) n E) (adV G n E))) (4 + i) = D i) ∧
    vd (sy (wd (adW (ck K D) n E) (adV G n E))) = if E = 0 then #[.int .i64 0, .int .i64 (-1), .int .u8 0] else #[.int .i64 (if n < 36 then 1 else 2), .int .i64 (n : Int), .int .u8 (oe E)] := by
  have hs := sy_ad hc n E
  have hD : ∀ i, ck K D (4 + i) = D i := fun i => by unfold ck; rw [if_neg (by omega), show 4 + i - 4 = i from by omega]
  by_cases hE : E = 0
  · have hz : Nought (sy (Rm.one' n E)) := by
      rw [hE, sy_congr (U := fun _ => 0) fun i _ => one_zero n i]; exact sy_zero
    constructor
    · intro i _
      rw [mnd_congr _ hs]
      unfold mnd
      rw [vk_clean hz, if_neg (by omega)]
      unfold adW
      rw [hE, hD]
      split
      · exact Po.x0 _
      · rfl
    · rw [vd_congr hs, vd_clean hz, if_pos hE]
  · have hat := Rm.sy_one n E hn hE
    obtain ⟨h1, h2, h3⟩ := v_at hn hat
    rw [Rm.sy_one0 n E hn] at h3
    constructor
    · intro i hi
      rw [mnd_congr _ hs]
      unfold mnd
      rw [h1, h2, h3]
      by_cases h36 : n < 36
      · rw [if_pos h36]
        unfold adW
        by_cases e : 4 + i = n
        · rw [if_pos ⟨rfl, by rw [e]⟩, if_pos e, BitVec.xor_assoc, Po.xor_self', Po.x0, hD]
        · rw [if_neg (fun h => e (by omega)), if_neg e, hD]
      · rw [if_neg h36, if_neg (fun h => absurd h.1 (by decide))]
        unfold adW
        rw [if_neg (by omega), hD]
    · rw [vd_congr hs, if_neg hE]
      unfold vd
      rw [h1, h2, h3]

/-- while RsCorrects works: data, virtual symbols, the word in J, the verdict that is wanted in J + 1 -/
structure CoS (B J c b : Nat) (D G X : Nat → El) (x y z : Value) (w W : World) : Prop where
  d : Blk W B 32 D
  v : Blk W (B + 1) 3 G
  o : Blk W J 36 X
  t : VdAt W (J + 1) x y z
  code : CdAt W c b
  below : Below B w W
theorem CoS.next {B J c b : Nat} {D G X : Nat → El} {x y z : Value} {w W W' : World} (h : CoS B J c b D G X x y z w W) (k : Below W.heap.size W W') : CoS B J c b D G X x y z w W' :=
  ⟨h.d.next k, h.v.next k, h.o.next k, h.t.next k, h.code.next k, h.below.trans (k.mono (Nat.le_of_lt h.d.lt))⟩
theorem VdAt.set {W : World} {b : Nat} {x y z : Value} (h : VdAt W b x y z) (u : Value) : VdAt (W.setCell ⟨b, 0, none⟩ u) b u y z := by
  refine ⟨World.cell?_setCell_same' _ _ _ (by rw [h.c0]; rfl), ?_, ?_, fun i => by rw [World.frozen?_setCell]; exact h.f i⟩
  · rw [World.cell?_setCell_other _ _ _ _ (by simp)]; exact h.c1
  · rw [World.cell?_setCell_other _ _ _ _ (by simp)]; exact h.c2
theorem VdAt.put {W : World} {b : Nat} {x y z : Value} (h : VdAt W b x y z) (x' y' z' : Value) : VdAt (((W.setCell ⟨b, 0, none⟩ x').setCell ⟨b, 1, none⟩ y').setCell ⟨b, 2, none⟩ z') b x' y' z' := by
  have hr : (((W.setCell ⟨b, 0, none⟩ x').setCell ⟨b, 1, none⟩ y').setCell ⟨b, 2, none⟩ z').rangeAt b 0 [x', y', z'] := World.rangeAt_setCells_same W b 0 [x', y', z'] h.there
  exact ⟨by have := hr 0 x' rfl; simpa using this, by have := hr 1 y' rfl; simpa using this, by have := hr 2 z' rfl; simpa using this, fun i => by rw [World.frozen?_setCell, World.frozen?_setCell, World.frozen?_setCell]; exact h.f i⟩
theorem pair_range (W : World) (A R : List Value) (hA : (arr 32 fun _ => 0) = A) (hR : R.length = 32) (t t' : TypeId) (x y z : Value) (X : World) (hX : (((W.alloc (.cells A.toArray t)).alloc (.cells #[.int .i64 0, .int .i64 0, .int .u8 0] t')).setCells W.heap.size 0 R).setCells (W.heap.size + 1) 0 [x, y, z] = X) :
    X.rangeAt W.heap.size 0 R := by
  rw [← hX]
  exact World.rangeAt_setCells_apart (World.rangeAt_setCells_same _ _ 0 R (by have := pair_t1 hA hR W t (.cells #[.int .i64 0, .int .i64 0, .int .u8 0] t'); simpa using this)) _ 0 _ (.inl (by omega))

theorem new36 {A : List Value} (hA : (arr 36 fun _ => 0) = A) (W : World) (t : TypeId) (F : Nat → El) : (W.alloc (.cells A.toArray t)).there W.heap.size 0 (arr 36 F).toArray.size := by
  have h := Blk.new W 36 (fun _ => 0) t
  rw [hA] at h
  exact h.there
set_option maxRecDepth 100000 in
set_option maxHeartbeats 2000000 in
theorem rsCorrects_core (D G : Nat → El) (i : Int) (E : El) (w : World) :
    Calls Try.prog 5 #[.agg (arr 32 D).toArray, .agg (arr 3 G).toArray, .int .i64 i, .int .u8 (oe E)] w fun e w' => e = .returned (.bool true) ∧ Below w.heap.size w w' := by
  have hz := zeroVd
  have hz32 := zero32
  have hz36 := zero36
  have cW : Hid (∀ c b W, CdAt W c b → Calls Try.prog 13 #[.pointer (some ⟨c, 0, none⟩), .agg (arr 32 D).toArray, .agg (arr 3 G).toArray] W fun e w' => ∃ K, e = .returned (.agg (arr 36 (ck K D)).toArray) ∧ IsCode (wd (ck K D) G) ∧ Below W.heap.size W w') := fun c b W h => word_any c b D G W h
  have hgd : Try.prog.eqGuardType Try.prog.depth 22 = false := by kernel_rfl
  have heq : ∀ w, (binOp .eql 22 (.agg (arr 32 D).toArray) (.agg (arr 32 D).toArray)).run Try.prog w = .ok (.bool true) w := fun w => eql_arr 22 32 Try.underlying22 _ _ true ⟨fun _ _ _ => rfl, fun _ => rfl⟩ w
  obtain ⟨A0, hA0⟩ : ∃ A, arr 32 D = A := ⟨_, rfl⟩
  obtain ⟨A1, hA1⟩ : ∃ A, arr 3 G = A := ⟨_, rfl⟩
  obtain ⟨A2, hA2⟩ : ∃ A, (arr 32 fun _ => 0) = A := ⟨_, rfl⟩
  obtain ⟨A5, hA5⟩ : ∃ A, (arr 36 fun _ => 0) = A := ⟨_, rfl⟩
  have i32 : (Try.prog.info? 22).map (·.size) = some A0.length := by rw [← hA0, arr_len]; kernel_rfl
  have i3 : (Try.prog.info? 23).map (·.size) = some A1.length := by rw [← hA1, arr_len]; kernel_rfl
  have o32 : A0.toArray.all (·.oneCell') = true := by rw [← hA0]; exact arr_one 32 D
  have l32 : A0.length = 32 := by rw [← hA0, arr_len]
  rw [hA2] at hz32
  rw [hA5] at hz36
  rw [hA0] at heq
  rw [hA0, hA1] at cW ⊢
  go_enter Try.func5, Try.ntmps5
  go_upto_region 1 with (fail)
  obtain ⟨B, hB⟩ : ∃ B, w.heap.size = B := ⟨_, rfl⟩
  obtain ⟨V0, hV0⟩ : ∃ V, (w.alloc (.cells A0.toArray 22)).alloc (.cells A1.toArray 23) = V := ⟨_, rfl⟩
  have H0 : Hid (Blk V0 B 32 D ∧ Blk V0 (B + 1) 3 G ∧ Below B w V0) := by
    have h0 := Blk.new w 32 D 22
    have h1 := Blk.new (w.alloc (.cells A0.toArray 22)) 3 G 23
    simp only [World.size_alloc] at h1
    rw [hA0] at h0
    rw [hA1] at h1
    rw [← hB, ← hV0]
    exact ⟨h0.alloc _, h1, ((Below.refl _ w).alloc (Nat.le_refl _) _).alloc (by simp) _⟩
  rw [hV0, hB]
  clear hV0
  go_upto_region 4 with (go_at_call 10; refine (coded_any _).mono ?_; rintro e V1 ⟨c, b, rfl, hC, hB1, hcn, hbn⟩)
  have H1 : Hid (Blk V1 B 32 D ∧ Blk V1 (B + 1) 3 G ∧ CdAt V1 c b ∧ Below B w V1) := by
    obtain ⟨h1, h2, h3⟩ := H0.out
    exact ⟨h1.next hB1, h2.next hB1, hC, h3.trans (hB1.mono (Nat.le_of_lt h1.lt))⟩
  have hcB : B + 1 < c ∧ B + 1 < b := by have := H0.out.2.1.lt; omega
  clear H0 hC hB1 hcn hbn
  by_cases hi : i < 0 ∨ 38 < i
  · rcases hi with hi | hi
    · go_wp2
      go_ret
      exact ⟨rfl, by first | exact H1.out.2.2.2 | (rw [hB]; exact H1.out.2.2.2)⟩
    · have h0 : 0 ≤ i := by omega
      go_wp2
      go_ret
      exact ⟨rfl, by first | exact H1.out.2.2.2 | (rw [hB]; exact H1.out.2.2.2)⟩
  · obtain ⟨n, rfl⟩ : ∃ n : Nat, i = (n : Int) := ⟨i.toNat, by omega⟩
    have hn : n < 39 := by omega
    have r0 : V1.rangeAt B 0 A0 := by rw [← hA0]; exact H1.out.1.range
    have r1 : V1.rangeAt (B + 1) 0 A1 := by rw [← hA1]; exact H1.out.2.1.range
    have hle : ¬ (38 < (n : Int)) := by omega
    clear hi
    go_upto_region 6 with (fail)
    go_upto_region 7 with (first | refine wpList_load_mid rfl 22 _ rfl B 0 rfl A0 _ r0 Try.underlying22 rfl i32 ?_ | refine wpList_load_mid rfl 23 _ rfl (B + 1) 0 rfl A1 _ r1 Try.underlying23 rfl i3 ?_ | (go_at_call 13; refine (cW.out c b _ H1.out.2.2.1).mono ?_; rintro e V2 ⟨K, rfl, hcode, hB2⟩) | refine wpList_store_mid rfl 24 _ _ rfl _ 0 (arr 36 (ck K D)).toArray rfl rfl (new36 hA5 _ _ _) (by rw [show (arr 36 (ck K D)).toArray.size = 36 from by simp [arr_len]]; exact info36) (arr_one 36 _) ?_)
    obtain ⟨J, hJ⟩ : ∃ J, V2.heap.size = J := ⟨_, rfl⟩
    obtain ⟨V3, hV3⟩ : ∃ V, (V2.alloc (.cells A5.toArray 24)).setCells V2.heap.size 0 (arr 36 (ck K D)) = V := ⟨_, rfl⟩
    have s3 : V3.heap.size = J + 1 := by rw [← hV3, size_sets, World.size_alloc, hJ]
    obtain ⟨X, HX⟩ : ∃ X, Hid (ck K D = X) := ⟨_, rfl⟩
    have H3 : Hid (Blk V3 B 32 D ∧ Blk V3 (B + 1) 3 G ∧ Blk V3 J 36 X ∧ CdAt V3 c b ∧ Below B w V3) := by
      obtain ⟨h1, h2, h3, h4⟩ := H1.out
      have b3 : Below V1.heap.size V1 V3 := by rw [← hV3]; exact below_puts (hB2.alloc hB2.size _) hB2.size 0 _
      refine ⟨h1.next b3, h2.next b3, ?_, h3.next b3, h4.trans (b3.mono (Nat.le_of_lt h1.lt))⟩
      have h := Blk.new V2 36 (fun _ => 0) 24
      rw [hA5] at h
      have h2 := h.put (ck K D)
      rw [hV3, hJ] at h2
      rw [← HX.out]; exact h2
    have sJ : B + 1 < J := by have := H1.out.2.1.lt; have := hB2.size; omega
    have hcJ : c < J ∧ b < J ∧ c ≠ B + 1 ∧ b ≠ B + 1 := by have := H1.out.2.2.1.lt; have := H1.out.2.2.1.fld.lt; have := hB2.size; have := hcB; omega
    have told := told_one hcode n hn E
    rw [HX.out] at told
    have Told : Hid ((∀ i, i < 32 → mnd (adW X n E) (sy (wd (adW X n E) (adV G n E))) (4 + i) = D i) ∧ vd (sy (wd (adW X n E) (adV G n E))) = if E = 0 then #[.int .i64 0, .int .i64 (-1), .int .u8 0] else #[.int .i64 (if n < 36 then 1 else 2), .int .i64 (n : Int), .int .u8 (oe E)]) := told
    clear told
    rw [hV3, hJ, HX.out]
    simp only [Act.put]
    clear hV3 hJ hcode hB2 H1 r0 r1 cW
    go_upto_region 8 with (fail)
    try rw [s3]
    obtain ⟨V4, hV4⟩ : ∃ V, V3.alloc (.cells #[.int .i64 1, .int .i64 (n : Int), .int .u8 (oe E)] 40) = V := ⟨_, rfl⟩
    have H4 : Hid (CoS B J c b D G X (.int .i64 1) (.int .i64 (n : Int)) (.int .u8 (oe E)) w V4) := by
      obtain ⟨h1, h2, h3, h4, h5⟩ := H3.out
      rw [← hV4]
      have hv := VdAt.new V3 (.int .i64 1) (.int .i64 (n : Int)) (.int .u8 (oe E)) 40
      rw [s3] at hv
      exact ⟨h1.alloc _, h2.alloc _, h3.alloc _, hv, h4.next ((Below.refl _ _).alloc (Nat.le_refl _) _), h5.alloc (by omega) _⟩
    rw [hV4]
    clear hV4 H3 s3
    by_cases h36 : n < 36
    · have cw := H4.out.o.arr n h36
      have fw := H4.out.o.free n
      have ex := oe_xor (X n) E
      have hgt : ¬ (35 < (n : Int)) := by omega
      go_upto_region 12 with (fail)
      try rw [ex]
      obtain ⟨V5, hV5⟩ : ∃ V, V4.setCell ⟨J, n, none⟩ (.int .u8 (oe (X n ^^^ E))) = V := ⟨_, rfl⟩
      have H5 : Hid (CoS B J c b D (adV G n E) (adW X n E) (.int .i64 1) (.int .i64 (n : Int)) (.int .u8 (oe E)) w V5) := by
        obtain ⟨h1, h2, h3, h4, h5, h6⟩ := H4.out
        rw [← hV5]
        refine ⟨h1.other (by omega) _ _, (h2.other (by omega) _ _).congr fun k hk => ?_, (h3.set n _).congr fun k hk => ?_, h4.of (Below.heap_setCell V4 ⟨J, n, none⟩ _ _ (by simp)), h5.of (Below.heap_setCell V4 ⟨J, n, none⟩ _ c (by simp; omega)) (Below.heap_setCell V4 ⟨J, n, none⟩ _ b (by simp; omega)), h6.setCell (p := ⟨J, n, none⟩) (by simp; omega) _⟩
        · unfold adV; rw [if_neg (by omega)]
        · unfold adW
          by_cases e : k = n
          · rw [if_pos e, if_pos e, e]
          · rw [if_neg e, if_neg e]
      rw [hV5]
      clear hV5 H4 cw fw ex
      by_cases hE : E = 0
      · subst hE
        obtain ⟨V6, hV6⟩ : ∃ V, ((V5.setCell ⟨J + 1, 0, none⟩ (.int .i64 0)).setCell ⟨J + 1, 1, none⟩ (.int .i64 (-1))).setCell ⟨J + 1, 2, none⟩ (.int .u8 0) = V := ⟨_, rfl⟩
        have t0 := H5.out.t.c0; have t1 := H5.out.t.c1; have t2 := H5.out.t.c2
        have f0 := H5.out.t.f 0; have f1 := H5.out.t.f 1; have f2 := H5.out.t.f 2
        rw [oe_zero] at t2
        have H6 : Hid (CoS B J c b D (adV G n 0) (adW X n 0) (.int .i64 0) (.int .i64 (-1)) (.int .u8 0) w V6) := by
          obtain ⟨h1, h2, h3, h4, h5, h6⟩ := H5.out
          have hoth : ∀ k, k ≠ J + 1 → V6.heap[k]? = V5.heap[k]? := fun k hk => by
            rw [← hV6]
            exact (Below.heap_setCell _ ⟨J + 1, 2, none⟩ _ k hk).trans ((Below.heap_setCell _ ⟨J + 1, 1, none⟩ _ k hk).trans (Below.heap_setCell _ ⟨J + 1, 0, none⟩ _ k hk))
          refine ⟨h1.of (hoth _ (by omega)), h2.of (hoth _ (by omega)), h3.of (hoth _ (by omega)), by rw [← hV6]; exact h4.put _ _ _, h5.of (hoth _ (by omega)) (hoth _ (by omega)), ?_⟩
          rw [← hV6]
          exact below_put (by omega) [.int .i64 0, .int .i64 (-1), .int .u8 0] 0 h6
        have Tl : Hid ((∀ i, i < 32 → mnd (adW X n 0) (sy (wd (adW X n 0) (adV G n 0))) (4 + i) = D i) ∧ vd (sy (wd (adW X n 0) (adV G n 0))) = #[.int .i64 0, .int .i64 (-1), .int .u8 0]) := ⟨Told.out.1, by rw [Told.out.2, if_pos rfl]⟩
        rw [oe_zero]
        clear H5 Told
        go_upto_region 14 with (fail)
        try rw [hV6]
        clear hV6 t0 t1 t2 f0 f1 f2
        obtain ⟨LX, hLX⟩ : ∃ L, arr 36 (adW X n 0) = L := ⟨_, rfl⟩
        obtain ⟨LG, hLG⟩ : ∃ L, arr 3 (adV G n 0) = L := ⟨_, rfl⟩
        have r0 : V6.rangeAt J 0 LX := by rw [← hLX]; exact H6.out.o.range
        have r1 : V6.rangeAt (B + 1) 0 LG := by rw [← hLG]; exact H6.out.v.range
        have j36 : (Try.prog.info? 24).map (·.size) = some LX.length := by rw [← hLX, arr_len]; kernel_rfl
        have j3 : (Try.prog.info? 23).map (·.size) = some LG.length := by rw [← hLG, arr_len]; kernel_rfl
        have cD : Hid (Calls Try.prog 19 #[.pointer (some ⟨c, 0, none⟩), .agg LX.toArray, .agg LG.toArray] V6 fun e w' => e = .returned (.tuple #[.agg A0.toArray, .agg #[.int .i64 0, .int .i64 (-1), .int .u8 0]]) ∧ Below V6.heap.size V6 w') := by
          have h := decode_any c b (adW X n 0) (adV G n 0) V6 H6.out.code
          rw [arr_congr 32 _ D Tl.out.1, Tl.out.2, hA0] at h
          rw [← hLX, ← hLG]; exact h
        clear hLX hLG Tl
        go_upto_region 15 with (first | refine wpList_load_mid rfl 24 _ rfl J 0 rfl LX _ r0 Try.underlying24 rfl j36 ?_ | refine wpList_load_mid rfl 23 _ rfl (B + 1) 0 rfl LG _ r1 Try.underlying23 rfl j3 ?_ | (go_at_call 19; refine (cD.out).mono ?_; rintro e V7 ⟨rfl, hB7⟩) | refine wpList_store_mid rfl 22 _ _ rfl _ 0 A0.toArray rfl rfl (pair_t1 hA2 l32 _ _ _) i32 o32 ?_ | refine wpList_store_mid rfl 40 _ _ rfl _ 0 #[.int .i64 0, .int .i64 (-1), .int .u8 0] rfl rfl (pair_t2 _ _ _ _ _) infoVd (by simp [Value.oneCell']) ?_)
        obtain ⟨V8, hV8⟩ : ∃ V, (((V7.alloc (.cells A2.toArray 22)).alloc (.cells #[.int .i64 0, .int .i64 0, .int .u8 0] 40)).setCells V7.heap.size 0 A0).setCells (V7.heap.size + 1) 0 [.int .i64 0, .int .i64 (-1), .int .u8 0] = V := ⟨_, rfl⟩
        obtain ⟨v8, b8, s8⟩ := pair_laid V7 _ _ A0 _ _ _ V8 hV8
        have rT := pair_range V7 A2 A0 hA2 l32 _ _ _ _ _ V8 hV8
        obtain ⟨T, hT⟩ : ∃ T, V7.heap.size = T := ⟨_, rfl⟩
        have bb : Below V6.heap.size V6 V8 := hB7.trans (b8.mono hB7.size)
        have H8 := H6.out.next bb
        have rD : V8.rangeAt B 0 A0 := by rw [← hA0]; exact H8.d.range
        have x0 := H8.t.c0; have x1 := H8.t.c1; have x2 := H8.t.c2
        rw [hT] at v8 rT
        have y0 := v8.c0; have y1 := v8.c1; have y2 := v8.c2
        have HE : Hid (Below B w V8) := H8.below
        simp only [Act.put]
        rw [hV8, hT]
        clear hV8 hT v8 b8 s8 bb H8 H6 r0 r1 cD hB7 j36 j3
        go_wp2_with (first | refine wpList_load_mid rfl 22 _ rfl T 0 rfl A0 _ rT Try.underlying22 rfl i32 ?_ | refine wpList_load_mid rfl 22 _ rfl B 0 rfl A0 _ rD Try.underlying22 rfl i32 ?_)
        go_ret
        exact ⟨rfl, by first | exact HE.out | (rw [hB]; exact HE.out)⟩
      · have hz0 : (oe E == 0) = false := oe_ne0 hE
        have H6 := H5
        obtain ⟨V6, hV6⟩ : ∃ V, V5 = V := ⟨_, rfl⟩
        rw [hV6] at H6
        have Tl : Hid ((∀ i, i < 32 → mnd (adW X n E) (sy (wd (adW X n E) (adV G n E))) (4 + i) = D i) ∧ vd (sy (wd (adW X n E) (adV G n E))) = #[.int .i64 1, .int .i64 (n : Int), .int .u8 (oe E)]) := ⟨Told.out.1, by rw [Told.out.2, if_neg hE, if_pos h36]⟩
        rw [hV6]
        clear hV6 H5 Told
        go_upto_region 14 with (fail)
        obtain ⟨LX, hLX⟩ : ∃ L, arr 36 (adW X n E) = L := ⟨_, rfl⟩
        obtain ⟨LG, hLG⟩ : ∃ L, arr 3 (adV G n E) = L := ⟨_, rfl⟩
        have r0 : V6.rangeAt J 0 LX := by rw [← hLX]; exact H6.out.o.range
        have r1 : V6.rangeAt (B + 1) 0 LG := by rw [← hLG]; exact H6.out.v.range
        have j36 : (Try.prog.info? 24).map (·.size) = some LX.length := by rw [← hLX, arr_len]; kernel_rfl
        have j3 : (Try.prog.info? 23).map (·.size) = some LG.length := by rw [← hLG, arr_len]; kernel_rfl
        have cD : Hid (Calls Try.prog 19 #[.pointer (some ⟨c, 0, none⟩), .agg LX.toArray, .agg LG.toArray] V6 fun e w' => e = .returned (.tuple #[.agg A0.toArray, .agg #[.int .i64 1, .int .i64 (n : Int), .int .u8 (oe E)]]) ∧ Below V6.heap.size V6 w') := by
          have h := decode_any c b (adW X n E) (adV G n E) V6 H6.out.code
          rw [arr_congr 32 _ D Tl.out.1, Tl.out.2, hA0] at h
          rw [← hLX, ← hLG]; exact h
        clear hLX hLG Tl
        go_upto_region 15 with (first | refine wpList_load_mid rfl 24 _ rfl J 0 rfl LX _ r0 Try.underlying24 rfl j36 ?_ | refine wpList_load_mid rfl 23 _ rfl (B + 1) 0 rfl LG _ r1 Try.underlying23 rfl j3 ?_ | (go_at_call 19; refine (cD.out).mono ?_; rintro e V7 ⟨rfl, hB7⟩) | refine wpList_store_mid rfl 22 _ _ rfl _ 0 A0.toArray rfl rfl (pair_t1 hA2 l32 _ _ _) i32 o32 ?_ | refine wpList_store_mid rfl 40 _ _ rfl _ 0 #[.int .i64 1, .int .i64 (n : Int), .int .u8 (oe E)] rfl rfl (pair_t2 _ _ _ _ _) infoVd (by simp [Value.oneCell']) ?_)
        obtain ⟨V8, hV8⟩ : ∃ V, (((V7.alloc (.cells A2.toArray 22)).alloc (.cells #[.int .i64 0, .int .i64 0, .int .u8 0] 40)).setCells V7.heap.size 0 A0).setCells (V7.heap.size + 1) 0 [.int .i64 1, .int .i64 (n : Int), .int .u8 (oe E)] = V := ⟨_, rfl⟩
        obtain ⟨v8, b8, s8⟩ := pair_laid V7 _ _ A0 _ _ _ V8 hV8
        have rT := pair_range V7 A2 A0 hA2 l32 _ _ _ _ _ V8 hV8
        obtain ⟨T, hT⟩ : ∃ T, V7.heap.size = T := ⟨_, rfl⟩
        have bb : Below V6.heap.size V6 V8 := hB7.trans (b8.mono hB7.size)
        have H8 := H6.out.next bb
        have rD : V8.rangeAt B 0 A0 := by rw [← hA0]; exact H8.d.range
        have x0 := H8.t.c0; have x1 := H8.t.c1; have x2 := H8.t.c2
        rw [hT] at v8 rT
        have y0 := v8.c0; have y1 := v8.c1; have y2 := v8.c2
        have HE : Hid (Below B w V8) := H8.below
        simp only [Act.put]
        rw [hV8, hT]
        clear hV8 hT v8 b8 s8 bb H8 H6 r0 r1 cD hB7 j36 j3
        go_wp2_with (first | refine wpList_load_mid rfl 22 _ rfl T 0 rfl A0 _ rT Try.underlying22 rfl i32 ?_ | refine wpList_load_mid rfl 22 _ rfl B 0 rfl A0 _ rD Try.underlying22 rfl i32 ?_)
        go_ret
        exact ⟨rfl, by first | exact HE.out | (rw [hB]; exact HE.out)⟩
    · obtain ⟨m, rfl⟩ : ∃ m, n = 36 + m := ⟨n - 36, by omega⟩
      have hm : m < 3 := by omega
      have cw := H4.out.v.arr m hm
      have fw := H4.out.v.free m
      have ex := oe_xor (G m) E
      have k0 := H4.out.t.c0
      have kf := H4.out.t.f 0
      have hgt : 35 < ((36 + m : Nat) : Int) := by omega
      have nJB : J + 1 ≠ B + 1 := by omega
      go_upto_region 12 with (fail)
      obtain ⟨V5, hV5⟩ : ∃ V, (V4.setCell ⟨J + 1, 0, none⟩ (.int .i64 2)).setCell ⟨B + 1, m, none⟩ (.int .u8 (oe (G m ^^^ E))) = V := ⟨_, rfl⟩
      have H5 : Hid (CoS B J c b D (adV G (36 + m) E) (adW X (36 + m) E) (.int .i64 2) (.int .i64 ((36 + m : Nat) : Int)) (.int .u8 (oe E)) w V5) := by
        obtain ⟨h1, h2, h3, h4, h5, h6⟩ := H4.out
        rw [← hV5]
        refine ⟨(h1.other (by omega) _ _).other (by omega) _ _, ((h2.other (by omega) _ _).set m _).congr fun k hk => ?_, ((h3.other (by omega) _ _).other (by omega) _ _).congr fun k hk => ?_, (h4.set _).of (Below.heap_setCell _ ⟨B + 1, m, none⟩ _ _ (by simp; omega)),
          (h5.of (Below.heap_setCell V4 ⟨J + 1, 0, none⟩ _ c (by simp; omega)) (Below.heap_setCell V4 ⟨J + 1, 0, none⟩ _ b (by simp; omega))).of (Below.heap_setCell _ ⟨B + 1, m, none⟩ _ c (by simp; omega)) (Below.heap_setCell _ ⟨B + 1, m, none⟩ _ b (by simp; omega)), (h6.setCell (p := ⟨J + 1, 0, none⟩) (by simp; omega) _).setCell (p := ⟨B + 1, m, none⟩) (by simp) _⟩
        · unfold adV
          by_cases e : k = m
          · rw [if_pos e, if_pos (by omega), e]
          · rw [if_neg e, if_neg (by omega)]
        · unfold adW; rw [if_neg (by omega)]
      rw [hV5]
      clear hV5 H4 cw fw ex k0 kf
      by_cases hE : E = 0
      · subst hE
        obtain ⟨V6, hV6⟩ : ∃ V, ((V5.setCell ⟨J + 1, 0, none⟩ (.int .i64 0)).setCell ⟨J + 1, 1, none⟩ (.int .i64 (-1))).setCell ⟨J + 1, 2, none⟩ (.int .u8 0) = V := ⟨_, rfl⟩
        have t0 := H5.out.t.c0; have t1 := H5.out.t.c1; have t2 := H5.out.t.c2
        have f0 := H5.out.t.f 0; have f1 := H5.out.t.f 1; have f2 := H5.out.t.f 2
        rw [oe_zero] at t2
        have H6 : Hid (CoS B J c b D (adV G (36 + m) 0) (adW X (36 + m) 0) (.int .i64 0) (.int .i64 (-1)) (.int .u8 0) w V6) := by
          obtain ⟨h1, h2, h3, h4, h5, h6⟩ := H5.out
          have hoth : ∀ k, k ≠ J + 1 → V6.heap[k]? = V5.heap[k]? := fun k hk => by
            rw [← hV6]
            exact (Below.heap_setCell _ ⟨J + 1, 2, none⟩ _ k hk).trans ((Below.heap_setCell _ ⟨J + 1, 1, none⟩ _ k hk).trans (Below.heap_setCell _ ⟨J + 1, 0, none⟩ _ k hk))
          refine ⟨h1.of (hoth _ (by omega)), h2.of (hoth _ (by omega)), h3.of (hoth _ (by omega)), by rw [← hV6]; exact h4.put _ _ _, h5.of (hoth _ (by omega)) (hoth _ (by omega)), ?_⟩
          rw [← hV6]
          exact below_put (by omega) [.int .i64 0, .int .i64 (-1), .int .u8 0] 0 h6
        have Tl : Hid ((∀ i, i < 32 → mnd (adW X (36 + m) 0) (sy (wd (adW X (36 + m) 0) (adV G (36 + m) 0))) (4 + i) = D i) ∧ vd (sy (wd (adW X (36 + m) 0) (adV G (36 + m) 0))) = #[.int .i64 0, .int .i64 (-1), .int .u8 0]) := ⟨Told.out.1, by rw [Told.out.2, if_pos rfl]⟩
        rw [oe_zero]
        clear H5 Told
        go_upto_region 14 with (fail)
        try rw [hV6]
        clear hV6 t0 t1 t2 f0 f1 f2
        obtain ⟨LX, hLX⟩ : ∃ L, arr 36 (adW X (36 + m) 0) = L := ⟨_, rfl⟩
        obtain ⟨LG, hLG⟩ : ∃ L, arr 3 (adV G (36 + m) 0) = L := ⟨_, rfl⟩
        have r0 : V6.rangeAt J 0 LX := by rw [← hLX]; exact H6.out.o.range
        have r1 : V6.rangeAt (B + 1) 0 LG := by rw [← hLG]; exact H6.out.v.range
        have j36 : (Try.prog.info? 24).map (·.size) = some LX.length := by rw [← hLX, arr_len]; kernel_rfl
        have j3 : (Try.prog.info? 23).map (·.size) = some LG.length := by rw [← hLG, arr_len]; kernel_rfl
        have cD : Hid (Calls Try.prog 19 #[.pointer (some ⟨c, 0, none⟩), .agg LX.toArray, .agg LG.toArray] V6 fun e w' => e = .returned (.tuple #[.agg A0.toArray, .agg #[.int .i64 0, .int .i64 (-1), .int .u8 0]]) ∧ Below V6.heap.size V6 w') := by
          have h := decode_any c b (adW X (36 + m) 0) (adV G (36 + m) 0) V6 H6.out.code
          rw [arr_congr 32 _ D Tl.out.1, Tl.out.2, hA0] at h
          rw [← hLX, ← hLG]; exact h
        clear hLX hLG Tl
        go_upto_region 15 with (first | refine wpList_load_mid rfl 24 _ rfl J 0 rfl LX _ r0 Try.underlying24 rfl j36 ?_ | refine wpList_load_mid rfl 23 _ rfl (B + 1) 0 rfl LG _ r1 Try.underlying23 rfl j3 ?_ | (go_at_call 19; refine (cD.out).mono ?_; rintro e V7 ⟨rfl, hB7⟩) | refine wpList_store_mid rfl 22 _ _ rfl _ 0 A0.toArray rfl rfl (pair_t1 hA2 l32 _ _ _) i32 o32 ?_ | refine wpList_store_mid rfl 40 _ _ rfl _ 0 #[.int .i64 0, .int .i64 (-1), .int .u8 0] rfl rfl (pair_t2 _ _ _ _ _) infoVd (by simp [Value.oneCell']) ?_)
        obtain ⟨V8, hV8⟩ : ∃ V, (((V7.alloc (.cells A2.toArray 22)).alloc (.cells #[.int .i64 0, .int .i64 0, .int .u8 0] 40)).setCells V7.heap.size 0 A0).setCells (V7.heap.size + 1) 0 [.int .i64 0, .int .i64 (-1), .int .u8 0] = V := ⟨_, rfl⟩
        obtain ⟨v8, b8, s8⟩ := pair_laid V7 _ _ A0 _ _ _ V8 hV8
        have rT := pair_range V7 A2 A0 hA2 l32 _ _ _ _ _ V8 hV8
        obtain ⟨T, hT⟩ : ∃ T, V7.heap.size = T := ⟨_, rfl⟩
        have bb : Below V6.heap.size V6 V8 := hB7.trans (b8.mono hB7.size)
        have H8 := H6.out.next bb
        have rD : V8.rangeAt B 0 A0 := by rw [← hA0]; exact H8.d.range
        have x0 := H8.t.c0; have x1 := H8.t.c1; have x2 := H8.t.c2
        rw [hT] at v8 rT
        have y0 := v8.c0; have y1 := v8.c1; have y2 := v8.c2
        have HE : Hid (Below B w V8) := H8.below
        simp only [Act.put]
        rw [hV8, hT]
        clear hV8 hT v8 b8 s8 bb H8 H6 r0 r1 cD hB7 j36 j3
        go_wp2_with (first | refine wpList_load_mid rfl 22 _ rfl T 0 rfl A0 _ rT Try.underlying22 rfl i32 ?_ | refine wpList_load_mid rfl 22 _ rfl B 0 rfl A0 _ rD Try.underlying22 rfl i32 ?_)
        go_ret
        exact ⟨rfl, by first | exact HE.out | (rw [hB]; exact HE.out)⟩
      · have hz0 : (oe E == 0) = false := oe_ne0 hE
        have H6 := H5
        obtain ⟨V6, hV6⟩ : ∃ V, V5 = V := ⟨_, rfl⟩
        rw [hV6] at H6
        have Tl : Hid ((∀ i, i < 32 → mnd (adW X (36 + m) E) (sy (wd (adW X (36 + m) E) (adV G (36 + m) E))) (4 + i) = D i) ∧ vd (sy (wd (adW X (36 + m) E) (adV G (36 + m) E))) = #[.int .i64 2, .int .i64 ((36 + m : Nat) : Int), .int .u8 (oe E)]) := ⟨Told.out.1, by rw [Told.out.2, if_neg hE, if_neg (by omega)]⟩
        rw [hV6]
        clear hV6 H5 Told
        go_upto_region 14 with (fail)
        obtain ⟨LX, hLX⟩ : ∃ L, arr 36 (adW X (36 + m) E) = L := ⟨_, rfl⟩
        obtain ⟨LG, hLG⟩ : ∃ L, arr 3 (adV G (36 + m) E) = L := ⟨_, rfl⟩
        have r0 : V6.rangeAt J 0 LX := by rw [← hLX]; exact H6.out.o.range
        have r1 : V6.rangeAt (B + 1) 0 LG := by rw [← hLG]; exact H6.out.v.range
        have j36 : (Try.prog.info? 24).map (·.size) = some LX.length := by rw [← hLX, arr_len]; kernel_rfl
        have j3 : (Try.prog.info? 23).map (·.size) = some LG.length := by rw [← hLG, arr_len]; kernel_rfl
        have cD : Hid (Calls Try.prog 19 #[.pointer (some ⟨c, 0, none⟩), .agg LX.toArray, .agg LG.toArray] V6 fun e w' => e = .returned (.tuple #[.agg A0.toArray, .agg #[.int .i64 2, .int .i64 ((36 + m : Nat) : Int), .int .u8 (oe E)]]) ∧ Below V6.heap.size V6 w') := by
          have h := decode_any c b (adW X (36 + m) E) (adV G (36 + m) E) V6 H6.out.code
          rw [arr_congr 32 _ D Tl.out.1, Tl.out.2, hA0] at h
          rw [← hLX, ← hLG]; exact h
        clear hLX hLG Tl
        go_upto_region 15 with (first | refine wpList_load_mid rfl 24 _ rfl J 0 rfl LX _ r0 Try.underlying24 rfl j36 ?_ | refine wpList_load_mid rfl 23 _ rfl (B + 1) 0 rfl LG _ r1 Try.underlying23 rfl j3 ?_ | (go_at_call 19; refine (cD.out).mono ?_; rintro e V7 ⟨rfl, hB7⟩) | refine wpList_store_mid rfl 22 _ _ rfl _ 0 A0.toArray rfl rfl (pair_t1 hA2 l32 _ _ _) i32 o32 ?_ | refine wpList_store_mid rfl 40 _ _ rfl _ 0 #[.int .i64 2, .int .i64 ((36 + m : Nat) : Int), .int .u8 (oe E)] rfl rfl (pair_t2 _ _ _ _ _) infoVd (by simp [Value.oneCell']) ?_)
        obtain ⟨V8, hV8⟩ : ∃ V, (((V7.alloc (.cells A2.toArray 22)).alloc (.cells #[.int .i64 0, .int .i64 0, .int .u8 0] 40)).setCells V7.heap.size 0 A0).setCells (V7.heap.size + 1) 0 [.int .i64 2, .int .i64 ((36 + m : Nat) : Int), .int .u8 (oe E)] = V := ⟨_, rfl⟩
        obtain ⟨v8, b8, s8⟩ := pair_laid V7 _ _ A0 _ _ _ V8 hV8
        have rT := pair_range V7 A2 A0 hA2 l32 _ _ _ _ _ V8 hV8
        obtain ⟨T, hT⟩ : ∃ T, V7.heap.size = T := ⟨_, rfl⟩
        have bb : Below V6.heap.size V6 V8 := hB7.trans (b8.mono hB7.size)
        have H8 := H6.out.next bb
        have rD : V8.rangeAt B 0 A0 := by rw [← hA0]; exact H8.d.range
        have x0 := H8.t.c0; have x1 := H8.t.c1; have x2 := H8.t.c2
        rw [hT] at v8 rT
        have y0 := v8.c0; have y1 := v8.c1; have y2 := v8.c2
        have HE : Hid (Below B w V8) := H8.below
        simp only [Act.put]
        rw [hV8, hT]
        clear hV8 hT v8 b8 s8 bb H8 H6 r0 r1 cD hB7 j36 j3
        go_wp2_with (first | refine wpList_load_mid rfl 22 _ rfl T 0 rfl A0 _ rT Try.underlying22 rfl i32 ?_ | refine wpList_load_mid rfl 22 _ rfl B 0 rfl A0 _ rD Try.underlying22 rfl i32 ?_)
        go_ret
        exact ⟨rfl, by first | exact HE.out | (rw [hB]; exact HE.out)⟩
theorem rsCorrects_walk (a0 : Nat → Int) (a1 : Nat → Int) (a2 : Int) (a3 : Int) (w0 : ∀ i, i < 32 → (Lit.int .u8 (a0 i)).wf = true) (w1 : ∀ i, i < 3 → (Lit.int .u8 (a1 i)).wf = true) (_w2 : (Lit.int .i64 a2).wf = true) (w3 : (Lit.int .u8 a3).wf = true) (w : World) :
    Calls Try.prog 5 #[.agg (ints .u8 32 a0).toArray, .agg (ints .u8 3 a1).toArray, .int .i64 a2, .int .u8 a3] w fun e w' => e = .returned (.bool true) ∧ Below w.heap.size w w' := by
  have hb := bounds_u8 w3
  rw [ints_arr 32 a0 w0, ints_arr 3 a1 w1, ← show oe (toE a3) = a3 from ofE_toE _ (by omega) (by omega)]
  exact rsCorrects_core _ _ a2 _ w
end Go.Proofs.Ytmkjdpokcfeieaa
