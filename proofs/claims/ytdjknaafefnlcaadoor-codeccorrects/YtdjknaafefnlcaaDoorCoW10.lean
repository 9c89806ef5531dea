/-
  The example; what a law holds.
-/
import Derived.Test.YtdjknaafefnlcaaDoorCoM5
import Derived.Test.YtdjknaafefnlcaaDoorRwW11
namespace Go.Proofs.YtdjknaafefnlcaaDoor
open Go.RowKit Go.Shelf
open Po (El toE)
attribute [local go_sem] Oper.semAt_some

theorem eqlL2 (F G : Nat → Int) (hF : Byts 64 F) (hG : Byts 64 G) (b : Bool) (hb : b = true ↔ ∀ i, i < 64 → F i = G i) (w : World) : (binOp .eql 23 (.agg (ints .u8 64 F).toArray) (.agg (ints .u8 64 G).toArray)).run Tryd.prog w = .ok (.bool b) w :=
  eql_ints 23 64 Tryd.underlying23 F G hF hG b hb w
theorem gdL10 : Tryd.prog.eqGuardType Tryd.prog.depth 23 = false := by kernel_rfl
/-- while a law works: a codec; what lies in its variables -/
structure LwS (c h r f : Nat) (L : List (Nat × List Value)) (w W : World) : Prop where
  cc : CcAt W c h r f
  tab : TabW W
  rs : ∀ p ∈ L, At9 W p.1 p.2
  below : Below w.heap.size w W
section
variable {c h r f : Nat} {L : List (Nat × List Value)} {w W W' : World}
theorem LwS.next (H : LwS c h r f L w W) (k : Below W.heap.size W W') : LwS c h r f L w W' :=
  ⟨H.cc.next k, H.tab.next k, fun p hp => (H.rs p hp).next k, H.below.trans (k.mono H.below.size)⟩
/-- two blocks' law: what is laid from a world's end on -/
theorem LwS.over (H : LwS c h r f L w W) (k : ∀ b, b < W.heap.size → W'.heap[b]? = W.heap[b]?) (b : Below w.heap.size w W') : LwS c h r f L w W' :=
  ⟨H.cc.of (k _ H.cc.lt.1) (k _ H.cc.lt.2.1) (k _ H.cc.lt.2.2.1) (k _ H.cc.lt.2.2.2), H.tab.of (k _ H.tab.lt), fun p hp => (H.rs p hp).of (k _ (H.rs p hp).s), b⟩
theorem LwS.cons (H : LwS c h r f L w W) {b : Nat} {A : List Value} (h0 : At9 W b A) : LwS c h r f ((b, A) :: L) w W :=
  ⟨H.cc, H.tab, fun p hp => by
    rcases List.mem_cons.1 hp with rfl | hp
    · exact h0
    · exact H.rs p hp, H.below⟩
theorem LwS.begin {V : World} (H : LwS c h r f [] V W) (hb : Below w.heap.size w V) (hr : ∀ p ∈ L, At9 V p.1 p.2) : LwS c h r f L w W :=
  ⟨H.cc, H.tab, fun p hp => (hr p hp).of (H.below.block _ (hr p hp).s), hb.trans (H.below.mono hb.size)⟩
/-- an array is laid -/
theorem LwS.lay (H : LwS c h r f L w W) (k : IntKind) (n : Nat) (G : Nat → Int) (t : TypeId) {Z : Array Value} (hZ : (ints k n fun _ => 0).toArray = Z) {A : List Value} (hA : ints k n G = A) :
    (W.alloc (.cells Z t)).there W.heap.size 0 A.toArray.size ∧ LwS c h r f ((W.heap.size, A) :: L) w ((W.alloc (.cells Z t)).setCells W.heap.size 0 A) := by
  subst hZ
  subst hA
  have h0 := Bk.new k W n (fun _ => 0) t
  have ha : Below W.heap.size W (W.alloc (.cells (ints k n fun _ => 0).toArray t)) := (Below.refl _ W).alloc (Nat.le_refl _) _
  have hp : Below w.heap.size w ((W.alloc (.cells (ints k n fun _ => 0).toArray t)).setCells W.heap.size 0 (ints k n G)) := belows_put H.below.size _ 0 (H.below.trans (ha.mono H.below.size))
  exact ⟨h0.there k G, LwS.cons (H.over (fun b hb => (heap_puts _ _ 0 _ b (by omega)).trans (ha.block b hb)) hp) (h0.put G).at9⟩
/-- a line and a verdict are laid -/
theorem LwS.lay2 (H : LwS c h r f L w W) (F : Nat → Int) (x y : Int) (t t' : TypeId) {Z : Array Value} (hZ : (ints .u8 64 fun _ => 0).toArray = Z) {A A' : List Value} (hA : ints .u8 64 F = A) (hA' : vd2 x y = A') :
    ((W.alloc (.cells Z t)).alloc (.cells #[.int .i64 0, .int .i64 0] t')).there W.heap.size 0 A.toArray.size ∧ (((W.alloc (.cells Z t)).alloc (.cells #[.int .i64 0, .int .i64 0] t')).setCells W.heap.size 0 A).there (W.heap.size + 1) 0 A'.toArray.size ∧
    LwS c h r f ((W.heap.size + 1, A') :: (W.heap.size, A) :: L) w ((((W.alloc (.cells Z t)).alloc (.cells #[.int .i64 0, .int .i64 0] t')).setCells W.heap.size 0 A).setCells (W.heap.size + 1) 0 A') ∧
    Bk .i64 ((((W.alloc (.cells Z t)).alloc (.cells #[.int .i64 0, .int .i64 0] t')).setCells W.heap.size 0 A).setCells (W.heap.size + 1) 0 A') (W.heap.size + 1) 2 (two x y) := by
  subst hZ
  subst hA
  subst hA'
  have h0 := Bk.new .u8 W 64 (fun _ => 0) t
  have h1 := Bk.new2 (W.alloc (.cells (ints .u8 64 fun _ => 0).toArray t)) 0 0 t'
  simp only [World.size_alloc] at h1
  have h0' := h0.alloc (.cells #[.int .i64 0, .int .i64 0] t')
  obtain ⟨V, hV⟩ : ∃ V, (W.alloc (.cells (ints .u8 64 fun _ => 0).toArray t)).alloc (.cells #[.int .i64 0, .int .i64 0] t') = V := ⟨_, rfl⟩
  have ha : Below W.heap.size W V := by rw [← hV]; exact ((Below.refl _ W).alloc (Nat.le_refl _) _).alloc (by simp) _
  rw [hV] at h1 h0' ⊢
  have h2 := h0'.put F
  have h3 := h1.putOther (c := W.heap.size) (by omega) 0 (ints .u8 64 F)
  have h4 := h3.put (two x y)
  have h5 := h2.putOther (c := W.heap.size + 1) (by omega) 0 (vd2 x y)
  have hp : Below w.heap.size w ((V.setCells W.heap.size 0 (ints .u8 64 F)).setCells (W.heap.size + 1) 0 (vd2 x y)) := belows_put (by have := H.below.size; omega) _ 0 (belows_put H.below.size _ 0 (H.below.trans (ha.mono H.below.size)))
  exact ⟨h0'.there .u8 F, h3.there .i64 _, LwS.cons (LwS.cons (H.over (fun b hb => (heap_puts _ _ 0 _ b (by omega)).trans ((heap_puts _ _ 0 _ b (by omega)).trans (ha.block b hb))) hp) h5.at9) h4.at9, h4⟩
end

set_option maxRecDepth 100000 in
set_option maxHeartbeats 2000000 in
theorem coder_any (w : World) (hT : TabW w) :
    Calls Tryd.prog 9 #[] w fun e w' => ∃ c h r f, e = .returned (.pointer (some ⟨c, 0, none⟩)) ∧ LwS c h r f [] w w' := by
  have hz := zeroR
  have hz2 := zeroL10
  have hz3 := zero10
  have gd := gdR
  have ne : ∀ w, (binOp .neq 25 (.agg (ints .u8 72 fun _ => 0).toArray) (.agg (ints .u8 72 fun _ => 0).toArray)).run Tryd.prog w = .ok (.bool false) w := neqR _ _ (fun _ _ => ⟨Int.le_refl _, show (0 : Int) < 256 by decide⟩) (fun _ _ => ⟨Int.le_refl _, show (0 : Int) < 256 by decide⟩) true ⟨fun _ _ _ => rfl, fun _ => rfl⟩
  have Z64 : Byts 64 (fun _ => 0) := fun _ _ => ⟨Int.le_refl _, show (0 : Int) < 256 by decide⟩
  have Z72 : Byts 72 (fun _ => 0) := fun _ _ => ⟨Int.le_refl _, show (0 : Int) < 256 by decide⟩
  have cE : ∀ (m : Int) (c h r f : Nat) (W : World), CcAt W c h r f → TabW W → Calls Tryd.prog 11 #[.pointer (some ⟨c, 0, none⟩), .int .i64 m, .agg (ints .u8 64 fun _ => 0).toArray, .int .i64 0, .bool false] W fun e w' => e = .returned (.agg (ints .u8 72 fun _ => 0).toArray) ∧ Below W.heap.size W w' := fun m c h r f W H HT => by
    refine (encode10_any c h r f m _ Z64 0 false W H HT).mono ?_
    rintro e w' ⟨R, rfl, hE, hb⟩
    exact ⟨by rw [ints_congr .u8 72 R (fun _ => 0) fun i hi => enc_noughts (fun _ _ => rfl) hE i hi], hb⟩
  have hfl : ∀ i, i < 72 → flR (fun _ => 0) 3 i = if i = 0 then 8 else 0 := fun i hi => by
    rw [flR_at _ Z72 3 i hi]
    by_cases e : i = 0
    · rw [if_pos e, if_pos (by omega)]; rfl
    · rw [if_neg e, if_neg (by omega)]
  have hflb : Byts 72 (flR (fun _ => 0) 3) := fun i hi => by rw [hfl i hi]; split <;> decide
  have cF : Hid (∀ W : World, Calls Tryd.prog 16 #[.agg (ints .u8 72 fun _ => 0).toArray, .int .i64 3] W fun e w' => e = .returned (.agg (ints .u8 72 (flR (fun _ => 0) 3)).toArray) ∧ Below W.heap.size W w') := fun W => flipR_yes _ Z72 3 (by omega) W
  have hd := three_told hfl
  have cD : ∀ (c h r f : Nat) (W : World), CcAt W c h r f → TabW W → Calls Tryd.prog 13 #[.pointer (some ⟨c, 0, none⟩), .int .i64 1, .agg (ints .u8 72 (flR (fun _ => 0) 3)).toArray, .int .i64 0] W fun e w' => e = .returned (.tuple #[.agg (ints .u8 64 (Dl 1 (flR (fun _ => 0) 3) 0)).toArray, .agg (vd2 1 1).toArray]) ∧ Below W.heap.size W w' := fun c h r f W H HT => by
    have := decode10_any c h r f 1 (flR (fun _ => 0) 3) hflb 0 W H HT
    rw [hd.1, hd.2] at this; exact this
  obtain ⟨G, hG⟩ : ∃ G, flR (fun _ => 0) 3 = G := ⟨_, rfl⟩
  rw [hG] at cF
  simp only [hG] at cD
  obtain ⟨DL, hDL⟩ : ∃ D, Dl 1 G 0 = D := ⟨_, rfl⟩
  simp only [hDL] at cD
  obtain ⟨ZR, hZR⟩ : ∃ A, (ints .u8 72 fun _ => 0) = A := ⟨_, rfl⟩
  obtain ⟨ZL, hZL⟩ : ∃ A, (ints .u8 64 fun _ => 0) = A := ⟨_, rfl⟩
  obtain ⟨AG, hAG⟩ : ∃ A, ints .u8 72 G = A := ⟨_, rfl⟩
  obtain ⟨AD, hAD⟩ : ∃ A, ints .u8 64 DL = A := ⟨_, rfl⟩
  obtain ⟨AV, hAV⟩ : ∃ A, vd2 1 1 = A := ⟨_, rfl⟩
  have jD : (Tryd.prog.info? 23).map (·.size) = some AD.toArray.size := by rw [← hAD]; simpa [ints_len] using infoL
  have oD : AD.toArray.all (·.oneCell') = true := by rw [← hAD]; exact ints_one .u8 64 _
  have iV : (Tryd.prog.info? 32).map (·.size) = some AV.length := by rw [← hAV]; exact info10v 1 1
  have jV : (Tryd.prog.info? 32).map (·.size) = some AV.toArray.size := by simpa using iV
  have oV : AV.toArray.all (·.oneCell') = true := by rw [← hAV]; exact ints_one .i64 2 _
  rw [hZR] at hz ne
  rw [hZL] at hz2
  simp only [hZR, hZL] at cE
  rw [hZR, hAG] at cF
  simp only [hAG, hAD, hAV] at cD
  have CE : Hid (∀ (m : Int) (c h r f : Nat) (W : World), CcAt W c h r f → TabW W → Calls Tryd.prog 11 #[.pointer (some ⟨c, 0, none⟩), .int .i64 m, .agg ZL.toArray, .int .i64 0, .bool false] W fun e w' => e = .returned (.agg ZR.toArray) ∧ Below W.heap.size W w') := cE
  have CD : Hid (∀ (c h r f : Nat) (W : World), CcAt W c h r f → TabW W → Calls Tryd.prog 13 #[.pointer (some ⟨c, 0, none⟩), .int .i64 1, .agg AG.toArray, .int .i64 0] W fun e w' => e = .returned (.tuple #[.agg AD.toArray, .agg AV.toArray]) ∧ Below W.heap.size W w') := cD
  have HA : Hid ((ints .u8 64 fun _ => 0).toArray = ZL.toArray ∧ ints .u8 64 DL = AD ∧ vd2 1 1 = AV) := ⟨by rw [hZL], hAD, hAV⟩
  have HT : Hid (TabW w) := hT
  clear cE cD hfl hflb hd hG hDL hZR hZL hAG hAD Z64 Z72 hT
  go_enter Tryd.func9, Tryd.ntmps9
  go_wp2_with fail
  refine (new10_any _).mono ?_
  rintro e V1 ⟨c, h, r, f, rfl, hC, b1, _⟩
  have HS : Hid (LwS c h r f [] w V1) := ⟨hC, HT.out.below b1 HT.out.lt, fun p hp => (by cases hp), b1⟩
  clear hC b1
  go_upto_region 4 with (first
    | (go_at_call 11; refine (CE.out _ c h r f _ HS.out.cc HS.out.tab).mono ?_; rintro e V2 ⟨rfl, b2⟩; replace HS : Hid (LwS c h r f [] w V2) := HS.out.next b2; clear b2))
  clear CE ne gd
  go_wp2_with fail
  refine (cF.out _).mono ?_
  rintro e V3 ⟨rfl, b3⟩
  replace HS : Hid (LwS c h r f [] w V3) := HS.out.next b3
  clear b3 cF
  go_wp2_with fail
  refine (CD.out c h r f _ HS.out.cc HS.out.tab).mono ?_
  rintro e V4 ⟨rfl, b4⟩
  replace HS : Hid (LwS c h r f [] w V4) := HS.out.next b4
  clear b4 CD
  have L2 := HS.out.lay2 DL 1 1 23 32 HA.out.1 HA.out.2.1 HA.out.2.2
  have t1 := L2.1
  have t2 := L2.2.1
  have HL : Hid (LwS c h r f ((V4.heap.size + 1, AV) :: (V4.heap.size, AD) :: []) w ((((V4.alloc (.cells ZL.toArray 23)).alloc (.cells #[.int .i64 0, .int .i64 0] 32)).setCells V4.heap.size 0 AD).setCells (V4.heap.size + 1) 0 AV)) := L2.2.2.1
  clear L2
  go_upto_region 5 with (first | refine wpList_store_mid rfl 23 _ _ rfl V4.heap.size 0 AD.toArray rfl rfl t1 jD oD ?_ | refine wpList_store_mid rfl 32 _ _ rfl (V4.heap.size + 1) 0 AV.toArray rfl rfl t2 jV oV ?_)
  obtain ⟨N, hN⟩ : ∃ N, V4.heap.size + 1 = N := ⟨_, rfl⟩
  obtain ⟨V5, hV5⟩ : ∃ V5, (((V4.alloc (.cells ZL.toArray 23)).alloc (.cells #[.int .i64 0, .int .i64 0] 32)).setCells V4.heap.size 0 AD).setCells (V4.heap.size + 1) 0 AV = V5 := ⟨_, rfl⟩
  rw [hV5, hN] at HL
  rw [hV5, hN]
  have hr : V5.rangeAt N 0 [.int .i64 1, .int .i64 1] := by
    have := (HL.out.rs (N, AV) (by simp)).r
    rw [← HA.out.2.2] at this
    exact this
  have iV2 := info10
  have HE : Hid (LwS c h r f [] w V5) := ⟨HL.out.cc, HL.out.tab, fun p hp => (by cases hp), HL.out.below⟩
  clear hV5 hN HL HS t1 t2
  go_wp2_with (refine wpList_load_mid rfl 32 _ rfl _ 0 rfl _ _ hr Tryd.underlying32 rfl iV2 ?_)
  go_ret
  exact ⟨c, h, r, f, rfl, HE.out⟩
end Go.Proofs.YtdjknaafefnlcaaDoor
