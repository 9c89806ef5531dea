/-
  The document's Encode.
-/
import Derived.Test.YtoimbjbdkkohcaaGreatDoorCoR0m
import Derived.Test.YtoimbjbdkkohcaaGreatDoorCoR4m
import Derived.Test.YtoimbjbdkkohcaaGreatDoorM10
import Derived.Test.YtoimbjbdkkohcaaGreatDoorM19
import Derived.Test.YtoimbjbdkkohcaaGreatDoorM20
namespace Go.Proofs.YtoimbjbdkkohcaaGreatDoor
open Go.RowKit Go.Shelf
open Po (El mu toE)
open Rm (IsCode)
open Co (DV)
open Ln (wrd)
open Hm (syn)
attribute [local go_sem] Oper.semAt_some

/-- while the document encodes: the line in B, what is told in B + 1, raw bytes in B + 2, the columns in C -/
structure EdI (B C : Nat) (F Y : Nat → Int) (w W : World) : Prop where
  f : Bk .u8 W B 64 F
  o : Bk .u8 W (B + 1) 72 (fun _ => 0)
  y : Bk .u8 W (B + 1 + 1) 72 Y
  c : At9 W C colsL
  lt : B + 1 + 1 < C
  below : Below B w W
section
variable {B C M N : Nat} {F Y Y' X X' U : Nat → Int} {w W W' : World}
theorem EdI.next (H : EdI B C F Y w W) (e : Below W.heap.size W W') : EdI B C F Y w W' := ⟨H.f.next e, H.o.next e, H.y.next e, H.c.next e, H.lt, H.below.trans (e.mono (by have := H.f.lt; omega))⟩
theorem EdI.set (H : EdI B C F Y w W) (i : Nat) (e : Int) : EdI B C F (fun j => if j = i then e else Y j) w (W.setCell ⟨B + 1 + 1, i, none⟩ (.int .u8 e)) := by
  have hl := H.lt
  exact ⟨H.f.other (by omega) i _, H.o.other (by omega) i _, H.y.set i e, H.c.of (Below.heap_setCell W ⟨B + 1 + 1, i, none⟩ _ C (by simp; omega)), hl, H.below.setCell (p := ⟨B + 1 + 1, i, none⟩) (by simp; omega) _⟩
theorem EdI.congr (H : EdI B C F Y w W) (h : ∀ i, i < 72 → Y i = Y' i) : EdI B C F Y' w W := ⟨H.f, H.o, H.y.congr h, H.c, H.lt, H.below⟩
/-- a new block is laid, and stored to -/
theorem EdI.lay (H : EdI B C F Y w W) (o : Obj) (L : List Value) : EdI B C F Y w ((W.alloc o).setCells W.heap.size 0 L) := by
  have hl := H.lt
  have h1 := H.f.lt
  have h2 := H.o.lt
  have h3 := H.y.lt
  have h4 := H.c.s
  exact ⟨(H.f.alloc _).putOther (by omega) 0 _, (H.o.alloc _).putOther (by omega) 0 _, (H.y.alloc _).putOther (by omega) 0 _, (H.c.alloc _).of (heap_puts _ _ 0 _ C (by omega)), hl, belows_put (by omega) _ 0 (H.below.alloc (by omega) _)⟩
theorem EdI.alloc (H : EdI B C F Y w W) (o : Obj) : EdI B C F Y w (W.alloc o) :=
  ⟨H.f.alloc _, H.o.alloc _, H.y.alloc _, H.c.alloc _, H.lt, H.below.alloc (by have := H.f.lt; omega) _⟩
theorem EdI.other (H : EdI B C F Y w W) {N : Nat} (hN : B + 1 + 1 < N) (hC : C ≠ N) (i : Nat) (v : Value) : EdI B C F Y w (W.setCell ⟨N, i, none⟩ v) :=
  ⟨H.f.other (by omega) i _, H.o.other (by omega) i _, H.y.other (by omega) i _, H.c.of (Below.heap_setCell W ⟨N, i, none⟩ _ C (by simp; omega)), H.lt, H.below.setCell (p := ⟨N, i, none⟩) (by simp; omega) _⟩
/-- a word of 39 symbols lies in M, its virtual symbols in N -/
structure EdW (B C M N : Nat) (F Y X U : Nat → Int) (w W : World) : Prop where
  i : EdI B C F Y w W
  x : Bk .u8 W M 39 X
  u : Bk .u8 W N 3 U
  lt : B + 1 + 1 < M
  cm : C ≠ M
  mn : M < N
theorem EdW.setY (H : EdW B C M N F Y X U w W) (i : Nat) (e : Int) : EdW B C M N F (fun j => if j = i then e else Y j) X U w (W.setCell ⟨B + 1 + 1, i, none⟩ (.int .u8 e)) :=
  have := H.lt; have := H.mn
  ⟨H.i.set i e, H.x.other (by omega) i _, H.u.other (by omega) i _, H.lt, H.cm, H.mn⟩
theorem EdW.setX (H : EdW B C M N F Y X U w W) (i : Nat) (e : Int) : EdW B C M N F Y (fun j => if j = i then e else X j) U w (W.setCell ⟨M, i, none⟩ (.int .u8 e)) :=
  have := H.mn
  ⟨H.i.other H.lt H.cm i _, H.x.set i e, H.u.other (by omega) i _, H.lt, H.cm, H.mn⟩
theorem EdW.congrY (H : EdW B C M N F Y X U w W) (h : ∀ i, i < 72 → Y i = Y' i) : EdW B C M N F Y' X U w W := ⟨H.i.congr h, H.x, H.u, H.lt, H.cm, H.mn⟩
theorem EdW.congrX (H : EdW B C M N F Y X U w W) (h : ∀ i, i < 39 → X i = X' i) : EdW B C M N F Y X' U w W := ⟨H.i, H.x.congr h, H.u, H.lt, H.cm, H.mn⟩
/-- the checks lie in M -/
structure EdC (B C M : Nat) (F Y X : Nat → Int) (w W : World) : Prop where
  i : EdI B C F Y w W
  x : Bk .u8 W M 4 X
  lt : B + 1 + 1 < M
theorem EdC.setY (H : EdC B C M F Y X w W) (i : Nat) (e : Int) : EdC B C M F (fun j => if j = i then e else Y j) X w (W.setCell ⟨B + 1 + 1, i, none⟩ (.int .u8 e)) :=
  have := H.lt
  ⟨H.i.set i e, H.x.other (by omega) i _, H.lt⟩
theorem EdC.congrY (H : EdC B C M F Y X w W) (h : ∀ i, i < 72 → Y i = Y' i) : EdC B C M F Y' X w W := ⟨H.i.congr h, H.x, H.lt⟩
end
theorem zeroA72 (w : World) : (zeroValue 26).run Tryz.prog w = .ok (.agg (ints .u8 72 fun _ => 0).toArray) w := by kernel_rfl
theorem infoA72 : (Tryz.prog.info? 26).map (·.size) = some 72 := by kernel_rfl
theorem zeroA39 (w : World) : (zeroValue 52).run Tryz.prog w = .ok (.agg (ints .u8 39 fun _ => 0).toArray) w := by kernel_rfl
theorem infoA39 : (Tryz.prog.info? 52).map (·.size) = some 39 := by kernel_rfl
theorem zeroA3r (w : World) : (zeroValue 54).run Tryz.prog w = .ok (.agg (ints .u8 3 fun _ => 0).toArray) w := by kernel_rfl
theorem infoA3r : (Tryz.prog.info? 54).map (·.size) = some 3 := by kernel_rfl
theorem zeroA4i (w : World) : (zeroValue 50).run Tryz.prog w = .ok (.agg (ints .u8 4 fun _ => 0).toArray) w := by kernel_rfl
/-- the word k's 39 symbols without its checks -/
def w39 (F : Nat → Int) (ix : Int) (p : Bool) (k i : Nat) : Int := if i < 4 then 0 else if i < 36 then F (32 * k + (i - 4)) else vb ix p (i - 36)
/-- what the document encodes in the mode 2 -/
def en2 (F : Nat → Int) (ix : Int) (p : Bool) (j : Nat) : Int := if j % 36 < 4 then oe (DV (fun i => toE (w39 F ix p (j / 36) i)) 35 (j % 36)) else F (32 * (j / 36) + (j % 36 - 4))
theorem en2_data (F : Nat → Int) (ix : Int) (p : Bool) (k i : Nat) (hi : i < 32) : en2 F ix p (36 * k + (4 + i)) = F (32 * k + i) := by
  unfold en2
  rw [show (36 * k + (4 + i)) % 36 = 4 + i by omega, show (36 * k + (4 + i)) / 36 = k by omega, if_neg (by omega), show 4 + i - 4 = i by omega]
theorem en2_chk (F : Nat → Int) (ix : Int) (p : Bool) (k i : Nat) (hi : i < 4) : en2 F ix p (36 * k + i) = oe (DV (fun i => toE (w39 F ix p k i)) 35 i) := by
  unfold en2
  rw [show (36 * k + i) % 36 = i by omega, show (36 * k + i) / 36 = k by omega, if_pos hi]
theorem w39_byts (F : Nat → Int) (hF : Byts 64 F) (ix : Int) (p : Bool) (k : Nat) (hk : k < 2) : Byts 39 (w39 F ix p k) := fun i hi => by
  unfold w39
  split
  · exact ⟨Int.le_refl _, show (0 : Int) < 256 by decide⟩
  · split
    · exact hF _ (by omega)
    · exact vb_bd _ _ _
theorem toE_oe (e : El) : toE (oe e) = e := by
  have h := oe_bd e
  exact oe_inj (ofE_toE _ h.1 h.2)
theorem en2_enc (F : Nat → Int) (hF : Byts 64 F) (ix : Int) (p : Bool) : Co.Enc2 F (vir ix p) (en2 F ix p) := by
  refine ⟨fun j hj => ?_, fun k _ i hi => en2_data F ix p k i hi, fun k hk => ?_⟩
  · unfold en2
    split
    · exact oe_bd _
    · exact hF _ (by omega)
  · have h := Co.chk_code (fun i => toE (w39 F ix p k i)) fun i hi => by
      show toE (w39 F ix p k i) = 0
      unfold w39
      rw [if_pos hi]; rfl
    have e : ∀ i, i < 39 → wd (Co.rw (en2 F ix p) k) (vir ix p) i = (fun i => if i < 4 then DV (fun i => toE (w39 F ix p k i)) 35 i else toE (w39 F ix p k i)) i := fun i hi => by
      show _ = if i < 4 then DV (fun i => toE (w39 F ix p k i)) 35 i else toE (w39 F ix p k i)
      unfold wd Co.rw
      by_cases h4 : i < 4
      · rw [if_pos (by omega), if_pos h4, en2_chk F ix p k i h4, toE_oe]
      · rw [if_neg h4]
        by_cases h36 : i < 36
        · have := en2_data F ix p k (i - 4) (by omega)
          rw [show 4 + (i - 4) = i by omega] at this
          rw [if_pos h36, this]
          unfold w39
          rw [if_neg h4, if_pos h36]
        · rw [if_neg h36]
          unfold w39 vir
          rw [if_neg h4, if_neg h36]
    intro j hj
    have := congrFun (sy_congr e) j
    exact this.trans (h j hj)
/-- what stands whatever the raw bytes are -/
structure EdQ (B C : Nat) (F : Nat → Int) (w W : World) : Prop where
  f : Bk .u8 W B 64 F
  c : At9 W C colsL
section
variable {B C : Nat} {F Y : Nat → Int} {w W W' : World}
theorem EdI.quiet (H : EdI B C F Y w W) : EdQ B C F w W := ⟨H.f, H.c⟩
theorem EdQ.next (H : EdQ B C F w W) (e : Below W.heap.size W W') : EdQ B C F w W' := ⟨H.f.next e, H.c.next e⟩
end
set_option maxRecDepth 100000 in
set_option maxHeartbeats 2000000 in
theorem refEncode10_1 (F : Nat → Int) (hF : Byts 64 F) (ix : Int) (p : Bool) (w : World) :
    Calls Tryz.prog 10 #[.int .i64 1, .agg (ints .u8 64 F).toArray, .int .i64 ix, .bool p] w fun e w' => e = .returned (.agg (ints .u8 72 (enB F (par ix) (bt p))).toArray) ∧ Below w.heap.size w w' := by
  have hz := zeroA72
  have hzc := zero_cols
  have i74 := info_cols
  have o74 := colsL_one
  have ht74 := there_cols10
  obtain ⟨nx, hnx⟩ : ∃ n : Nat, ix % 8388608 = (n : Int) := ⟨(ix % 8388608).toNat, by omega⟩
  have hnl : nx < 8388608 := by omega
  have hw1 : (IntKind.u64.wrap ix).tmod 8388608 = (nx : Int) := by
    have : IntKind.u64.wrap ix = ix % 18446744073709551616 := rfl
    rw [this, Int.tmod_eq_emod_of_nonneg (by omega)]; omega
  obtain ⟨wx, pa, hwx, hpa, cW⟩ : ∃ wx pa : Nat, wx ≤ 64 ∧ (par ix = (pa : Int) ∧ pa = wx % 2) ∧ ∀ w : World, Calls Tryz.prog 19 #[.int .u64 (nx : Int)] w fun e w' => e = .returned (.int .i64 (wx : Int)) ∧ w' = w :=
    ⟨Bm.wt nx, Bm.wt nx % 2, Bm.wt_le nx, ⟨by unfold par; rw [hnx]; rfl, rfl⟩, fun w => refWeight_any nx (by omega) w⟩
  have CW : Hid (∀ w : World, Calls Tryz.prog 19 #[.int .u64 (nx : Int)] w fun e w' => e = .returned (.int .i64 (wx : Int)) ∧ w' = w) := cW
  have hpar := hpa.1
  have hmod : (wx : Int).tmod 2 = (pa : Int) := by rw [Int.tmod_eq_emod_of_nonneg (by omega), hpa.2]; omega
  obtain ⟨bp, hbp⟩ : ∃ bp, bt p = bp := ⟨_, rfl⟩
  have HBP : Hid ((p = false → bp = 0) ∧ (p = true → bp = 1)) := ⟨fun h => by rw [← hbp, h]; rfl, fun h => by rw [← hbp, h]; rfl⟩
  have HF : Hid (Byts 64 F) := hF
  have hw64 : ∀ n, n < 8 → wrd F n < 18446744073709551616 := fun n hn => by
    have := Ln.val_lt (fun i => (F i).toNat) 8 (8 * n) fun j h1 h2 => by
      have := hF j (by omega)
      show (F j).toNat < 256
      omega
    exact this
  have cS : ∀ (n : Nat) (W : World), n < 8 → Calls Tryz.prog 20 #[.agg colsL.toArray, .int .u64 (wrd F n : Int), .int .u8 0, .int .i64 (pa : Int), .int .i64 bp] W fun e w' => e = .returned (.int .u8 (syn (wrd F n) 0 (pa : Int) bp : Int)) ∧ Below W.heap.size W w' := fun n W hn => refSyndrome_any (wrd F n) 0 (pa : Int) bp (hw64 n hn) (by omega) W
  have cD : ∀ (n : Nat) (W : World), n < 8 → Calls Tryz.prog 21 #[.agg (ints .u8 64 F).toArray, .int .i64 (n : Int)] W fun e w' => e = .returned (.int .u64 (wrd F n : Int)) ∧ Below W.heap.size W w' := fun n W hn => refWord6_any F hF n hn W
  have hE : ∀ n, n < 8 → (∀ j, j < 8 → enB F (par ix) (bt p) (9 * n + j) = F (8 * n + j)) ∧ enB F (par ix) (bt p) (9 * n + 8) = (syn (wrd F n) 0 (pa : Int) bp : Int) := fun n hn => by
    have h := enB_enc F (par ix) (bt p)
    refine ⟨fun j hj => h.d n hn j hj, ?_⟩
    rw [h.c n hn, hpar, hbp]
  obtain ⟨E, hEd⟩ : ∃ E, enB F (par ix) (bt p) = E := ⟨_, rfl⟩
  rw [hEd] at hE
  obtain ⟨sf, hsf⟩ : ∃ sf : Nat → Nat, (fun n => syn (wrd F n) 0 (pa : Int) bp) = sf := ⟨_, rfl⟩
  have hsn : ∀ n, syn (wrd F n) 0 (pa : Int) bp = sf n := fun n => by rw [← hsf]
  obtain ⟨wf, hwf⟩ : ∃ wf : Nat → Nat, (fun n => wrd F n) = wf := ⟨_, rfl⟩
  have hwn : ∀ n, wrd F n = wf n := fun n => by rw [← hwf]
  simp only [hsn] at cS hE
  simp only [hwn] at cS cD
  rw [hEd]
  have HE : Hid (∀ n, n < 8 → (∀ j, j < 8 → E (9 * n + j) = F (8 * n + j)) ∧ E (9 * n + 8) = (sf n : Int)) := hE
  obtain ⟨A, hA⟩ : ∃ A, (ints .u8 64 F) = A := ⟨_, rfl⟩
  have iA : (Tryz.prog.info? 22).map (·.size) = some A.length := by rw [← hA, ints_len]; exact infoA10
  obtain ⟨Z, hZ⟩ : ∃ A, (ints .u8 72 fun _ => 0).toArray = A := ⟨_, rfl⟩
  rw [hZ] at hz
  have cD' := cD
  simp only [hA] at cD'
  have CS : Hid (∀ (n : Nat) (W : World), n < 8 → Calls Tryz.prog 20 #[.agg colsL.toArray, .int .u64 (wf n : Int), .int .u8 0, .int .i64 (pa : Int), .int .i64 bp] W fun e w' => e = .returned (.int .u8 (sf n : Int)) ∧ Below W.heap.size W w') := cS
  have CD : Hid (∀ (n : Nat) (W : World), n < 8 → Calls Tryz.prog 21 #[.agg A.toArray, .int .i64 (n : Int)] W fun e w' => e = .returned (.int .u64 (wf n : Int)) ∧ Below W.heap.size W w') := cD'
  obtain ⟨RL, hRL⟩ : ∃ L, ints .u8 72 E = L := ⟨_, rfl⟩
  have HRL : Hid (ints .u8 72 E = RL) := hRL
  have iR : (Tryz.prog.info? 26).map (·.size) = some RL.length := by rw [← hRL, ints_len]; exact infoA72
  have jR : (Tryz.prog.info? 26).map (·.size) = some RL.toArray.size := by simpa using iR
  have oR : RL.toArray.all (·.oneCell') = true := by rw [← hRL]; exact ints_one .u8 72 _
  rw [hRL]
  clear cS cD cD' hw64 hE hEd hsf hsn hwf hwn hRL
  rw [hA]
  have HI : Hid (∀ V, V = ((w.alloc (.cells A.toArray 22)).alloc (.cells Z 26)).alloc (.cells Z 26) → Bk .u8 V w.heap.size 64 F ∧ Bk .u8 V (w.heap.size + 1) 72 (fun _ => 0) ∧ Bk .u8 V (w.heap.size + 1 + 1) 72 (fun _ => 0) ∧ Below w.heap.size w V) := fun V hV => by
    subst hV
    rw [← hA, ← hZ]
    have h1 := Bk.new .u8 w 64 F 22
    have h2 := Bk.new .u8 (w.alloc (.cells (ints .u8 64 F).toArray 22)) 72 (fun _ => 0) 26
    have h3 := Bk.new .u8 ((w.alloc (.cells (ints .u8 64 F).toArray 22)).alloc (.cells (ints .u8 72 fun _ => 0).toArray 26)) 72 (fun _ => 0) 26
    simp only [World.size_alloc] at h2 h3
    exact ⟨(h1.alloc _).alloc _, h2.alloc _, h3, (((Below.refl _ w).alloc (Nat.le_refl _) _).alloc (by simp) _).alloc (by simp <;> omega) _⟩
  have HA : Hid ((ints .u8 64 F) = A ∧ (ints .u8 72 fun _ => 0).toArray = Z) := ⟨hA, hZ⟩
  clear hA hZ hF hnx hpar hpa cW hbp
  go_enter Tryz.func10, Tryz.ntmps10
  go_upto_region 3 with (fail)
  obtain ⟨V, hV⟩ : ∃ V, ((w.alloc (.cells A.toArray 22)).alloc (.cells Z 26)).alloc (.cells Z 26) = V := ⟨_, rfl⟩
  have H0 : Hid (Bk .u8 V w.heap.size 64 F ∧ Bk .u8 V (w.heap.size + 1) 72 (fun _ => 0) ∧ Bk .u8 V (w.heap.size + 1 + 1) 72 (fun _ => 0) ∧ Below w.heap.size w V) := HI.out V hV.symm
  rw [hV]
  clear hV HI
  obtain ⟨B, hB⟩ : ∃ B, w.heap.size = B := ⟨_, rfl⟩
  rw [hB] at H0 ⊢
  go_cut [22] (fun a wx => a = .bool p ∧ wx = V)
  case first =>
    go_wp2
    go_meet
    case rel => exact ⟨rfl, rfl⟩
  case rest =>
    obtain ⟨rfl, rfl⟩ := hcut
    go_step
    go_cut [10] (fun a wx => a = .int .i64 bp ∧ wx = wc)
    case first =>
      rcases Bool.eq_false_or_eq_true p with hp | hp
      · have hb := HBP.out.2 hp
        subst hp
        subst hb
        go_wp2
        all_goals
          go_meet
          case rel => exact ⟨rfl, rfl⟩
      · have hb := HBP.out.1 hp
        subst hp
        subst hb
        go_wp2
        all_goals
          go_meet
          case rel => exact ⟨rfl, rfl⟩
    obtain ⟨rfl, rfl⟩ := hcut
    go_wp2_with fail
    refine (refColumns_any _).mono ?_
    rintro e V1 ⟨rfl, b1⟩
    have ht1 := ht74 V1
    obtain ⟨C, hC⟩ : ∃ C, V1.heap.size = C := ⟨_, rfl⟩
    have H1 : Hid (EdI B C F (fun _ => 0) w ((V1.alloc (.cells (stageC 0) 43)).setCells C 0 colsL)) := by
      obtain ⟨h1, h2, h3, h4⟩ := H0.out
      have g1 := h1.next b1
      have g2 := h2.next b1
      have g3 := h3.next b1
      have g4 := cols_laid V1
      rw [hC] at g4
      have l3 := g3.lt
      have l0 := h3.lt
      refine ⟨(g1.alloc _).putOther (by omega) 0 _, (g2.alloc _).putOther (by omega) 0 _, (g3.alloc _).putOther (by omega) 0 _, g4, by omega, belows_put (by omega) colsL 0 ((h4.trans (b1.mono (by omega))).alloc (by omega) _)⟩
    rw [hC] at ht1
    try rw [hC]
    clear H0 b1 ht74
    obtain ⟨S0, hS0⟩ : ∃ S0, stageC 0 = S0 := ⟨_, rfl⟩
    rw [hS0] at hzc ht1 H1
    clear hS0
    go_upto_region 6 with (refine wpList_store_mid rfl 43 _ _ rfl _ 0 colsL.toArray rfl rfl ht1 (by simpa using i74) o74 ?_)
    obtain ⟨V2, hV2⟩ : ∃ V2, (V1.alloc (.cells S0 43)).setCells C 0 colsL = V2 := ⟨_, rfl⟩
    rw [hV2] at H1
    try rw [hV2]
    clear hV2 ht1 hC V1
    go_wp2_with fail
    refine (CW.out _).mono ?_
    rintro e w' ⟨rfl, hw2⟩
    rw [hw2]
    clear hw2 w' CW hw1
    go_wp2
    go_loopw [13] (fun i wr => ∃ n : Nat, n ≤ 8 ∧ i = .int .i64 (n : Int) ∧ Hid (EdI B C F (fun j => if j < 9 * n then E j else 0) w wr)) (fun i _ => 8 - (intOf i).toNat)
    case atStart => exact ⟨0, by omega, rfl, H1.out.congr fun i _ => by rw [if_neg (by omega)]⟩
    case round =>
      obtain ⟨n, hn, rfl, HK⟩ := hrel
      by_cases hlt : n < 8
      · have HEN : Hid ((∀ j, j < 8 → E (9 * n + j) = F (8 * n + j)) ∧ E (9 * n + 8) = (sf n : Int)) := HE.out n hlt
        have hd8 : decide ((n : Int) < 8) = true := decide_eq_true (by omega)
        go_wp2
        go_loopw [14] (fun i wr => ∃ j : Nat, j ≤ 8 ∧ i = .int .i64 (j : Int) ∧ Hid (EdI B C F (fun i => if i < 9 * n + j then E i else 0) w wr)) (fun i _ => 8 - (intOf i).toNat)
        case atStart => exact ⟨0, by omega, rfl, HK⟩
        case round =>
          obtain ⟨j, hj, rfl, HJ⟩ := hrel
          by_cases hjt : j < 8
          · obtain ⟨x, Hx⟩ : ∃ x, Hid (F (8 * n + j) = x) := ⟨_, rfl⟩
            have c0 := HJ.out.f.cell (8 * n + j) (by omega)
            rw [Hx.out] at c0
            have c1 := HJ.out.y.cell (9 * n + j) (by omega)
            have c2 := HJ.out.y.free (9 * n + j)
            have HN : Hid (EdI B C F (fun i => if i < 9 * n + (j + 1) then E i else 0) w (wr.setCell ⟨B + 1 + 1, 9 * n + j, none⟩ (.int .u8 x))) := (HJ.out.set (9 * n + j) x).congr fun i _ => by
              show (if i = 9 * n + j then x else if i < 9 * n + j then E i else 0) = if i < 9 * n + (j + 1) then E i else 0
              by_cases h : i = 9 * n + j
              · rw [if_pos h, if_pos (by omega), h, HEN.out.1 j hjt, Hx.out]
              · rw [if_neg h]
                by_cases h2 : i < 9 * n + j
                · rw [if_pos h2, if_pos (by omega)]
                · rw [if_neg h2, if_neg (by omega)]
            clear Hx HJ HK H1
            go_wp2
            go_roundw
            case rel => exact ⟨j + 1, by omega, by go_num, HN⟩
            case measure => simp [intOf]; omega
          · obtain rfl : j = 8 := by omega
            have cD1 : Hid (∀ W : World, Calls Tryz.prog 21 #[.agg A.toArray, .int .i64 (n : Int)] W fun e w' => e = .returned (.int .u64 (wf n : Int)) ∧ Below W.heap.size W w') := fun W => CD.out n W hlt
            have cS1 : Hid (∀ W : World, Calls Tryz.prog 20 #[.agg colsL.toArray, .int .u64 (wf n : Int), .int .u8 0, .int .i64 (pa : Int), .int .i64 bp] W fun e w' => e = .returned (.int .u8 (sf n : Int)) ∧ Below W.heap.size W w') := fun W => CS.out n W hlt
            obtain ⟨x, hx⟩ : ∃ x : Nat, sf n = x := ⟨_, rfl⟩
            rw [hx] at HEN cS1
            obtain ⟨d, hd⟩ : ∃ d : Nat, wf n = d := ⟨_, rfl⟩
            rw [hd] at cD1 cS1
            clear hx hd HK H1
            go_upto_region 14 with (fail)
            have w9 := wrap_small4 (9 * (n : Int)) (by omega) (by omega)
            have w98 := wrap_small4 (9 * (n : Int) + 8) (by omega) (by omega)
            refine region_ends (by kernel_rfl) (fun W => EdQ B C F w W) (fun a' W' => a' = ({ tmps := #[.int .i64 1, .agg A.toArray, .int .i64 ix, .bool p, undef, .pointer (some ⟨B, 0, none⟩), undef, undef, .pointer (some ⟨B + 1, 0, none⟩), .pointer (some ⟨B + 1 + 1, 0, none⟩), .int .i64 bp, .pointer (some ⟨C, 0, none⟩), .int .i64 (pa : Int), .int .i64 (n : Int), .int .i64 ((8 : Nat) : Int), undef, undef, undef, undef, undef, undef, undef, u22, .agg colsL.toArray, .int .i64 ix, .int .u64 (IntKind.u64.wrap ix), .int .u64 (nx : Int), .int .i64 (wx : Int), .int .i64 (pa : Int), .int .i64 (n : Int), .bool true, .bool true, .int .i64 1, .bool true, .bool true, u35, u36, .int .i64 ((8 : Nat) : Int), .bool false, u39, u40, u41, u42, u43, u44, u45, u46, u47, u48, u49, u50, u51, .int .i64 (n : Int), .int .i64 (9 * (n : Int)), .int .i64 ((9 * n + 8 : Nat) : Int), .agg colsL.toArray, .agg A.toArray, .int .i64 (n : Int), .int .u64 (d : Int), .int .i64 (pa : Int), .int .i64 bp, .int .u8 (x : Int), .pointer (some ⟨B + 1 + 1, 9 * n + 8, none⟩), u63, u64, u65, u66, u67, u68, u69, u70, u71, u72, u73, u74, u75, u76, u77, u78, u79, u80, u81, u82, u83, u84, u85, u86, u87, u88, u89, u90, u91, u92, u93, u94, u95, u96, u97, u98, u99, u100, u101, u102, u103, u104, u105, u106, u107, u108, u109, u110, u111, u112, u113, u114, u115, u116, u117, u118, u119, u120, u121, u122, u123], defers := [] } : Act) ∧ EdI B C F (fun i => if i < 9 * (n + 1) then E i else 0) w W') (HJ.out.next (below_drew1 wr)).quiet (fun hH => ?rg14) ?_
            case rg14 =>
              have hY := HJ.out.next (below_drew1 wr)
              refine take_pure 0 (v := .int .i64 (n : Int)) rfl (by kernel_rfl) rfl (fun w' hw => by simp [execOp, go_sem]) hH ?_
              show wpAnyH _ _ _ _ _ _ _ ({ tmps := #[.int .i64 1, .agg A.toArray, .int .i64 ix, .bool p, undef, .pointer (some ⟨B, 0, none⟩), undef, undef, .pointer (some ⟨B + 1, 0, none⟩), .pointer (some ⟨B + 1 + 1, 0, none⟩), .int .i64 bp, .pointer (some ⟨C, 0, none⟩), .int .i64 (pa : Int), .int .i64 (n : Int), .int .i64 ((8 : Nat) : Int), undef, undef, undef, undef, undef, undef, undef, u22, .agg colsL.toArray, .int .i64 ix, .int .u64 (IntKind.u64.wrap ix), .int .u64 (nx : Int), .int .i64 (wx : Int), .int .i64 (pa : Int), .int .i64 (n : Int), .bool true, .bool true, .int .i64 1, .bool true, .bool true, u35, u36, .int .i64 ((8 : Nat) : Int), .bool false, u39, u40, u41, u42, u43, u44, u45, u46, u47, u48, u49, u50, u51, .int .i64 (n : Int), u53, u54, u55, u56, u57, u58, u59, u60, u61, u62, u63, u64, u65, u66, u67, u68, u69, u70, u71, u72, u73, u74, u75, u76, u77, u78, u79, u80, u81, u82, u83, u84, u85, u86, u87, u88, u89, u90, u91, u92, u93, u94, u95, u96, u97, u98, u99, u100, u101, u102, u103, u104, u105, u106, u107, u108, u109, u110, u111, u112, u113, u114, u115, u116, u117, u118, u119, u120, u121, u122, u123], defers := [] } : Act) _
              refine take_pure 1 (v := .int .i64 (9 * (n : Int))) rfl (by kernel_rfl) rfl (fun w' hw => by simp [execOp, go_sem, w9]) hH ?_
              show wpAnyH _ _ _ _ _ _ _ ({ tmps := #[.int .i64 1, .agg A.toArray, .int .i64 ix, .bool p, undef, .pointer (some ⟨B, 0, none⟩), undef, undef, .pointer (some ⟨B + 1, 0, none⟩), .pointer (some ⟨B + 1 + 1, 0, none⟩), .int .i64 bp, .pointer (some ⟨C, 0, none⟩), .int .i64 (pa : Int), .int .i64 (n : Int), .int .i64 ((8 : Nat) : Int), undef, undef, undef, undef, undef, undef, undef, u22, .agg colsL.toArray, .int .i64 ix, .int .u64 (IntKind.u64.wrap ix), .int .u64 (nx : Int), .int .i64 (wx : Int), .int .i64 (pa : Int), .int .i64 (n : Int), .bool true, .bool true, .int .i64 1, .bool true, .bool true, u35, u36, .int .i64 ((8 : Nat) : Int), .bool false, u39, u40, u41, u42, u43, u44, u45, u46, u47, u48, u49, u50, u51, .int .i64 (n : Int), .int .i64 (9 * (n : Int)), u54, u55, u56, u57, u58, u59, u60, u61, u62, u63, u64, u65, u66, u67, u68, u69, u70, u71, u72, u73, u74, u75, u76, u77, u78, u79, u80, u81, u82, u83, u84, u85, u86, u87, u88, u89, u90, u91, u92, u93, u94, u95, u96, u97, u98, u99, u100, u101, u102, u103, u104, u105, u106, u107, u108, u109, u110, u111, u112, u113, u114, u115, u116, u117, u118, u119, u120, u121, u122, u123], defers := [] } : Act) _
              refine take_pure 2 (v := .int .i64 ((9 * n + 8 : Nat) : Int)) rfl (by kernel_rfl) rfl (fun w' hw => by simp [execOp, go_sem, w98]) hH ?_
              show wpAnyH _ _ _ _ _ _ _ ({ tmps := #[.int .i64 1, .agg A.toArray, .int .i64 ix, .bool p, undef, .pointer (some ⟨B, 0, none⟩), undef, undef, .pointer (some ⟨B + 1, 0, none⟩), .pointer (some ⟨B + 1 + 1, 0, none⟩), .int .i64 bp, .pointer (some ⟨C, 0, none⟩), .int .i64 (pa : Int), .int .i64 (n : Int), .int .i64 ((8 : Nat) : Int), undef, undef, undef, undef, undef, undef, undef, u22, .agg colsL.toArray, .int .i64 ix, .int .u64 (IntKind.u64.wrap ix), .int .u64 (nx : Int), .int .i64 (wx : Int), .int .i64 (pa : Int), .int .i64 (n : Int), .bool true, .bool true, .int .i64 1, .bool true, .bool true, u35, u36, .int .i64 ((8 : Nat) : Int), .bool false, u39, u40, u41, u42, u43, u44, u45, u46, u47, u48, u49, u50, u51, .int .i64 (n : Int), .int .i64 (9 * (n : Int)), .int .i64 ((9 * n + 8 : Nat) : Int), u55, u56, u57, u58, u59, u60, u61, u62, u63, u64, u65, u66, u67, u68, u69, u70, u71, u72, u73, u74, u75, u76, u77, u78, u79, u80, u81, u82, u83, u84, u85, u86, u87, u88, u89, u90, u91, u92, u93, u94, u95, u96, u97, u98, u99, u100, u101, u102, u103, u104, u105, u106, u107, u108, u109, u110, u111, u112, u113, u114, u115, u116, u117, u118, u119, u120, u121, u122, u123], defers := [] } : Act) _
              refine take_if 3 (v := .agg colsL.toArray) rfl (by kernel_rfl) (yieldsIf_load_mid (by rfl) _ _ rfl C 0 rfl colsL _ (fun w' hw => hw.c.r) Tryz.underlying43 rfl i74) hH ?_
              show wpAnyH _ _ _ _ _ _ _ ({ tmps := #[.int .i64 1, .agg A.toArray, .int .i64 ix, .bool p, undef, .pointer (some ⟨B, 0, none⟩), undef, undef, .pointer (some ⟨B + 1, 0, none⟩), .pointer (some ⟨B + 1 + 1, 0, none⟩), .int .i64 bp, .pointer (some ⟨C, 0, none⟩), .int .i64 (pa : Int), .int .i64 (n : Int), .int .i64 ((8 : Nat) : Int), undef, undef, undef, undef, undef, undef, undef, u22, .agg colsL.toArray, .int .i64 ix, .int .u64 (IntKind.u64.wrap ix), .int .u64 (nx : Int), .int .i64 (wx : Int), .int .i64 (pa : Int), .int .i64 (n : Int), .bool true, .bool true, .int .i64 1, .bool true, .bool true, u35, u36, .int .i64 ((8 : Nat) : Int), .bool false, u39, u40, u41, u42, u43, u44, u45, u46, u47, u48, u49, u50, u51, .int .i64 (n : Int), .int .i64 (9 * (n : Int)), .int .i64 ((9 * n + 8 : Nat) : Int), .agg colsL.toArray, u56, u57, u58, u59, u60, u61, u62, u63, u64, u65, u66, u67, u68, u69, u70, u71, u72, u73, u74, u75, u76, u77, u78, u79, u80, u81, u82, u83, u84, u85, u86, u87, u88, u89, u90, u91, u92, u93, u94, u95, u96, u97, u98, u99, u100, u101, u102, u103, u104, u105, u106, u107, u108, u109, u110, u111, u112, u113, u114, u115, u116, u117, u118, u119, u120, u121, u122, u123], defers := [] } : Act) _
              refine take_if 4 (v := .agg A.toArray) rfl (by kernel_rfl) (yieldsIf_load_mid (by rfl) _ _ rfl B 0 rfl A _ (fun w' hw => by rw [← HA.out.1]; exact hw.f.range) Tryz.underlying22 rfl iA) hH ?_
              show wpAnyH _ _ _ _ _ _ _ ({ tmps := #[.int .i64 1, .agg A.toArray, .int .i64 ix, .bool p, undef, .pointer (some ⟨B, 0, none⟩), undef, undef, .pointer (some ⟨B + 1, 0, none⟩), .pointer (some ⟨B + 1 + 1, 0, none⟩), .int .i64 bp, .pointer (some ⟨C, 0, none⟩), .int .i64 (pa : Int), .int .i64 (n : Int), .int .i64 ((8 : Nat) : Int), undef, undef, undef, undef, undef, undef, undef, u22, .agg colsL.toArray, .int .i64 ix, .int .u64 (IntKind.u64.wrap ix), .int .u64 (nx : Int), .int .i64 (wx : Int), .int .i64 (pa : Int), .int .i64 (n : Int), .bool true, .bool true, .int .i64 1, .bool true, .bool true, u35, u36, .int .i64 ((8 : Nat) : Int), .bool false, u39, u40, u41, u42, u43, u44, u45, u46, u47, u48, u49, u50, u51, .int .i64 (n : Int), .int .i64 (9 * (n : Int)), .int .i64 ((9 * n + 8 : Nat) : Int), .agg colsL.toArray, .agg A.toArray, u57, u58, u59, u60, u61, u62, u63, u64, u65, u66, u67, u68, u69, u70, u71, u72, u73, u74, u75, u76, u77, u78, u79, u80, u81, u82, u83, u84, u85, u86, u87, u88, u89, u90, u91, u92, u93, u94, u95, u96, u97, u98, u99, u100, u101, u102, u103, u104, u105, u106, u107, u108, u109, u110, u111, u112, u113, u114, u115, u116, u117, u118, u119, u120, u121, u122, u123], defers := [] } : Act) _
              refine take_pure 5 (v := .int .i64 (n : Int)) rfl (by kernel_rfl) rfl (fun w' hw => by simp [execOp, go_sem]) hH ?_
              show wpAnyH _ _ _ _ _ _ _ ({ tmps := #[.int .i64 1, .agg A.toArray, .int .i64 ix, .bool p, undef, .pointer (some ⟨B, 0, none⟩), undef, undef, .pointer (some ⟨B + 1, 0, none⟩), .pointer (some ⟨B + 1 + 1, 0, none⟩), .int .i64 bp, .pointer (some ⟨C, 0, none⟩), .int .i64 (pa : Int), .int .i64 (n : Int), .int .i64 ((8 : Nat) : Int), undef, undef, undef, undef, undef, undef, undef, u22, .agg colsL.toArray, .int .i64 ix, .int .u64 (IntKind.u64.wrap ix), .int .u64 (nx : Int), .int .i64 (wx : Int), .int .i64 (pa : Int), .int .i64 (n : Int), .bool true, .bool true, .int .i64 1, .bool true, .bool true, u35, u36, .int .i64 ((8 : Nat) : Int), .bool false, u39, u40, u41, u42, u43, u44, u45, u46, u47, u48, u49, u50, u51, .int .i64 (n : Int), .int .i64 (9 * (n : Int)), .int .i64 ((9 * n + 8 : Nat) : Int), .agg colsL.toArray, .agg A.toArray, .int .i64 (n : Int), u58, u59, u60, u61, u62, u63, u64, u65, u66, u67, u68, u69, u70, u71, u72, u73, u74, u75, u76, u77, u78, u79, u80, u81, u82, u83, u84, u85, u86, u87, u88, u89, u90, u91, u92, u93, u94, u95, u96, u97, u98, u99, u100, u101, u102, u103, u104, u105, u106, u107, u108, u109, u110, u111, u112, u113, u114, u115, u116, u117, u118, u119, u120, u121, u122, u123], defers := [] } : Act) _
              refine take_pure 7 (v := .int .i64 (pa : Int)) rfl (by kernel_rfl) rfl (fun w' hw => by simp [execOp, go_sem]) hH ?_
              show wpAnyH _ _ _ _ _ _ _ ({ tmps := #[.int .i64 1, .agg A.toArray, .int .i64 ix, .bool p, undef, .pointer (some ⟨B, 0, none⟩), undef, undef, .pointer (some ⟨B + 1, 0, none⟩), .pointer (some ⟨B + 1 + 1, 0, none⟩), .int .i64 bp, .pointer (some ⟨C, 0, none⟩), .int .i64 (pa : Int), .int .i64 (n : Int), .int .i64 ((8 : Nat) : Int), undef, undef, undef, undef, undef, undef, undef, u22, .agg colsL.toArray, .int .i64 ix, .int .u64 (IntKind.u64.wrap ix), .int .u64 (nx : Int), .int .i64 (wx : Int), .int .i64 (pa : Int), .int .i64 (n : Int), .bool true, .bool true, .int .i64 1, .bool true, .bool true, u35, u36, .int .i64 ((8 : Nat) : Int), .bool false, u39, u40, u41, u42, u43, u44, u45, u46, u47, u48, u49, u50, u51, .int .i64 (n : Int), .int .i64 (9 * (n : Int)), .int .i64 ((9 * n + 8 : Nat) : Int), .agg colsL.toArray, .agg A.toArray, .int .i64 (n : Int), u58, .int .i64 (pa : Int), u60, u61, u62, u63, u64, u65, u66, u67, u68, u69, u70, u71, u72, u73, u74, u75, u76, u77, u78, u79, u80, u81, u82, u83, u84, u85, u86, u87, u88, u89, u90, u91, u92, u93, u94, u95, u96, u97, u98, u99, u100, u101, u102, u103, u104, u105, u106, u107, u108, u109, u110, u111, u112, u113, u114, u115, u116, u117, u118, u119, u120, u121, u122, u123], defers := [] } : Act) _
              refine take_pure 8 (v := .int .i64 bp) rfl (by kernel_rfl) rfl (fun w' hw => by simp [execOp, go_sem]) hH ?_
              show wpAnyH _ _ _ _ _ _ _ ({ tmps := #[.int .i64 1, .agg A.toArray, .int .i64 ix, .bool p, undef, .pointer (some ⟨B, 0, none⟩), undef, undef, .pointer (some ⟨B + 1, 0, none⟩), .pointer (some ⟨B + 1 + 1, 0, none⟩), .int .i64 bp, .pointer (some ⟨C, 0, none⟩), .int .i64 (pa : Int), .int .i64 (n : Int), .int .i64 ((8 : Nat) : Int), undef, undef, undef, undef, undef, undef, undef, u22, .agg colsL.toArray, .int .i64 ix, .int .u64 (IntKind.u64.wrap ix), .int .u64 (nx : Int), .int .i64 (wx : Int), .int .i64 (pa : Int), .int .i64 (n : Int), .bool true, .bool true, .int .i64 1, .bool true, .bool true, u35, u36, .int .i64 ((8 : Nat) : Int), .bool false, u39, u40, u41, u42, u43, u44, u45, u46, u47, u48, u49, u50, u51, .int .i64 (n : Int), .int .i64 (9 * (n : Int)), .int .i64 ((9 * n + 8 : Nat) : Int), .agg colsL.toArray, .agg A.toArray, .int .i64 (n : Int), u58, .int .i64 (pa : Int), .int .i64 bp, u61, u62, u63, u64, u65, u66, u67, u68, u69, u70, u71, u72, u73, u74, u75, u76, u77, u78, u79, u80, u81, u82, u83, u84, u85, u86, u87, u88, u89, u90, u91, u92, u93, u94, u95, u96, u97, u98, u99, u100, u101, u102, u103, u104, u105, u106, u107, u108, u109, u110, u111, u112, u113, u114, u115, u116, u117, u118, u119, u120, u121, u122, u123], defers := [] } : Act) _
              refine take_one 6 rfl rfl (by kernel_rfl) ?_
              refine wp_contract 21 [.tmp 56, .tmp 57] _ rfl (enters_of Tryz.func21 (by kernel_rfl) rfl) [.agg A.toArray, .int .i64 (n : Int)] rfl (cD1.out _) ?_
              rintro e X1 ⟨rfl, b5⟩
              replace hY := hY.next b5
              refine ⟨_, rfl, hH.next b5, fun hH => ?_⟩
              clear b5
              show wpAnyH _ _ _ _ _ _ _ ({ tmps := #[.int .i64 1, .agg A.toArray, .int .i64 ix, .bool p, undef, .pointer (some ⟨B, 0, none⟩), undef, undef, .pointer (some ⟨B + 1, 0, none⟩), .pointer (some ⟨B + 1 + 1, 0, none⟩), .int .i64 bp, .pointer (some ⟨C, 0, none⟩), .int .i64 (pa : Int), .int .i64 (n : Int), .int .i64 ((8 : Nat) : Int), undef, undef, undef, undef, undef, undef, undef, u22, .agg colsL.toArray, .int .i64 ix, .int .u64 (IntKind.u64.wrap ix), .int .u64 (nx : Int), .int .i64 (wx : Int), .int .i64 (pa : Int), .int .i64 (n : Int), .bool true, .bool true, .int .i64 1, .bool true, .bool true, u35, u36, .int .i64 ((8 : Nat) : Int), .bool false, u39, u40, u41, u42, u43, u44, u45, u46, u47, u48, u49, u50, u51, .int .i64 (n : Int), .int .i64 (9 * (n : Int)), .int .i64 ((9 * n + 8 : Nat) : Int), .agg colsL.toArray, .agg A.toArray, .int .i64 (n : Int), .int .u64 (d : Int), .int .i64 (pa : Int), .int .i64 bp, u61, u62, u63, u64, u65, u66, u67, u68, u69, u70, u71, u72, u73, u74, u75, u76, u77, u78, u79, u80, u81, u82, u83, u84, u85, u86, u87, u88, u89, u90, u91, u92, u93, u94, u95, u96, u97, u98, u99, u100, u101, u102, u103, u104, u105, u106, u107, u108, u109, u110, u111, u112, u113, u114, u115, u116, u117, u118, u119, u120, u121, u122, u123], defers := [] } : Act) _
              refine take_one 9 rfl rfl (by kernel_rfl) ?_
              refine wp_contract 20 [.tmp 55, .tmp 58, .const (.int .u8 0), .tmp 59, .tmp 60] _ rfl (enters_of Tryz.func20 (by kernel_rfl) rfl) [.agg colsL.toArray, .int .u64 (d : Int), .int .u8 0, .int .i64 (pa : Int), .int .i64 bp] rfl (cS1.out _) ?_
              rintro e X2 ⟨rfl, b5⟩
              replace hY := hY.next b5
              refine ⟨_, rfl, hH.next b5, fun hH => ?_⟩
              clear b5
              show wpAnyH _ _ _ _ _ _ _ ({ tmps := #[.int .i64 1, .agg A.toArray, .int .i64 ix, .bool p, undef, .pointer (some ⟨B, 0, none⟩), undef, undef, .pointer (some ⟨B + 1, 0, none⟩), .pointer (some ⟨B + 1 + 1, 0, none⟩), .int .i64 bp, .pointer (some ⟨C, 0, none⟩), .int .i64 (pa : Int), .int .i64 (n : Int), .int .i64 ((8 : Nat) : Int), undef, undef, undef, undef, undef, undef, undef, u22, .agg colsL.toArray, .int .i64 ix, .int .u64 (IntKind.u64.wrap ix), .int .u64 (nx : Int), .int .i64 (wx : Int), .int .i64 (pa : Int), .int .i64 (n : Int), .bool true, .bool true, .int .i64 1, .bool true, .bool true, u35, u36, .int .i64 ((8 : Nat) : Int), .bool false, u39, u40, u41, u42, u43, u44, u45, u46, u47, u48, u49, u50, u51, .int .i64 (n : Int), .int .i64 (9 * (n : Int)), .int .i64 ((9 * n + 8 : Nat) : Int), .agg colsL.toArray, .agg A.toArray, .int .i64 (n : Int), .int .u64 (d : Int), .int .i64 (pa : Int), .int .i64 bp, .int .u8 (x : Int), u62, u63, u64, u65, u66, u67, u68, u69, u70, u71, u72, u73, u74, u75, u76, u77, u78, u79, u80, u81, u82, u83, u84, u85, u86, u87, u88, u89, u90, u91, u92, u93, u94, u95, u96, u97, u98, u99, u100, u101, u102, u103, u104, u105, u106, u107, u108, u109, u110, u111, u112, u113, u114, u115, u116, u117, u118, u119, u120, u121, u122, u123], defers := [] } : Act) _
              refine take_pure 10 (v := .pointer (some ⟨B + 1 + 1, 9 * n + 8, none⟩)) rfl (by kernel_rfl) rfl (fun w' hw => by simp [execOp, go_sem]; rw [if_pos ⟨by omega, by omega⟩, show (9 * (n : Int) + 8).toNat = 9 * n + 8 by omega]) hH ?_
              show wpAnyH _ _ _ _ _ _ _ ({ tmps := #[.int .i64 1, .agg A.toArray, .int .i64 ix, .bool p, undef, .pointer (some ⟨B, 0, none⟩), undef, undef, .pointer (some ⟨B + 1, 0, none⟩), .pointer (some ⟨B + 1 + 1, 0, none⟩), .int .i64 bp, .pointer (some ⟨C, 0, none⟩), .int .i64 (pa : Int), .int .i64 (n : Int), .int .i64 ((8 : Nat) : Int), undef, undef, undef, undef, undef, undef, undef, u22, .agg colsL.toArray, .int .i64 ix, .int .u64 (IntKind.u64.wrap ix), .int .u64 (nx : Int), .int .i64 (wx : Int), .int .i64 (pa : Int), .int .i64 (n : Int), .bool true, .bool true, .int .i64 1, .bool true, .bool true, u35, u36, .int .i64 ((8 : Nat) : Int), .bool false, u39, u40, u41, u42, u43, u44, u45, u46, u47, u48, u49, u50, u51, .int .i64 (n : Int), .int .i64 (9 * (n : Int)), .int .i64 ((9 * n + 8 : Nat) : Int), .agg colsL.toArray, .agg A.toArray, .int .i64 (n : Int), .int .u64 (d : Int), .int .i64 (pa : Int), .int .i64 bp, .int .u8 (x : Int), .pointer (some ⟨B + 1 + 1, 9 * n + 8, none⟩), u63, u64, u65, u66, u67, u68, u69, u70, u71, u72, u73, u74, u75, u76, u77, u78, u79, u80, u81, u82, u83, u84, u85, u86, u87, u88, u89, u90, u91, u92, u93, u94, u95, u96, u97, u98, u99, u100, u101, u102, u103, u104, u105, u106, u107, u108, u109, u110, u111, u112, u113, u114, u115, u116, u117, u118, u119, u120, u121, u122, u123], defers := [] } : Act) _
              refine take_one 11 rfl rfl (by kernel_rfl) ?_
              have hcx := hY.y.cell (9 * n + 8) (by omega)
              have hfx := hY.y.free (9 * n + 8)
              have hN2 := (hY.set (9 * n + 8) (x : Int)).congr (Y' := fun i => if i < 9 * (n + 1) then E i else 0) fun i _ => by
                show (if i = 9 * n + 8 then (x : Int) else if i < 9 * n + 8 then E i else 0) = if i < 9 * (n + 1) then E i else 0
                by_cases h : i = 9 * n + 8
                · rw [if_pos h, if_pos (by omega), h, HEN.out.2]
                · rw [if_neg h]
                  by_cases h2 : i < 9 * n + 8
                  · rw [if_pos h2, if_pos (by omega)]
                  · rw [if_neg h2, if_neg (by omega)]
              refine wp_store_cell 5 sz_u8r 62 61 rfl (B + 1 + 1) (9 * n + 8) .u8 (x : Int) _ rfl rfl hcx hfx ?_
              refine ⟨hN2.quiet, fun hH => ?_⟩
              show wpAnyH _ _ _ _ _ _ _ ({ tmps := #[.int .i64 1, .agg A.toArray, .int .i64 ix, .bool p, undef, .pointer (some ⟨B, 0, none⟩), undef, undef, .pointer (some ⟨B + 1, 0, none⟩), .pointer (some ⟨B + 1 + 1, 0, none⟩), .int .i64 bp, .pointer (some ⟨C, 0, none⟩), .int .i64 (pa : Int), .int .i64 (n : Int), .int .i64 ((8 : Nat) : Int), undef, undef, undef, undef, undef, undef, undef, u22, .agg colsL.toArray, .int .i64 ix, .int .u64 (IntKind.u64.wrap ix), .int .u64 (nx : Int), .int .i64 (wx : Int), .int .i64 (pa : Int), .int .i64 (n : Int), .bool true, .bool true, .int .i64 1, .bool true, .bool true, u35, u36, .int .i64 ((8 : Nat) : Int), .bool false, u39, u40, u41, u42, u43, u44, u45, u46, u47, u48, u49, u50, u51, .int .i64 (n : Int), .int .i64 (9 * (n : Int)), .int .i64 ((9 * n + 8 : Nat) : Int), .agg colsL.toArray, .agg A.toArray, .int .i64 (n : Int), .int .u64 (d : Int), .int .i64 (pa : Int), .int .i64 bp, .int .u8 (x : Int), .pointer (some ⟨B + 1 + 1, 9 * n + 8, none⟩), u63, u64, u65, u66, u67, u68, u69, u70, u71, u72, u73, u74, u75, u76, u77, u78, u79, u80, u81, u82, u83, u84, u85, u86, u87, u88, u89, u90, u91, u92, u93, u94, u95, u96, u97, u98, u99, u100, u101, u102, u103, u104, u105, u106, u107, u108, u109, u110, u111, u112, u113, u114, u115, u116, u117, u118, u119, u120, u121, u122, u123], defers := [] } : Act) _
              exact wpAnyH_done (by kernel_rfl) ⟨rfl, hN2⟩ _
            rintro a' W' ⟨rfl, hN⟩
            have HN : Hid (EdI B C F (fun i => if i < 9 * (n + 1) then E i else 0) w W') := hN
            clear hN HJ cD1 cS1 HEN
            go_wp2
            go_roundw
            case rel => exact ⟨n + 1, by omega, by go_num, HN⟩
            case measure => simp [intOf]; omega
      · obtain rfl : n = 8 := by omega
        have HE2 : EdI B C F E w wr := HK.out.congr fun i hi => by rw [if_pos (by omega)]
        have hr := HE2.y.range
        rw [HRL.out] at hr
        have ht := HE2.o.there .u8 E
        rw [HRL.out] at ht
        have HB : Hid (Below B w wr) := HE2.below
        have hs : (wr.setCells (B + 1) 0 RL).rangeAt (B + 1) 0 RL := World.rangeAt_setCells_same wr _ 0 RL (by simpa using ht)
        have hld := run_loadVar_mid (P := Tryz.prog) (wr.setCells (B + 1) 0 RL) (B + 1) 0 26 RL _ hs Tryz.underlying26 rfl iR
        clear HE2 HK hs H1 HE CS CD
        go_wp2
        refine wp_loop_rounds 1 ?_
        rw [rounds_succ]
        go_wp2_with (first | refine wpList_load_mid rfl 26 _ rfl _ 0 rfl RL _ hr Tryz.underlying26 rfl iR ?_ | refine wpList_store_mid rfl 26 _ _ rfl _ 0 RL.toArray rfl rfl ht jR oR ?_)
        refine bodyPost_ret (v := .agg RL.toArray) ?_ rfl ⟨rfl, by first | exact belows_put (by omega) RL 0 HB.out | (rw [hB]; exact belows_put (by omega) RL 0 HB.out)⟩
        simp [results, Tryz.f10, Act.put, asAddr, hld]
set_option maxRecDepth 100000 in
set_option maxHeartbeats 2000000 in
theorem refEncode10_2 (F : Nat → Int) (hF : Byts 64 F) (ix : Int) (p : Bool) (w : World) :
    Calls Tryz.prog 10 #[.int .i64 2, .agg (ints .u8 64 F).toArray, .int .i64 ix, .bool p] w fun e w' => e = .returned (.agg (ints .u8 72 (en2 F ix p)).toArray) ∧ Below w.heap.size w w' := by
  have hz := zeroA72
  have hzc := zero_cols
  have i74 := info_cols
  have o74 := colsL_one
  have ht74 := there_cols10
  obtain ⟨nx, hnx⟩ : ∃ n : Nat, ix % 8388608 = (n : Int) := ⟨(ix % 8388608).toNat, by omega⟩
  have hnl : nx < 8388608 := by omega
  have hw1 : (IntKind.u64.wrap ix).tmod 8388608 = (nx : Int) := by
    have : IntKind.u64.wrap ix = ix % 18446744073709551616 := rfl
    rw [this, Int.tmod_eq_emod_of_nonneg (by omega)]; omega
  obtain ⟨wx, pa, hwx, hpa, cW⟩ : ∃ wx pa : Nat, wx ≤ 64 ∧ (par ix = (pa : Int) ∧ pa = wx % 2) ∧ ∀ w : World, Calls Tryz.prog 19 #[.int .u64 (nx : Int)] w fun e w' => e = .returned (.int .i64 (wx : Int)) ∧ w' = w :=
    ⟨Bm.wt nx, Bm.wt nx % 2, Bm.wt_le nx, ⟨by unfold par; rw [hnx]; rfl, rfl⟩, fun w => refWeight_any nx (by omega) w⟩
  have CW : Hid (∀ w : World, Calls Tryz.prog 19 #[.int .u64 (nx : Int)] w fun e w' => e = .returned (.int .i64 (wx : Int)) ∧ w' = w) := cW
  have hpar := hpa.1
  have hmod : (wx : Int).tmod 2 = (pa : Int) := by rw [Int.tmod_eq_emod_of_nonneg (by omega), hpa.2]; omega
  obtain ⟨bp, hbp⟩ : ∃ bp, bt p = bp := ⟨_, rfl⟩
  have HBP : Hid ((p = false → bp = 0) ∧ (p = true → bp = 1)) := ⟨fun h => by rw [← hbp, h]; rfl, fun h => by rw [← hbp, h]; rfl⟩
  have HF : Hid (Byts 64 F) := hF
  have cV : Hid (∀ W : World, Calls Tryz.prog 24 #[.int .i64 ix, .bool p] W fun e w' => e = .returned (.agg (ints .u8 3 (vb ix p)).toArray) ∧ Below W.heap.size W w') := fun W => refVirtual_any ix p W
  have cK : ∀ (k : Nat) (W : World), k < 2 → Calls Tryz.prog 25 #[.agg (ints .u8 39 (w39 F ix p k)).toArray] W fun e w' => e = .returned (.agg (ints .u8 4 (fun i => en2 F ix p (36 * k + i))).toArray) ∧ Below W.heap.size W w' := fun k W hk => by
    rw [ints_arr10 39 _ (w39_byts F hF ix p k hk), ints_congr .u8 4 (fun i => en2 F ix p (36 * k + i)) (fun i => oe (DV (fun i => toE (w39 F ix p k i)) 35 i)) fun i hi => en2_chk F ix p k i hi]
    exact refChecks10_any (fun i => toE (w39 F ix p k i)) W
  have hE : ∀ k i, i < 32 → en2 F ix p (36 * k + (4 + i)) = F (32 * k + i) := fun k i hi => en2_data F ix p k i hi
  have hX : ∀ k, (∀ i, i < 4 → w39 F ix p k i = 0) ∧ (∀ i, i < 32 → w39 F ix p k (4 + i) = F (32 * k + i)) ∧ ∀ i, w39 F ix p k (36 + i) = vb ix p i := fun k => by
    refine ⟨fun i hi => by unfold w39; rw [if_pos hi], fun i hi => ?_, fun i => ?_⟩
    · unfold w39; rw [if_neg (by omega), if_pos (by omega), show 4 + i - 4 = i by omega]
    · unfold w39; rw [if_neg (by omega), if_neg (by omega), show 36 + i - 36 = i by omega]
  obtain ⟨E, hEd⟩ : ∃ E, en2 F ix p = E := ⟨_, rfl⟩
  obtain ⟨XF, hXd⟩ : ∃ X, w39 F ix p = X := ⟨_, rfl⟩
  obtain ⟨VF, hVd⟩ : ∃ V, vb ix p = V := ⟨_, rfl⟩
  rw [hVd] at cV hX
  rw [hXd] at hX
  rw [hEd] at hE
  simp only [hEd, hXd] at cK
  rw [hEd]
  obtain ⟨LU, hLU⟩ : ∃ L, ints .u8 3 VF = L := ⟨_, rfl⟩
  rw [hLU] at cV
  have jU : (Tryz.prog.info? 54).map (·.size) = some LU.toArray.size := by rw [← hLU]; simpa [ints_len] using infoA3r
  have oU : LU.toArray.all (·.oneCell') = true := by rw [← hLU]; exact ints_one .u8 3 _
  have CK : Hid (∀ (k : Nat) (W : World), k < 2 → Calls Tryz.prog 25 #[.agg (ints .u8 39 (XF k)).toArray] W fun e w' => e = .returned (.agg (ints .u8 4 (fun i => E (36 * k + i))).toArray) ∧ Below W.heap.size W w') := cK
  have HE : Hid (∀ k i, i < 32 → E (36 * k + (4 + i)) = F (32 * k + i)) := hE
  have HX : Hid (∀ k, (∀ i, i < 4 → XF k i = 0) ∧ (∀ i, i < 32 → XF k (4 + i) = F (32 * k + i)) ∧ ∀ i, XF k (36 + i) = VF i) := hX
  have hz39 := zeroA39
  have hz3 := zeroA3r
  have hz4 := zeroA4i
  obtain ⟨Z39, hZ39⟩ : ∃ A, (ints .u8 39 fun _ => 0).toArray = A := ⟨_, rfl⟩
  obtain ⟨Z3, hZ3⟩ : ∃ A, (ints .u8 3 fun _ => 0).toArray = A := ⟨_, rfl⟩
  obtain ⟨Z4, hZ4⟩ : ∃ A, (ints .u8 4 fun _ => 0).toArray = A := ⟨_, rfl⟩
  rw [hZ39] at hz39
  rw [hZ3] at hz3
  rw [hZ4] at hz4
  have HZZ : Hid ((ints .u8 39 fun _ => 0).toArray = Z39 ∧ (ints .u8 3 fun _ => 0).toArray = Z3 ∧ (ints .u8 4 fun _ => 0).toArray = Z4 ∧ ints .u8 3 VF = LU) := ⟨hZ39, hZ3, hZ4, hLU⟩
  clear cK hE hX hEd hXd hVd hLU hZ39 hZ3 hZ4
  obtain ⟨A, hA⟩ : ∃ A, (ints .u8 64 F) = A := ⟨_, rfl⟩
  have iA : (Tryz.prog.info? 22).map (·.size) = some A.length := by rw [← hA, ints_len]; exact infoA10
  obtain ⟨Z, hZ⟩ : ∃ A, (ints .u8 72 fun _ => 0).toArray = A := ⟨_, rfl⟩
  rw [hZ] at hz
  obtain ⟨RL, hRL⟩ : ∃ L, ints .u8 72 E = L := ⟨_, rfl⟩
  have HRL : Hid (ints .u8 72 E = RL) := hRL
  have iR : (Tryz.prog.info? 26).map (·.size) = some RL.length := by rw [← hRL, ints_len]; exact infoA72
  have jR : (Tryz.prog.info? 26).map (·.size) = some RL.toArray.size := by simpa using iR
  have oR : RL.toArray.all (·.oneCell') = true := by rw [← hRL]; exact ints_one .u8 72 _
  rw [hRL]
  clear hRL
  rw [hA]
  have HI : Hid (∀ V, V = ((w.alloc (.cells A.toArray 22)).alloc (.cells Z 26)).alloc (.cells Z 26) → Bk .u8 V w.heap.size 64 F ∧ Bk .u8 V (w.heap.size + 1) 72 (fun _ => 0) ∧ Bk .u8 V (w.heap.size + 1 + 1) 72 (fun _ => 0) ∧ Below w.heap.size w V) := fun V hV => by
    subst hV
    rw [← hA, ← hZ]
    have h1 := Bk.new .u8 w 64 F 22
    have h2 := Bk.new .u8 (w.alloc (.cells (ints .u8 64 F).toArray 22)) 72 (fun _ => 0) 26
    have h3 := Bk.new .u8 ((w.alloc (.cells (ints .u8 64 F).toArray 22)).alloc (.cells (ints .u8 72 fun _ => 0).toArray 26)) 72 (fun _ => 0) 26
    simp only [World.size_alloc] at h2 h3
    exact ⟨(h1.alloc _).alloc _, h2.alloc _, h3, (((Below.refl _ w).alloc (Nat.le_refl _) _).alloc (by simp) _).alloc (by simp <;> omega) _⟩
  have HA : Hid ((ints .u8 64 F) = A ∧ (ints .u8 72 fun _ => 0).toArray = Z) := ⟨hA, hZ⟩
  clear hA hZ hF hnx hpar hpa cW hbp
  go_enter Tryz.func10, Tryz.ntmps10
  go_upto_region 3 with (fail)
  obtain ⟨V, hV⟩ : ∃ V, ((w.alloc (.cells A.toArray 22)).alloc (.cells Z 26)).alloc (.cells Z 26) = V := ⟨_, rfl⟩
  have H0 : Hid (Bk .u8 V w.heap.size 64 F ∧ Bk .u8 V (w.heap.size + 1) 72 (fun _ => 0) ∧ Bk .u8 V (w.heap.size + 1 + 1) 72 (fun _ => 0) ∧ Below w.heap.size w V) := HI.out V hV.symm
  rw [hV]
  clear hV HI
  obtain ⟨B, hB⟩ : ∃ B, w.heap.size = B := ⟨_, rfl⟩
  rw [hB] at H0 ⊢
  go_cut [22] (fun a wx => a = .bool p ∧ wx = V)
  case first =>
    go_wp2
    go_meet
    case rel => exact ⟨rfl, rfl⟩
  case rest =>
    obtain ⟨rfl, rfl⟩ := hcut
    go_step
    go_cut [10] (fun a wx => a = .int .i64 bp ∧ wx = wc)
    case first =>
      rcases Bool.eq_false_or_eq_true p with hp | hp
      · have hb := HBP.out.2 hp
        subst hp
        subst hb
        go_wp2
        all_goals
          go_meet
          case rel => exact ⟨rfl, rfl⟩
      · have hb := HBP.out.1 hp
        subst hp
        subst hb
        go_wp2
        all_goals
          go_meet
          case rel => exact ⟨rfl, rfl⟩
    obtain ⟨rfl, rfl⟩ := hcut
    go_wp2_with fail
    refine (refColumns_any _).mono ?_
    rintro e V1 ⟨rfl, b1⟩
    have ht1 := ht74 V1
    obtain ⟨C, hC⟩ : ∃ C, V1.heap.size = C := ⟨_, rfl⟩
    have H1 : Hid (EdI B C F (fun _ => 0) w ((V1.alloc (.cells (stageC 0) 43)).setCells C 0 colsL)) := by
      obtain ⟨h1, h2, h3, h4⟩ := H0.out
      have g1 := h1.next b1
      have g2 := h2.next b1
      have g3 := h3.next b1
      have g4 := cols_laid V1
      rw [hC] at g4
      have l3 := g3.lt
      have l0 := h3.lt
      refine ⟨(g1.alloc _).putOther (by omega) 0 _, (g2.alloc _).putOther (by omega) 0 _, (g3.alloc _).putOther (by omega) 0 _, g4, by omega, belows_put (by omega) colsL 0 ((h4.trans (b1.mono (by omega))).alloc (by omega) _)⟩
    rw [hC] at ht1
    try rw [hC]
    clear H0 b1 ht74
    obtain ⟨S0, hS0⟩ : ∃ S0, stageC 0 = S0 := ⟨_, rfl⟩
    rw [hS0] at hzc ht1 H1
    clear hS0
    go_upto_region 6 with (refine wpList_store_mid rfl 43 _ _ rfl _ 0 colsL.toArray rfl rfl ht1 (by simpa using i74) o74 ?_)
    obtain ⟨V2, hV2⟩ : ∃ V2, (V1.alloc (.cells S0 43)).setCells C 0 colsL = V2 := ⟨_, rfl⟩
    rw [hV2] at H1
    try rw [hV2]
    clear hV2 ht1 hC V1
    go_wp2_with fail
    refine (CW.out _).mono ?_
    rintro e w' ⟨rfl, hw2⟩
    rw [hw2]
    clear hw2 w' CW hw1
    go_wp2
    refine wp_loop_rounds 1 ?_
    rw [rounds_succ]
    go_wp2
    go_loopw [15] (fun i wr => ∃ n : Nat, n ≤ 2 ∧ i = .int .i64 (n : Int) ∧ Hid (EdI B C F (fun j => if j < 36 * n then E j else 0) w wr)) (fun i _ => 2 - (intOf i).toNat)
    case atStart => exact ⟨0, by omega, rfl, H1.out.congr fun i _ => by rw [if_neg (by omega)]⟩
    case round =>
      obtain ⟨n, hn, rfl, HK⟩ := hrel
      by_cases hlt : n < 2
      · have hd8 : decide ((n : Int) < 2) = true := decide_eq_true (by omega)
        have HEN : Hid (∀ i, i < 32 → E (36 * n + (4 + i)) = F (32 * n + i)) := fun i hi => HE.out n i hi
        have cK1 : ∀ W : World, Calls Tryz.prog 25 #[.agg (ints .u8 39 (XF n)).toArray] W fun e w' => e = .returned (.agg (ints .u8 4 (fun i => E (36 * n + i))).toArray) ∧ Below W.heap.size W w' := fun W => CK.out n W hlt
        obtain ⟨LX, hLX⟩ : ∃ L, ints .u8 39 (XF n) = L := ⟨_, rfl⟩
        obtain ⟨LC, hLC⟩ : ∃ L, (ints .u8 4 fun i => E (36 * n + i)) = L := ⟨_, rfl⟩
        rw [hLX, hLC] at cK1
        have iX : (Tryz.prog.info? 52).map (·.size) = some LX.length := by rw [← hLX, ints_len]; exact infoA39
        have jC : (Tryz.prog.info? 50).map (·.size) = some LC.toArray.size := by rw [← hLC]; simpa [ints_len] using info4r
        have oC : LC.toArray.all (·.oneCell') = true := by rw [← hLC]; exact ints_one .u8 4 _
        have HL : Hid (ints .u8 39 (XF n) = LX ∧ (ints .u8 4 fun i => E (36 * n + i)) = LC) := ⟨hLX, hLC⟩
        have HXN : Hid ((∀ i, i < 4 → XF n i = 0) ∧ (∀ i, i < 32 → XF n (4 + i) = F (32 * n + i)) ∧ ∀ i, XF n (36 + i) = VF i) := HX.out n
        have CK1 : Hid (∀ W : World, Calls Tryz.prog 25 #[.agg LX.toArray] W fun e w' => e = .returned (.agg LC.toArray) ∧ Below W.heap.size W w') := cK1
        clear hLX hLC cK1 H1
        go_wp2_with fail
        refine (cV.out _).mono ?_
        rintro e W3 ⟨rfl, b3⟩
        obtain ⟨M, hM⟩ : ∃ M, wr.heap.size = M := ⟨_, rfl⟩
        obtain ⟨N, hN⟩ : ∃ N, W3.heap.size = N := ⟨_, rfl⟩
        have t1 : (W3.alloc (.cells Z3 54)).there N 0 LU.toArray.size := by
          rw [← HZZ.out.2.1, ← HZZ.out.2.2.2, ← hN]
          exact (Bk.new .u8 W3 3 (fun _ => 0) 54).there .u8 _
        have HM : Hid (EdW B C M N F (fun j => if j < 36 * n then E j else 0) (fun _ => 0) VF w ((W3.alloc (.cells Z3 54)).setCells N 0 LU)) := by
          have hx := Bk.new .u8 wr 39 (fun _ => 0) 52
          rw [HZZ.out.1, hM] at hx
          have hu := (Bk.new .u8 W3 3 (fun _ => 0) 54).put VF
          rw [HZZ.out.2.1, HZZ.out.2.2.2, hN] at hu
          have hk := (HK.out.alloc (.cells Z39 52)).next b3
          have hl := hk.lay (.cells Z3 54) LU
          rw [hN] at hl
          have hx3 := hx.next b3
          have l3 := hx3.lt
          have l1 := HK.out.y.lt
          have l2 := HK.out.c.s
          exact ⟨hl, (hx3.alloc _).putOther (by omega) 0 _, hu, by omega, by omega, by omega⟩
        clear b3 HK
        go_upto_region 20 with (refine wpList_store_mid rfl 54 _ _ rfl _ 0 LU.toArray rfl rfl t1 jU oU ?_)
        try rw [hN]
        try rw [hM]
        obtain ⟨W4, hW4⟩ : ∃ W, (W3.alloc (.cells Z3 54)).setCells N 0 LU = W := ⟨_, rfl⟩
        rw [hW4] at HM
        rw [hW4]
        clear hW4 t1 hN hM W3
        go_wp2
        go_loopw [18] (fun i wr => ∃ j : Nat, j ≤ 32 ∧ i = .int .i64 (j : Int) ∧ Hid (EdW B C M N F (fun i => if i < 36 * n then E i else if 36 * n + 4 ≤ i ∧ i < 36 * n + 4 + j then E i else 0) (fun i => if i < 4 + j then XF n i else 0) VF w wr)) (fun i _ => 32 - (intOf i).toNat)
        case atStart =>
          refine ⟨0, by omega, rfl, (HM.out.congrY fun i _ => ?_).congrX fun i _ => ?_⟩
          · by_cases h : i < 36 * n
            · rw [if_pos h, if_pos h]
            · rw [if_neg h, if_neg h, if_neg (by omega)]
          · by_cases h : i < 4
            · rw [if_pos (by omega), HXN.out.1 i h]
            · rw [if_neg (by omega)]
        case round =>
          obtain ⟨j, hj, rfl, HJ⟩ := hrel
          by_cases hjt : j < 32
          · obtain ⟨x, Hx⟩ : ∃ x, Hid (F (32 * n + j) = x) := ⟨_, rfl⟩
            have c0 := HJ.out.i.f.cell (32 * n + j) (by omega)
            rw [Hx.out] at c0
            have c1 := HJ.out.x.cell (4 + j) (by omega)
            have f1 := HJ.out.x.free (4 + j)
            have HJ1 := (HJ.out.setX (4 + j) x).congrX (X' := fun i => if i < 4 + (j + 1) then XF n i else 0) fun i _ => by
              show (if i = 4 + j then x else if i < 4 + j then XF n i else 0) = if i < 4 + (j + 1) then XF n i else 0
              by_cases h : i = 4 + j
              · rw [if_pos h, if_pos (by omega), h, HXN.out.2.1 j hjt, Hx.out]
              · rw [if_neg h]
                by_cases h2 : i < 4 + j
                · rw [if_pos h2, if_pos (by omega)]
                · rw [if_neg h2, if_neg (by omega)]
            have c2 := HJ1.i.f.cell (32 * n + j) (by omega)
            rw [Hx.out] at c2
            have c3 := HJ1.i.y.cell (36 * n + 4 + j) (by omega)
            have f3 := HJ1.i.y.free (36 * n + 4 + j)
            have HN : Hid (EdW B C M N F (fun i => if i < 36 * n then E i else if 36 * n + 4 ≤ i ∧ i < 36 * n + 4 + (j + 1) then E i else 0) (fun i => if i < 4 + (j + 1) then XF n i else 0) VF w ((wr.setCell ⟨M, 4 + j, none⟩ (.int .u8 x)).setCell ⟨B + 1 + 1, 36 * n + 4 + j, none⟩ (.int .u8 x))) := (HJ1.setY (36 * n + 4 + j) x).congrY fun i _ => by
              show (if i = 36 * n + 4 + j then x else if i < 36 * n then E i else if 36 * n + 4 ≤ i ∧ i < 36 * n + 4 + j then E i else 0) = if i < 36 * n then E i else if 36 * n + 4 ≤ i ∧ i < 36 * n + 4 + (j + 1) then E i else 0
              by_cases h : i = 36 * n + 4 + j
              · rw [if_pos h, if_neg (by omega), if_pos (by omega), h, ← Hx.out, ← HEN.out j hjt, Nat.add_assoc]
              · rw [if_neg h]
                by_cases h2 : i < 36 * n
                · rw [if_pos h2, if_pos h2]
                · rw [if_neg h2, if_neg h2]
                  by_cases h3 : 36 * n + 4 ≤ i ∧ i < 36 * n + 4 + j
                  · rw [if_pos h3, if_pos (by omega)]
                  · rw [if_neg h3, if_neg (by omega)]
            clear Hx HM HJ HJ1
            go_upto_region 24 with (fail)
            obtain ⟨W5, hW5⟩ : ∃ W, wr.setCell ⟨M, 4 + j, none⟩ (.int .u8 x) = W := ⟨_, rfl⟩
            rw [hW5] at HN c2 c3 f3
            rw [hW5]
            clear hW5 c0 c1 f1
            go_wp2
            go_roundw
            case rel => exact ⟨j + 1, by omega, by go_num, HN⟩
            case measure => simp [intOf]; omega
          · obtain rfl : j = 32 := by omega
            have HM2 : Hid (EdW B C M N F (fun i => if i < 36 * n then E i else if 36 * n + 4 ≤ i ∧ i < 36 * n + 36 then E i else 0) (fun i => if i < 36 then XF n i else 0) VF w wr) := HJ.out
            clear HJ HM
            go_wp2
            go_loopw [19] (fun i wr => ∃ j : Nat, j ≤ 3 ∧ i = .int .i64 (j : Int) ∧ Hid (EdW B C M N F (fun i => if i < 36 * n then E i else if 36 * n + 4 ≤ i ∧ i < 36 * n + 36 then E i else 0) (fun i => if i < 36 + j then XF n i else 0) VF w wr)) (fun i _ => 3 - (intOf i).toNat)
            case atStart => exact ⟨0, by omega, rfl, HM2⟩
            case round =>
              obtain ⟨j, hj, rfl, HJ⟩ := hrel
              by_cases hjt : j < 3
              · obtain ⟨x, Hx⟩ : ∃ x, Hid (VF j = x) := ⟨_, rfl⟩
                have c0 := HJ.out.u.cell j (by omega)
                rw [Hx.out] at c0
                have c1 := HJ.out.x.cell (36 + j) (by omega)
                have f1 := HJ.out.x.free (36 + j)
                have HN : Hid (EdW B C M N F (fun i => if i < 36 * n then E i else if 36 * n + 4 ≤ i ∧ i < 36 * n + 36 then E i else 0) (fun i => if i < 36 + (j + 1) then XF n i else 0) VF w (wr.setCell ⟨M, 36 + j, none⟩ (.int .u8 x))) := (HJ.out.setX (36 + j) x).congrX fun i _ => by
                  show (if i = 36 + j then x else if i < 36 + j then XF n i else 0) = if i < 36 + (j + 1) then XF n i else 0
                  by_cases h : i = 36 + j
                  · rw [if_pos h, if_pos (by omega), h, HXN.out.2.2 j, Hx.out]
                  · rw [if_neg h]
                    by_cases h2 : i < 36 + j
                    · rw [if_pos h2, if_pos (by omega)]
                    · rw [if_neg h2, if_neg (by omega)]
                clear Hx HM2 HJ
                go_wp2
                go_roundw
                case rel => exact ⟨j + 1, by omega, by go_num, HN⟩
                case measure => simp [intOf]; omega
              · obtain rfl : j = 3 := by omega
                have HM3 : Hid (EdW B C M N F (fun i => if i < 36 * n then E i else if 36 * n + 4 ≤ i ∧ i < 36 * n + 36 then E i else 0) (XF n) VF w wr) := HJ.out.congrX fun i hi => by rw [if_pos (by omega)]
                have rX := HM3.out.x.range
                rw [HL.out.1] at rX
                clear HJ HM2
                go_wp2_with (refine wpList_load_mid rfl 52 _ rfl M 0 rfl LX _ rX Tryz.underlying52 rfl iX ?_)
                refine (CK1.out _).mono ?_
                rintro e W6 ⟨rfl, b6⟩
                obtain ⟨Q, hQ⟩ : ∃ Q, W6.heap.size = Q := ⟨_, rfl⟩
                have t1 : (W6.alloc (.cells Z4 50)).there Q 0 LC.toArray.size := by
                  rw [← HZZ.out.2.2.1, ← HL.out.2, ← hQ]
                  exact (Bk.new .u8 W6 4 (fun _ => 0) 50).there .u8 _
                have HM4 : Hid (EdC B C Q F (fun i => if i < 36 * n then E i else if 36 * n + 4 ≤ i ∧ i < 36 * n + 36 then E i else 0) (fun i => E (36 * n + i)) w ((W6.alloc (.cells Z4 50)).setCells Q 0 LC)) := by
                  have hx := (Bk.new .u8 W6 4 (fun _ => 0) 50).put (fun i => E (36 * n + i))
                  rw [HZZ.out.2.2.1, HL.out.2, hQ] at hx
                  have hk := HM3.out.i.next b6
                  have hl := hk.lay (.cells Z4 50) LC
                  rw [hQ] at hl
                  exact ⟨hl, hx, by have := hk.y.lt; omega⟩
                clear b6 HM3 rX
                go_upto_region 30 with (refine wpList_store_mid rfl 50 _ _ rfl _ 0 LC.toArray rfl rfl t1 jC oC ?_)
                try rw [hQ]
                obtain ⟨W7, hW7⟩ : ∃ W, (W6.alloc (.cells Z4 50)).setCells Q 0 LC = W := ⟨_, rfl⟩
                rw [hW7] at HM4
                rw [hW7]
                clear hW7 t1 hQ W6
                go_wp2
                go_loopw [21] (fun i wr => ∃ j : Nat, j ≤ 4 ∧ i = .int .i64 (j : Int) ∧ Hid (EdC B C Q F (fun i => if i < 36 * n + j then E i else if 36 * n + 4 ≤ i ∧ i < 36 * n + 36 then E i else 0) (fun i => E (36 * n + i)) w wr)) (fun i _ => 4 - (intOf i).toNat)
                case atStart => exact ⟨0, by omega, rfl, HM4⟩
                case round =>
                  obtain ⟨j, hj, rfl, HJ⟩ := hrel
                  by_cases hjt : j < 4
                  · obtain ⟨x, Hx⟩ : ∃ x, Hid (E (36 * n + j) = x) := ⟨_, rfl⟩
                    have c0 := HJ.out.x.cell j (by omega)
                    rw [Hx.out] at c0
                    have c1 := HJ.out.i.y.cell (36 * n + j) (by omega)
                    have f1 := HJ.out.i.y.free (36 * n + j)
                    have HN : Hid (EdC B C Q F (fun i => if i < 36 * n + (j + 1) then E i else if 36 * n + 4 ≤ i ∧ i < 36 * n + 36 then E i else 0) (fun i => E (36 * n + i)) w (wr.setCell ⟨B + 1 + 1, 36 * n + j, none⟩ (.int .u8 x))) := (HJ.out.setY (36 * n + j) x).congrY fun i _ => by
                      show (if i = 36 * n + j then x else if i < 36 * n + j then E i else if 36 * n + 4 ≤ i ∧ i < 36 * n + 36 then E i else 0) = if i < 36 * n + (j + 1) then E i else if 36 * n + 4 ≤ i ∧ i < 36 * n + 36 then E i else 0
                      by_cases h : i = 36 * n + j
                      · rw [if_pos h, if_pos (by omega), h, Hx.out]
                      · rw [if_neg h]
                        by_cases h2 : i < 36 * n + j
                        · rw [if_pos h2, if_pos (by omega)]
                        · rw [if_neg h2, if_neg (by omega : ¬ i < 36 * n + (j + 1))]
                    clear Hx HM4 HJ
                    go_wp2
                    go_roundw
                    case rel => exact ⟨j + 1, by omega, by go_num, HN⟩
                    case measure => simp [intOf]; omega
                  · obtain rfl : j = 4 := by omega
                    have HN : Hid (EdI B C F (fun j => if j < 36 * (n + 1) then E j else 0) w wr) := HJ.out.i.congr fun i _ => by
                      by_cases h2 : i < 36 * n + 4
                      · rw [if_pos h2, if_pos (by omega)]
                      · rw [if_neg h2]
                        by_cases h3 : 36 * n + 4 ≤ i ∧ i < 36 * n + 36
                        · rw [if_pos h3, if_pos (by omega)]
                        · rw [if_neg h3, if_neg (by omega)]
                    clear HJ HM4
                    go_wp2
                    go_roundw
                    case rel => exact ⟨n + 1, by omega, by go_num, HN⟩
                    case measure => simp [intOf]; omega
      · obtain rfl : n = 2 := by omega
        have HE2 : EdI B C F E w wr := HK.out.congr fun i hi => by rw [if_pos (by omega)]
        have hr := HE2.y.range
        rw [HRL.out] at hr
        have ht := HE2.o.there .u8 E
        rw [HRL.out] at ht
        have HB : Hid (Below B w wr) := HE2.below
        have hs : (wr.setCells (B + 1) 0 RL).rangeAt (B + 1) 0 RL := World.rangeAt_setCells_same wr _ 0 RL (by simpa using ht)
        have hld := run_loadVar_mid (P := Tryz.prog) (wr.setCells (B + 1) 0 RL) (B + 1) 0 26 RL _ hs Tryz.underlying26 rfl iR
        clear HE2 HK hs H1 HE HX CK cV
        go_wp2_with (first | refine wpList_load_mid rfl 26 _ rfl _ 0 rfl RL _ hr Tryz.underlying26 rfl iR ?_ | refine wpList_store_mid rfl 26 _ _ rfl _ 0 RL.toArray rfl rfl ht jR oR ?_)
        refine bodyPost_ret (v := .agg RL.toArray) ?_ rfl ⟨rfl, by first | exact belows_put (by omega) RL 0 HB.out | (rw [hB]; exact belows_put (by omega) RL 0 HB.out)⟩
        simp [results, Tryz.f10, Act.put, asAddr, hld]
theorem refEncode10_any (m : Int) (hm : m = 1 ∨ m = 2) (F : Nat → Int) (hF : Byts 64 F) (ix : Int) (p : Bool) (w : World) :
    Calls Tryz.prog 10 #[.int .i64 m, .agg (ints .u8 64 F).toArray, .int .i64 ix, .bool p] w fun e w' => e = .returned (.agg (ints .u8 72 (E10 m F ix p)).toArray) ∧ Below w.heap.size w w' := by
  rcases hm with rfl | rfl
  · have h : Enc 1 F ix p (enB F (par ix) (bt p)) := ⟨(enB_enc F _ _).byt hF, .inl ⟨rfl, enB_enc F _ _⟩⟩
    rw [← ints_congr .u8 72 _ _ (Enc.same h (E10_of h))]
    exact refEncode10_1 F hF ix p w
  · have h : Enc 2 F ix p (en2 F ix p) := ⟨(en2_enc F hF ix p).b, .inr (.inl ⟨rfl, en2_enc F hF ix p⟩)⟩
    rw [← ints_congr .u8 72 _ _ (Enc.same h (E10_of h))]
    exact refEncode10_2 F hF ix p w
end Go.Proofs.YtoimbjbdkkohcaaGreatDoor
