/-
  RsLinear.
-/
import Derived.Test.YtmkjdpokcfeieaaRsL4
namespace Go.Proofs.Ytmkjdpokcfeieaa
open Go.RowKit Go.Shelf
open Gf (gI eI dI lI)
open Po (El mu pwr ev S cf toE cv Low rts)
open Rm (al sy At IsCode)
attribute [local go_sem] Oper.semAt_some

/-- with a field beside it -/
structure LfS (B c b f : Nat) (D E G U : Nat → El) (w W : World) : Prop where
  a : ApS B c b D E G U w W
  fl : FldAt W f
section
variable {B c b f px py : Nat} {D E G U K M : Nat → El} {w W W' : World}
theorem LfS.next (h : LfS B c b f D E G U w W) (k : Below W.heap.size W W') : LfS B c b f D E G U w W' := ⟨h.a.next k, h.fl.below k⟩
theorem LfS.drew (h : LfS B c b f D E G U w W) : LfS B c b f D E G U w W.drew := h.next (below_stay (Below.refl _ W) (Stay.drewN _ W 1) (Nat.le_refl _))
theorem LfS.low (h : LfS B c b f D E G U w W) : B + 1 + 1 + 1 < W.heap.size ∧ c < W.heap.size ∧ b < W.heap.size ∧ f < W.heap.size := ⟨h.a.u.lt, h.a.code.lt, h.a.code.fld.lt, h.fl.lt⟩
theorem fld_heap {g : Nat} (h : FldAt W g) (k : W'.heap[g]? = W.heap[g]?) : FldAt W' g := h.of fun o => World.cell?_of_block (w := W) (a := ⟨g, o, none⟩) k
theorem LfS.put (h : LfS B c b f D E G U w W) {p : Nat} (hp : B + 1 + 1 + 1 < p ∧ c < p ∧ b < p ∧ f < p) (o : Nat) (vs : List Value) : LfS B c b f D E G U w (W.setCells p o vs) :=
  ⟨h.a.put ⟨hp.1, hp.2.1, hp.2.2.1⟩ o vs, fld_heap h.fl (heap_put p vs o W f (by omega))⟩
/-- and two lists of checks -/
structure LnS (B c b f px py : Nat) (D E G U K M : Nat → El) (w W : World) : Prop where
  a : ApS B c b D E G U w W
  fl : FldAt W f
  x : Blk W px 4 K
  y : Blk W py 4 M
theorem LnS.next (h : LnS B c b f px py D E G U K M w W) (k : Below W.heap.size W W') : LnS B c b f px py D E G U K M w W' := ⟨h.a.next k, h.fl.below k, h.x.next k, h.y.next k⟩
theorem LnS.drew (h : LnS B c b f px py D E G U K M w W) : LnS B c b f px py D E G U K M w W.drew := h.next (below_stay (Below.refl _ W) (Stay.drewN _ W 1) (Nat.le_refl _))
theorem LnS.drewN (h : LnS B c b f px py D E G U K M w W) (k : Nat) : LnS B c b f px py D E G U K M w (W.drewN k) := h.next (below_stay (Below.refl _ W) (Stay.drewN _ W k) (Nat.le_refl _))
theorem LnS.low (h : LnS B c b f px py D E G U K M w W) : B + 1 + 1 + 1 < W.heap.size ∧ c < W.heap.size ∧ b < W.heap.size ∧ f < W.heap.size ∧ px < W.heap.size ∧ py < W.heap.size := ⟨h.a.u.lt, h.a.code.lt, h.a.code.fld.lt, h.fl.lt, h.x.lt, h.y.lt⟩
theorem LnS.put (h : LnS B c b f px py D E G U K M w W) {p : Nat} (hp : B + 1 + 1 + 1 < p ∧ c < p ∧ b < p ∧ f < p ∧ px < p ∧ py < p) (o : Nat) (vs : List Value) : LnS B c b f px py D E G U K M w (W.setCells p o vs) :=
  ⟨h.a.put ⟨hp.1, hp.2.1, hp.2.2.1⟩ o vs, fld_heap h.fl (heap_put p vs o W f (by omega)), h.x.putOther (by omega) o vs, h.y.putOther (by omega) o vs⟩
/-- the law's own blocks lie ahead of all others -/
def Ahead (B c b f px py : Nat) : Prop := B + 1 + 1 + 1 < c ∧ B + 1 + 1 + 1 < b ∧ B + 1 + 1 + 1 < f ∧ B + 1 + 1 + 1 < px ∧ B + 1 + 1 + 1 < py
theorem LnS.set0 (h : LnS B c b f px py D E G U K M w W) (H : Ahead B c b f px py) (i : Nat) (e : El) : LnS B c b f px py (fun k => if k = i then e else D k) E G U K M w (W.setCell ⟨B, i, none⟩ (.int .u8 (oe e))) := by
  unfold Ahead at H
  have o : ∀ k, k ≠ B → (W.setCell ⟨B, i, none⟩ (.int .u8 (oe e))).heap[k]? = W.heap[k]? := fun k hk => Below.heap_setCell W ⟨B, i, none⟩ _ k hk
  exact ⟨⟨h.a.d.set i e, h.a.e.of (o _ (by omega)), h.a.v.of (o _ (by omega)), h.a.u.of (o _ (by omega)), h.a.code.of (o _ (by omega)) (o _ (by omega)), h.a.below.setCell (p := ⟨B, i, none⟩) (by simp) _⟩, fld_heap h.fl (o _ (by omega)), h.x.of (o _ (by omega)), h.y.of (o _ (by omega))⟩
theorem LnS.set1 (h : LnS B c b f px py D E G U K M w W) (H : Ahead B c b f px py) (i : Nat) (e : El) : LnS B c b f px py D (fun k => if k = i then e else E k) G U K M w (W.setCell ⟨B + 1, i, none⟩ (.int .u8 (oe e))) := by
  unfold Ahead at H
  have o : ∀ k, k ≠ B + 1 → (W.setCell ⟨B + 1, i, none⟩ (.int .u8 (oe e))).heap[k]? = W.heap[k]? := fun k hk => Below.heap_setCell W ⟨B + 1, i, none⟩ _ k hk
  exact ⟨⟨h.a.d.of (o _ (by omega)), h.a.e.set i e, h.a.v.of (o _ (by omega)), h.a.u.of (o _ (by omega)), h.a.code.of (o _ (by omega)) (o _ (by omega)), h.a.below.setCell (p := ⟨B + 1, i, none⟩) (by simp) _⟩, fld_heap h.fl (o _ (by omega)), h.x.of (o _ (by omega)), h.y.of (o _ (by omega))⟩
theorem LnS.set2 (h : LnS B c b f px py D E G U K M w W) (H : Ahead B c b f px py) (i : Nat) (e : El) : LnS B c b f px py D E (fun k => if k = i then e else G k) U K M w (W.setCell ⟨B + 1 + 1, i, none⟩ (.int .u8 (oe e))) := by
  unfold Ahead at H
  have o : ∀ k, k ≠ B + 1 + 1 → (W.setCell ⟨B + 1 + 1, i, none⟩ (.int .u8 (oe e))).heap[k]? = W.heap[k]? := fun k hk => Below.heap_setCell W ⟨B + 1 + 1, i, none⟩ _ k hk
  exact ⟨⟨h.a.d.of (o _ (by omega)), h.a.e.of (o _ (by omega)), h.a.v.set i e, h.a.u.of (o _ (by omega)), h.a.code.of (o _ (by omega)) (o _ (by omega)), h.a.below.setCell (p := ⟨B + 1 + 1, i, none⟩) (by simp; omega) _⟩, fld_heap h.fl (o _ (by omega)), h.x.of (o _ (by omega)), h.y.of (o _ (by omega))⟩
theorem LnS.set3 (h : LnS B c b f px py D E G U K M w W) (H : Ahead B c b f px py) (i : Nat) (e : El) : LnS B c b f px py D E G (fun k => if k = i then e else U k) K M w (W.setCell ⟨B + 1 + 1 + 1, i, none⟩ (.int .u8 (oe e))) := by
  unfold Ahead at H
  have o : ∀ k, k ≠ B + 1 + 1 + 1 → (W.setCell ⟨B + 1 + 1 + 1, i, none⟩ (.int .u8 (oe e))).heap[k]? = W.heap[k]? := fun k hk => Below.heap_setCell W ⟨B + 1 + 1 + 1, i, none⟩ _ k hk
  exact ⟨⟨h.a.d.of (o _ (by omega)), h.a.e.of (o _ (by omega)), h.a.v.of (o _ (by omega)), h.a.u.set i e, h.a.code.of (o _ (by omega)) (o _ (by omega)), h.a.below.setCell (p := ⟨B + 1 + 1 + 1, i, none⟩) (by simp; omega) _⟩, fld_heap h.fl (o _ (by omega)), h.x.of (o _ (by omega)), h.y.of (o _ (by omega))⟩
theorem LnS.congr (h : LnS B c b f px py D E G U K M w W) {D' E' G' U' : Nat → El} (h0 : ∀ i, i < 32 → D i = D' i) (h1 : ∀ i, i < 32 → E i = E' i) (h2 : ∀ i, i < 3 → G i = G' i) (h3 : ∀ i, i < 3 → U i = U' i) : LnS B c b f px py D' E' G' U' K M w W :=
  ⟨⟨h.a.d.congr h0, h.a.e.congr h1, h.a.v.congr h2, h.a.u.congr h3, h.a.code, h.a.below⟩, h.fl, h.x, h.y⟩
end
/-- the first k symbols times A -/
def mlU (X : Nat → El) (A : El) (k i : Nat) : El := if i < k then mu (X i) A else X i
theorem mlU_step (X : Nat → El) (A : El) (k i : Nat) : (if i = k then mu (X k) A else mlU X A k i) = mlU X A (k + 1) i := by
  unfold mlU
  by_cases h : i = k
  · rw [if_pos h, if_pos (by omega), h]
  · rw [if_neg h]
    by_cases h2 : i < k
    · rw [if_pos h2, if_pos (by omega)]
    · rw [if_neg h2, if_neg (by omega)]
theorem mlU_at (X : Nat → El) (A : El) (k : Nat) : mlU X A k k = X k := if_neg (by omega)
theorem mlU_zero (X : Nat → El) (A : El) (i : Nat) : mlU X A 0 i = X i := if_neg (by omega)
/-- checks are linear -/
theorem lin_sum {K M K2 D E G U : Nat → El} (hK : IsCode (wd (ck K D) G)) (hM : IsCode (wd (ck M E) U)) (h2 : IsCode (wd (ck K2 (xrU E D 32)) (xrU U G 3))) : ∀ i, i < 4 → K2 i = K i ^^^ M i := fun i hi => by
  have h := Rm.checks_only h2 (hK.xor hM) (fun j h4 hj => ?_) i (by omega)
  · have e : wd (ck K2 (xrU E D 32)) (xrU U G 3) i = wd (ck K D) G i ^^^ wd (ck M E) U i := h
    unfold wd ck at e
    simp only [if_pos hi, if_pos (show i < 36 by omega)] at e
    exact e
  · show wd (ck K2 (xrU E D 32)) (xrU U G 3) j = wd (ck K D) G j ^^^ wd (ck M E) U j
    unfold wd ck xrU
    by_cases h36 : j < 36
    · simp only [if_pos h36, if_neg (show ¬ j < 4 by omega), if_pos (show j - 4 < 32 by omega)]
      exact BitVec.xor_comm _ _
    · simp only [if_neg h36, if_pos (show j - 36 < 3 by omega)]
      exact BitVec.xor_comm _ _
theorem lin_mul {K K3 D G : Nat → El} {A : El} (hK : IsCode (wd (ck K D) G)) (h3 : IsCode (wd (ck K3 (mlU D A 32)) (mlU G A 3))) : ∀ i, i < 4 → K3 i = mu (K i) A := fun i hi => by
  have h := Rm.checks_only h3 (hK.scale A) (fun j h4 hj => ?_) i (by omega)
  · have e : wd (ck K3 (mlU D A 32)) (mlU G A 3) i = mu (wd (ck K D) G i) A := h
    unfold wd ck at e
    simp only [if_pos hi, if_pos (show i < 36 by omega)] at e
    exact e
  · show wd (ck K3 (mlU D A 32)) (mlU G A 3) j = mu (wd (ck K D) G j) A
    unfold wd ck mlU
    by_cases h36 : j < 36
    · simp only [if_pos h36, if_neg (show ¬ j < 4 by omega), if_pos (show j - 4 < 32 by omega)]
    · simp only [if_neg h36, if_pos (show j - 36 < 3 by omega)]

set_option maxRecDepth 100000 in
set_option maxHeartbeats 8000000 in
theorem rsLinear_core (D E G U : Nat → El) (A : El) (w : World) :
    Calls Try.prog 7 #[.agg (arr 32 D).toArray, .agg (arr 32 E).toArray, .agg (arr 3 G).toArray, .agg (arr 3 U).toArray, .int .u8 (oe A)] w fun e w' => e = .returned (.bool true) ∧ Below w.heap.size w w' := by
  have hAb := oe_bd A
  have cC : Hid (∀ (X Y : Nat → El) c b W, CdAt W c b → Calls Try.prog 21 #[.pointer (some ⟨c, 0, none⟩), .agg (arr 32 X).toArray, .agg (arr 3 Y).toArray] W fun e w' => ∃ K, e = .returned (.agg (arr 4 K).toArray) ∧ IsCode (wd (ck K X) Y) ∧ Below W.heap.size W w') := fun X Y c b W h => checks_any c b X Y W h
  obtain ⟨A0, hA0⟩ : ∃ A, arr 32 D = A := ⟨_, rfl⟩
  obtain ⟨A1, hA1⟩ : ∃ A, arr 32 E = A := ⟨_, rfl⟩
  obtain ⟨A2, hA2⟩ : ∃ A, arr 3 G = A := ⟨_, rfl⟩
  obtain ⟨A3, hA3⟩ : ∃ A, arr 3 U = A := ⟨_, rfl⟩
  have i32 : (Try.prog.info? 22).map (·.size) = some A0.length := by rw [← hA0, arr_len]; kernel_rfl
  have j32 : (Try.prog.info? 22).map (·.size) = some A1.length := by rw [← hA1, arr_len]; kernel_rfl
  have i3 : (Try.prog.info? 23).map (·.size) = some A2.length := by rw [← hA2, arr_len]; kernel_rfl
  have j3 : (Try.prog.info? 23).map (·.size) = some A3.length := by rw [← hA3, arr_len]; kernel_rfl
  have cC1 : Hid (∀ c b W, CdAt W c b → Calls Try.prog 21 #[.pointer (some ⟨c, 0, none⟩), .agg A0.toArray, .agg A2.toArray] W fun e w' => ∃ K, e = .returned (.agg (arr 4 K).toArray) ∧ IsCode (wd (ck K D) G) ∧ Below W.heap.size W w') := fun c b W h => by rw [← hA0, ← hA2]; exact cC.out D G c b W h
  have cC2 : Hid (∀ c b W, CdAt W c b → Calls Try.prog 21 #[.pointer (some ⟨c, 0, none⟩), .agg A1.toArray, .agg A3.toArray] W fun e w' => ∃ K, e = .returned (.agg (arr 4 K).toArray) ∧ IsCode (wd (ck K E) U) ∧ Below W.heap.size W w') := fun c b W h => by rw [← hA1, ← hA3]; exact cC.out E U c b W h
  rw [hA0, hA1, hA2, hA3]
  go_enter Try.func7, Try.ntmps7
  go_upto_region 1 with (fail)
  obtain ⟨B, hB⟩ : ∃ B, w.heap.size = B := ⟨_, rfl⟩
  obtain ⟨V0, hV0⟩ : ∃ V, (((w.alloc (.cells A0.toArray 22)).alloc (.cells A1.toArray 22)).alloc (.cells A2.toArray 23)).alloc (.cells A3.toArray 23) = V := ⟨_, rfl⟩
  have H0 : Hid (Blk V0 B 32 D ∧ Blk V0 (B + 1) 32 E ∧ Blk V0 (B + 1 + 1) 3 G ∧ Blk V0 (B + 1 + 1 + 1) 3 U ∧ Below B w V0) := by
    have h0 := Blk.new w 32 D 22
    have h1 := Blk.new (w.alloc (.cells A0.toArray 22)) 32 E 22
    have h2 := Blk.new ((w.alloc (.cells A0.toArray 22)).alloc (.cells A1.toArray 22)) 3 G 23
    have h3 := Blk.new (((w.alloc (.cells A0.toArray 22)).alloc (.cells A1.toArray 22)).alloc (.cells A2.toArray 23)) 3 U 23
    simp only [World.size_alloc] at h1 h2 h3
    rw [hA0] at h0
    rw [hA1] at h1
    rw [hA2] at h2
    rw [hA3] at h3
    rw [← hB, ← hV0]
    exact ⟨((h0.alloc _).alloc _).alloc _, (h1.alloc _).alloc _, h2.alloc _, h3, ((((Below.refl _ w).alloc (Nat.le_refl _) _).alloc (by simp) _).alloc (by simp; omega) _).alloc (by simp; omega) _⟩
  rw [hV0, hB]
  clear hV0
  go_upto_region 5 with (first | (go_at_call 10; refine (coded_any _).mono ?_; rintro e V1 ⟨c, b, rfl, hC, hB1, hcn, hbn⟩) | (go_at_call 20; refine (new_any _).mono ?_; rintro e V2 ⟨rfl, hV2⟩))
  obtain ⟨f, hfd⟩ : ∃ f, V1.heap.size = f := ⟨_, rfl⟩
  have b2 : Below V1.heap.size V1 V2 := by rw [hV2]; exact (Below.refl _ _).alloc (Nat.le_refl _) _
  have H1 : LfS B c b f D E G U w V2 := by
    obtain ⟨h1, h2, h3, h4, h5⟩ := H0.out
    refine ⟨ApS.next ⟨h1.next hB1, h2.next hB1, h3.next hB1, h4.next hB1, hC, h5.trans (hB1.mono (Nat.le_of_lt h1.lt))⟩ b2, ?_⟩
    rw [hV2, ← hfd]; exact fldAt_new V1 _
  have hah : B + 1 + 1 + 1 < c ∧ B + 1 + 1 + 1 < b ∧ B + 1 + 1 + 1 < f := by have := H0.out.2.2.2.1.lt; have := hB1.size; omega
  try rw [hfd]
  try rw [← hV2]
  clear H0 hC hB1 hcn hbn hV2 b2 hfd
  refine region_ends (by kernel_rfl) (fun w' => LfS B c b f D E G U w w') (fun a' w' => ∃ px py u27 u31 K M, a' = ({ tmps := #[.agg A0.toArray, .agg A1.toArray, .agg A2.toArray, .agg A3.toArray, .int .u8 (oe A), .pointer (some ⟨B, 0, none⟩), .pointer (some ⟨B + 1, 0, none⟩), .pointer (some ⟨B + 1 + 1, 0, none⟩), .pointer (some ⟨B + 1 + 1 + 1, 0, none⟩), undef, .bool false, .pointer (some ⟨c, 0, none⟩), .pointer (some ⟨f, 0, none⟩), .pointer (some ⟨px, 0, none⟩), .pointer (some ⟨py, 0, none⟩), undef, undef, undef, undef, undef, .pointer (some ⟨c, 0, none⟩), .pointer (some ⟨c, 0, none⟩), .bool false, .pointer (some ⟨f, 0, none⟩), .pointer (some ⟨c, 0, none⟩), .agg A0.toArray, .agg A2.toArray, u27, .pointer (some ⟨c, 0, none⟩), .agg A1.toArray, .agg A3.toArray, u31, undef, undef, undef, undef, undef, undef, undef, undef, undef, undef, undef, undef, undef, undef, undef, undef, undef, undef, undef, undef, undef, undef, undef, undef, undef, undef, undef, undef, undef, undef, undef, undef, undef, undef, undef, undef, undef, undef, undef, undef, undef, undef, undef, undef, undef, undef, undef, undef, undef, undef, undef, undef, undef, undef, undef, undef, undef, undef, undef, undef, undef, undef, undef, undef, undef, undef, undef, undef, undef, undef, undef, undef, undef, undef, undef], defers := [] } : Act) ∧ LnS B c b f px py D E G U K M w w' ∧ IsCode (wd (ck K D) G) ∧ IsCode (wd (ck M E) U) ∧ B + 1 + 1 + 1 < px ∧ B + 1 + 1 + 1 < py) H1.drew (fun hH => ?_) (fun a' w' hr => ?_)
  · refine take_pure 0 (v := .pointer (some ⟨c, 0, none⟩)) rfl (by kernel_rfl) rfl (fun w' hw => by simp [execOp, go_sem]) hH ?_
    show wpAnyH _ _ _ _ _ _ _ ({ tmps := #[.agg A0.toArray, .agg A1.toArray, .agg A2.toArray, .agg A3.toArray, .int .u8 (oe A), .pointer (some ⟨B, 0, none⟩), .pointer (some ⟨B + 1, 0, none⟩), .pointer (some ⟨B + 1 + 1, 0, none⟩), .pointer (some ⟨B + 1 + 1 + 1, 0, none⟩), undef, .bool false, .pointer (some ⟨c, 0, none⟩), .pointer (some ⟨f, 0, none⟩), undef, undef, undef, undef, undef, undef, undef, .pointer (some ⟨c, 0, none⟩), .pointer (some ⟨c, 0, none⟩), .bool false, .pointer (some ⟨f, 0, none⟩), .pointer (some ⟨c, 0, none⟩), undef, undef, undef, undef, undef, undef, undef, undef, undef, undef, undef, undef, undef, undef, undef, undef, undef, undef, undef, undef, undef, undef, undef, undef, undef, undef, undef, undef, undef, undef, undef, undef, undef, undef, undef, undef, undef, undef, undef, undef, undef, undef, undef, undef, undef, undef, undef, undef, undef, undef, undef, undef, undef, undef, undef, undef, undef, undef, undef, undef, undef, undef, undef, undef, undef, undef, undef, undef, undef, undef, undef, undef, undef, undef, undef, undef, undef, undef, undef, undef, undef, undef], defers := [] } : Act) _
    refine take_if 1 (v := .agg A0.toArray) rfl (by kernel_rfl) (yieldsIf_load_mid (by rfl) _ _ rfl B 0 rfl A0 _ (fun w' hw => by rw [← hA0]; exact hw.a.d.range) Try.underlying22 rfl i32) hH ?_
    show wpAnyH _ _ _ _ _ _ _ ({ tmps := #[.agg A0.toArray, .agg A1.toArray, .agg A2.toArray, .agg A3.toArray, .int .u8 (oe A), .pointer (some ⟨B, 0, none⟩), .pointer (some ⟨B + 1, 0, none⟩), .pointer (some ⟨B + 1 + 1, 0, none⟩), .pointer (some ⟨B + 1 + 1 + 1, 0, none⟩), undef, .bool false, .pointer (some ⟨c, 0, none⟩), .pointer (some ⟨f, 0, none⟩), undef, undef, undef, undef, undef, undef, undef, .pointer (some ⟨c, 0, none⟩), .pointer (some ⟨c, 0, none⟩), .bool false, .pointer (some ⟨f, 0, none⟩), .pointer (some ⟨c, 0, none⟩), .agg A0.toArray, undef, undef, undef, undef, undef, undef, undef, undef, undef, undef, undef, undef, undef, undef, undef, undef, undef, undef, undef, undef, undef, undef, undef, undef, undef, undef, undef, undef, undef, undef, undef, undef, undef, undef, undef, undef, undef, undef, undef, undef, undef, undef, undef, undef, undef, undef, undef, undef, undef, undef, undef, undef, undef, undef, undef, undef, undef, undef, undef, undef, undef, undef, undef, undef, undef, undef, undef, undef, undef, undef, undef, undef, undef, undef, undef, undef, undef, undef, undef, undef, undef], defers := [] } : Act) _
    refine take_if 2 (v := .agg A2.toArray) rfl (by kernel_rfl) (yieldsIf_load_mid (by rfl) _ _ rfl (B + 1 + 1) 0 rfl A2 _ (fun w' hw => by rw [← hA2]; exact hw.a.v.range) Try.underlying23 rfl i3) hH ?_
    show wpAnyH _ _ _ _ _ _ _ ({ tmps := #[.agg A0.toArray, .agg A1.toArray, .agg A2.toArray, .agg A3.toArray, .int .u8 (oe A), .pointer (some ⟨B, 0, none⟩), .pointer (some ⟨B + 1, 0, none⟩), .pointer (some ⟨B + 1 + 1, 0, none⟩), .pointer (some ⟨B + 1 + 1 + 1, 0, none⟩), undef, .bool false, .pointer (some ⟨c, 0, none⟩), .pointer (some ⟨f, 0, none⟩), undef, undef, undef, undef, undef, undef, undef, .pointer (some ⟨c, 0, none⟩), .pointer (some ⟨c, 0, none⟩), .bool false, .pointer (some ⟨f, 0, none⟩), .pointer (some ⟨c, 0, none⟩), .agg A0.toArray, .agg A2.toArray, undef, undef, undef, undef, undef, undef, undef, undef, undef, undef, undef, undef, undef, undef, undef, undef, undef, undef, undef, undef, undef, undef, undef, undef, undef, undef, undef, undef, undef, undef, undef, undef, undef, undef, undef, undef, undef, undef, undef, undef, undef, undef, undef, undef, undef, undef, undef, undef, undef, undef, undef, undef, undef, undef, undef, undef, undef, undef, undef, undef, undef, undef, undef, undef, undef, undef, undef, undef, undef, undef, undef, undef, undef, undef, undef, undef, undef, undef, undef, undef], defers := [] } : Act) _
    refine take_pure 4 (v := .pointer (some ⟨c, 0, none⟩)) rfl (by kernel_rfl) rfl (fun w' hw => by simp [execOp, go_sem]) hH ?_
    show wpAnyH _ _ _ _ _ _ _ ({ tmps := #[.agg A0.toArray, .agg A1.toArray, .agg A2.toArray, .agg A3.toArray, .int .u8 (oe A), .pointer (some ⟨B, 0, none⟩), .pointer (some ⟨B + 1, 0, none⟩), .pointer (some ⟨B + 1 + 1, 0, none⟩), .pointer (some ⟨B + 1 + 1 + 1, 0, none⟩), undef, .bool false, .pointer (some ⟨c, 0, none⟩), .pointer (some ⟨f, 0, none⟩), undef, undef, undef, undef, undef, undef, undef, .pointer (some ⟨c, 0, none⟩), .pointer (some ⟨c, 0, none⟩), .bool false, .pointer (some ⟨f, 0, none⟩), .pointer (some ⟨c, 0, none⟩), .agg A0.toArray, .agg A2.toArray, undef, .pointer (some ⟨c, 0, none⟩), undef, undef, undef, undef, undef, undef, undef, undef, undef, undef, undef, undef, undef, undef, undef, undef, undef, undef, undef, undef, undef, undef, undef, undef, undef, undef, undef, undef, undef, undef, undef, undef, undef, undef, undef, undef, undef, undef, undef, undef, undef, undef, undef, undef, undef, undef, undef, undef, undef, undef, undef, undef, undef, undef, undef, undef, undef, undef, undef, undef, undef, undef, undef, undef, undef, undef, undef, undef, undef, undef, undef, undef, undef, undef, undef, undef, undef, undef], defers := [] } : Act) _
    refine take_if 5 (v := .agg A1.toArray) rfl (by kernel_rfl) (yieldsIf_load_mid (by rfl) _ _ rfl (B + 1) 0 rfl A1 _ (fun w' hw => by rw [← hA1]; exact hw.a.e.range) Try.underlying22 rfl j32) hH ?_
    show wpAnyH _ _ _ _ _ _ _ ({ tmps := #[.agg A0.toArray, .agg A1.toArray, .agg A2.toArray, .agg A3.toArray, .int .u8 (oe A), .pointer (some ⟨B, 0, none⟩), .pointer (some ⟨B + 1, 0, none⟩), .pointer (some ⟨B + 1 + 1, 0, none⟩), .pointer (some ⟨B + 1 + 1 + 1, 0, none⟩), undef, .bool false, .pointer (some ⟨c, 0, none⟩), .pointer (some ⟨f, 0, none⟩), undef, undef, undef, undef, undef, undef, undef, .pointer (some ⟨c, 0, none⟩), .pointer (some ⟨c, 0, none⟩), .bool false, .pointer (some ⟨f, 0, none⟩), .pointer (some ⟨c, 0, none⟩), .agg A0.toArray, .agg A2.toArray, undef, .pointer (some ⟨c, 0, none⟩), .agg A1.toArray, undef, undef, undef, undef, undef, undef, undef, undef, undef, undef, undef, undef, undef, undef, undef, undef, undef, undef, undef, undef, undef, undef, undef, undef, undef, undef, undef, undef, undef, undef, undef, undef, undef, undef, undef, undef, undef, undef, undef, undef, undef, undef, undef, undef, undef, undef, undef, undef, undef, undef, undef, undef, undef, undef, undef, undef, undef, undef, undef, undef, undef, undef, undef, undef, undef, undef, undef, undef, undef, undef, undef, undef, undef, undef, undef, undef, undef], defers := [] } : Act) _
    refine take_if 6 (v := .agg A3.toArray) rfl (by kernel_rfl) (yieldsIf_load_mid (by rfl) _ _ rfl (B + 1 + 1 + 1) 0 rfl A3 _ (fun w' hw => by rw [← hA3]; exact hw.a.u.range) Try.underlying23 rfl j3) hH ?_
    show wpAnyH _ _ _ _ _ _ _ ({ tmps := #[.agg A0.toArray, .agg A1.toArray, .agg A2.toArray, .agg A3.toArray, .int .u8 (oe A), .pointer (some ⟨B, 0, none⟩), .pointer (some ⟨B + 1, 0, none⟩), .pointer (some ⟨B + 1 + 1, 0, none⟩), .pointer (some ⟨B + 1 + 1 + 1, 0, none⟩), undef, .bool false, .pointer (some ⟨c, 0, none⟩), .pointer (some ⟨f, 0, none⟩), undef, undef, undef, undef, undef, undef, undef, .pointer (some ⟨c, 0, none⟩), .pointer (some ⟨c, 0, none⟩), .bool false, .pointer (some ⟨f, 0, none⟩), .pointer (some ⟨c, 0, none⟩), .agg A0.toArray, .agg A2.toArray, undef, .pointer (some ⟨c, 0, none⟩), .agg A1.toArray, .agg A3.toArray, undef, undef, undef, undef, undef, undef, undef, undef, undef, undef, undef, undef, undef, undef, undef, undef, undef, undef, undef, undef, undef, undef, undef, undef, undef, undef, undef, undef, undef, undef, undef, undef, undef, undef, undef, undef, undef, undef, undef, undef, undef, undef, undef, undef, undef, undef, undef, undef, undef, undef, undef, undef, undef, undef, undef, undef, undef, undef, undef, undef, undef, undef, undef, undef, undef, undef, undef, undef, undef, undef, undef, undef, undef, undef, undef, undef], defers := [] } : Act) _
    refine anyH_eq rfl (by kernel_rfl) rfl (PairR.ff (t := 27) (n := 4) (m := 2) (c := fun k => if k = 0 then 3 else 7) (ip := 8) (iq := 9) (Lst := fun k x y => #[true, true, true, decide (0 < k), true, true, true, decide (1 < k), x, y, false, false]) (act := fun r x y => ({ tmps := #[.agg A0.toArray, .agg A1.toArray, .agg A2.toArray, .agg A3.toArray, .int .u8 (oe A), .pointer (some ⟨B, 0, none⟩), .pointer (some ⟨B + 1, 0, none⟩), .pointer (some ⟨B + 1 + 1, 0, none⟩), .pointer (some ⟨B + 1 + 1 + 1, 0, none⟩), undef, .bool false, .pointer (some ⟨c, 0, none⟩), .pointer (some ⟨f, 0, none⟩), x, y, undef, undef, undef, undef, undef, .pointer (some ⟨c, 0, none⟩), .pointer (some ⟨c, 0, none⟩), .bool false, .pointer (some ⟨f, 0, none⟩), .pointer (some ⟨c, 0, none⟩), .agg A0.toArray, .agg A2.toArray, r 0, .pointer (some ⟨c, 0, none⟩), .agg A1.toArray, .agg A3.toArray, r 1, undef, undef, undef, undef, undef, undef, undef, undef, undef, undef, undef, undef, undef, undef, undef, undef, undef, undef, undef, undef, undef, undef, undef, undef, undef, undef, undef, undef, undef, undef, undef, undef, undef, undef, undef, undef, undef, undef, undef, undef, undef, undef, undef, undef, undef, undef, undef, undef, undef, undef, undef, undef, undef, undef, undef, undef, undef, undef, undef, undef, undef, undef, undef, undef, undef, undef, undef, undef, undef, undef, undef, undef, undef, undef, undef], defers := [] } : Act)) (C := fun k r _ => ∃ K M, (0 < k → r 0 = .agg (arr 4 K).toArray ∧ IsCode (wd (ck K D) G)) ∧ (1 < k → r 1 = .agg (arr 4 M).toArray ∧ IsCode (wd (ck M E) U))) (Low := fun p => B + 1 + 1 + 1 < p ∧ c < p ∧ b < p ∧ f < p) (f0 := 2) ?hP 2 0 rfl (fun _ => undef) undef undef _ ⟨fun _ => 0, fun _ => 0, fun h => absurd h (by decide), fun h => absurd h (by decide)⟩ hH)
    case hP =>
      refine ⟨zero4, ?yhc, ⟨_, rfl, rfl, rfl, fun _ _ _ _ => rfl⟩, ⟨_, rfl, rfl, rfl, fun _ _ _ _ => rfl⟩, ?yr3, ?yr2, ?yr2', ?yr1, by kernel_rfl, by kernel_rfl, by kernel_rfl, ?yl, ?ylp, ?ylq, fun _ _ _ _ h _ => h, fun _ _ h k => h.next k, fun _ h => h.low, ?yfin⟩
      case yr3 => intro k hk; rcases (show k = 0 ∨ k = 1 by omega) with rfl | rfl <;> kernel_rfl
      case yr2 => intro k hk; rcases (show k = 0 ∨ k = 1 by omega) with rfl | rfl <;> kernel_rfl
      case yr2' => intro k hk; rcases (show k = 0 ∨ k = 1 by omega) with rfl | rfl <;> kernel_rfl
      case yr1 => intro k hk; rcases (show k = 0 ∨ k = 1 by omega) with rfl | rfl <;> kernel_rfl
      case yl => intro k x y hk; rcases (show k = 0 ∨ k = 1 by omega) with rfl | rfl <;> rfl
      case ylp => intro k y hk; rcases (show k = 0 ∨ k = 1 ∨ k = 2 by omega) with rfl | rfl | rfl <;> rfl
      case ylq => intro k x hk; rcases (show k = 0 ∨ k = 1 ∨ k = 2 by omega) with rfl | rfl | rfl <;> rfl
      case yhc =>
        intro k hk
        rcases (show k = 0 ∨ k = 1 by omega) with rfl | rfl
        · refine ⟨_, rfl, rfl, fun r x y W hC hS => ?_⟩
          obtain ⟨K, M, _, _⟩ := hC
          refine wp_contract 21 [.tmp 24, .tmp 25, .tmp 26] _ rfl (enters_of Try.func21 (by kernel_rfl) rfl) [.pointer (some ⟨c, 0, none⟩), .agg A0.toArray, .agg A2.toArray] rfl (cC1.out c b _ hS.a.code) ?_
          rintro e W' ⟨K, rfl, hK, hB1⟩
          exact ⟨_, rfl, fun i => if i = 0 then .agg (arr 4 K).toArray else r i, rfl, ⟨K, M, fun _ => ⟨rfl, hK⟩, fun h => absurd h (by decide)⟩, hB1⟩
        · refine ⟨_, rfl, rfl, fun r x y W hC hS => ?_⟩
          obtain ⟨K, M, h0, _⟩ := hC
          refine wp_contract 21 [.tmp 28, .tmp 29, .tmp 30] _ rfl (enters_of Try.func21 (by kernel_rfl) rfl) [.pointer (some ⟨c, 0, none⟩), .agg A1.toArray, .agg A3.toArray] rfl (cC2.out c b _ hS.a.code) ?_
          rintro e W' ⟨M, rfl, hM, hB1⟩
          exact ⟨_, rfl, fun i => if i = 1 then .agg (arr 4 M).toArray else r i, rfl, ⟨K, M, fun _ => h0 (by decide), fun _ => ⟨rfl, hM⟩⟩, hB1⟩
      case yfin =>
        intro r p q W hC hH gp gq hne lgp lgq
        obtain ⟨K, M, h0, h1⟩ := hC
        obtain ⟨e0, hK⟩ := h0 (by decide)
        obtain ⟨e1, hM⟩ := h1 (by decide)
        refine take_one 10 rfl rfl (by kernel_rfl) ?_
        refine wp_store_mid 27 _ _ rfl p 0 (arr 4 K).toArray rfl e0 gp.there (by rw [arr_size]; exact info4) (arr_one 4 _) ?_
        replace hH := hH.put lgp 0 (arr 4 K)
        replace gq := gq.putOther (c := p) (fun e => hne e.symm) 0 (arr 4 K)
        replace gp := gp.put K
        refine ⟨hH, fun hH => ?_⟩
        refine take_one 11 rfl rfl (by kernel_rfl) ?_
        refine wp_store_mid 27 _ _ rfl q 0 (arr 4 M).toArray rfl e1 gq.there (by rw [arr_size]; exact info4) (arr_one 4 _) ?_
        replace hH := hH.put lgq 0 (arr 4 M)
        replace gp := gp.putOther (c := q) hne 0 (arr 4 M)
        replace gq := gq.put M
        refine ⟨hH, fun hH => ?_⟩
        exact wpAnyH_done (by kernel_rfl) ⟨p, q, r 0, r 1, K, M, rfl, ⟨hH.a, hH.fl, gp, gq⟩, hK, hM, lgp.1, lgq.1⟩ _
  · obtain ⟨px, py, u27, u31, K, M, ha, hL, hK, hM, l1, l2⟩ := hr
    rw [ha]
    clear ha a'
    simp only []
    have AH : Ahead B c b f px py := ⟨hah.1, hah.2.1, hah.2.2, l1, l2⟩
    have H2 : Hid (LnS B c b f px py D E G U K M w w') := hL
    have HKM : Hid (IsCode (wd (ck K D) G) ∧ IsCode (wd (ck M E) U)) := ⟨hK, hM⟩
    have nne : B ≠ B + 1 := by omega
    have nne2 : B + 1 + 1 ≠ B + 1 + 1 + 1 := by omega
    clear hL hK hM H1 cC1 cC2 i32 j32 i3 j3
    go_wp2
    go_loopw [32] (fun i wr => ∃ k : Nat, k ≤ 32 ∧ i = .int .i64 (k : Int) ∧ Hid (LnS B c b f px py (mlU D A k) (xrU E D k) G U K M w wr)) (fun i _ => 32 - (intOf i).toNat)
    case atStart => exact ⟨0, by omega, rfl, H2.out.congr (fun i _ => (mlU_zero D A i).symm) (fun i _ => (xrU_zero E D i).symm) (fun _ _ => rfl) (fun _ _ => rfl)⟩
    case round =>
      obtain ⟨k, hk, rfl, HK⟩ := hrel
      by_cases hlt : k < 32
      · have c0 := HK.out.a.d.arr k hlt
        have c1 := HK.out.a.e.arr k hlt
        have f1 := HK.out.a.e.free k
        rw [mlU_at] at c0
        rw [xrU_at] at c1
        have ex := oe_xor (E k) (D k)
        go_wp2
        go_region
        go_upto_region 10 with (fail)
        obtain ⟨W1, hW1⟩ : ∃ V, (wr.setCell ⟨B + 1, k, none⟩ (.int .u8 (oe (E k ^^^ D k)))).drew = V := ⟨_, rfl⟩
        have h1 : LnS B c b f px py (mlU D A k) (xrU E D (k + 1)) G U K M w W1 := by
          rw [← hW1]
          exact ((HK.out.set1 AH k (E k ^^^ D k)).congr (fun _ _ => rfl) (fun i _ => xrU_step E D k i) (fun _ _ => rfl) (fun _ _ => rfl)).drew
        have c2 := h1.a.d.arr k hlt
        have f2 := h1.a.d.free k
        rw [mlU_at] at c2
        have hdb := oe_bd (D k)
        have cM : Hid (Calls Try.prog 22 #[.pointer (some ⟨f, 0, none⟩), .int .u8 (oe (D k)), .int .u8 (oe A)] W1 fun e w' => e = .returned (.int .u8 (oe (mu (D k) A))) ∧ ∃ q, w' = W1.drewN q) := by
          rw [← oe_mu]; exact mul_any f _ _ hdb.1 hdb.2 hAb.1 hAb.2 _ h1.fl
        have HE : Hid (∀ q, LnS B c b f px py (mlU D A (k + 1)) (xrU E D (k + 1)) G U K M w ((W1.drewN q).setCell ⟨B, k, none⟩ (.int .u8 (oe (mu (D k) A))))) := fun q =>
          ((h1.drewN q).set0 AH k (mu (D k) A)).congr (fun i _ => mlU_step D A k i) (fun _ _ => rfl) (fun _ _ => rfl) (fun _ _ => rfl)
        rw [hW1]
        clear hW1 h1 HK c0 c1 f1 ex
        go_wp2_with (go_at_call 22; refine (cM.out).mono ?_; rintro e w' ⟨rfl, q, rfl⟩)
        go_roundw
        case rel => exact ⟨k + 1, by omega, by go_num, HE.out _⟩
        case measure => simp [intOf]; omega
      · obtain rfl : k = 32 := by omega
        clear H2
        go_wp2
        go_loopw [52] (fun i wr => ∃ k : Nat, k ≤ 3 ∧ i = .int .i64 (k : Int) ∧ Hid (LnS B c b f px py (mlU D A 32) (xrU E D 32) (mlU G A k) (xrU U G k) K M w wr)) (fun i _ => 3 - (intOf i).toNat)
        case atStart => exact ⟨0, by omega, rfl, HK.out.congr (fun _ _ => rfl) (fun _ _ => rfl) (fun i _ => (mlU_zero G A i).symm) (fun i _ => (xrU_zero U G i).symm)⟩
        case round =>
          obtain ⟨k, hk, rfl, HK⟩ := hrel
          by_cases hlt : k < 3
          · have c0 := HK.out.a.v.arr k hlt
            have c1 := HK.out.a.u.arr k hlt
            have f1 := HK.out.a.u.free k
            rw [mlU_at] at c0
            rw [xrU_at] at c1
            have ex := oe_xor (U k) (G k)
            go_wp2
            go_region
            go_upto_region 16 with (fail)
            obtain ⟨W1, hW1⟩ : ∃ V, (wr.setCell ⟨B + 1 + 1 + 1, k, none⟩ (.int .u8 (oe (U k ^^^ G k)))).drew = V := ⟨_, rfl⟩
            have h1 : LnS B c b f px py (mlU D A 32) (xrU E D 32) (mlU G A k) (xrU U G (k + 1)) K M w W1 := by
              rw [← hW1]
              exact ((HK.out.set3 AH k (U k ^^^ G k)).congr (fun _ _ => rfl) (fun _ _ => rfl) (fun _ _ => rfl) (fun i _ => xrU_step U G k i)).drew
            have c2 := h1.a.v.arr k hlt
            have f2 := h1.a.v.free k
            rw [mlU_at] at c2
            have hdb := oe_bd (G k)
            have cM : Hid (Calls Try.prog 22 #[.pointer (some ⟨f, 0, none⟩), .int .u8 (oe (G k)), .int .u8 (oe A)] W1 fun e w' => e = .returned (.int .u8 (oe (mu (G k) A))) ∧ ∃ q, w' = W1.drewN q) := by
              rw [← oe_mu]; exact mul_any f _ _ hdb.1 hdb.2 hAb.1 hAb.2 _ h1.fl
            have HE : Hid (∀ q, LnS B c b f px py (mlU D A 32) (xrU E D 32) (mlU G A (k + 1)) (xrU U G (k + 1)) K M w ((W1.drewN q).setCell ⟨B + 1 + 1, k, none⟩ (.int .u8 (oe (mu (G k) A))))) := fun q =>
              ((h1.drewN q).set2 AH k (mu (G k) A)).congr (fun _ _ => rfl) (fun _ _ => rfl) (fun i _ => mlU_step G A k i) (fun _ _ => rfl)
            rw [hW1]
            clear hW1 h1 HK c0 c1 f1 ex
            go_wp2_with (go_at_call 22; refine (cM.out).mono ?_; rintro e w' ⟨rfl, q, rfl⟩)
            refine ⟨⟨_, _, _, _, _, _, _, _, _, _, _, _, _, _, _, _, _, _, _, _, _, ⟨k + 1, by omega, ?yn, HE.out _⟩, rfl⟩, ?ym⟩
            case yn => go_num
            case ym => simp [intOf]; omega
          · obtain rfl : k = 3 := by omega
            go_upto_region 18 with (fail)
            obtain ⟨D1, HD1⟩ : ∃ X, Hid (mlU D A 32 = X) := ⟨_, rfl⟩
            obtain ⟨E1, HE1⟩ : ∃ X, Hid (xrU E D 32 = X) := ⟨_, rfl⟩
            obtain ⟨G1, HG1⟩ : ∃ X, Hid (mlU G A 3 = X) := ⟨_, rfl⟩
            obtain ⟨U1, HU1⟩ : ∃ X, Hid (xrU U G 3 = X) := ⟨_, rfl⟩
            rw [HD1.out, HE1.out, HG1.out, HU1.out] at HK
            have HQ : LnS B c b f px py D1 E1 G1 U1 K M w wr := HK.out
            obtain ⟨L0, hL0⟩ : ∃ L, arr 32 D1 = L := ⟨_, rfl⟩
            obtain ⟨L1, hL1⟩ : ∃ L, arr 32 E1 = L := ⟨_, rfl⟩
            obtain ⟨L2, hL2⟩ : ∃ L, arr 3 G1 = L := ⟨_, rfl⟩
            obtain ⟨L3, hL3⟩ : ∃ L, arr 3 U1 = L := ⟨_, rfl⟩
            have i32 : (Try.prog.info? 22).map (·.size) = some L0.length := by rw [← hL0, arr_len]; kernel_rfl
            have j32 : (Try.prog.info? 22).map (·.size) = some L1.length := by rw [← hL1, arr_len]; kernel_rfl
            have i3 : (Try.prog.info? 23).map (·.size) = some L2.length := by rw [← hL2, arr_len]; kernel_rfl
            have j3 : (Try.prog.info? 23).map (·.size) = some L3.length := by rw [← hL3, arr_len]; kernel_rfl
            have cC1 : Hid (∀ W, CdAt W c b → Calls Try.prog 21 #[.pointer (some ⟨c, 0, none⟩), .agg L1.toArray, .agg L3.toArray] W fun e w' => ∃ K, e = .returned (.agg (arr 4 K).toArray) ∧ IsCode (wd (ck K E1) U1) ∧ Below W.heap.size W w') := fun W h => by rw [← hL1, ← hL3]; exact cC.out E1 U1 c b W h
            have cC2 : Hid (∀ W, CdAt W c b → Calls Try.prog 21 #[.pointer (some ⟨c, 0, none⟩), .agg L0.toArray, .agg L2.toArray] W fun e w' => ∃ K, e = .returned (.agg (arr 4 K).toArray) ∧ IsCode (wd (ck K D1) G1) ∧ Below W.heap.size W w') := fun W h => by rw [← hL0, ← hL2]; exact cC.out D1 G1 c b W h
            clear HK
            refine region_ends (by kernel_rfl) (fun w' => LnS B c b f px py D1 E1 G1 U1 K M w w') (fun a' w' => ∃ ps pt u75 u79 K2 K3, a' = ({ tmps := #[.agg A0.toArray, .agg A1.toArray, .agg A2.toArray, .agg A3.toArray, .int .u8 (oe A), .pointer (some ⟨B, 0, none⟩), .pointer (some ⟨B + 1, 0, none⟩), .pointer (some ⟨B + 1 + 1, 0, none⟩), .pointer (some ⟨B + 1 + 1 + 1, 0, none⟩), undef, .bool false, .pointer (some ⟨c, 0, none⟩), .pointer (some ⟨f, 0, none⟩), .pointer (some ⟨px, 0, none⟩), .pointer (some ⟨py, 0, none⟩), u15, u16, .pointer (some ⟨ps, 0, none⟩), .pointer (some ⟨pt, 0, none⟩), undef, .pointer (some ⟨c, 0, none⟩), .pointer (some ⟨c, 0, none⟩), .bool false, .pointer (some ⟨f, 0, none⟩), .pointer (some ⟨c, 0, none⟩), .agg A0.toArray, .agg A2.toArray, u27, .pointer (some ⟨c, 0, none⟩), .agg A1.toArray, .agg A3.toArray, u31, .int .i64 ((32 : Nat) : Int), .bool false, u34, u35, u36, u37, u38, u39, u40, u41, u42, u43, u44, u45, u46, u47, u48, u49, u50, u51, .int .i64 ((3 : Nat) : Int), .bool false, u54, u55, u56, u57, u58, u59, u60, u61, u62, u63, u64, u65, u66, u67, u68, u69, u70, u71, .pointer (some ⟨c, 0, none⟩), .agg L1.toArray, .agg L3.toArray, u75, .pointer (some ⟨c, 0, none⟩), .agg L0.toArray, .agg L2.toArray, u79, undef, undef, undef, undef, undef, undef, undef, undef, undef, undef, undef, undef, undef, undef, undef, undef, undef, undef, undef, undef, undef, undef, undef, undef, undef, undef, undef], defers := [] } : Act) ∧ LnS B c b f px py D1 E1 G1 U1 K M w w' ∧ Blk w' ps 4 K2 ∧ Blk w' pt 4 K3 ∧ IsCode (wd (ck K2 E1) U1) ∧ IsCode (wd (ck K3 D1) G1)) HQ.drew (fun hH => ?_) (fun a' w' hr => ?_)
            · refine take_pure 0 (v := .pointer (some ⟨c, 0, none⟩)) rfl (by kernel_rfl) rfl (fun w' hw => by simp [execOp, go_sem]) hH ?_
              show wpAnyH _ _ _ _ _ _ _ ({ tmps := #[.agg A0.toArray, .agg A1.toArray, .agg A2.toArray, .agg A3.toArray, .int .u8 (oe A), .pointer (some ⟨B, 0, none⟩), .pointer (some ⟨B + 1, 0, none⟩), .pointer (some ⟨B + 1 + 1, 0, none⟩), .pointer (some ⟨B + 1 + 1 + 1, 0, none⟩), undef, .bool false, .pointer (some ⟨c, 0, none⟩), .pointer (some ⟨f, 0, none⟩), .pointer (some ⟨px, 0, none⟩), .pointer (some ⟨py, 0, none⟩), u15, u16, undef, undef, undef, .pointer (some ⟨c, 0, none⟩), .pointer (some ⟨c, 0, none⟩), .bool false, .pointer (some ⟨f, 0, none⟩), .pointer (some ⟨c, 0, none⟩), .agg A0.toArray, .agg A2.toArray, u27, .pointer (some ⟨c, 0, none⟩), .agg A1.toArray, .agg A3.toArray, u31, .int .i64 ((32 : Nat) : Int), .bool false, u34, u35, u36, u37, u38, u39, u40, u41, u42, u43, u44, u45, u46, u47, u48, u49, u50, u51, .int .i64 ((3 : Nat) : Int), .bool false, u54, u55, u56, u57, u58, u59, u60, u61, u62, u63, u64, u65, u66, u67, u68, u69, u70, u71, .pointer (some ⟨c, 0, none⟩), undef, undef, undef, undef, undef, undef, undef, undef, undef, undef, undef, undef, undef, undef, undef, undef, undef, undef, undef, undef, undef, undef, undef, undef, undef, undef, undef, undef, undef, undef, undef, undef, undef, undef], defers := [] } : Act) _
              refine take_if 1 (v := .agg L1.toArray) rfl (by kernel_rfl) (yieldsIf_load_mid (by rfl) _ _ rfl (B + 1) 0 rfl L1 _ (fun w' hw => by rw [← hL1]; exact hw.a.e.range) Try.underlying22 rfl j32) hH ?_
              show wpAnyH _ _ _ _ _ _ _ ({ tmps := #[.agg A0.toArray, .agg A1.toArray, .agg A2.toArray, .agg A3.toArray, .int .u8 (oe A), .pointer (some ⟨B, 0, none⟩), .pointer (some ⟨B + 1, 0, none⟩), .pointer (some ⟨B + 1 + 1, 0, none⟩), .pointer (some ⟨B + 1 + 1 + 1, 0, none⟩), undef, .bool false, .pointer (some ⟨c, 0, none⟩), .pointer (some ⟨f, 0, none⟩), .pointer (some ⟨px, 0, none⟩), .pointer (some ⟨py, 0, none⟩), u15, u16, undef, undef, undef, .pointer (some ⟨c, 0, none⟩), .pointer (some ⟨c, 0, none⟩), .bool false, .pointer (some ⟨f, 0, none⟩), .pointer (some ⟨c, 0, none⟩), .agg A0.toArray, .agg A2.toArray, u27, .pointer (some ⟨c, 0, none⟩), .agg A1.toArray, .agg A3.toArray, u31, .int .i64 ((32 : Nat) : Int), .bool false, u34, u35, u36, u37, u38, u39, u40, u41, u42, u43, u44, u45, u46, u47, u48, u49, u50, u51, .int .i64 ((3 : Nat) : Int), .bool false, u54, u55, u56, u57, u58, u59, u60, u61, u62, u63, u64, u65, u66, u67, u68, u69, u70, u71, .pointer (some ⟨c, 0, none⟩), .agg L1.toArray, undef, undef, undef, undef, undef, undef, undef, undef, undef, undef, undef, undef, undef, undef, undef, undef, undef, undef, undef, undef, undef, undef, undef, undef, undef, undef, undef, undef, undef, undef, undef, undef, undef], defers := [] } : Act) _
              refine take_if 2 (v := .agg L3.toArray) rfl (by kernel_rfl) (yieldsIf_load_mid (by rfl) _ _ rfl (B + 1 + 1 + 1) 0 rfl L3 _ (fun w' hw => by rw [← hL3]; exact hw.a.u.range) Try.underlying23 rfl j3) hH ?_
              show wpAnyH _ _ _ _ _ _ _ ({ tmps := #[.agg A0.toArray, .agg A1.toArray, .agg A2.toArray, .agg A3.toArray, .int .u8 (oe A), .pointer (some ⟨B, 0, none⟩), .pointer (some ⟨B + 1, 0, none⟩), .pointer (some ⟨B + 1 + 1, 0, none⟩), .pointer (some ⟨B + 1 + 1 + 1, 0, none⟩), undef, .bool false, .pointer (some ⟨c, 0, none⟩), .pointer (some ⟨f, 0, none⟩), .pointer (some ⟨px, 0, none⟩), .pointer (some ⟨py, 0, none⟩), u15, u16, undef, undef, undef, .pointer (some ⟨c, 0, none⟩), .pointer (some ⟨c, 0, none⟩), .bool false, .pointer (some ⟨f, 0, none⟩), .pointer (some ⟨c, 0, none⟩), .agg A0.toArray, .agg A2.toArray, u27, .pointer (some ⟨c, 0, none⟩), .agg A1.toArray, .agg A3.toArray, u31, .int .i64 ((32 : Nat) : Int), .bool false, u34, u35, u36, u37, u38, u39, u40, u41, u42, u43, u44, u45, u46, u47, u48, u49, u50, u51, .int .i64 ((3 : Nat) : Int), .bool false, u54, u55, u56, u57, u58, u59, u60, u61, u62, u63, u64, u65, u66, u67, u68, u69, u70, u71, .pointer (some ⟨c, 0, none⟩), .agg L1.toArray, .agg L3.toArray, undef, undef, undef, undef, undef, undef, undef, undef, undef, undef, undef, undef, undef, undef, undef, undef, undef, undef, undef, undef, undef, undef, undef, undef, undef, undef, undef, undef, undef, undef, undef, undef], defers := [] } : Act) _
              refine take_pure 4 (v := .pointer (some ⟨c, 0, none⟩)) rfl (by kernel_rfl) rfl (fun w' hw => by simp [execOp, go_sem]) hH ?_
              show wpAnyH _ _ _ _ _ _ _ ({ tmps := #[.agg A0.toArray, .agg A1.toArray, .agg A2.toArray, .agg A3.toArray, .int .u8 (oe A), .pointer (some ⟨B, 0, none⟩), .pointer (some ⟨B + 1, 0, none⟩), .pointer (some ⟨B + 1 + 1, 0, none⟩), .pointer (some ⟨B + 1 + 1 + 1, 0, none⟩), undef, .bool false, .pointer (some ⟨c, 0, none⟩), .pointer (some ⟨f, 0, none⟩), .pointer (some ⟨px, 0, none⟩), .pointer (some ⟨py, 0, none⟩), u15, u16, undef, undef, undef, .pointer (some ⟨c, 0, none⟩), .pointer (some ⟨c, 0, none⟩), .bool false, .pointer (some ⟨f, 0, none⟩), .pointer (some ⟨c, 0, none⟩), .agg A0.toArray, .agg A2.toArray, u27, .pointer (some ⟨c, 0, none⟩), .agg A1.toArray, .agg A3.toArray, u31, .int .i64 ((32 : Nat) : Int), .bool false, u34, u35, u36, u37, u38, u39, u40, u41, u42, u43, u44, u45, u46, u47, u48, u49, u50, u51, .int .i64 ((3 : Nat) : Int), .bool false, u54, u55, u56, u57, u58, u59, u60, u61, u62, u63, u64, u65, u66, u67, u68, u69, u70, u71, .pointer (some ⟨c, 0, none⟩), .agg L1.toArray, .agg L3.toArray, undef, .pointer (some ⟨c, 0, none⟩), undef, undef, undef, undef, undef, undef, undef, undef, undef, undef, undef, undef, undef, undef, undef, undef, undef, undef, undef, undef, undef, undef, undef, undef, undef, undef, undef, undef, undef, undef], defers := [] } : Act) _
              refine take_if 5 (v := .agg L0.toArray) rfl (by kernel_rfl) (yieldsIf_load_mid (by rfl) _ _ rfl B 0 rfl L0 _ (fun w' hw => by rw [← hL0]; exact hw.a.d.range) Try.underlying22 rfl i32) hH ?_
              show wpAnyH _ _ _ _ _ _ _ ({ tmps := #[.agg A0.toArray, .agg A1.toArray, .agg A2.toArray, .agg A3.toArray, .int .u8 (oe A), .pointer (some ⟨B, 0, none⟩), .pointer (some ⟨B + 1, 0, none⟩), .pointer (some ⟨B + 1 + 1, 0, none⟩), .pointer (some ⟨B + 1 + 1 + 1, 0, none⟩), undef, .bool false, .pointer (some ⟨c, 0, none⟩), .pointer (some ⟨f, 0, none⟩), .pointer (some ⟨px, 0, none⟩), .pointer (some ⟨py, 0, none⟩), u15, u16, undef, undef, undef, .pointer (some ⟨c, 0, none⟩), .pointer (some ⟨c, 0, none⟩), .bool false, .pointer (some ⟨f, 0, none⟩), .pointer (some ⟨c, 0, none⟩), .agg A0.toArray, .agg A2.toArray, u27, .pointer (some ⟨c, 0, none⟩), .agg A1.toArray, .agg A3.toArray, u31, .int .i64 ((32 : Nat) : Int), .bool false, u34, u35, u36, u37, u38, u39, u40, u41, u42, u43, u44, u45, u46, u47, u48, u49, u50, u51, .int .i64 ((3 : Nat) : Int), .bool false, u54, u55, u56, u57, u58, u59, u60, u61, u62, u63, u64, u65, u66, u67, u68, u69, u70, u71, .pointer (some ⟨c, 0, none⟩), .agg L1.toArray, .agg L3.toArray, undef, .pointer (some ⟨c, 0, none⟩), .agg L0.toArray, undef, undef, undef, undef, undef, undef, undef, undef, undef, undef, undef, undef, undef, undef, undef, undef, undef, undef, undef, undef, undef, undef, undef, undef, undef, undef, undef, undef, undef], defers := [] } : Act) _
              refine take_if 6 (v := .agg L2.toArray) rfl (by kernel_rfl) (yieldsIf_load_mid (by rfl) _ _ rfl (B + 1 + 1) 0 rfl L2 _ (fun w' hw => by rw [← hL2]; exact hw.a.v.range) Try.underlying23 rfl i3) hH ?_
              show wpAnyH _ _ _ _ _ _ _ ({ tmps := #[.agg A0.toArray, .agg A1.toArray, .agg A2.toArray, .agg A3.toArray, .int .u8 (oe A), .pointer (some ⟨B, 0, none⟩), .pointer (some ⟨B + 1, 0, none⟩), .pointer (some ⟨B + 1 + 1, 0, none⟩), .pointer (some ⟨B + 1 + 1 + 1, 0, none⟩), undef, .bool false, .pointer (some ⟨c, 0, none⟩), .pointer (some ⟨f, 0, none⟩), .pointer (some ⟨px, 0, none⟩), .pointer (some ⟨py, 0, none⟩), u15, u16, undef, undef, undef, .pointer (some ⟨c, 0, none⟩), .pointer (some ⟨c, 0, none⟩), .bool false, .pointer (some ⟨f, 0, none⟩), .pointer (some ⟨c, 0, none⟩), .agg A0.toArray, .agg A2.toArray, u27, .pointer (some ⟨c, 0, none⟩), .agg A1.toArray, .agg A3.toArray, u31, .int .i64 ((32 : Nat) : Int), .bool false, u34, u35, u36, u37, u38, u39, u40, u41, u42, u43, u44, u45, u46, u47, u48, u49, u50, u51, .int .i64 ((3 : Nat) : Int), .bool false, u54, u55, u56, u57, u58, u59, u60, u61, u62, u63, u64, u65, u66, u67, u68, u69, u70, u71, .pointer (some ⟨c, 0, none⟩), .agg L1.toArray, .agg L3.toArray, undef, .pointer (some ⟨c, 0, none⟩), .agg L0.toArray, .agg L2.toArray, undef, undef, undef, undef, undef, undef, undef, undef, undef, undef, undef, undef, undef, undef, undef, undef, undef, undef, undef, undef, undef, undef, undef, undef, undef, undef, undef, undef], defers := [] } : Act) _
              refine anyH_eq rfl (by kernel_rfl) rfl (PairR.ff (t := 27) (n := 4) (m := 2) (c := fun k => if k = 0 then 3 else 7) (ip := 8) (iq := 9) (Lst := fun k x y => #[true, true, true, decide (0 < k), true, true, true, decide (1 < k), x, y, false, false]) (act := fun r x y => ({ tmps := #[.agg A0.toArray, .agg A1.toArray, .agg A2.toArray, .agg A3.toArray, .int .u8 (oe A), .pointer (some ⟨B, 0, none⟩), .pointer (some ⟨B + 1, 0, none⟩), .pointer (some ⟨B + 1 + 1, 0, none⟩), .pointer (some ⟨B + 1 + 1 + 1, 0, none⟩), undef, .bool false, .pointer (some ⟨c, 0, none⟩), .pointer (some ⟨f, 0, none⟩), .pointer (some ⟨px, 0, none⟩), .pointer (some ⟨py, 0, none⟩), u15, u16, x, y, undef, .pointer (some ⟨c, 0, none⟩), .pointer (some ⟨c, 0, none⟩), .bool false, .pointer (some ⟨f, 0, none⟩), .pointer (some ⟨c, 0, none⟩), .agg A0.toArray, .agg A2.toArray, u27, .pointer (some ⟨c, 0, none⟩), .agg A1.toArray, .agg A3.toArray, u31, .int .i64 ((32 : Nat) : Int), .bool false, u34, u35, u36, u37, u38, u39, u40, u41, u42, u43, u44, u45, u46, u47, u48, u49, u50, u51, .int .i64 ((3 : Nat) : Int), .bool false, u54, u55, u56, u57, u58, u59, u60, u61, u62, u63, u64, u65, u66, u67, u68, u69, u70, u71, .pointer (some ⟨c, 0, none⟩), .agg L1.toArray, .agg L3.toArray, r 0, .pointer (some ⟨c, 0, none⟩), .agg L0.toArray, .agg L2.toArray, r 1, undef, undef, undef, undef, undef, undef, undef, undef, undef, undef, undef, undef, undef, undef, undef, undef, undef, undef, undef, undef, undef, undef, undef, undef, undef, undef, undef], defers := [] } : Act)) (C := fun k r _ => ∃ K M, (0 < k → r 0 = .agg (arr 4 K).toArray ∧ IsCode (wd (ck K E1) U1)) ∧ (1 < k → r 1 = .agg (arr 4 M).toArray ∧ IsCode (wd (ck M D1) G1))) (Low := fun p => B + 1 + 1 + 1 < p ∧ c < p ∧ b < p ∧ f < p ∧ px < p ∧ py < p) (f0 := 2) ?hP 2 0 rfl (fun _ => undef) undef undef _ ⟨fun _ => 0, fun _ => 0, fun h => absurd h (by decide), fun h => absurd h (by decide)⟩ hH)
              case hP =>
                refine ⟨zero4, ?yhc, ⟨_, rfl, rfl, rfl, fun _ _ _ _ => rfl⟩, ⟨_, rfl, rfl, rfl, fun _ _ _ _ => rfl⟩, ?yr3, ?yr2, ?yr2', ?yr1, by kernel_rfl, by kernel_rfl, by kernel_rfl, ?yl, ?ylp, ?ylq, fun _ _ _ _ h _ => h, fun _ _ h k => h.next k, fun _ h => h.low, ?yfin⟩
                case yr3 => intro k hk; rcases (show k = 0 ∨ k = 1 by omega) with rfl | rfl <;> kernel_rfl
                case yr2 => intro k hk; rcases (show k = 0 ∨ k = 1 by omega) with rfl | rfl <;> kernel_rfl
                case yr2' => intro k hk; rcases (show k = 0 ∨ k = 1 by omega) with rfl | rfl <;> kernel_rfl
                case yr1 => intro k hk; rcases (show k = 0 ∨ k = 1 by omega) with rfl | rfl <;> kernel_rfl
                case yl => intro k x y hk; rcases (show k = 0 ∨ k = 1 by omega) with rfl | rfl <;> rfl
                case ylp => intro k y hk; rcases (show k = 0 ∨ k = 1 ∨ k = 2 by omega) with rfl | rfl | rfl <;> rfl
                case ylq => intro k x hk; rcases (show k = 0 ∨ k = 1 ∨ k = 2 by omega) with rfl | rfl | rfl <;> rfl
                case yhc =>
                  intro k hk
                  rcases (show k = 0 ∨ k = 1 by omega) with rfl | rfl
                  · refine ⟨_, rfl, rfl, fun r x y W hC hS => ?_⟩
                    obtain ⟨K, M, _, _⟩ := hC
                    refine wp_contract 21 [.tmp 72, .tmp 73, .tmp 74] _ rfl (enters_of Try.func21 (by kernel_rfl) rfl) [.pointer (some ⟨c, 0, none⟩), .agg L1.toArray, .agg L3.toArray] rfl (cC1.out _ hS.a.code) ?_
                    rintro e W' ⟨K, rfl, hK, hB1⟩
                    exact ⟨_, rfl, fun i => if i = 0 then .agg (arr 4 K).toArray else r i, rfl, ⟨K, M, fun _ => ⟨rfl, hK⟩, fun h => absurd h (by decide)⟩, hB1⟩
                  · refine ⟨_, rfl, rfl, fun r x y W hC hS => ?_⟩
                    obtain ⟨K, M, h0, _⟩ := hC
                    refine wp_contract 21 [.tmp 76, .tmp 77, .tmp 78] _ rfl (enters_of Try.func21 (by kernel_rfl) rfl) [.pointer (some ⟨c, 0, none⟩), .agg L0.toArray, .agg L2.toArray] rfl (cC2.out _ hS.a.code) ?_
                    rintro e W' ⟨M, rfl, hM, hB1⟩
                    exact ⟨_, rfl, fun i => if i = 1 then .agg (arr 4 M).toArray else r i, rfl, ⟨K, M, fun _ => h0 (by decide), fun _ => ⟨rfl, hM⟩⟩, hB1⟩
                case yfin =>
                  intro r p q W hC hH gp gq hne lgp lgq
                  obtain ⟨K, M, h0, h1⟩ := hC
                  obtain ⟨e0, hK⟩ := h0 (by decide)
                  obtain ⟨e1, hM⟩ := h1 (by decide)
                  refine take_one 10 rfl rfl (by kernel_rfl) ?_
                  refine wp_store_mid 27 _ _ rfl p 0 (arr 4 K).toArray rfl e0 gp.there (by rw [arr_size]; exact info4) (arr_one 4 _) ?_
                  replace hH := hH.put lgp 0 (arr 4 K)
                  replace gq := gq.putOther (c := p) (fun e => hne e.symm) 0 (arr 4 K)
                  replace gp := gp.put K
                  refine ⟨hH, fun hH => ?_⟩
                  refine take_one 11 rfl rfl (by kernel_rfl) ?_
                  refine wp_store_mid 27 _ _ rfl q 0 (arr 4 M).toArray rfl e1 gq.there (by rw [arr_size]; exact info4) (arr_one 4 _) ?_
                  replace hH := hH.put lgq 0 (arr 4 M)
                  replace gp := gp.putOther (c := q) hne 0 (arr 4 M)
                  replace gq := gq.put M
                  refine ⟨hH, fun hH => ?_⟩
                  exact wpAnyH_done (by kernel_rfl) ⟨p, q, r 0, r 1, K, M, rfl, hH, gp, gq, hK, hM⟩ _
            · obtain ⟨ps, pt, u75, u79, K2, K3, ha, hL, gs, gt, h2, h3⟩ := hr
              rw [ha]
              clear ha a'
              simp only []
              rw [← HE1.out, ← HU1.out] at h2
              rw [← HD1.out, ← HG1.out] at h3
              have e2 := lin_sum HKM.out.1 HKM.out.2 h2
              have e3 := lin_mul HKM.out.1 h3
              have H6 : Hid (LnS B c b f px py D1 E1 G1 U1 K M w w' ∧ Blk w' ps 4 (fun i => K i ^^^ M i) ∧ Blk w' pt 4 (fun i => mu (K i) A)) := ⟨hL, gs.congr e2, gt.congr e3⟩
              clear hL gs gt h2 h3 e2 e3 HQ cC1 cC2 i32 j32 i3 j3 hL0 hL1 hL2 hL3
              go_wp2
              go_loopw [80] (fun i wr => ∃ k : Nat, k ≤ 4 ∧ i = .int .i64 (k : Int) ∧ Hid (LnS B c b f px py D1 E1 G1 U1 K M w wr ∧ Blk wr ps 4 (fun i => K i ^^^ M i) ∧ Blk wr pt 4 (fun i => mu (K i) A))) (fun i _ => 4 - (intOf i).toNat)
              case atStart => exact ⟨0, by omega, rfl, H6.out⟩
              case round =>
                obtain ⟨k, hk, rfl, HK⟩ := hrel
                by_cases hlt : k < 4
                · have c0 := HK.out.1.x.arr k hlt
                  have c1 := HK.out.1.y.arr k hlt
                  have c2 := HK.out.2.1.arr k hlt
                  have c3 := HK.out.2.2.arr k hlt
                  have ex := oe_xor (K k) (M k)
                  have hkb := oe_bd (K k)
                  have cM : Hid (∀ n, Calls Try.prog 22 #[.pointer (some ⟨f, 0, none⟩), .int .u8 (oe (K k)), .int .u8 (oe A)] (wr.drewN n) fun e w' => e = .returned (.int .u8 (oe (mu (K k) A))) ∧ ∃ q, w' = (wr.drewN n).drewN q) := fun n => by
                    rw [← oe_mu]; exact mul_any f _ _ hkb.1 hkb.2 hAb.1 hAb.2 _ (HK.out.1.fl.drewN n)
                  have HE : Hid (∀ n, LnS B c b f px py D1 E1 G1 U1 K M w (wr.drewN n) ∧ Blk (wr.drewN n) ps 4 (fun i => K i ^^^ M i) ∧ Blk (wr.drewN n) pt 4 (fun i => mu (K i) A)) := fun n => ⟨HK.out.1.drewN n, HK.out.2.1.drewN n, HK.out.2.2.drewN n⟩
                  obtain ⟨v0, hv0⟩ : ∃ v, oe (K k) = v := ⟨_, rfl⟩
                  obtain ⟨v1, hv1⟩ : ∃ v, oe (M k) = v := ⟨_, rfl⟩
                  obtain ⟨v2, hv2⟩ : ∃ v, oe (K k ^^^ M k) = v := ⟨_, rfl⟩
                  obtain ⟨v3, hv3⟩ : ∃ v, oe (mu (K k) A) = v := ⟨_, rfl⟩
                  rw [hv0, hv1, hv2] at ex
                  rw [hv0, hv3] at cM
                  rw [hv0] at c0
                  rw [hv1] at c1
                  rw [hv2] at c2
                  rw [hv3] at c3
                  clear HK hkb hv0 hv1 hv2 hv3
                  go_wp2
                  go_quiet ((go_at_call 22; exact Calls.quiet_of (cM.out _)))
                  go_wp2
                  go_roundw
                  case rel => exact ⟨k + 1, by omega, by go_num, HE.out _⟩
                  case measure => simp [intOf]; omega
                · obtain rfl : k = 4 := by omega
                  have HB : Hid (Below B w wr) := HK.out.1.a.below
                  clear HK H6
                  go_wp2
                  go_ret
                  exact ⟨rfl, by first | exact HB.out | (rw [hB]; exact HB.out)⟩
theorem rsLinear_walk (a0 : Nat → Int) (a1 : Nat → Int) (a2 : Nat → Int) (a3 : Nat → Int) (a4 : Int) (w0 : ∀ i, i < 32 → (Lit.int .u8 (a0 i)).wf = true) (w1 : ∀ i, i < 32 → (Lit.int .u8 (a1 i)).wf = true) (w2 : ∀ i, i < 3 → (Lit.int .u8 (a2 i)).wf = true) (w3 : ∀ i, i < 3 → (Lit.int .u8 (a3 i)).wf = true) (w4 : (Lit.int .u8 a4).wf = true) (w : World) :
    Calls Try.prog 7 #[.agg (ints .u8 32 a0).toArray, .agg (ints .u8 32 a1).toArray, .agg (ints .u8 3 a2).toArray, .agg (ints .u8 3 a3).toArray, .int .u8 a4] w fun e w' => e = .returned (.bool true) ∧ Below w.heap.size w w' := by
  have hb := bounds_u8 w4
  rw [ints_arr 32 a0 w0, ints_arr 32 a1 w1, ints_arr 3 a2 w2, ints_arr 3 a3 w3, ← show oe (toE a4) = a4 from ofE_toE _ (by omega) (by omega)]
  exact rsLinear_core _ _ _ _ _ w
end Go.Proofs.Ytmkjdpokcfeieaa
