/-
  RsApart.
-/
import Derived.Test.YtmkjdpokcfeieaaRsL3
import Derived.Test.YtmkjdpokcfeieaaPairReg
namespace Go.Proofs.Ytmkjdpokcfeieaa
open Go.RowKit Go.Shelf
open Gf (gI eI dI lI)
open Po (El mu pwr ev S cf toE cv Low rts)
open Rm (al sy At IsCode)
attribute [local go_sem] Oper.semAt_some

/-- while RsApart works: two lists of data, two of virtual symbols -/
structure ApS (B c b : Nat) (D E G U : Nat → El) (w W : World) : Prop where
  d : Blk W B 32 D
  e : Blk W (B + 1) 32 E
  v : Blk W (B + 1 + 1) 3 G
  u : Blk W (B + 1 + 1 + 1) 3 U
  code : CdAt W c b
  below : Below B w W
theorem ApS.next {B c b : Nat} {D E G U : Nat → El} {w W W' : World} (h : ApS B c b D E G U w W) (k : Below W.heap.size W W') : ApS B c b D E G U w W' :=
  ⟨h.d.next k, h.e.next k, h.v.next k, h.u.next k, h.code.next k, h.below.trans (k.mono (Nat.le_of_lt h.d.lt))⟩
theorem ApS.drew {B c b : Nat} {D E G U : Nat → El} {w W : World} (h : ApS B c b D E G U w W) : ApS B c b D E G U w W.drew := h.next (below_stay (Below.refl _ W) (Stay.drewN _ W 1) (Nat.le_refl _))

theorem ApS.low {B c b : Nat} {D E G U : Nat → El} {w W : World} (h : ApS B c b D E G U w W) : B + 1 + 1 + 1 < W.heap.size ∧ c < W.heap.size ∧ b < W.heap.size := ⟨h.u.lt, h.code.lt, h.code.fld.lt⟩
theorem ApS.put {B c b : Nat} {D E G U : Nat → El} {w W : World} (h : ApS B c b D E G U w W) {p : Nat} (hp : B + 1 + 1 + 1 < p ∧ c < p ∧ b < p) (o : Nat) (vs : List Value) : ApS B c b D E G U w (W.setCells p o vs) :=
  ⟨h.d.putOther (by omega) o vs, h.e.putOther (by omega) o vs, h.v.putOther (by omega) o vs, h.u.putOther (by omega) o vs, h.code.of (heap_put p vs o W c (by omega)) (heap_put p vs o W b (by omega)), below_puts h.below (by omega) o vs⟩
/-- how many of the first k symbols are unlike -/
def df (X Y : Nat → El) : Nat → Nat
  | 0 => 0
  | k + 1 => df X Y k + (if X k = Y k then 0 else 1)
theorem df_le (X Y : Nat → El) : ∀ k, df X Y k ≤ k
  | 0 => Nat.le_refl _
  | k + 1 => by
    have := df_le X Y k
    show df X Y k + (if X k = Y k then 0 else 1) ≤ k + 1
    split <;> omega
theorem df_supp (X Y : Nat → El) : ∀ k, (Rm.supp k fun i => X i ^^^ Y i).length = df X Y k
  | 0 => rfl
  | k + 1 => by
    show _ = df X Y k + (if X k = Y k then 0 else 1)
    by_cases h : X k = Y k
    · rw [Rm.supp_no k _ (by show X k ^^^ Y k = 0; rw [h, Po.xor_self']), df_supp X Y k, if_pos h]; rfl
    · rw [Rm.supp_yes k _ (fun e => h (Po.xor_eq_zero e)), List.length_append, df_supp X Y k, if_neg h]; rfl
theorem df_zero (X Y : Nat → El) (k : Nat) (h : ∀ i, i < k → X i = Y i) : df X Y k = 0 := by
  induction k with
  | zero => rfl
  | succ k ih =>
    show df X Y k + (if X k = Y k then 0 else 1) = 0
    rw [ih (fun i hi => h i (by omega)), if_pos (h k (by omega))]
theorem ap_ways {X Y : Nat → El} (hX : IsCode X) (hY : IsCode Y) : (df X Y 39 = 0 ∧ ∀ i, i < 39 → X i = Y i) ∨ 5 ≤ df X Y 39 := by
  by_cases h : 5 ≤ df X Y 39
  · exact .inr h
  · have he := Rm.apart hX hY (by rw [df_supp]; omega)
    exact .inl ⟨df_zero X Y 39 he, he⟩
/-- a load of an array that a guard lets by -/
theorem wpList_load_mid_g {P : Program} {ops : Array Oper} {rest : List Oper} {op : Oper} {a : Act} {w : World} {Q : Exit → Act → World → Prop} (hw : Region.wanted op (yielded ops a.tmps) = true) (ty : TypeId) (x : Operand) (ho : op.op = .load ty x)
    (b o : Nat) (hx : a.eval x = .pointer (some ⟨b, o, none⟩)) (cs : List Value) (d : TypeDesc) (hc : w.rangeAt b o cs)
    (hu : P.underlying ty = some d) (hd : d.isRow = true) (hi : (P.info? ty).map (·.size) = some cs.length)
    (h : wpList P ops Q rest (a.put op.dst (.agg cs.toArray)) w) : wpList P ops Q (op :: rest) a w :=
  wpList_step fun K hK => by rw [if_pos hw]; exact wp_load_mid ty x ho b o hx cs d hc hu hd hi (hK _ _ h)
theorem arr_size (n : Nat) (F : Nat → El) : (arr n F).toArray.size = n := by simp [arr_len]

set_option maxRecDepth 100000 in
set_option maxHeartbeats 8000000 in
theorem rsApart_core (D E G U : Nat → El) (w : World) :
    Calls Try.prog 8 #[.agg (arr 32 D).toArray, .agg (arr 32 E).toArray, .agg (arr 3 G).toArray, .agg (arr 3 U).toArray] w fun e w' => e = .returned (.bool true) ∧ Below w.heap.size w w' := by
  have cW1 : Hid (∀ c b W, CdAt W c b → Calls Try.prog 13 #[.pointer (some ⟨c, 0, none⟩), .agg (arr 32 D).toArray, .agg (arr 3 G).toArray] W fun e w' => ∃ K, e = .returned (.agg (arr 36 (ck K D)).toArray) ∧ IsCode (wd (ck K D) G) ∧ Below W.heap.size W w') := fun c b W h => word_any c b D G W h
  have cW2 : Hid (∀ c b W, CdAt W c b → Calls Try.prog 13 #[.pointer (some ⟨c, 0, none⟩), .agg (arr 32 E).toArray, .agg (arr 3 U).toArray] W fun e w' => ∃ K, e = .returned (.agg (arr 36 (ck K E)).toArray) ∧ IsCode (wd (ck K E) U) ∧ Below W.heap.size W w') := fun c b W h => word_any c b E U W h
  have cR1 : Hid (∀ K W, Calls Try.prog 12 #[.agg (arr 36 K).toArray, .agg (arr 3 G).toArray] W fun e w' => e = .returned (.agg (arr 39 (wd K G)).toArray) ∧ Below W.heap.size W w') := fun K W => refWord_any K G W
  have cR2 : Hid (∀ K W, Calls Try.prog 12 #[.agg (arr 36 K).toArray, .agg (arr 3 U).toArray] W fun e w' => e = .returned (.agg (arr 39 (wd K U)).toArray) ∧ Below W.heap.size W w') := fun K W => refWord_any K U W
  obtain ⟨A0, hA0⟩ : ∃ A, arr 32 D = A := ⟨_, rfl⟩
  obtain ⟨A1, hA1⟩ : ∃ A, arr 32 E = A := ⟨_, rfl⟩
  obtain ⟨A2, hA2⟩ : ∃ A, arr 3 G = A := ⟨_, rfl⟩
  obtain ⟨A3, hA3⟩ : ∃ A, arr 3 U = A := ⟨_, rfl⟩
  have i32 : (Try.prog.info? 22).map (·.size) = some A0.length := by rw [← hA0, arr_len]; kernel_rfl
  have j32 : (Try.prog.info? 22).map (·.size) = some A1.length := by rw [← hA1, arr_len]; kernel_rfl
  have i3 : (Try.prog.info? 23).map (·.size) = some A2.length := by rw [← hA2, arr_len]; kernel_rfl
  have j3 : (Try.prog.info? 23).map (·.size) = some A3.length := by rw [← hA3, arr_len]; kernel_rfl
  rw [hA0, hA2] at cW1
  rw [hA1, hA3] at cW2
  rw [hA2] at cR1
  rw [hA3] at cR2
  rw [hA0, hA1, hA2, hA3]
  go_enter Try.func8, Try.ntmps8
  go_upto_region 1 with (fail)
  obtain ⟨B, hB⟩ : ∃ B, w.heap.size = B := ⟨_, rfl⟩
  obtain ⟨V0, hV0⟩ : ∃ V, (((w.alloc (.cells A0.toArray 22)).alloc (.cells A1.toArray 22)).alloc (.cells A2.toArray 23)).alloc (.cells A3.toArray 23) = V := ⟨_, rfl⟩
  have H0 : Hid (Blk V0 B 32 D ∧ Blk V0 (B + 1) 32 E ∧ Blk V0 (B + 1 + 1) 3 G ∧ Blk V0 (B + 1 + 1 + 1) 3 U ∧ Below B w V0) := by
    have h0 := Blk.new w 32 D 22
    have h1 := Blk.new (w.alloc (.cells A0.toArray 22)) 32 E 22
    have h2 := Blk.new ((w.alloc (.cells A0.toArray 22)).alloc (.cells A1.toArray 22)) 3 G 23
    have h3 := Blk.new (((w.alloc (.cells A0.toArray 22)).alloc (.cells A1.toArray 22)).alloc (.cells A2.toArray 23)) 3 U 23
    simp only [World.size_alloc] at h1 h2 h3
    rw [hA0] at h0
    rw [hA1] at h1
    rw [hA2] at h2
    rw [hA3] at h3
    rw [← hB, ← hV0]
    exact ⟨((h0.alloc _).alloc _).alloc _, (h1.alloc _).alloc _, h2.alloc _, h3, ((((Below.refl _ w).alloc (Nat.le_refl _) _).alloc (by simp) _).alloc (by simp; omega) _).alloc (by simp; omega) _⟩
  rw [hV0, hB]
  clear hV0
  go_upto_region 4 with (go_at_call 10; refine (coded_any _).mono ?_; rintro e V1 ⟨c, b, rfl, hC, hB1, hcn, hbn⟩)
  have H1 : ApS B c b D E G U w V1 := by
    obtain ⟨h1, h2, h3, h4, h5⟩ := H0.out
    exact ⟨h1.next hB1, h2.next hB1, h3.next hB1, h4.next hB1, hC, h5.trans (hB1.mono (Nat.le_of_lt h1.lt))⟩
  clear H0 hC hB1 hcn hbn
  refine region_ends (by kernel_rfl) (fun w' => ApS B c b D E G U w w') (fun a' w' => ∃ p q u20 u22 u26 u28 K M, a' = ({ tmps := #[.agg A0.toArray, .agg A1.toArray, .agg A2.toArray, .agg A3.toArray, .pointer (some ⟨B, 0, none⟩), .pointer (some ⟨B + 1, 0, none⟩), .pointer (some ⟨B + 1 + 1, 0, none⟩), .pointer (some ⟨B + 1 + 1 + 1, 0, none⟩), .bool false, .pointer (some ⟨c, 0, none⟩), .pointer (some ⟨p, 0, none⟩), .pointer (some ⟨q, 0, none⟩), undef, undef, .pointer (some ⟨c, 0, none⟩), .pointer (some ⟨c, 0, none⟩), .bool false, .pointer (some ⟨c, 0, none⟩), .agg A0.toArray, .agg A2.toArray, u20, .agg A2.toArray, u22, .pointer (some ⟨c, 0, none⟩), .agg A1.toArray, .agg A3.toArray, u26, .agg A3.toArray, u28, undef, undef, undef, undef, undef, undef, undef, undef, undef, undef, undef, undef, undef, undef, undef, undef, undef, undef, undef, undef, undef, undef, undef, undef, undef, undef, undef, undef, undef], defers := [] } : Act) ∧ Blk w' p 39 (wd (ck K D) G) ∧ Blk w' q 39 (wd (ck M E) U) ∧ IsCode (wd (ck K D) G) ∧ IsCode (wd (ck M E) U) ∧ ApS B c b D E G U w w') H1.drew (fun hH => ?_) (fun a' w' hr => ?_)
  · refine take_pure 0 (v := .pointer (some ⟨c, 0, none⟩)) rfl (by kernel_rfl) rfl (fun w' hw => by simp [execOp, go_sem]) hH ?_
    show wpAnyH _ _ _ _ _ _ _ ({ tmps := #[.agg A0.toArray, .agg A1.toArray, .agg A2.toArray, .agg A3.toArray, .pointer (some ⟨B, 0, none⟩), .pointer (some ⟨B + 1, 0, none⟩), .pointer (some ⟨B + 1 + 1, 0, none⟩), .pointer (some ⟨B + 1 + 1 + 1, 0, none⟩), .bool false, .pointer (some ⟨c, 0, none⟩), undef, undef, undef, undef, .pointer (some ⟨c, 0, none⟩), .pointer (some ⟨c, 0, none⟩), .bool false, .pointer (some ⟨c, 0, none⟩), undef, undef, undef, undef, undef, undef, undef, undef, undef, undef, undef, undef, undef, undef, undef, undef, undef, undef, undef, undef, undef, undef, undef, undef, undef, undef, undef, undef, undef, undef, undef, undef, undef, undef, undef, undef, undef, undef, undef, undef], defers := [] } : Act) _
    refine take_if 1 (v := .agg A0.toArray) rfl (by kernel_rfl) (yieldsIf_load_mid (by rfl) _ _ rfl B 0 rfl A0 _ (fun w' hw => by rw [← hA0]; exact hw.d.range) Try.underlying22 rfl i32) hH ?_
    show wpAnyH _ _ _ _ _ _ _ ({ tmps := #[.agg A0.toArray, .agg A1.toArray, .agg A2.toArray, .agg A3.toArray, .pointer (some ⟨B, 0, none⟩), .pointer (some ⟨B + 1, 0, none⟩), .pointer (some ⟨B + 1 + 1, 0, none⟩), .pointer (some ⟨B + 1 + 1 + 1, 0, none⟩), .bool false, .pointer (some ⟨c, 0, none⟩), undef, undef, undef, undef, .pointer (some ⟨c, 0, none⟩), .pointer (some ⟨c, 0, none⟩), .bool false, .pointer (some ⟨c, 0, none⟩), .agg A0.toArray, undef, undef, undef, undef, undef, undef, undef, undef, undef, undef, undef, undef, undef, undef, undef, undef, undef, undef, undef, undef, undef, undef, undef, undef, undef, undef, undef, undef, undef, undef, undef, undef, undef, undef, undef, undef, undef, undef, undef], defers := [] } : Act) _
    refine take_if 2 (v := .agg A2.toArray) rfl (by kernel_rfl) (yieldsIf_load_mid (by rfl) _ _ rfl (B + 1 + 1) 0 rfl A2 _ (fun w' hw => by rw [← hA2]; exact hw.v.range) Try.underlying23 rfl i3) hH ?_
    show wpAnyH _ _ _ _ _ _ _ ({ tmps := #[.agg A0.toArray, .agg A1.toArray, .agg A2.toArray, .agg A3.toArray, .pointer (some ⟨B, 0, none⟩), .pointer (some ⟨B + 1, 0, none⟩), .pointer (some ⟨B + 1 + 1, 0, none⟩), .pointer (some ⟨B + 1 + 1 + 1, 0, none⟩), .bool false, .pointer (some ⟨c, 0, none⟩), undef, undef, undef, undef, .pointer (some ⟨c, 0, none⟩), .pointer (some ⟨c, 0, none⟩), .bool false, .pointer (some ⟨c, 0, none⟩), .agg A0.toArray, .agg A2.toArray, undef, undef, undef, undef, undef, undef, undef, undef, undef, undef, undef, undef, undef, undef, undef, undef, undef, undef, undef, undef, undef, undef, undef, undef, undef, undef, undef, undef, undef, undef, undef, undef, undef, undef, undef, undef, undef, undef], defers := [] } : Act) _
    refine take_if 4 (v := .agg A2.toArray) rfl (by kernel_rfl) (yieldsIf_load_mid (by rfl) _ _ rfl (B + 1 + 1) 0 rfl A2 _ (fun w' hw => by rw [← hA2]; exact hw.v.range) Try.underlying23 rfl i3) hH ?_
    show wpAnyH _ _ _ _ _ _ _ ({ tmps := #[.agg A0.toArray, .agg A1.toArray, .agg A2.toArray, .agg A3.toArray, .pointer (some ⟨B, 0, none⟩), .pointer (some ⟨B + 1, 0, none⟩), .pointer (some ⟨B + 1 + 1, 0, none⟩), .pointer (some ⟨B + 1 + 1 + 1, 0, none⟩), .bool false, .pointer (some ⟨c, 0, none⟩), undef, undef, undef, undef, .pointer (some ⟨c, 0, none⟩), .pointer (some ⟨c, 0, none⟩), .bool false, .pointer (some ⟨c, 0, none⟩), .agg A0.toArray, .agg A2.toArray, undef, .agg A2.toArray, undef, undef, undef, undef, undef, undef, undef, undef, undef, undef, undef, undef, undef, undef, undef, undef, undef, undef, undef, undef, undef, undef, undef, undef, undef, undef, undef, undef, undef, undef, undef, undef, undef, undef, undef, undef], defers := [] } : Act) _
    refine take_pure 6 (v := .pointer (some ⟨c, 0, none⟩)) rfl (by kernel_rfl) rfl (fun w' hw => by simp [execOp, go_sem]) hH ?_
    show wpAnyH _ _ _ _ _ _ _ ({ tmps := #[.agg A0.toArray, .agg A1.toArray, .agg A2.toArray, .agg A3.toArray, .pointer (some ⟨B, 0, none⟩), .pointer (some ⟨B + 1, 0, none⟩), .pointer (some ⟨B + 1 + 1, 0, none⟩), .pointer (some ⟨B + 1 + 1 + 1, 0, none⟩), .bool false, .pointer (some ⟨c, 0, none⟩), undef, undef, undef, undef, .pointer (some ⟨c, 0, none⟩), .pointer (some ⟨c, 0, none⟩), .bool false, .pointer (some ⟨c, 0, none⟩), .agg A0.toArray, .agg A2.toArray, undef, .agg A2.toArray, undef, .pointer (some ⟨c, 0, none⟩), undef, undef, undef, undef, undef, undef, undef, undef, undef, undef, undef, undef, undef, undef, undef, undef, undef, undef, undef, undef, undef, undef, undef, undef, undef, undef, undef, undef, undef, undef, undef, undef, undef, undef], defers := [] } : Act) _
    refine take_if 7 (v := .agg A1.toArray) rfl (by kernel_rfl) (yieldsIf_load_mid (by rfl) _ _ rfl (B + 1) 0 rfl A1 _ (fun w' hw => by rw [← hA1]; exact hw.e.range) Try.underlying22 rfl j32) hH ?_
    show wpAnyH _ _ _ _ _ _ _ ({ tmps := #[.agg A0.toArray, .agg A1.toArray, .agg A2.toArray, .agg A3.toArray, .pointer (some ⟨B, 0, none⟩), .pointer (some ⟨B + 1, 0, none⟩), .pointer (some ⟨B + 1 + 1, 0, none⟩), .pointer (some ⟨B + 1 + 1 + 1, 0, none⟩), .bool false, .pointer (some ⟨c, 0, none⟩), undef, undef, undef, undef, .pointer (some ⟨c, 0, none⟩), .pointer (some ⟨c, 0, none⟩), .bool false, .pointer (some ⟨c, 0, none⟩), .agg A0.toArray, .agg A2.toArray, undef, .agg A2.toArray, undef, .pointer (some ⟨c, 0, none⟩), .agg A1.toArray, undef, undef, undef, undef, undef, undef, undef, undef, undef, undef, undef, undef, undef, undef, undef, undef, undef, undef, undef, undef, undef, undef, undef, undef, undef, undef, undef, undef, undef, undef, undef, undef, undef], defers := [] } : Act) _
    refine take_if 8 (v := .agg A3.toArray) rfl (by kernel_rfl) (yieldsIf_load_mid (by rfl) _ _ rfl (B + 1 + 1 + 1) 0 rfl A3 _ (fun w' hw => by rw [← hA3]; exact hw.u.range) Try.underlying23 rfl j3) hH ?_
    show wpAnyH _ _ _ _ _ _ _ ({ tmps := #[.agg A0.toArray, .agg A1.toArray, .agg A2.toArray, .agg A3.toArray, .pointer (some ⟨B, 0, none⟩), .pointer (some ⟨B + 1, 0, none⟩), .pointer (some ⟨B + 1 + 1, 0, none⟩), .pointer (some ⟨B + 1 + 1 + 1, 0, none⟩), .bool false, .pointer (some ⟨c, 0, none⟩), undef, undef, undef, undef, .pointer (some ⟨c, 0, none⟩), .pointer (some ⟨c, 0, none⟩), .bool false, .pointer (some ⟨c, 0, none⟩), .agg A0.toArray, .agg A2.toArray, undef, .agg A2.toArray, undef, .pointer (some ⟨c, 0, none⟩), .agg A1.toArray, .agg A3.toArray, undef, undef, undef, undef, undef, undef, undef, undef, undef, undef, undef, undef, undef, undef, undef, undef, undef, undef, undef, undef, undef, undef, undef, undef, undef, undef, undef, undef, undef, undef, undef, undef], defers := [] } : Act) _
    refine take_if 10 (v := .agg A3.toArray) rfl (by kernel_rfl) (yieldsIf_load_mid (by rfl) _ _ rfl (B + 1 + 1 + 1) 0 rfl A3 _ (fun w' hw => by rw [← hA3]; exact hw.u.range) Try.underlying23 rfl j3) hH ?_
    show wpAnyH _ _ _ _ _ _ _ ({ tmps := #[.agg A0.toArray, .agg A1.toArray, .agg A2.toArray, .agg A3.toArray, .pointer (some ⟨B, 0, none⟩), .pointer (some ⟨B + 1, 0, none⟩), .pointer (some ⟨B + 1 + 1, 0, none⟩), .pointer (some ⟨B + 1 + 1 + 1, 0, none⟩), .bool false, .pointer (some ⟨c, 0, none⟩), undef, undef, undef, undef, .pointer (some ⟨c, 0, none⟩), .pointer (some ⟨c, 0, none⟩), .bool false, .pointer (some ⟨c, 0, none⟩), .agg A0.toArray, .agg A2.toArray, undef, .agg A2.toArray, undef, .pointer (some ⟨c, 0, none⟩), .agg A1.toArray, .agg A3.toArray, undef, .agg A3.toArray, undef, undef, undef, undef, undef, undef, undef, undef, undef, undef, undef, undef, undef, undef, undef, undef, undef, undef, undef, undef, undef, undef, undef, undef, undef, undef, undef, undef, undef, undef], defers := [] } : Act) _
    refine anyH_eq rfl (by kernel_rfl) rfl (PairR.ff (t := 29) (n := 39) (m := 4) (c := fun k => if k = 0 then 3 else if k = 1 then 5 else if k = 2 then 9 else 11) (ip := 12) (iq := 13) (Lst := fun k x y => #[true, true, true, decide (0 < k), true, decide (1 < k), true, true, true, decide (2 < k), true, decide (3 < k), x, y, false, false]) (act := fun r x y => ({ tmps := #[.agg A0.toArray, .agg A1.toArray, .agg A2.toArray, .agg A3.toArray, .pointer (some ⟨B, 0, none⟩), .pointer (some ⟨B + 1, 0, none⟩), .pointer (some ⟨B + 1 + 1, 0, none⟩), .pointer (some ⟨B + 1 + 1 + 1, 0, none⟩), .bool false, .pointer (some ⟨c, 0, none⟩), x, y, undef, undef, .pointer (some ⟨c, 0, none⟩), .pointer (some ⟨c, 0, none⟩), .bool false, .pointer (some ⟨c, 0, none⟩), .agg A0.toArray, .agg A2.toArray, r 0, .agg A2.toArray, r 1, .pointer (some ⟨c, 0, none⟩), .agg A1.toArray, .agg A3.toArray, r 2, .agg A3.toArray, r 3, undef, undef, undef, undef, undef, undef, undef, undef, undef, undef, undef, undef, undef, undef, undef, undef, undef, undef, undef, undef, undef, undef, undef, undef, undef, undef, undef, undef, undef], defers := [] } : Act)) (C := fun k r _ => ∃ K M, (0 < k → r 0 = .agg (arr 36 (ck K D)).toArray ∧ IsCode (wd (ck K D) G)) ∧ (1 < k → r 1 = .agg (arr 39 (wd (ck K D) G)).toArray) ∧ (2 < k → r 2 = .agg (arr 36 (ck M E)).toArray ∧ IsCode (wd (ck M E) U)) ∧ (3 < k → r 3 = .agg (arr 39 (wd (ck M E) U)).toArray)) (Low := fun p => B + 1 + 1 + 1 < p ∧ c < p ∧ b < p) (f0 := 2) ?hP 4 0 rfl (fun _ => undef) undef undef _ ⟨fun _ => 0, fun _ => 0, fun h => absurd h (by decide), fun h => absurd h (by decide), fun h => absurd h (by decide), fun h => absurd h (by decide)⟩ hH)
    case hP =>
      refine ⟨zero39, ?yhc, ⟨_, rfl, rfl, rfl, fun _ _ _ _ => rfl⟩, ⟨_, rfl, rfl, rfl, fun _ _ _ _ => rfl⟩, ?yr3, ?yr2, ?yr2', ?yr1, by kernel_rfl, by kernel_rfl, by kernel_rfl, ?yl, ?ylp, ?ylq, fun _ _ _ _ h _ => h, fun _ _ h k => h.next k, fun _ h => h.low, ?yfin⟩
      case yr3 => intro k hk; rcases (show k = 0 ∨ k = 1 ∨ k = 2 ∨ k = 3 by omega) with rfl | rfl | rfl | rfl <;> kernel_rfl
      case yr2 => intro k hk; rcases (show k = 0 ∨ k = 1 ∨ k = 2 ∨ k = 3 by omega) with rfl | rfl | rfl | rfl <;> kernel_rfl
      case yr2' => intro k hk; rcases (show k = 0 ∨ k = 1 ∨ k = 2 ∨ k = 3 by omega) with rfl | rfl | rfl | rfl <;> kernel_rfl
      case yr1 => intro k hk; rcases (show k = 0 ∨ k = 1 ∨ k = 2 ∨ k = 3 by omega) with rfl | rfl | rfl | rfl <;> kernel_rfl
      case yl => intro k x y hk; rcases (show k = 0 ∨ k = 1 ∨ k = 2 ∨ k = 3 by omega) with rfl | rfl | rfl | rfl <;> rfl
      case ylp => intro k y hk; rcases (show k = 0 ∨ k = 1 ∨ k = 2 ∨ k = 3 ∨ k = 4 by omega) with rfl | rfl | rfl | rfl | rfl <;> rfl
      case ylq => intro k x hk; rcases (show k = 0 ∨ k = 1 ∨ k = 2 ∨ k = 3 ∨ k = 4 by omega) with rfl | rfl | rfl | rfl | rfl <;> rfl
      case yhc =>
        intro k hk
        rcases (show k = 0 ∨ k = 1 ∨ k = 2 ∨ k = 3 by omega) with rfl | rfl | rfl | rfl
        · refine ⟨_, rfl, rfl, fun r x y W hC hS => ?_⟩
          obtain ⟨K, M, _, _, _, _⟩ := hC
          refine wp_contract 13 [.tmp 17, .tmp 18, .tmp 19] _ rfl (enters_of Try.func13 (by kernel_rfl) rfl) [.pointer (some ⟨c, 0, none⟩), .agg A0.toArray, .agg A2.toArray] rfl (cW1.out c b _ hS.code) ?_
          rintro e W' ⟨K, rfl, hK, hB1⟩
          exact ⟨_, rfl, fun i => if i = 0 then .agg (arr 36 (ck K D)).toArray else r i, rfl, ⟨K, M, fun _ => ⟨rfl, hK⟩, fun h => absurd h (by decide), fun h => absurd h (by decide), fun h => absurd h (by decide)⟩, hB1⟩
        · refine ⟨_, rfl, rfl, fun r x y W hC hS => ?_⟩
          obtain ⟨K, M, h0, _, _, _⟩ := hC
          obtain ⟨e0, hK⟩ := h0 (by decide)
          refine wp_contract 12 [.tmp 20, .tmp 21] _ rfl (enters_of Try.func12 (by kernel_rfl) rfl) [.agg (arr 36 (ck K D)).toArray, .agg A2.toArray] (show [r 0, .agg A2.toArray] = _ by rw [e0]) (cR1.out _ _) ?_
          rintro e W' ⟨rfl, hB1⟩
          exact ⟨_, rfl, fun i => if i = 1 then .agg (arr 39 (wd (ck K D) G)).toArray else r i, rfl, ⟨K, M, fun _ => ⟨e0, hK⟩, fun _ => rfl, fun h => absurd h (by decide), fun h => absurd h (by decide)⟩, hB1⟩
        · refine ⟨_, rfl, rfl, fun r x y W hC hS => ?_⟩
          obtain ⟨K, M, h0, h1, _, _⟩ := hC
          refine wp_contract 13 [.tmp 23, .tmp 24, .tmp 25] _ rfl (enters_of Try.func13 (by kernel_rfl) rfl) [.pointer (some ⟨c, 0, none⟩), .agg A1.toArray, .agg A3.toArray] rfl (cW2.out c b _ hS.code) ?_
          rintro e W' ⟨M, rfl, hM, hB1⟩
          exact ⟨_, rfl, fun i => if i = 2 then .agg (arr 36 (ck M E)).toArray else r i, rfl, ⟨K, M, fun _ => h0 (by decide), fun _ => h1 (by decide), fun _ => ⟨rfl, hM⟩, fun h => absurd h (by decide)⟩, hB1⟩
        · refine ⟨_, rfl, rfl, fun r x y W hC hS => ?_⟩
          obtain ⟨K, M, h0, h1, h2, _⟩ := hC
          obtain ⟨e2, hM⟩ := h2 (by decide)
          refine wp_contract 12 [.tmp 26, .tmp 27] _ rfl (enters_of Try.func12 (by kernel_rfl) rfl) [.agg (arr 36 (ck M E)).toArray, .agg A3.toArray] (show [r 2, .agg A3.toArray] = _ by rw [e2]) (cR2.out _ _) ?_
          rintro e W' ⟨rfl, hB1⟩
          exact ⟨_, rfl, fun i => if i = 3 then .agg (arr 39 (wd (ck M E) U)).toArray else r i, rfl, ⟨K, M, fun _ => h0 (by decide), fun _ => h1 (by decide), fun _ => ⟨e2, hM⟩, fun _ => rfl⟩, hB1⟩
      case yfin =>
        intro r p q W hC hH gp gq hne lgp lgq
        obtain ⟨K, M, h0, h1, h2, h3⟩ := hC
        have e1 := h1 (by decide)
        have e3 := h3 (by decide)
        refine take_one 14 rfl rfl (by kernel_rfl) ?_
        refine wp_store_mid 29 _ _ rfl p 0 (arr 39 (wd (ck K D) G)).toArray rfl e1 gp.there (by rw [arr_size]; exact info39) (arr_one 39 _) ?_
        replace hH := hH.put lgp 0 (arr 39 (wd (ck K D) G))
        replace gq := gq.putOther (c := p) (fun e => hne e.symm) 0 (arr 39 (wd (ck K D) G))
        replace gp := gp.put (wd (ck K D) G)
        refine ⟨hH, fun hH => ?_⟩
        refine take_one 15 rfl rfl (by kernel_rfl) ?_
        refine wp_store_mid 29 _ _ rfl q 0 (arr 39 (wd (ck M E) U)).toArray rfl e3 gq.there (by rw [arr_size]; exact info39) (arr_one 39 _) ?_
        replace hH := hH.put lgq 0 (arr 39 (wd (ck M E) U))
        replace gp := gp.putOther (c := q) hne 0 (arr 39 (wd (ck M E) U))
        replace gq := gq.put (wd (ck M E) U)
        refine ⟨hH, fun hH => ?_⟩
        exact wpAnyH_done (by kernel_rfl) ⟨p, q, r 0, r 1, r 2, r 3, K, M, rfl, gp, gq, (h0 (by decide)).2, (h2 (by decide)).2, hH⟩ _
  · obtain ⟨p, q, u20, u22, u26, u28, K, M, ha, gp, gq, hK, hM, hH⟩ := hr
    rw [ha]
    clear ha a'
    simp only []
    have hap := ap_ways hK hM
    obtain ⟨X, HX⟩ : ∃ X, Hid (wd (ck K D) G = X) := ⟨_, rfl⟩
    obtain ⟨Y, HY⟩ : ∃ Y, Hid (wd (ck M E) U = Y) := ⟨_, rfl⟩
    have hX : ∀ i, X i = wd (ck K D) G i := fun i => by rw [HX.out]
    have hY : ∀ i, Y i = wd (ck M E) U i := fun i => by rw [HY.out]
    have HDE : Hid ((∀ i, i < 39 → X i = Y i) → (∀ i, i < 32 → D i = E i) ∧ ∀ i, i < 3 → G i = U i) := fun h => by
      constructor
      · intro i hi
        have := h (4 + i) (by omega)
        rw [hX, hY] at this
        unfold wd ck at this
        rw [if_pos (show 4 + i < 36 by omega), if_pos (show 4 + i < 36 by omega), if_neg (show ¬ 4 + i < 4 by omega), if_neg (show ¬ 4 + i < 4 by omega), show 4 + i - 4 = i from by omega] at this
        exact this
      · intro i hi
        have := h (36 + i) (by omega)
        rw [hX, hY] at this
        unfold wd at this
        rw [if_neg (show ¬ 36 + i < 36 by omega), if_neg (show ¬ 36 + i < 36 by omega), show 36 + i - 36 = i from by omega] at this
        exact this
    rw [HX.out, HY.out] at hap
    rw [HX.out] at gp
    rw [HY.out] at gq
    obtain ⟨N, HN⟩ : ∃ N : Nat → Nat, Hid (df X Y = N) := ⟨_, rfl⟩
    have n0 : Hid (N 0 = 0) := by rw [← HN.out]; rfl
    have ny : Hid (∀ k, X k = Y k → N (k + 1) = N k) := fun k h => by rw [← HN.out]; show df X Y k + (if X k = Y k then 0 else 1) = _; rw [if_pos h]; rfl
    have nn : Hid (∀ k, X k ≠ Y k → N (k + 1) = N k + 1) := fun k h => by rw [← HN.out]; show df X Y k + (if X k = Y k then 0 else 1) = _; rw [if_neg h]
    have nl : Hid (∀ k, N k ≤ k) := fun k => by rw [← HN.out]; exact df_le X Y k
    rw [HN.out] at hap
    have Hap : Hid ((N 39 = 0 ∧ ∀ i, i < 39 → X i = Y i) ∨ 5 ≤ N 39) := hap
    have H4 : Hid (ApS B c b D E G U w w' ∧ Blk w' p 39 X ∧ Blk w' q 39 Y) := ⟨hH, gp, gq⟩
    clear hap hX hY gp gq hK hM hH H1 HX HY HN
    go_wp2
    go_loopw [12, 29] (fun cnt i wr => ∃ k : Nat, k ≤ 39 ∧ i = .int .i64 (k : Int) ∧ cnt = .int .i64 (N k : Int) ∧ Hid (ApS B c b D E G U w wr ∧ Blk wr p 39 X ∧ Blk wr q 39 Y)) (fun _ i _ => 39 - (intOf i).toNat)
    case atStart => exact ⟨0, by omega, rfl, by rw [n0.out]; rfl, H4.out⟩
    case round =>
      obtain ⟨k, hk, rfl, rfl, HK⟩ := hrel
      by_cases hlt : k < 39
      · have c0 := HK.out.2.1.arr k hlt
        have c1 := HK.out.2.2.arr k hlt
        have hNk := nl.out k
        have HE : Hid (ApS B c b D E G U w wr.drew ∧ Blk wr.drew p 39 X ∧ Blk wr.drew q 39 Y) := ⟨HK.out.1.drew, HK.out.2.1.drew, HK.out.2.2.drew⟩
        obtain ⟨x, hx⟩ : ∃ x, X k = x := ⟨_, rfl⟩
        obtain ⟨y, hy⟩ : ∃ y, Y k = y := ⟨_, rfl⟩
        have nyk := ny.out k
        have nnk := nn.out k
        rw [hx, hy] at nyk nnk
        rw [hx] at c0
        rw [hy] at c1
        obtain ⟨n, hn⟩ : ∃ n, N k = n := ⟨_, rfl⟩
        rw [hn] at nyk nnk hNk ⊢
        by_cases he : x = y
        · have HN1 : Hid (N (k + 1) = n) := nyk he
          have hb : (oe x == oe y) = true := by rw [oe_eq]; exact decide_eq_true he
          clear nyk nnk hx hy he hn
          go_wp2
          go_region
          go_wp2
          go_roundw
          case rel => exact ⟨k + 1, by omega, by go_num, by rw [HN1.out], HE.out⟩
          case measure => simp [intOf]; omega
        · have HN1 : Hid (N (k + 1) = n + 1) := nnk he
          have hb : (oe x == oe y) = false := by rw [oe_eq]; exact decide_eq_false he
          clear nyk nnk hx hy he hn
          go_wp2
          go_region
          go_wp2
          go_roundw
          case rel => exact ⟨k + 1, by omega, by go_num, by rw [HN1.out]; go_num, HE.out⟩
          case measure => simp [intOf]; omega
      · obtain rfl : k = 39 := by omega
        rcases Hap.out with ⟨h0, hxy⟩ | h5
        · obtain ⟨hDE, hGU⟩ := HDE.out hxy
          rw [h0]
          have q1 : ∀ w, (binOp .eql 22 (.agg A0.toArray) (.agg A1.toArray)).run Try.prog w = .ok (.bool true) w := fun w => by
            rw [← hA0, ← hA1]; exact eql_arr 22 32 Try.underlying22 _ _ true ⟨fun _ => hDE, fun _ => rfl⟩ w
          have q2 : ∀ w, (binOp .eql 23 (.agg A2.toArray) (.agg A3.toArray)).run Try.prog w = .ok (.bool true) w := fun w => by
            rw [← hA2, ← hA3]; exact eql_arr 23 3 Try.underlying23 _ _ true ⟨fun _ => hGU, fun _ => rfl⟩ w
          have g1 : Try.prog.eqGuardType Try.prog.depth 22 = false := by kernel_rfl
          have g2 : Try.prog.eqGuardType Try.prog.depth 23 = false := by kernel_rfl
          have r0 : wr.rangeAt B 0 A0 := by rw [← hA0]; exact HK.out.1.d.range
          have r1 : wr.rangeAt (B + 1) 0 A1 := by rw [← hA1]; exact HK.out.1.e.range
          have r2 : wr.rangeAt (B + 1 + 1) 0 A2 := by rw [← hA2]; exact HK.out.1.v.range
          have r3 : wr.rangeAt (B + 1 + 1 + 1) 0 A3 := by rw [← hA3]; exact HK.out.1.u.range
          have HB : Hid (Below B w wr) := HK.out.1.below
          clear hDE hGU hxy h0 HK H4 Hap HDE n0 ny nn nl
          go_wp2_with (first | refine wpList_load_mid_g (by rfl) 22 _ rfl B 0 rfl A0 _ r0 Try.underlying22 rfl i32 ?_ | refine wpList_load_mid_g (by rfl) 22 _ rfl (B + 1) 0 rfl A1 _ r1 Try.underlying22 rfl j32 ?_ | refine wpList_load_mid_g (by rfl) 23 _ rfl (B + 1 + 1) 0 rfl A2 _ r2 Try.underlying23 rfl i3 ?_ | refine wpList_load_mid_g (by rfl) 23 _ rfl (B + 1 + 1 + 1) 0 rfl A3 _ r3 Try.underlying23 rfl j3 ?_)
          go_ret
          exact ⟨rfl, by first | exact HB.out | (rw [hB]; exact HB.out)⟩
        · have HB : Hid (Below B w wr) := HK.out.1.below
          obtain ⟨n, hn⟩ : ∃ n, N 39 = n := ⟨_, rfl⟩
          rw [hn] at h5 ⊢
          have hz : (((n : Nat) : Int) == 0) = false := by simp; omega
          have hz5 : 5 ≤ ((n : Nat) : Int) := by omega
          clear HK H4 Hap HDE n0 ny nn nl hn
          go_wp2
          go_ret
          exact ⟨rfl, by first | exact HB.out | (rw [hB]; exact HB.out)⟩
theorem rsApart_walk (a0 : Nat → Int) (a1 : Nat → Int) (a2 : Nat → Int) (a3 : Nat → Int) (w0 : ∀ i, i < 32 → (Lit.int .u8 (a0 i)).wf = true) (w1 : ∀ i, i < 32 → (Lit.int .u8 (a1 i)).wf = true) (w2 : ∀ i, i < 3 → (Lit.int .u8 (a2 i)).wf = true) (w3 : ∀ i, i < 3 → (Lit.int .u8 (a3 i)).wf = true) (w : World) :
    Calls Try.prog 8 #[.agg (ints .u8 32 a0).toArray, .agg (ints .u8 32 a1).toArray, .agg (ints .u8 3 a2).toArray, .agg (ints .u8 3 a3).toArray] w fun e w' => e = .returned (.bool true) ∧ Below w.heap.size w w' := by
  rw [ints_arr 32 a0 w0, ints_arr 32 a1 w1, ints_arr 3 a2 w2, ints_arr 3 a3 w3]
  exact rsApart_core _ _ _ _ w
end Go.Proofs.Ytmkjdpokcfeieaa
