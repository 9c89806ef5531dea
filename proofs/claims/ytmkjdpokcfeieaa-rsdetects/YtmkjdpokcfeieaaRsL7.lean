/-
  RsDetects.
-/
import Derived.Test.YtmkjdpokcfeieaaRsL3
import Derived.BigRegion
namespace Go.Proofs.Ytmkjdpokcfeieaa
open Go.RowKit Go.Shelf
open Gf (gI eI dI lI)
open Po (El mu pwr ev S cf toE cv Low rts)
open Rm (al sy At IsCode supp)
attribute [local go_sem] Oper.semAt_some

/-! ### what was added -/
/-- the k-th replacement counts -/
abbrev okA (at_ : Nat → Int) (by_ : Nat → El) (k : Nat) : Prop := 0 ≤ at_ k ∧ at_ k ≤ 38 ∧ by_ k ≠ 0 ∧ ¬ (0 < k ∧ at_ k = at_ 0) ∧ ¬ (1 < k ∧ at_ k = at_ 1)
/-- what the first k replacements add -/
def err (at_ : Nat → Int) (by_ : Nat → El) : Nat → Nat → El
  | 0, _ => 0
  | k + 1, j => if okA at_ by_ k then err at_ by_ k j ^^^ Rm.one' (at_ k).toNat (by_ k) j else err at_ by_ k j
theorem err_yes (at_ : Nat → Int) (by_ : Nat → El) (k : Nat) (h : okA at_ by_ k) (j : Nat) : err at_ by_ (k + 1) j = err at_ by_ k j ^^^ Rm.one' (at_ k).toNat (by_ k) j := if_pos h
theorem err_no (at_ : Nat → Int) (by_ : Nat → El) (k : Nat) (h : ¬ okA at_ by_ k) : err at_ by_ (k + 1) = err at_ by_ k := funext fun _ => if_neg h
theorem err_at (at_ : Nat → Int) (by_ : Nat → El) : ∀ k j, err at_ by_ k j ≠ 0 → ∃ l, l < k ∧ okA at_ by_ l ∧ (at_ l).toNat = j
  | 0, _, h => absurd rfl h
  | k + 1, j, h => by
    by_cases hk : okA at_ by_ k
    · rw [err_yes at_ by_ k hk] at h
      by_cases he : err at_ by_ k j = 0
      · rw [he, Po.z0] at h
        unfold Rm.one' at h
        by_cases hj : j = (at_ k).toNat
        · exact ⟨k, by omega, hk, hj.symm⟩
        · rw [if_neg hj] at h; exact absurd rfl h
      · obtain ⟨l, hl, ho, e⟩ := err_at at_ by_ k j he
        exact ⟨l, by omega, ho, e⟩
    · rw [err_no at_ by_ k hk] at h
      obtain ⟨l, hl, ho, e⟩ := err_at at_ by_ k j h
      exact ⟨l, by omega, ho, e⟩
theorem err_new (at_ : Nat → Int) (by_ : Nat → El) (k : Nat) (hk : k < 3) (h : okA at_ by_ k) : err at_ by_ k (at_ k).toNat = 0 := by
  by_cases he : err at_ by_ k (at_ k).toNat = 0
  · exact he
  · exfalso
    obtain ⟨l, hl, ho, e⟩ := err_at at_ by_ k _ he
    have e2 : at_ l = at_ k := by have := ho.1; have := h.1; omega
    rcases (show l = 0 ∨ l = 1 by omega) with rfl | rfl
    · exact h.2.2.2.1 ⟨by omega, e2.symm⟩
    · exact h.2.2.2.2 ⟨by omega, e2.symm⟩
theorem supp_add (E : Nat → El) (n : Nat) (a : El) (h0 : E n = 0) (ha : a ≠ 0) : ∀ m, (supp m fun j => E j ^^^ Rm.one' n a j).length = (supp m E).length + if n < m then 1 else 0
  | 0 => rfl
  | m + 1 => by
    have ih := supp_add E n a h0 ha m
    by_cases e : m = n
    · have hz : E m = 0 := by rw [e]; exact h0
      have hy : (fun j => E j ^^^ Rm.one' n a j) m ≠ 0 := by
        show E m ^^^ Rm.one' n a m ≠ 0
        unfold Rm.one'
        rw [hz, if_pos e, Po.z0]; exact ha
      rw [Rm.supp_yes m _ hy, Rm.supp_no m E hz, List.length_append, ih, if_neg (by omega), if_pos (by omega)]; rfl
    · have hsame : (fun j => E j ^^^ Rm.one' n a j) m = E m := by
        show E m ^^^ Rm.one' n a m = E m
        unfold Rm.one'
        rw [if_neg e, Po.x0]
      have hlt : (n < m + 1) ↔ n < m := by omega
      by_cases hz : E m = 0
      · rw [Rm.supp_no m _ (hsame.trans hz), Rm.supp_no m E hz, ih]
        simp only [hlt]
      · rw [Rm.supp_yes m _ (fun x => hz (hsame.symm.trans x)), Rm.supp_yes m E hz, List.length_append, List.length_append, ih]
        simp only [hlt, List.length_singleton]
        omega
/-- how many replacements counted -/
def cnt (at_ : Nat → Int) (by_ : Nat → El) (k : Nat) : Nat := (supp 39 (err at_ by_ k)).length
theorem supp_nil : ∀ m, supp m (fun _ => 0) = []
  | 0 => rfl
  | m + 1 => by rw [Rm.supp_no m _ rfl, supp_nil m]
theorem cnt_zero (at_ : Nat → Int) (by_ : Nat → El) : cnt at_ by_ 0 = 0 := by
  unfold cnt
  rw [show err at_ by_ 0 = fun _ => 0 from rfl, supp_nil]; rfl
theorem cnt_yes (at_ : Nat → Int) (by_ : Nat → El) (k : Nat) (hk : k < 3) (h : okA at_ by_ k) : cnt at_ by_ (k + 1) = cnt at_ by_ k + 1 := by
  unfold cnt
  rw [show err at_ by_ (k + 1) = fun j => err at_ by_ k j ^^^ Rm.one' (at_ k).toNat (by_ k) j from funext (err_yes at_ by_ k h), supp_add _ _ _ (err_new at_ by_ k hk h) h.2.2.1, if_pos (by have := h.1; have := h.2.1; omega)]
theorem cnt_no (at_ : Nat → Int) (by_ : Nat → El) (k : Nat) (h : ¬ okA at_ by_ k) : cnt at_ by_ (k + 1) = cnt at_ by_ k := by unfold cnt; rw [err_no at_ by_ k h]
theorem cnt_le (at_ : Nat → Int) (by_ : Nat → El) : ∀ k, k ≤ 3 → cnt at_ by_ k ≤ k
  | 0, _ => by rw [cnt_zero]; omega
  | k + 1, hk => by
    have ih := cnt_le at_ by_ k (by omega)
    by_cases h : okA at_ by_ k
    · rw [cnt_yes at_ by_ k (by omega) h]; omega
    · rw [cnt_no at_ by_ k h]; omega
/-- the stored and the virtual symbols with that added -/
def adX (X E : Nat → El) (i : Nat) : El := X i ^^^ E i
def adG (G E : Nat → El) (i : Nat) : El := G i ^^^ E (36 + i)
theorem lost_ways {X G E : Nat → El} (hc : IsCode (wd X G)) (h2 : 2 ≤ (supp 39 E).length) (h3 : (supp 39 E).length ≤ 3) : vd (sy (wd (adX X E) (adG G E))) = #[.int .i64 3, .int .i64 (-1), .int .u8 0] := by
  have hs : ∀ j, j < 4 → sy (wd (adX X E) (adG G E)) j = sy E j := fun j hj => by
    rw [sy_congr (U := fun i => wd X G i ^^^ E i) fun i hi => ?_, sy_xor]
    · show sy (wd X G) j ^^^ _ = _
      rw [show sy (wd X G) j = 0 from hc j hj, Po.z0]
    · unfold wd adX adG
      by_cases h : i < 36
      · rw [if_pos h, if_pos h]
      · rw [if_neg h, if_neg h, show 36 + (i - 36) = i from by omega]
  obtain ⟨n1, n2⟩ := Rm.two_three E h2 h3
  rw [vd_congr hs]
  refine v_lost (fun hn => n1 fun j hj => ?_) n2
  obtain ⟨a0, a1, a2, a3⟩ := hn
  rcases (show j = 0 ∨ j = 1 ∨ j = 2 ∨ j = 3 by omega) with rfl | rfl | rfl | rfl
  · exact a0
  · exact a1
  · exact a2
  · exact a3

/-- while RsDetects works: virtual symbols, places, values; the word in J -/
structure DtS (B J c b : Nat) (G X : Nat → El) (at_ : Nat → Int) (by_ : Nat → El) (w W : World) : Prop where
  v : Blk W (B + 1) 3 G
  a : ∀ i : Nat, i < 3 → W.cell? ⟨B + 1 + 1, i, none⟩ = some (.int .i64 (at_ i))
  y : Blk W (B + 1 + 1 + 1) 3 by_
  o : Blk W J 36 X
  code : CdAt W c b
  below : Below B w W
section
variable {B J c b : Nat} {G X by_ : Nat → El} {at_ : Nat → Int} {w W W' : World}
theorem DtS.next (h : DtS B J c b G X at_ by_ w W) (k : Below W.heap.size W W') : DtS B J c b G X at_ by_ w W' :=
  ⟨h.v.next k, fun i hi => (k.cell (p := ⟨B + 1 + 1, i, none⟩) (cell_lt (h.a i hi))).trans (h.a i hi), h.y.next k, h.o.next k, h.code.next k, h.below.trans (k.mono (Nat.le_trans (by omega) (Nat.le_of_lt h.v.lt)))⟩
theorem DtS.drew (h : DtS B J c b G X at_ by_ w W) : DtS B J c b G X at_ by_ w W.drew := h.next (below_stay (Below.refl _ W) (Stay.drewN _ W 1) (Nat.le_refl _))
theorem DtS.setO (h : DtS B J c b G X at_ by_ w W) (hJ : B + 1 + 1 + 1 < J) (hc : c ≠ J ∧ b ≠ J) (i : Nat) (e : El) : DtS B J c b G (fun k => if k = i then e else X k) at_ by_ w (W.setCell ⟨J, i, none⟩ (.int .u8 (oe e))) := by
  have o : ∀ k, k ≠ J → (W.setCell ⟨J, i, none⟩ (.int .u8 (oe e))).heap[k]? = W.heap[k]? := fun k hk => Below.heap_setCell W ⟨J, i, none⟩ _ k hk
  exact ⟨h.v.of (o _ (by omega)), fun j hj => (World.cell?_of_block (w := W) (a := ⟨B + 1 + 1, j, none⟩) (o (B + 1 + 1) (by omega))).trans (h.a j hj), h.y.of (o _ (by omega)), h.o.set i e, h.code.of (o _ hc.1) (o _ hc.2), h.below.setCell (p := ⟨J, i, none⟩) (by simp; omega) _⟩
theorem DtS.setV (h : DtS B J c b G X at_ by_ w W) (hJ : B + 1 + 1 + 1 < J) (hc : B + 1 + 1 + 1 < c ∧ B + 1 + 1 + 1 < b) (i : Nat) (e : El) : DtS B J c b (fun k => if k = i then e else G k) X at_ by_ w (W.setCell ⟨B + 1, i, none⟩ (.int .u8 (oe e))) := by
  have o : ∀ k, k ≠ B + 1 → (W.setCell ⟨B + 1, i, none⟩ (.int .u8 (oe e))).heap[k]? = W.heap[k]? := fun k hk => Below.heap_setCell W ⟨B + 1, i, none⟩ _ k hk
  exact ⟨h.v.set i e, fun j hj => (World.cell?_of_block (w := W) (a := ⟨B + 1 + 1, j, none⟩) (o (B + 1 + 1) (by omega))).trans (h.a j hj), h.y.of (o _ (by omega)), h.o.of (o _ (by omega)), h.code.of (o _ (by omega)) (o _ (by omega)), h.below.setCell (p := ⟨B + 1, i, none⟩) (by simp) _⟩
theorem DtS.congr (h : DtS B J c b G X at_ by_ w W) {G' X' : Nat → El} (h0 : ∀ i, i < 3 → G i = G' i) (h1 : ∀ i, i < 36 → X i = X' i) : DtS B J c b G' X' at_ by_ w W := ⟨h.v.congr h0, h.a, h.y, h.o.congr h1, h.code, h.below⟩
end
theorem ints_new (W : World) (n : Nat) (F : Nat → Int) (t : TypeId) : ∀ i : Nat, i < n → (W.alloc (.cells (ints .i64 n F).toArray t)).cell? ⟨W.heap.size, i, none⟩ = some (.int .i64 (F i)) := fun i hi => by
  rw [World.cell?_alloc_new]
  simpa using ints_at .i64 n F i hi
theorem index_int3 (F : Nat → Int) (x : Nat) (hx : x < 3) (w : World) :
    (Instr.index 46 (.agg (ints .i64 3 F).toArray) (.int .i64 (x : Int))).run Try.prog w = .ok (.int .i64 (F x)) w := by
  have hc := ints_at .i64 3 F x hx
  have ht := Try.underlying46
  have hu := Try.underlying3
  have hs : ∀ w, (sizeOf 3).run Try.prog w = .ok 1 w := fun w => by kernel_rfl
  simp [Instr.index, run_underlying ht, asIntOf, go_sem, hx]
  rw [hc]; rfl
theorem wrap_lit (x : Int) (h0 : 0 ≤ x) (h1 : x < 4611686018427387904) : IntKind.i64.wrap x = x := by
  simp [IntKind.wrap, IntKind.signed, IntKind.bits]; omega

set_option maxRecDepth 100000 in
set_option maxHeartbeats 8000000 in
theorem rsDetects_core (D G : Nat → El) (at_ : Nat → Int) (by_ : Nat → El) (w : World) :
    Calls Try.prog 6 #[.agg (arr 32 D).toArray, .agg (arr 3 G).toArray, .agg (ints .i64 3 at_).toArray, .agg (arr 3 by_).toArray] w fun e w' => e = .returned (.bool true) ∧ Below w.heap.size w w' := by
  have hz := zeroVd
  have hz32 := zero32
  have hz36 := zero36
  have cW : Hid (∀ c b W, CdAt W c b → Calls Try.prog 13 #[.pointer (some ⟨c, 0, none⟩), .agg (arr 32 D).toArray, .agg (arr 3 G).toArray] W fun e w' => ∃ K, e = .returned (.agg (arr 36 (ck K D)).toArray) ∧ IsCode (wd (ck K D) G) ∧ Below W.heap.size W w') := fun c b W h => word_any c b D G W h
  have iI : Hid (∀ x : Nat, x < 3 → ∀ w, (Instr.index 46 (.agg (ints .i64 3 at_).toArray) (.int .i64 (x : Int))).run Try.prog w = .ok (.int .i64 (at_ x)) w) := fun x hx w => index_int3 at_ x hx w
  obtain ⟨A0, hA0⟩ : ∃ A, arr 32 D = A := ⟨_, rfl⟩
  obtain ⟨A1, hA1⟩ : ∃ A, arr 3 G = A := ⟨_, rfl⟩
  obtain ⟨A2, hA2⟩ : ∃ A, ints .i64 3 at_ = A := ⟨_, rfl⟩
  obtain ⟨A3, hA3⟩ : ∃ A, arr 3 by_ = A := ⟨_, rfl⟩
  obtain ⟨A5, hA5⟩ : ∃ A, (arr 36 fun _ => 0) = A := ⟨_, rfl⟩
  obtain ⟨A6, hA6⟩ : ∃ A, (arr 32 fun _ => 0) = A := ⟨_, rfl⟩
  have i32 : (Try.prog.info? 22).map (·.size) = some A0.length := by rw [← hA0, arr_len]; kernel_rfl
  have i3 : (Try.prog.info? 23).map (·.size) = some A1.length := by rw [← hA1, arr_len]; kernel_rfl
  have iA : (Try.prog.info? 46).map (·.size) = some A2.length := by rw [← hA2, ints_len]; kernel_rfl
  rw [hA5] at hz36
  rw [hA6] at hz32
  rw [hA0, hA1] at cW
  rw [hA2] at iI
  rw [hA0, hA1, hA2, hA3]
  go_enter Try.func6, Try.ntmps6
  go_upto_region 1 with (fail)
  obtain ⟨B, hB⟩ : ∃ B, w.heap.size = B := ⟨_, rfl⟩
  obtain ⟨V0, hV0⟩ : ∃ V, (((w.alloc (.cells A0.toArray 22)).alloc (.cells A1.toArray 23)).alloc (.cells A2.toArray 46)).alloc (.cells A3.toArray 23) = V := ⟨_, rfl⟩
  have H0 : Hid (Blk V0 B 32 D ∧ Blk V0 (B + 1) 3 G ∧ (∀ i : Nat, i < 3 → V0.cell? ⟨B + 1 + 1, i, none⟩ = some (.int .i64 (at_ i))) ∧ Blk V0 (B + 1 + 1 + 1) 3 by_ ∧ Below B w V0) := by
    have h0 := Blk.new w 32 D 22
    have h1 := Blk.new (w.alloc (.cells A0.toArray 22)) 3 G 23
    have h2 := ints_new ((w.alloc (.cells A0.toArray 22)).alloc (.cells A1.toArray 23)) 3 at_ 46
    have h3 := Blk.new (((w.alloc (.cells A0.toArray 22)).alloc (.cells A1.toArray 23)).alloc (.cells A2.toArray 46)) 3 by_ 23
    simp only [World.size_alloc] at h1 h2 h3
    rw [hA0] at h0
    rw [hA1] at h1
    rw [hA2] at h2
    rw [hA3] at h3
    rw [← hB, ← hV0]
    refine ⟨((h0.alloc _).alloc _).alloc _, (h1.alloc _).alloc _, fun i hi => ?_, h3, ((((Below.refl _ w).alloc (Nat.le_refl _) _).alloc (by simp) _).alloc (by simp; omega) _).alloc (by simp; omega) _⟩
    exact (World.cell?_of_block (w := ((w.alloc (.cells A0.toArray 22)).alloc (.cells A1.toArray 23)).alloc (.cells A2.toArray 46)) (a := ⟨w.heap.size + 1 + 1, i, none⟩) (Below.heap_alloc _ _ _ (by simp))).trans (h2 i hi)
  rw [hV0, hB]
  clear hV0
  go_upto_region 4 with (go_at_call 10; refine (coded_any _).mono ?_; rintro e V1 ⟨c, b, rfl, hC, hB1, hcn, hbn⟩)
  have H1 : Hid (Blk V1 B 32 D ∧ Blk V1 (B + 1) 3 G ∧ (∀ i : Nat, i < 3 → V1.cell? ⟨B + 1 + 1, i, none⟩ = some (.int .i64 (at_ i))) ∧ Blk V1 (B + 1 + 1 + 1) 3 by_ ∧ CdAt V1 c b ∧ Below B w V1) := by
    obtain ⟨h1, h2, h3, h4, h5⟩ := H0.out
    exact ⟨h1.next hB1, h2.next hB1, fun i hi => (hB1.cell (p := ⟨B + 1 + 1, i, none⟩) (cell_lt (h3 i hi))).trans (h3 i hi), h4.next hB1, hC, h5.trans (hB1.mono (Nat.le_of_lt h1.lt))⟩
  have hcB : B + 1 + 1 + 1 < c ∧ B + 1 + 1 + 1 < b := by have := H0.out.2.2.2.1.lt; omega
  have r0 : V1.rangeAt B 0 A0 := by rw [← hA0]; exact H1.out.1.range
  have r1 : V1.rangeAt (B + 1) 0 A1 := by rw [← hA1]; exact H1.out.2.1.range
  clear H0 hC hB1 hcn hbn
  go_upto_region 5 with (first | refine wpList_load_mid rfl 22 _ rfl B 0 rfl A0 _ r0 Try.underlying22 rfl i32 ?_ | refine wpList_load_mid rfl 23 _ rfl (B + 1) 0 rfl A1 _ r1 Try.underlying23 rfl i3 ?_ | (go_at_call 13; refine (cW.out c b _ H1.out.2.2.2.2.1).mono ?_; rintro e V2 ⟨K, rfl, hcode, hB2⟩) | refine wpList_store_mid rfl 24 _ _ rfl _ 0 (arr 36 (ck K D)).toArray rfl rfl (new36 hA5 _ _ _) (by rw [show (arr 36 (ck K D)).toArray.size = 36 from by simp [arr_len]]; exact info36) (arr_one 36 _) ?_)
  obtain ⟨J, hJ⟩ : ∃ J, V2.heap.size = J := ⟨_, rfl⟩
  obtain ⟨V3, hV3⟩ : ∃ V, (V2.alloc (.cells A5.toArray 24)).setCells V2.heap.size 0 (arr 36 (ck K D)) = V := ⟨_, rfl⟩
  obtain ⟨X, HX⟩ : ∃ X, Hid (ck K D = X) := ⟨_, rfl⟩
  have H3 : Hid (DtS B J c b G X at_ by_ w V3) := by
    obtain ⟨h1, h2, h3, h4, h5, h6⟩ := H1.out
    have b3 : Below V1.heap.size V1 V3 := by rw [← hV3]; exact below_puts (hB2.alloc hB2.size _) hB2.size 0 _
    refine ⟨h2.next b3, fun i hi => (b3.cell (p := ⟨B + 1 + 1, i, none⟩) (cell_lt (h3 i hi))).trans (h3 i hi), h4.next b3, ?_, h5.next b3, h6.trans (b3.mono (Nat.le_of_lt h1.lt))⟩
    have h := Blk.new V2 36 (fun _ => 0) 24
    rw [hA5] at h
    have h2 := h.put (ck K D)
    rw [hV3, hJ] at h2
    rw [← HX.out]; exact h2
  have sJ : B + 1 + 1 + 1 < J := by have := H1.out.2.2.2.1.lt; have := hB2.size; omega
  have hcJ : c ≠ J ∧ b ≠ J := by have := H1.out.2.2.2.2.1.lt; have := H1.out.2.2.2.2.1.fld.lt; have := hB2.size; omega
  rw [HX.out] at hcode
  have HCd : Hid (IsCode (wd X G)) := hcode
  rw [hV3, hJ, HX.out]
  simp only [Act.put]
  clear hV3 hJ hcode hB2 H1 r0 r1 cW HX i32 i3
  obtain ⟨N, HN⟩ : ∃ N : Nat → Nat, Hid (cnt at_ by_ = N) := ⟨_, rfl⟩
  obtain ⟨Er, HEr⟩ : ∃ E : Nat → Nat → El, Hid (err at_ by_ = E) := ⟨_, rfl⟩
  have n0 : Hid (N 0 = 0) := by rw [← HN.out]; exact cnt_zero at_ by_
  have ny : Hid (∀ k, k < 3 → okA at_ by_ k → N (k + 1) = N k + 1) := fun k hk h => by rw [← HN.out]; exact cnt_yes at_ by_ k hk h
  have nn : Hid (∀ k, ¬ okA at_ by_ k → N (k + 1) = N k) := fun k h => by rw [← HN.out]; exact cnt_no at_ by_ k h
  have nl : Hid (∀ k, k ≤ 3 → N k ≤ k) := fun k hk => by rw [← HN.out]; exact cnt_le at_ by_ k hk
  have nE : Hid ((supp 39 (Er 3)).length = N 3) := by rw [← HN.out, ← HEr.out]; rfl
  have ey : Hid (∀ k, okA at_ by_ k → ∀ j, Er (k + 1) j = Er k j ^^^ Rm.one' (at_ k).toNat (by_ k) j) := fun k h j => by rw [← HEr.out]; exact err_yes at_ by_ k h j
  have en : Hid (∀ k, ¬ okA at_ by_ k → Er (k + 1) = Er k) := fun k h => by rw [← HEr.out]; exact err_no at_ by_ k h
  have e0 : Hid (∀ j, Er 0 j = 0) := fun j => by rw [← HEr.out]; rfl
  clear HN HEr
  have rA : V3.rangeAt (B + 1 + 1) 0 A2 := fun j v hv => by
    rw [← hA2] at hv
    have hj : j < 3 := by have := (List.getElem?_eq_some_iff.1 hv).1; rw [ints_len] at this; exact this
    rw [ints_at .i64 3 at_ j hj] at hv
    cases hv
    rw [Nat.zero_add]; exact H3.out.a j hj
  go_wp2_with (refine wpList_load_mid rfl 46 _ rfl (B + 1 + 1) 0 rfl A2 _ rA Try.underlying46 rfl iA ?_)
  clear rA
  go_loopw [11, 24] (fun m i wr => ∃ k : Nat, k ≤ 3 ∧ i = .int .i64 (k : Int) ∧ m = .int .i64 (N k : Int) ∧ Hid (DtS B J c b (adG G (Er k)) (adX X (Er k)) at_ by_ w wr)) (fun _ i _ => 3 - (intOf i).toNat)
  case atStart =>
    refine ⟨0, by omega, rfl, by rw [n0.out]; rfl, H3.out.congr (fun i _ => ?_) (fun i _ => ?_)⟩
    · unfold adG; rw [e0.out, Po.x0]
    · unfold adX; rw [e0.out, Po.x0]
  case round =>
    obtain ⟨k, hk, rfl, rfl, HK⟩ := hrel
    by_cases hlt : k < 3
    · have x0 := iI.out k hlt
      have a0 := HK.out.a 0 (by omega)
      have a1 := HK.out.a 1 (by omega)
      have bk := HK.out.y.arr k hlt
      have hNk := nl.out k (by omega)
      have hyk := ny.out k hlt
      have hnk := nn.out k
      have heyk := ey.out k
      have henk := en.out k
      have hok : okA at_ by_ k ↔ (0 ≤ at_ k ∧ at_ k ≤ 38 ∧ by_ k ≠ 0 ∧ ¬ (0 < k ∧ at_ k = at_ 0) ∧ ¬ (1 < k ∧ at_ k = at_ 1)) := Iff.rfl
      obtain ⟨p, hp⟩ : ∃ p, at_ k = p := ⟨_, rfl⟩
      obtain ⟨p0, hp0⟩ : ∃ p, at_ 0 = p := ⟨_, rfl⟩
      obtain ⟨p1, hp1⟩ : ∃ p, at_ 1 = p := ⟨_, rfl⟩
      obtain ⟨y, hy⟩ : ∃ y, by_ k = y := ⟨_, rfl⟩
      obtain ⟨n, hn⟩ : ∃ n, N k = n := ⟨_, rfl⟩
      rw [hp] at x0 heyk
      rw [hp0] at a0
      rw [hp1] at a1
      rw [hy] at bk heyk
      rw [hp, hp0, hp1, hy] at hok
      rw [hn] at hNk hyk hnk ⊢
      have HNo : Hid (¬ okA at_ by_ k → N (k + 1) = n ∧ DtS B J c b (adG G (Er (k + 1))) (adX X (Er (k + 1))) at_ by_ w wr) := fun h => ⟨hnk h, by rw [henk h]; exact HK.out⟩
      clear hnk henk
      by_cases h1 : p < 0
      · obtain ⟨e1, e2⟩ := HNo.out (fun h => by have := (hok.1 h).1; omega)
        have E1 : Hid (N (k + 1) = n) := e1
        have E2 : Hid (DtS B J c b (adG G (Er (k + 1))) (adX X (Er (k + 1))) at_ by_ w wr) := e2
        clear HNo hok hyk heyk HK e1 e2 hn hp hp0 hp1 hy
        go_wp2
        go_roundw
        case rel => exact ⟨k + 1, by omega, by go_num, by rw [E1.out], E2.out⟩
        case measure => simp [intOf]; omega
      · have h1' : 0 ≤ p := by omega
        clear h1
        by_cases h2 : 38 < p
        · obtain ⟨e1, e2⟩ := HNo.out (fun h => by have := (hok.1 h).2.1; omega)
          have E1 : Hid (N (k + 1) = n) := e1
          have E2 : Hid (DtS B J c b (adG G (Er (k + 1))) (adX X (Er (k + 1))) at_ by_ w wr) := e2
          clear HNo hok hyk heyk HK e1 e2 hn hp hp0 hp1 hy
          go_wp2
          go_roundw
          case rel => exact ⟨k + 1, by omega, by go_num, by rw [E1.out], E2.out⟩
          case measure => simp [intOf]; omega
        · have h2' : p ≤ 38 := by omega
          have h2n : ¬ (38 < p) := h2
          clear h2
          by_cases h3 : y = 0
          · obtain ⟨e1, e2⟩ := HNo.out (fun h => (hok.1 h).2.2.1 h3)
            have E1 : Hid (N (k + 1) = n) := e1
            have E2 : Hid (DtS B J c b (adG G (Er (k + 1))) (adX X (Er (k + 1))) at_ by_ w wr) := e2
            rw [h3, oe_zero] at bk
            clear HNo hok hyk heyk HK e1 e2 hn hp hp0 hp1 hy
            go_wp2
            go_roundw
            case rel => exact ⟨k + 1, by omega, by go_num, by rw [E1.out], E2.out⟩
            case measure => simp [intOf]; omega
          · by_cases h4 : 0 < k ∧ p = p0
            · obtain ⟨e1, e2⟩ := HNo.out (fun h => (hok.1 h).2.2.2.1 h4)
              have E1 : Hid (N (k + 1) = n) := e1
              have E2 : Hid (DtS B J c b (adG G (Er (k + 1))) (adX X (Er (k + 1))) at_ by_ w wr) := e2
              have hy0 : (oe y == 0) = false := oe_ne0 h3
              have hk0 : 0 < (k : Int) := by omega
              have hpp : (p == p0) = true := by simp [h4.2]
              clear h4 h3
              clear HNo hok hyk heyk HK e1 e2 hn hp hp0 hp1 hy
              go_wp2
              go_roundw
              case rel => exact ⟨k + 1, by omega, by go_num, by rw [E1.out], E2.out⟩
              case measure => simp [intOf]; omega
            · by_cases h5 : 1 < k ∧ p = p1
              · obtain ⟨e1, e2⟩ := HNo.out (fun h => (hok.1 h).2.2.2.2 h5)
                have E1 : Hid (N (k + 1) = n) := e1
                have E2 : Hid (DtS B J c b (adG G (Er (k + 1))) (adX X (Er (k + 1))) at_ by_ w wr) := e2
                have hy0 : (oe y == 0) = false := oe_ne0 h3
                have hk0 : 0 < (k : Int) := by omega
                have hk1 : 1 < (k : Int) := by omega
                have hpp : (p == p0) = false := by
                  have : p ≠ p0 := fun e => h4 ⟨by omega, e⟩
                  simpa using this
                have hpq : (p == p1) = true := by simp [h5.2]
                clear h4 h5 h3
                clear HNo hok hyk heyk HK e1 e2 hn hp hp0 hp1 hy
                go_wp2
                go_roundw
                case rel => exact ⟨k + 1, by omega, by go_num, by rw [E1.out], E2.out⟩
                case measure => simp [intOf]; omega
              · rcases (show k = 0 ∨ k = 1 ∨ k = 2 by omega) with hka | hka | hka
                · have hk0 : ¬ (0 < (k : Int)) := by omega
                  have hok1 : okA at_ by_ k := hok.2 ⟨h1', h2', h3, h4, h5⟩
                  have E1 : Hid (N (k + 1) = n + 1) := hyk hok1
                  have hey := heyk hok1
                  obtain ⟨q, rfl⟩ : ∃ q : Nat, p = (q : Int) := ⟨p.toNat, by omega⟩
                  rw [Int.toNat_natCast] at hey
                  have hy0 : (oe y == 0) = false := oe_ne0 h3
                  by_cases h36 : q < 36
                  · have cw := HK.out.o.arr q h36
                    have fw := HK.out.o.free q
                    have ex := oe_xor (adX X (Er k) q) y
                    have hle : ¬ (35 < (q : Int)) := by omega
                    have E2 : Hid (DtS B J c b (adG G (Er (k + 1))) (adX X (Er (k + 1))) at_ by_ w (wr.setCell ⟨J, q, none⟩ (.int .u8 (oe (adX X (Er k) q ^^^ y)))).drew) := ((HK.out.setO sJ hcJ q (adX X (Er k) q ^^^ y)).congr (fun i hi => by
                        unfold adG
                        rw [hey]
                        unfold Rm.one'
                        rw [if_neg (by omega), Po.x0]) (fun i hi => by
                        unfold adX
                        rw [hey]
                        unfold Rm.one'
                        by_cases e : i = q
                        · rw [if_pos e, if_pos e, e, BitVec.xor_assoc]
                        · rw [if_neg e, if_neg e, Po.x0])).drew
                    have nJ : J ≠ B + 1 + 1 + 1 := by omega
                    obtain ⟨z, hz1⟩ : ∃ z, adX X (Er k) q = z := ⟨_, rfl⟩
                    rw [hz1] at cw ex E2
                    clear HNo hok hyk heyk hok1 HK hey hn hp hp0 hp1 hy hz1 hka h4 h5 h3
                    go_wp2
                    go_region
                    go_wp2
                    go_roundw
                    case rel => exact ⟨k + 1, by omega, by go_num, by rw [E1.out]; go_num, E2.out⟩
                    case measure => simp [intOf]; omega
                  · obtain ⟨m, rfl⟩ : ∃ m, q = 36 + m := ⟨q - 36, by omega⟩
                    have hm : m < 3 := by omega
                    have cw := HK.out.v.arr m hm
                    have fw := HK.out.v.free m
                    have ex := oe_xor (adG G (Er k) m) y
                    have hgt : 35 < ((36 + m : Nat) : Int) := by omega
                    have hsub : IntKind.i64.wrap (((36 + m : Nat) : Int) - 36) = (m : Int) := by
                      rw [show ((36 + m : Nat) : Int) - 36 = (m : Int) from by omega]
                      exact wrap_lit _ (by omega) (by omega)
                    have E2 : Hid (DtS B J c b (adG G (Er (k + 1))) (adX X (Er (k + 1))) at_ by_ w (wr.setCell ⟨B + 1, m, none⟩ (.int .u8 (oe (adG G (Er k) m ^^^ y)))).drew) := ((HK.out.setV sJ hcB m (adG G (Er k) m ^^^ y)).congr (fun i hi => by
                        unfold adG
                        rw [hey]
                        unfold Rm.one'
                        by_cases e : i = m
                        · rw [if_pos e, if_pos (by omega), e, BitVec.xor_assoc]
                        · rw [if_neg e, if_neg (by omega), Po.x0]) (fun i hi => by
                        unfold adX
                        rw [hey]
                        unfold Rm.one'
                        rw [if_neg (by omega), Po.x0])).drew
                    have nB : B + 1 ≠ B + 1 + 1 + 1 := by omega
                    obtain ⟨z, hz1⟩ : ∃ z, adG G (Er k) m = z := ⟨_, rfl⟩
                    rw [hz1] at cw ex E2
                    clear HNo hok hyk heyk hok1 HK hey hn hp hp0 hp1 hy hz1 hka h4 h5 h3
                    go_wp2
                    go_region
                    go_wp2
                    go_roundw
                    case rel => exact ⟨k + 1, by omega, by go_num, by rw [E1.out]; go_num, E2.out⟩
                    case measure => simp [intOf]; omega
                · have hk0 : 0 < (k : Int) := by omega
                  have hk1 : ¬ (1 < (k : Int)) := by omega
                  have hpp : (p == p0) = false := by
                    have : p ≠ p0 := fun e => h4 ⟨by omega, e⟩
                    simpa using this
                  have hok1 : okA at_ by_ k := hok.2 ⟨h1', h2', h3, h4, h5⟩
                  have E1 : Hid (N (k + 1) = n + 1) := hyk hok1
                  have hey := heyk hok1
                  obtain ⟨q, rfl⟩ : ∃ q : Nat, p = (q : Int) := ⟨p.toNat, by omega⟩
                  rw [Int.toNat_natCast] at hey
                  have hy0 : (oe y == 0) = false := oe_ne0 h3
                  by_cases h36 : q < 36
                  · have cw := HK.out.o.arr q h36
                    have fw := HK.out.o.free q
                    have ex := oe_xor (adX X (Er k) q) y
                    have hle : ¬ (35 < (q : Int)) := by omega
                    have E2 : Hid (DtS B J c b (adG G (Er (k + 1))) (adX X (Er (k + 1))) at_ by_ w (wr.setCell ⟨J, q, none⟩ (.int .u8 (oe (adX X (Er k) q ^^^ y)))).drew) := ((HK.out.setO sJ hcJ q (adX X (Er k) q ^^^ y)).congr (fun i hi => by
                        unfold adG
                        rw [hey]
                        unfold Rm.one'
                        rw [if_neg (by omega), Po.x0]) (fun i hi => by
                        unfold adX
                        rw [hey]
                        unfold Rm.one'
                        by_cases e : i = q
                        · rw [if_pos e, if_pos e, e, BitVec.xor_assoc]
                        · rw [if_neg e, if_neg e, Po.x0])).drew
                    have nJ : J ≠ B + 1 + 1 + 1 := by omega
                    obtain ⟨z, hz1⟩ : ∃ z, adX X (Er k) q = z := ⟨_, rfl⟩
                    rw [hz1] at cw ex E2
                    clear HNo hok hyk heyk hok1 HK hey hn hp hp0 hp1 hy hz1 hka h4 h5 h3
                    go_wp2
                    go_region
                    go_wp2
                    go_roundw
                    case rel => exact ⟨k + 1, by omega, by go_num, by rw [E1.out]; go_num, E2.out⟩
                    case measure => simp [intOf]; omega
                  · obtain ⟨m, rfl⟩ : ∃ m, q = 36 + m := ⟨q - 36, by omega⟩
                    have hm : m < 3 := by omega
                    have cw := HK.out.v.arr m hm
                    have fw := HK.out.v.free m
                    have ex := oe_xor (adG G (Er k) m) y
                    have hgt : 35 < ((36 + m : Nat) : Int) := by omega
                    have hsub : IntKind.i64.wrap (((36 + m : Nat) : Int) - 36) = (m : Int) := by
                      rw [show ((36 + m : Nat) : Int) - 36 = (m : Int) from by omega]
                      exact wrap_lit _ (by omega) (by omega)
                    have E2 : Hid (DtS B J c b (adG G (Er (k + 1))) (adX X (Er (k + 1))) at_ by_ w (wr.setCell ⟨B + 1, m, none⟩ (.int .u8 (oe (adG G (Er k) m ^^^ y)))).drew) := ((HK.out.setV sJ hcB m (adG G (Er k) m ^^^ y)).congr (fun i hi => by
                        unfold adG
                        rw [hey]
                        unfold Rm.one'
                        by_cases e : i = m
                        · rw [if_pos e, if_pos (by omega), e, BitVec.xor_assoc]
                        · rw [if_neg e, if_neg (by omega), Po.x0]) (fun i hi => by
                        unfold adX
                        rw [hey]
                        unfold Rm.one'
                        rw [if_neg (by omega), Po.x0])).drew
                    have hpp2 : ((36 + (m : Int)) == p0) = false := by have h := hpp; rw [show ((36 + m : Nat) : Int) = 36 + (m : Int) from by omega] at h; exact h
                    have nB : B + 1 ≠ B + 1 + 1 + 1 := by omega
                    obtain ⟨z, hz1⟩ : ∃ z, adG G (Er k) m = z := ⟨_, rfl⟩
                    rw [hz1] at cw ex E2
                    clear HNo hok hyk heyk hok1 HK hey hn hp hp0 hp1 hy hz1 hka h4 h5 h3
                    go_wp2
                    go_region
                    go_wp2
                    go_roundw
                    case rel => exact ⟨k + 1, by omega, by go_num, by rw [E1.out]; go_num, E2.out⟩
                    case measure => simp [intOf]; omega
                · have hk0 : 0 < (k : Int) := by omega
                  have hk1 : 1 < (k : Int) := by omega
                  have hpp : (p == p0) = false := by
                    have : p ≠ p0 := fun e => h4 ⟨by omega, e⟩
                    simpa using this
                  have hpq : (p == p1) = false := by
                    have : p ≠ p1 := fun e => h5 ⟨by omega, e⟩
                    simpa using this
                  have hok1 : okA at_ by_ k := hok.2 ⟨h1', h2', h3, h4, h5⟩
                  have E1 : Hid (N (k + 1) = n + 1) := hyk hok1
                  have hey := heyk hok1
                  obtain ⟨q, rfl⟩ : ∃ q : Nat, p = (q : Int) := ⟨p.toNat, by omega⟩
                  rw [Int.toNat_natCast] at hey
                  have hy0 : (oe y == 0) = false := oe_ne0 h3
                  by_cases h36 : q < 36
                  · have cw := HK.out.o.arr q h36
                    have fw := HK.out.o.free q
                    have ex := oe_xor (adX X (Er k) q) y
                    have hle : ¬ (35 < (q : Int)) := by omega
                    have E2 : Hid (DtS B J c b (adG G (Er (k + 1))) (adX X (Er (k + 1))) at_ by_ w (wr.setCell ⟨J, q, none⟩ (.int .u8 (oe (adX X (Er k) q ^^^ y)))).drew) := ((HK.out.setO sJ hcJ q (adX X (Er k) q ^^^ y)).congr (fun i hi => by
                        unfold adG
                        rw [hey]
                        unfold Rm.one'
                        rw [if_neg (by omega), Po.x0]) (fun i hi => by
                        unfold adX
                        rw [hey]
                        unfold Rm.one'
                        by_cases e : i = q
                        · rw [if_pos e, if_pos e, e, BitVec.xor_assoc]
                        · rw [if_neg e, if_neg e, Po.x0])).drew
                    have nJ : J ≠ B + 1 + 1 + 1 := by omega
                    obtain ⟨z, hz1⟩ : ∃ z, adX X (Er k) q = z := ⟨_, rfl⟩
                    rw [hz1] at cw ex E2
                    clear HNo hok hyk heyk hok1 HK hey hn hp hp0 hp1 hy hz1 hka h4 h5 h3
                    go_wp2
                    go_region
                    go_wp2
                    go_roundw
                    case rel => exact ⟨k + 1, by omega, by go_num, by rw [E1.out]; go_num, E2.out⟩
                    case measure => simp [intOf]; omega
                  · obtain ⟨m, rfl⟩ : ∃ m, q = 36 + m := ⟨q - 36, by omega⟩
                    have hm : m < 3 := by omega
                    have cw := HK.out.v.arr m hm
                    have fw := HK.out.v.free m
                    have ex := oe_xor (adG G (Er k) m) y
                    have hgt : 35 < ((36 + m : Nat) : Int) := by omega
                    have hsub : IntKind.i64.wrap (((36 + m : Nat) : Int) - 36) = (m : Int) := by
                      rw [show ((36 + m : Nat) : Int) - 36 = (m : Int) from by omega]
                      exact wrap_lit _ (by omega) (by omega)
                    have E2 : Hid (DtS B J c b (adG G (Er (k + 1))) (adX X (Er (k + 1))) at_ by_ w (wr.setCell ⟨B + 1, m, none⟩ (.int .u8 (oe (adG G (Er k) m ^^^ y)))).drew) := ((HK.out.setV sJ hcB m (adG G (Er k) m ^^^ y)).congr (fun i hi => by
                        unfold adG
                        rw [hey]
                        unfold Rm.one'
                        by_cases e : i = m
                        · rw [if_pos e, if_pos (by omega), e, BitVec.xor_assoc]
                        · rw [if_neg e, if_neg (by omega), Po.x0]) (fun i hi => by
                        unfold adX
                        rw [hey]
                        unfold Rm.one'
                        rw [if_neg (by omega), Po.x0])).drew
                    have hpp2 : ((36 + (m : Int)) == p0) = false := by have h := hpp; rw [show ((36 + m : Nat) : Int) = 36 + (m : Int) from by omega] at h; exact h
                    have hpq2 : ((36 + (m : Int)) == p1) = false := by have h := hpq; rw [show ((36 + m : Nat) : Int) = 36 + (m : Int) from by omega] at h; exact h
                    have nB : B + 1 ≠ B + 1 + 1 + 1 := by omega
                    obtain ⟨z, hz1⟩ : ∃ z, adG G (Er k) m = z := ⟨_, rfl⟩
                    rw [hz1] at cw ex E2
                    clear HNo hok hyk heyk hok1 HK hey hn hp hp0 hp1 hy hz1 hka h4 h5 h3
                    go_wp2
                    go_region
                    go_wp2
                    go_roundw
                    case rel => exact ⟨k + 1, by omega, by go_num, by rw [E1.out]; go_num, E2.out⟩
                    case measure => simp [intOf]; omega
    · obtain rfl : k = 3 := by omega
      have h3l := nl.out 3 (by omega)
      have hlost := fun h2 => lost_ways (E := Er 3) HCd.out h2 (by rw [nE.out]; exact h3l)
      rw [nE.out] at hlost
      obtain ⟨n, hn⟩ : ∃ n, N 3 = n := ⟨_, rfl⟩
      rw [hn] at h3l hlost ⊢
      obtain ⟨F1, HF1⟩ : ∃ F1, Hid (adX X (Er 3) = F1) := ⟨_, rfl⟩
      obtain ⟨G1, HG1⟩ : ∃ G1, Hid (adG G (Er 3) = G1) := ⟨_, rfl⟩
      rw [HF1.out, HG1.out] at hlost HK
      have HB0 : Hid (Below B w wr) := HK.out.below
      by_cases h2 : n < 2
      · have h2i : (n : Int) < 2 := by omega
        clear hlost HK HCd n0 ny nn nl nE ey en e0 hn H3
        go_wp2
        go_ret
        exact ⟨rfl, by first | exact HB0.out | (rw [hB]; exact HB0.out)⟩
      · have h2i : ¬ ((n : Int) < 2) := by omega
        have hV := hlost (by omega)
        obtain ⟨R, hR1, hR2, hD⟩ := decode_told c b F1 G1 wr HK.out.code _ hV
        obtain ⟨LX, hLX⟩ : ∃ L, arr 36 F1 = L := ⟨_, rfl⟩
        obtain ⟨LG, hLG⟩ : ∃ L, arr 3 G1 = L := ⟨_, rfl⟩
        rw [hLX, hLG] at hD
        have HD : Hid (Calls Try.prog 19 #[.pointer (some ⟨c, 0, none⟩), .agg LX.toArray, .agg LG.toArray] wr fun e w' => e = .returned (.tuple #[.agg R.toArray, .agg #[.int .i64 3, .int .i64 (-1), .int .u8 0]]) ∧ Below wr.heap.size wr w') := hD
        have r0 : wr.rangeAt J 0 LX := by rw [← hLX]; exact HK.out.o.range
        have r1 : wr.rangeAt (B + 1) 0 LG := by rw [← hLG]; exact HK.out.v.range
        have j36 : (Try.prog.info? 24).map (·.size) = some LX.length := by rw [← hLX, arr_len]; kernel_rfl
        have j3 : (Try.prog.info? 23).map (·.size) = some LG.length := by rw [← hLG, arr_len]; kernel_rfl
        have iR : (Try.prog.info? 22).map (·.size) = some R.length := by rw [hR1]; kernel_rfl
        clear hlost hV hD HCd n0 ny nn nl nE ey en e0 hn hLX hLG H3
        go_upto_region 17 with (fail)
        go_upto_region 18 with (first | refine wpList_load_mid rfl 24 _ rfl J 0 rfl LX _ r0 Try.underlying24 rfl j36 ?_ | refine wpList_load_mid rfl 23 _ rfl (B + 1) 0 rfl LG _ r1 Try.underlying23 rfl j3 ?_ | (go_at_call 19; refine (HD.out).mono ?_; rintro e V7 ⟨rfl, hB7⟩) | refine wpList_store_mid rfl 22 _ _ rfl _ 0 R.toArray rfl rfl (pair_t1 hA6 hR1 _ _ _) iR hR2 ?_ | refine wpList_store_mid rfl 40 _ _ rfl _ 0 #[.int .i64 3, .int .i64 (-1), .int .u8 0] rfl rfl (pair_t2 _ _ _ _ _) infoVd (by simp [Value.oneCell']) ?_)
        obtain ⟨V8, hV8⟩ : ∃ V, (((V7.alloc (.cells A6.toArray 22)).alloc (.cells #[.int .i64 0, .int .i64 0, .int .u8 0] 40)).setCells V7.heap.size 0 R).setCells (V7.heap.size + 1) 0 [.int .i64 3, .int .i64 (-1), .int .u8 0] = V := ⟨_, rfl⟩
        obtain ⟨v8, b8, s8⟩ := pair_laid V7 _ _ R _ _ _ V8 hV8
        obtain ⟨Q, hQ⟩ : ∃ Q, V7.heap.size + 1 = Q := ⟨_, rfl⟩
        have bb : Below wr.heap.size wr V8 := hB7.trans (b8.mono hB7.size)
        rw [hQ] at v8
        have y0 := v8.c0; have y1 := v8.c1; have y2 := v8.c2
        have HE : Hid (Below B w V8) := HB0.out.trans (bb.mono (Nat.le_trans (by omega) (Nat.le_of_lt HK.out.v.lt)))
        simp only [Act.put]
        rw [hV8, hQ]
        clear hV8 hQ v8 b8 s8 bb HK r0 r1 HD hB7 j36 j3
        go_wp2
        go_ret
        exact ⟨rfl, by first | exact HE.out | (rw [hB]; exact HE.out)⟩
theorem rsDetects_walk (a0 : Nat → Int) (a1 : Nat → Int) (a2 : Nat → Int) (a3 : Nat → Int) (w0 : ∀ i, i < 32 → (Lit.int .u8 (a0 i)).wf = true) (w1 : ∀ i, i < 3 → (Lit.int .u8 (a1 i)).wf = true) (_w2 : ∀ i, i < 3 → (Lit.int .i64 (a2 i)).wf = true) (w3 : ∀ i, i < 3 → (Lit.int .u8 (a3 i)).wf = true) (w : World) :
    Calls Try.prog 6 #[.agg (ints .u8 32 a0).toArray, .agg (ints .u8 3 a1).toArray, .agg (ints .i64 3 a2).toArray, .agg (ints .u8 3 a3).toArray] w fun e w' => e = .returned (.bool true) ∧ Below w.heap.size w w' := by
  rw [ints_arr 32 a0 w0, ints_arr 3 a1 w1, ints_arr 3 a3 w3]
  exact rsDetects_core _ _ a2 _ w
end Go.Proofs.Ytmkjdpokcfeieaa
