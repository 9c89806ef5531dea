/-
  For every input, cuirass's law FaultCovers returns true, and each argument reads behind the call as it read before. No condition. (The walk is in the texts that are imported.)
-/
import Derived.Test.YtlacmkcmfkakjaaRows
import Derived.Test.YtlacmkcmfkakjaaArrArgs
import Derived.WalkKit
import Derived.ProofKit
import Derived.OpenShut
import Derived.ShutString
import Derived.ChangeOld
import Derived.Below
import Derived.Deep.Slices
import Derived.Test.YtlacmkcmfkakjaaFaL2C
import Derived.Test.YtlacmkcmfkakjaaFaL2D
namespace Go.Proofs.Ytlacmkcmfkakjaa
open Go.ChangeShapes Go.WideShapes Go.ChangeAt Go.RowKit

/-- every cell of the type is an integer of the kind k -/
def flatB (P : Program) (k : IntKind) : Nat → TypeId → Bool
  | 0, _ => false
  | d + 1, t => match P.underlying t with
    | some (.int k') => decide (k' = k) && decide (P.cellsOf t = 1)
    | some (.struct fs) => ((List.range (P.cellsOf t)).all fun j => fs.toList.any fun f => decide (f.offset ≤ j) && decide (j < f.offset + P.cellsOf f.type)) && fs.toList.all fun f => flatB P k d f.type
    | _ => false
section
variable {H : Type} {enc : TypeId × Value → H} {P : Program} {w : World} {base : Nat} {spare : Nat → Bool} {held : Bool}

theorem flat_cells {k : IntKind} : ∀ (d : Nat) (t : TypeId), flatB P k d t = true → ∀ {fuel : Nat} {cs : List Value} {x : DataW H × List MemPlace}, DataW.trod enc P w base spare held fuel t cs = some x →
    cs.length = P.cellsOf t ∧ ∀ v ∈ cs, ∃ z : Int, v = .int k z ∧ (Lit.int k z).wf = true
  | 0, _, h, _, _, _, _ => by cases h
  | d + 1, t, h, fuel, cs, x, hx => by
    unfold flatB at h
    split at h
    · rename_i k' hu
      simp only [Bool.and_eq_true, decide_eq_true_eq] at h
      obtain ⟨rfl, h1⟩ := h
      obtain ⟨z, rfl, _, hw⟩ := DataW.trod_int hu hx
      exact ⟨by rw [h1]; rfl, fun v hv => ⟨z, by simpa using hv, hw⟩⟩
    · rename_i fs hu
      simp only [Bool.and_eq_true, List.all_eq_true, List.any_eq_true, decide_eq_true_eq] at h
      obtain ⟨hc, hf⟩ := h
      obtain ⟨xs, n, _, _, hl, hxs, hel⟩ := DataW.trod_struct hu hx
      refine ⟨hl, fun v hv => ?_⟩
      obtain ⟨j, hj⟩ := List.mem_iff_getElem?.1 hv
      have hjl : j < P.cellsOf t := by rw [← hl]; exact (List.getElem?_eq_some_iff.1 hj).1
      obtain ⟨f, hfm, h1, h2⟩ := hc j (List.mem_range.2 hjl)
      obtain ⟨i, hi⟩ := List.mem_iff_getElem?.1 hfm
      have hi' : fs[i]? = some f := by simpa using hi
      have hxi := hel i f hi'
      have hil : i < xs.length := by rw [hxs]; exact (Array.getElem?_eq_some_iff.1 hi').1
      rw [List.getElem?_eq_getElem hil] at hxi
      obtain ⟨_, hall⟩ := flat_cells d f.type (hf f hfm) hxi
      refine hall v (List.mem_iff_getElem?.2 ⟨j - f.offset, ?_⟩)
      rw [List.getElem?_take, if_pos (by omega), List.getElem?_drop, show f.offset + (j - f.offset) = j by omega]
      exact hj
    · cases h
/-- a list of integers, by a function -/
theorem flat_ints {k : IntKind} {n : Nat} {cs : List Value} (hl : cs.length = n) (h : ∀ v ∈ cs, ∃ z : Int, v = .int k z ∧ (Lit.int k z).wf = true) : ∃ F : Nat → Int, cs = ints k n F ∧ ∀ i, i < n → (Lit.int k (F i)).wf = true := by
  obtain ⟨F, hF⟩ := Go.Deep.choose_lt (α := Int) (n := n) (p := fun i z => cs[i]? = some (.int k z) ∧ (Lit.int k z).wf = true) fun i hi => by
    obtain ⟨z, hz, hw⟩ := h cs[i] (List.getElem_mem (by omega))
    exact ⟨z, by rw [List.getElem?_eq_getElem (by omega), hz], hw⟩
  refine ⟨F, List.ext_getElem? fun i => ?_, fun i hi => (hF i hi).2⟩
  by_cases hi : i < n
  · rw [(hF i hi).1, ints_at k n F i hi]
  · rw [List.getElem?_eq_none (by omega), List.getElem?_eq_none (by rw [ints_len]; omega)]
theorem open_flat {t : TypeId} {k : IntKind} {r : Reach} {b0 n : Nat} {fs : Array Field} {v : Value} {d : DataW H} {ps : List MemPlace} (ht : P.underlying t = some (.struct fs)) (hf : flatB P k 8 t = true) (hct : P.cellsOf t = n)
    (hval : Value.okWide P w r b0 t v) (hd : DataW.Trod enc P w base spare held t v d ps) :
    ∃ F : Nat → Int, v = .agg (ints k n F).toArray ∧ ∀ i, i < n → (Lit.int k (F i)).wf = true := by
  obtain ⟨cs, rfl⟩ : ∃ cs, v = .agg cs := by
    simp only [Value.okWide, ht] at hval
    obtain ⟨cs, h1, _⟩ := hval
    exact ⟨cs, h1⟩
  obtain ⟨fuel, hx⟩ := hd
  obtain ⟨hl, hall⟩ := flat_cells 8 t hf hx
  obtain ⟨F, hF, hw⟩ := flat_ints (k := k) (n := n) (cs := cs.toList) (by rw [← hct, ← hl]; simp [Value.cells]) (by simpa [Value.cells] using hall)
  exact ⟨F, by rw [← hF], hw⟩

/-- a slice of structs of s integers each -/
def IsFlat (k : IntKind) (s : Nat) (w : World) (a : Option Addr) (len cap : Nat) (Z : Nat → Nat → Int) : Prop :=
  (a = none ∧ len = 0 ∧ cap = 0) ∨
  ∃ x, a = some x ∧ len ≤ cap ∧ cap ≤ maxLen ∧ ∀ i, i < cap → ∀ j, j < s → w.cell? (x.add (i * s + j)) = some (.int k (Z i j)) ∧ (Lit.int k (Z i j)).wf = true
theorem open_flats {t e : TypeId} {k : IntKind} {s : Nat} {a : Option Addr} {len cap : Nat} {d : DataW H} {ps : List MemPlace} (ht : P.underlying t = some (.slice e)) (hf : flatB P k 8 e = true) (hct : P.cellsOf e = s) (hs : spare = fun _ => true)
    (hd : DataW.Trod enc P w base spare held t (.slice a len cap) d ps) : ∃ Z, IsFlat k s w a len cap Z := by
  obtain ⟨fuel, hx⟩ := hd
  rcases Go.Deep.open_slice ht hx with ⟨h, _⟩ | ⟨x, l, c, m, n, D, Pl, h, _, hl, hm, hmm, _, hel⟩
  · simp [Value.cells] at h
    obtain ⟨rfl, rfl, rfl⟩ := h
    exact ⟨fun _ _ => 0, .inl ⟨rfl, rfl, rfl⟩⟩
  · simp [Value.cells] at h
    obtain ⟨rfl, rfl, rfl⟩ := h
    obtain rfl : m = cap := by rw [hmm, hs]; rfl
    obtain ⟨Z, hZ⟩ := Go.Deep.choose_lt (α := Nat → Int) (n := m) (p := fun i F => ∀ j, j < s → w.cell? (x.add (i * s + j)) = some (.int k (F j)) ∧ (Lit.int k (F j)).wf = true) fun i hi => by
      obtain ⟨cs, hcs, htr⟩ := hel i hi
      obtain ⟨hlen, hall⟩ := flat_cells 8 e hf htr
      obtain ⟨F, hF, hw⟩ := flat_ints (k := k) (n := s) (by rw [← hct]; exact hlen) hall
      refine ⟨F, fun j hj => ⟨?_, hw j hj⟩⟩
      have hc := (World.cells?_some hcs).2.2 j (by rw [hct]; exact hj)
      rw [Go.Deep.add_add, hct] at hc
      rw [hc, hF, ints_at k s F j hj]
    exact ⟨Z, .inr ⟨x, rfl, hl, hm, hZ⟩⟩
end
end Go.Proofs.Ytlacmkcmfkakjaa
namespace Go.Proofs.Ytlacmkcmfkakjaa
open Go.RowKit Go.Shelf
attribute [local go_sem] Oper.semAt_some

theorem cv_none (k c i : Int) : cv 0 k c i = -1 := by
  unfold cv
  split
  · rw [if_neg (by omega)]
  · split
    · rw [if_neg (by omega)]
    · rfl
set_option maxRecDepth 100000 in
set_option maxHeartbeats 2000000 in
theorem faultCovers_none (k p q u v c i x : Int) (p' q' u' v' : Int) (F : Nat → Int) (m : Int) (h1 : m ≠ 1) (h2 : m ≠ 2) (w : World) :
    Calls Try.prog 5 #[.agg #[.int .i64 k, .int .i64 p, .int .i64 q, .int .i64 u, .int .i64 v, .int .i64 c, .int .i64 i, .int .i64 x], .int .i64 m, .agg #[.int .i64 p', .int .i64 q', .int .i64 u', .int .i64 v'], .agg (ints .u8 72 F).toArray] w fun e w' => e = .returned (.bool true) ∧ Below w.heap.size w w' := by
  have A0 : Hid (∀ w : World, Calls Try.prog 8 #[] w fun e w' => e = .returned (.bool true) ∧ Below w.heap.size w w') := anchor11_any
  have A2 : Hid (∀ w : World, Calls Try.prog 19 #[.agg #[.int .i64 k, .int .i64 p, .int .i64 q, .int .i64 u, .int .i64 v, .int .i64 c, .int .i64 i, .int .i64 x], .int .i64 m] w fun e w' => e = .returned (.int .i64 (-1)) ∧ Below w.heap.size w w') := fun w => by
    have := covers_any k p q u v c i x m 0 0 (.none m h1 h2) w
    rwa [cv_none] at this
  have d1 : (m != 1) = true := by simpa using h1
  have d2 : (m != 2) = true := by simpa using h2
  clear h1 h2
  obtain ⟨L, hL⟩ : ∃ L, ints .u8 72 F = L := ⟨_, rfl⟩
  rw [hL]
  clear hL
  go_enter Try.func5, Try.ntmps5
  go_upto_region 1 with (fail)
  obtain ⟨B, hB⟩ : ∃ B, w.heap.size = B := ⟨_, rfl⟩
  obtain ⟨V, hV⟩ : ∃ V, ((w.alloc (.cells #[.int .i64 k, .int .i64 p, .int .i64 q, .int .i64 u, .int .i64 v, .int .i64 c, .int .i64 i, .int .i64 x] 25)).alloc (.cells #[.int .i64 p', .int .i64 q', .int .i64 u', .int .i64 v'] 23)).alloc (.cells L.toArray 41) = V := ⟨_, rfl⟩
  have HS : Hid (Ft V B k p q u v c i x ∧ Below B w V) := by
    rw [← hV, ← hB]
    exact ⟨((Ft.new w k p q u v c i x _).alloc _).alloc _, (((Below.refl _ w).alloc (Nat.le_refl _) _).alloc (by simp) _).alloc (by simp; omega) _⟩
  rw [hV, hB]
  clear hV
  go_wp2_with (fail)
  refine (A0.out _).mono ?_
  rintro e W0 ⟨rfl, b0⟩
  replace HS : Hid (Ft W0 B k p q u v c i x ∧ Below B w W0) := ⟨HS.out.1.next b0, HS.out.2.trans (b0.mono (Nat.le_of_lt HS.out.1.lt))⟩
  clear b0
  go_wp2_with (refine wpList_load_mid rfl 25 _ rfl B 0 rfl [.int .i64 k, .int .i64 p, .int .i64 q, .int .i64 u, .int .i64 v, .int .i64 c, .int .i64 i, .int .i64 x] _ (by exact HS.out.1.range) Try.underlying25 rfl infoF ?_)
  refine (A2.out _).mono ?_
  rintro e W1 ⟨rfl, b1⟩
  replace HS : Hid (Ft W1 B k p q u v c i x ∧ Below B w W1) := ⟨HS.out.1.next b1, HS.out.2.trans (b1.mono (Nat.le_of_lt HS.out.1.lt))⟩
  clear b1
  go_wp2
  go_ret
  exact ⟨rfl, by first | exact HS.out.2 | (rw [hB]; exact HS.out.2)⟩
theorem faultCovers_walk (a0 : Nat → Int) (a1 : Int) (a2 a3 : Nat → Int) (w0 : ∀ i, i < 8 → (Lit.int .i64 (a0 i)).wf = true) (_w1 : (Lit.int .i64 a1).wf = true) (_w2 : ∀ i, i < 4 → (Lit.int .i64 (a2 i)).wf = true) (w3 : ∀ i, i < 72 → (Lit.int .u8 (a3 i)).wf = true) (w : World) :
    Calls Try.prog 5 #[.agg (ints .i64 8 a0).toArray, .int .i64 a1, .agg (ints .i64 4 a2).toArray, .agg (ints .u8 72 a3).toArray] w fun e w' => e = .returned (.bool true) ∧ Below w.heap.size w w' := by
  have hF := args_byts 72 a3 w3
  have h6 := (bounds_i64 (w0 6 (by omega))).2
  by_cases h1 : a1 = 1
  · subst h1
    exact faultCovers_1 (a0 0) (a0 1) (a0 2) (a0 3) (a0 4) (a0 5) (a0 6) (a0 7) (a2 0) (a2 1) (a2 2) (a2 3) a3 hF h6 w
  by_cases h2 : a1 = 2
  · subst h2
    exact faultCovers_2 (a0 0) (a0 1) (a0 2) (a0 3) (a0 4) (a0 5) (a0 6) (a0 7) (a2 0) (a2 1) (a2 2) (a2 3) a3 hF h6 w
  exact faultCovers_none (a0 0) (a0 1) (a0 2) (a0 3) (a0 4) (a0 5) (a0 6) (a0 7) (a2 0) (a2 1) (a2 2) (a2 3) a3 a1 h1 h2 w
end Go.Proofs.Ytlacmkcmfkakjaa
namespace Go.Proofs.Ytlacmkcmfkakjaa.faultCovers
open Go.ChangeShapes Go.WideShapes Go.ChangeAt Go.RowKit
open Go.ChangeMaps (open_string shut_string)
set_option linter.unusedVariables false

theorem own : ownKnob Try.prog.godebug = none := by kernel_rfl
theorem laidOut : laidOutB Try.prog = true := by kernel_rfl

theorem walk (a0 : Nat → Int) (a1 : Int) (a2 : Nat → Int) (a3 : Nat → Int) (w0 : ∀ i, i < 8 → (Lit.int .i64 (a0 i)).wf = true) (w1 : (Lit.int .i64 a1).wf = true) (w2 : ∀ i, i < 4 → (Lit.int .i64 (a2 i)).wf = true) (w3 : ∀ i, i < 72 → (Lit.int .u8 (a3 i)).wf = true) (w : World)  :
    Calls Try.prog 5 #[.agg (ints .i64 8 a0).toArray, .int .i64 a1, .agg (ints .i64 4 a2).toArray, .agg (ints .u8 72 a3).toArray] w fun e w' => e = .returned (.bool true) ∧ Below w.heap.size w w' := by
  exact faultCovers_walk a0 a1 a2 a3 w0 w1 w2 w3 w 

set_option maxRecDepth 100000 in
theorem lifted (os : Os) (started : os.Started) (H : Type) (enc : TypeId × Value → H) :
    ReturnsInHanded {} Try.checked os 5 .any (Rows.faultCoversSpec.pre6 enc Try.prog Try.f5 Rows.faultCoversRow.domain false) (Rows.faultCoversSpec.post enc Try.prog Try.f5 false true false false) := by
  refine returnsInHanded_of_change (C := Try.checked) own started (by kernel_rfl) Try.func5
    (ChangeSpec.witness6 (enc := enc) (C := Try.checked) false ⟨#[], #[.agg #[.int .i64 0, .int .i64 0, .int .i64 0, .int .i64 0, .int .i64 0, .int .i64 0, .int .i64 0, .int .i64 0], .int .i64 0, .agg #[.int .i64 0, .int .i64 0, .int .i64 0, .int .i64 0], .agg #[.int .u8 0, .int .u8 0, .int .u8 0, .int .u8 0, .int .u8 0, .int .u8 0, .int .u8 0, .int .u8 0, .int .u8 0, .int .u8 0, .int .u8 0, .int .u8 0, .int .u8 0, .int .u8 0, .int .u8 0, .int .u8 0, .int .u8 0, .int .u8 0, .int .u8 0, .int .u8 0, .int .u8 0, .int .u8 0, .int .u8 0, .int .u8 0, .int .u8 0, .int .u8 0, .int .u8 0, .int .u8 0, .int .u8 0, .int .u8 0, .int .u8 0, .int .u8 0, .int .u8 0, .int .u8 0, .int .u8 0, .int .u8 0, .int .u8 0, .int .u8 0, .int .u8 0, .int .u8 0, .int .u8 0, .int .u8 0, .int .u8 0, .int .u8 0, .int .u8 0, .int .u8 0, .int .u8 0, .int .u8 0, .int .u8 0, .int .u8 0, .int .u8 0, .int .u8 0, .int .u8 0, .int .u8 0, .int .u8 0, .int .u8 0, .int .u8 0, .int .u8 0, .int .u8 0, .int .u8 0, .int .u8 0, .int .u8 0, .int .u8 0, .int .u8 0, .int .u8 0, .int .u8 0, .int .u8 0, .int .u8 0, .int .u8 0, .int .u8 0, .int .u8 0, .int .u8 0]], []⟩ 8 (by kernel_rfl) (by kernel_rfl) (by kernel_rfl) (by kernel_rfl)) ?_
  intro W base args ds gs before hval0 hW hcnd _
  have hval : ∀ (j : Nat) t v, Try.f5.params[j]? = some t → args[j]? = some v → Value.okWide Try.prog W .any base t v := hval0
  have hW' := hW
  obtain ⟨p, q, hA0, hV, rfl, hfz, hnd⟩ := hW
  have hA : DataW.TrodAll enc Try.prog W 0 (fun _ => true) true Try.f5.params.toList args.toList ds p := hA0
  rw [Try.params5] at hA hval
  obtain ⟨v0, vs0, d0, ds0, p0, q0, hargs, rfl, rfl, h0, r0⟩ := trodAll_cons hA
  obtain ⟨v1, vs1, d1, ds1, p1, q1, rfl, rfl, rfl, h1, r1⟩ := trodAll_cons r0
  obtain ⟨v2, vs2, d2, ds2, p2, q2, rfl, rfl, rfl, h2, r2⟩ := trodAll_cons r1
  obtain ⟨v3, vs3, d3, ds3, p3, q3, rfl, rfl, rfl, h3, r3⟩ := trodAll_cons r2
  obtain ⟨rfl, rfl, rfl⟩ := trodAll_nil r3
  obtain rfl : args = #[v0, v1, v2, v3] := by cases args; simp_all
  obtain ⟨rfl, rfl⟩ := trodVars_none hV
  have k0 := h0
  have lt0 : ∀ x ∈ p0, x.block < W.heap.size := by obtain ⟨m, hm⟩ := k0; exact DataW.trod_lt m _ _ _ hm
  obtain ⟨a0, rfl, w0⟩ := Go.Proofs.Ytlacmkcmfkakjaa.open_flat (k := .i64) (n := 8) Try.underlying25 (by kernel_rfl) (by kernel_rfl) (hval 0 25 v0 rfl rfl) h0
  obtain ⟨a1, rfl, rfl, rfl, w1⟩ := open_int Try.underlying3 (hval 1 3 v1 rfl rfl) h1
  have k2 := h2
  have lt2 : ∀ x ∈ p2, x.block < W.heap.size := by obtain ⟨m, hm⟩ := k2; exact DataW.trod_lt m _ _ _ hm
  obtain ⟨a2, rfl, w2⟩ := Go.Proofs.Ytlacmkcmfkakjaa.open_flat (k := .i64) (n := 4) Try.underlying23 (by kernel_rfl) (by kernel_rfl) (hval 2 23 v2 rfl rfl) h2
  obtain ⟨a3, rfl, rfl, rfl, w3⟩ := Go.Proofs.Ytlacmkcmfkakjaa.open_ints Try.underlying41 Try.underlying5 (by kernel_rfl) (by kernel_rfl) (hval 3 41 v3 rfl rfl) h3
  clear hA0 hval0
  refine (walk a0 a1 a2 a3 w0 w1 w2 w3 W ).mono fun e W' ⟨he, bel⟩ => ?_
  subst he
  exact ⟨_, rfl, _, _, _, [], _, [], hW', trodAll_mk1 (shut_bool Try.underlying4 _), (trodAll_cons_mk (Below.trod laidOut (by kernel_rfl) (of_decide_eq_true (by kernel_rfl)) k0 bel lt0) (trodAll_cons_mk (shut_int Try.underlying3 w1) (trodAll_cons_mk (Below.trod laidOut (by kernel_rfl) (of_decide_eq_true (by kernel_rfl)) k2 bel lt2) (trodAll_cons_mk (Go.Proofs.Ytlacmkcmfkakjaa.shut_ints Try.underlying41 Try.underlying5 (by kernel_rfl) (by kernel_rfl) w3) trodAll_mk0)))), rfl, bel.frame _, fun h => by cases h⟩

theorem over : Rows.faultCoversRow.holds Try.pinned (OpenSpec.ofChange Rows.faultCoversSpec) :=
  OpenClaim.holds_of_wide 5 Try.f5 rfl rfl rfl rfl rfl rfl rfl ⟨rfl, rfl, rfl, rfl, rfl⟩ rfl rfl rfl rfl rfl (by kernel_rfl) Try.func5 (by kernel_rfl)
    (of_decide_eq_true (by kernel_rfl)) (by unfold Func.isWrapper; first | (rw [if_pos (by decide +kernel)]; kernel_rfl) | (rw [if_neg (by decide +kernel)]; exact ⟨rfl, rfl⟩))
    (fun os started H enc _ => lifted os started H enc)

/-- THE STATEMENT -/
theorem proved : Rows.FaultCoversSaid :=
  over
#print axioms proved
end Go.Proofs.Ytlacmkcmfkakjaa.faultCovers
