/-
  Structs of integers of many kinds (arrays and structs within), and slices of such, as arguments: what a row's condition tells of them.
-/
import Derived.Test.YtcpjmfemgdgplaaFlatArgs
namespace Go.Proofs.Ytcpjmfemgdgplaa
open Go.ChangeShapes Go.WideShapes Go.ChangeAt Go.RowKit

/-- the cells of the type are integers of these kinds, one behind another -/
def mixB (P : Program) : Nat → TypeId → List IntKind → Bool
  | 0, _, _ => false
  | d + 1, t, ks => match P.underlying t with
    | some (.int k) => decide (ks = [k])
    | some (.array n e) => decide (ks.length = n * P.cellsOf e) && decide (0 < P.cellsOf e) && decide (P.cellsOf t = n * P.cellsOf e) && (List.range n).all fun i => mixB P d e ((ks.drop (i * P.cellsOf e)).take (P.cellsOf e))
    | some (.struct fs) => decide (ks.length = P.cellsOf t) && ((List.range (P.cellsOf t)).all fun j => fs.toList.any fun f => decide (f.offset ≤ j) && decide (j < f.offset + P.cellsOf f.type)) && fs.toList.all fun f => mixB P d f.type ((ks.drop f.offset).take (P.cellsOf f.type))
    | _ => false
/-- integers of these kinds -/
def mints (ks : List IntKind) (F : Nat → Int) : List Value := (List.range ks.length).map fun i => Value.int (ks[i]?.getD .i64) (F i)
theorem mints_len (ks : List IntKind) (F : Nat → Int) : (mints ks F).length = ks.length := by simp [mints]
theorem mints_at (ks : List IntKind) (F : Nat → Int) (i : Nat) (k : IntKind) (h : ks[i]? = some k) : (mints ks F)[i]? = some (.int k (F i)) := by
  have := (List.getElem?_eq_some_iff.1 h).1
  unfold mints
  rw [List.getElem?_map, List.getElem?_range this]
  simp [h]
section
variable {H : Type} {enc : TypeId × Value → H} {P : Program} {w : World} {base : Nat} {spare : Nat → Bool} {held : Bool}

theorem mix_cells : ∀ (d : Nat) (t : TypeId) (ks : List IntKind), mixB P d t ks = true → ∀ {fuel : Nat} {cs : List Value} {x : DataW H × List MemPlace}, DataW.trod enc P w base spare held fuel t cs = some x →
    cs.length = ks.length ∧ ∀ (j : Nat) (k : IntKind), ks[j]? = some k → ∃ z : Int, cs[j]? = some (.int k z) ∧ (Lit.int k z).wf = true
  | 0, _, _, h, _, _, _, _ => by cases h
  | d + 1, t, ks, h, fuel, cs, x, hx => by
    unfold mixB at h
    split at h
    · rename_i k' hu
      simp only [decide_eq_true_eq] at h
      subst h
      obtain ⟨z, rfl, _, hw⟩ := DataW.trod_int hu hx
      refine ⟨rfl, fun j k hj => ?_⟩
      cases j with
      | zero =>
        simp at hj
        subst hj
        exact ⟨z, rfl, hw⟩
      | succ j => simp at hj
    · rename_i n e hu
      simp only [Bool.and_eq_true, List.all_eq_true, decide_eq_true_eq] at h
      obtain ⟨⟨⟨hl, h0⟩, hct⟩, hall⟩ := h
      obtain ⟨xs, m, _, _, hcl, hxl, hel⟩ := DataW.trod_array hu hx
      refine ⟨by rw [hcl, hct, hl], fun j k hj => ?_⟩
      have hjl : j < n * P.cellsOf e := by rw [← hl]; exact (List.getElem?_eq_some_iff.1 hj).1
      have hi : j / P.cellsOf e < n := Nat.div_lt_of_lt_mul (by rwa [Nat.mul_comm])
      have hmod : j % P.cellsOf e < P.cellsOf e := Nat.mod_lt _ h0
      have hj2 : j / P.cellsOf e * P.cellsOf e + j % P.cellsOf e = j := by rw [Nat.mul_comm]; exact Nat.div_add_mod j _
      have hxi := hel (j / P.cellsOf e) hi
      rw [List.getElem?_eq_getElem (by omega)] at hxi
      obtain ⟨_, hv⟩ := mix_cells d e _ (hall _ (List.mem_range.2 hi)) hxi
      obtain ⟨z, hz, hw⟩ := hv (j % P.cellsOf e) k (by rw [List.getElem?_take, if_pos hmod, List.getElem?_drop, hj2]; exact hj)
      rw [List.getElem?_take, if_pos hmod, List.getElem?_drop, hj2] at hz
      exact ⟨z, hz, hw⟩
    · rename_i fs hu
      simp only [Bool.and_eq_true, List.all_eq_true, List.any_eq_true, decide_eq_true_eq] at h
      obtain ⟨⟨hl, hc⟩, hf⟩ := h
      obtain ⟨xs, n, _, _, hcl, hxs, hel⟩ := DataW.trod_struct hu hx
      refine ⟨by rw [hcl, hl], fun j k hj => ?_⟩
      have hjl : j < P.cellsOf t := by rw [← hl]; exact (List.getElem?_eq_some_iff.1 hj).1
      obtain ⟨f, hfm, h1, h2⟩ := hc j (List.mem_range.2 hjl)
      obtain ⟨i, hi⟩ := List.mem_iff_getElem?.1 hfm
      have hi' : fs[i]? = some f := by simpa using hi
      have hxi := hel i f hi'
      have hil : i < xs.length := by rw [hxs]; exact (Array.getElem?_eq_some_iff.1 hi').1
      rw [List.getElem?_eq_getElem hil] at hxi
      obtain ⟨_, hv⟩ := mix_cells d f.type _ (hf f hfm) hxi
      have hj2 : f.offset + (j - f.offset) = j := by omega
      obtain ⟨z, hz, hw⟩ := hv (j - f.offset) k (by rw [List.getElem?_take, if_pos (by omega), List.getElem?_drop, hj2]; exact hj)
      rw [List.getElem?_take, if_pos (by omega), List.getElem?_drop, hj2] at hz
      exact ⟨z, hz, hw⟩
    · cases h
theorem mix_ints {ks : List IntKind} {cs : List Value} (hl : cs.length = ks.length) (h : ∀ (j : Nat) (k : IntKind), ks[j]? = some k → ∃ z : Int, cs[j]? = some (.int k z) ∧ (Lit.int k z).wf = true) : ∃ F : Nat → Int, cs = mints ks F ∧ ∀ j k, ks[j]? = some k → (Lit.int k (F j)).wf = true := by
  obtain ⟨F, hF⟩ := Go.Deep.choose_lt (α := Int) (n := ks.length) (p := fun i z => ∀ k, ks[i]? = some k → cs[i]? = some (.int k z) ∧ (Lit.int k z).wf = true) fun i hi => by
    obtain ⟨z, hz, hw⟩ := h i ks[i] (List.getElem?_eq_getElem hi)
    refine ⟨z, fun k hk => ?_⟩
    rw [List.getElem?_eq_getElem hi] at hk
    cases hk
    exact ⟨hz, hw⟩
  refine ⟨F, List.ext_getElem? fun i => ?_, fun j k hj => (hF j (List.getElem?_eq_some_iff.1 hj).1 k hj).2⟩
  by_cases hi : i < ks.length
  · rw [(hF i hi _ (List.getElem?_eq_getElem hi)).1, mints_at ks F i _ (List.getElem?_eq_getElem hi)]
  · rw [List.getElem?_eq_none (by omega), List.getElem?_eq_none (by rw [mints_len]; omega)]
theorem open_mix {t : TypeId} {ks : List IntKind} {r : Reach} {b0 : Nat} {fs : Array Field} {v : Value} {d : DataW H} {ps : List MemPlace} (ht : P.underlying t = some (.struct fs)) (hf : mixB P 8 t ks = true)
    (hval : Value.okWide P w r b0 t v) (hd : DataW.Trod enc P w base spare held t v d ps) :
    ∃ F : Nat → Int, v = .agg (mints ks F).toArray ∧ ∀ j k, ks[j]? = some k → (Lit.int k (F j)).wf = true := by
  obtain ⟨cs, rfl⟩ : ∃ cs, v = .agg cs := by
    simp only [Value.okWide, ht] at hval
    obtain ⟨cs, h1, _⟩ := hval
    exact ⟨cs, h1⟩
  obtain ⟨fuel, hx⟩ := hd
  obtain ⟨hl, hall⟩ := mix_cells 8 t ks hf hx
  obtain ⟨F, hF, hw⟩ := mix_ints (cs := cs.toList) (by simpa [Value.cells] using hl) (by simpa [Value.cells] using hall)
  exact ⟨F, by rw [← hF], hw⟩
/-- a slice of structs, each of integers of these kinds -/
def IsMix (ks : List IntKind) (w : World) (a : Option Addr) (len cap : Nat) (Z : Nat → Nat → Int) : Prop :=
  (a = none ∧ len = 0 ∧ cap = 0) ∨
  ∃ x, a = some x ∧ len ≤ cap ∧ cap ≤ maxLen ∧ ∀ i, i < cap → ∀ j k, ks[j]? = some k → w.cell? (x.add (i * ks.length + j)) = some (.int k (Z i j)) ∧ (Lit.int k (Z i j)).wf = true
theorem open_mixs {t e : TypeId} {ks : List IntKind} {a : Option Addr} {len cap : Nat} {d : DataW H} {ps : List MemPlace} (ht : P.underlying t = some (.slice e)) (hf : mixB P 8 e ks = true) (hct : P.cellsOf e = ks.length) (hs : spare = fun _ => true)
    (hd : DataW.Trod enc P w base spare held t (.slice a len cap) d ps) : ∃ Z, IsMix ks w a len cap Z := by
  obtain ⟨fuel, hx⟩ := hd
  rcases Go.Deep.open_slice ht hx with ⟨h, _⟩ | ⟨x, l, c, m, n, D, Pl, h, _, hl, hm, hmm, _, hel⟩
  · simp [Value.cells] at h
    obtain ⟨rfl, rfl, rfl⟩ := h
    exact ⟨fun _ _ => 0, .inl ⟨rfl, rfl, rfl⟩⟩
  · simp [Value.cells] at h
    obtain ⟨rfl, rfl, rfl⟩ := h
    obtain rfl : m = cap := by rw [hmm, hs]; rfl
    obtain ⟨Z, hZ⟩ := Go.Deep.choose_lt (α := Nat → Int) (n := m) (p := fun i F => ∀ j k, ks[j]? = some k → w.cell? (x.add (i * ks.length + j)) = some (.int k (F j)) ∧ (Lit.int k (F j)).wf = true) fun i hi => by
      obtain ⟨cs, hcs, htr⟩ := hel i hi
      obtain ⟨hlen, hall⟩ := mix_cells 8 e ks hf htr
      obtain ⟨F, hF, hw⟩ := mix_ints hlen hall
      refine ⟨F, fun j k hj => ⟨?_, hw j k hj⟩⟩
      have hjl := (List.getElem?_eq_some_iff.1 hj).1
      have hc := (World.cells?_some hcs).2.2 j (by rw [hct]; exact hjl)
      rw [Go.Deep.add_add, hct] at hc
      rw [hc, hF, mints_at ks F j k hj]
    exact ⟨Z, .inr ⟨x, rfl, hl, hm, hZ⟩⟩
/-- a slice of Bools -/
def IsBo (w : World) (a : Option Addr) (len cap : Nat) (Z : Nat → Bool) : Prop :=
  (a = none ∧ len = 0 ∧ cap = 0) ∨ ∃ x, a = some x ∧ len ≤ cap ∧ cap ≤ maxLen ∧ ∀ i, i < cap → w.cell? (x.add i) = some (.bool (Z i))
theorem open_bools {t e : TypeId} {a : Option Addr} {len cap : Nat} {d : DataW H} {ps : List MemPlace} (ht : P.underlying t = some (.slice e)) (he : P.underlying e = some .bool) (hct : P.cellsOf e = 1) (hs : spare = fun _ => true)
    (hd : DataW.Trod enc P w base spare held t (.slice a len cap) d ps) : ∃ Z, IsBo w a len cap Z := by
  obtain ⟨fuel, hx⟩ := hd
  rcases Go.Deep.open_slice ht hx with ⟨h, _⟩ | ⟨x, l, c, m, n, D, Pl, h, _, hl, hm, hmm, _, hel⟩
  · simp [Value.cells] at h
    obtain ⟨rfl, rfl, rfl⟩ := h
    exact ⟨fun _ => false, .inl ⟨rfl, rfl, rfl⟩⟩
  · simp [Value.cells] at h
    obtain ⟨rfl, rfl, rfl⟩ := h
    obtain rfl : m = cap := by rw [hmm, hs]; rfl
    obtain ⟨Z, hZ⟩ := Go.Deep.choose_lt (α := Bool) (n := m) (p := fun i z => w.cell? (x.add i) = some (.bool z)) fun i hi => by
      obtain ⟨cs, hcs, htr⟩ := hel i hi
      obtain ⟨b, rfl, _⟩ := DataW.trod_bool he htr
      have hc := (World.cells?_some hcs).2.2 0 (by rw [hct]; omega)
      rw [Go.Deep.add_add, hct] at hc
      exact ⟨b, by simpa using hc⟩
    exact ⟨Z, .inr ⟨x, rfl, hl, hm, hZ⟩⟩
end
end Go.Proofs.Ytcpjmfemgdgplaa
