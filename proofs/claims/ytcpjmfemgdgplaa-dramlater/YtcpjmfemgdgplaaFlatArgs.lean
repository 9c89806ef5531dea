/-
  Structs of integers of one kind, nested or not, and slices of such, as arguments: what a row's condition tells of them.
-/
import Derived.Test.YtcpjmfemgdgplaaArrArgs
import Derived.Deep.Slices
namespace Go.Proofs.Ytcpjmfemgdgplaa
open Go.ChangeShapes Go.WideShapes Go.ChangeAt Go.RowKit

/-- every cell of the type is an integer of the kind k -/
def flatB (P : Program) (k : IntKind) : Nat → TypeId → Bool
  | 0, _ => false
  | d + 1, t => match P.underlying t with
    | some (.int k') => decide (k' = k) && decide (P.cellsOf t = 1)
    | some (.struct fs) => ((List.range (P.cellsOf t)).all fun j => fs.toList.any fun f => decide (f.offset ≤ j) && decide (j < f.offset + P.cellsOf f.type)) && fs.toList.all fun f => flatB P k d f.type
    | _ => false
section
variable {H : Type} {enc : TypeId × Value → H} {P : Program} {w : World} {base : Nat} {spare : Nat → Bool} {held : Bool}

theorem flat_cells {k : IntKind} : ∀ (d : Nat) (t : TypeId), flatB P k d t = true → ∀ {fuel : Nat} {cs : List Value} {x : DataW H × List MemPlace}, DataW.trod enc P w base spare held fuel t cs = some x →
    cs.length = P.cellsOf t ∧ ∀ v ∈ cs, ∃ z : Int, v = .int k z ∧ (Lit.int k z).wf = true
  | 0, _, h, _, _, _, _ => by cases h
  | d + 1, t, h, fuel, cs, x, hx => by
    unfold flatB at h
    split at h
    · rename_i k' hu
      simp only [Bool.and_eq_true, decide_eq_true_eq] at h
      obtain ⟨rfl, h1⟩ := h
      obtain ⟨z, rfl, _, hw⟩ := DataW.trod_int hu hx
      exact ⟨by rw [h1]; rfl, fun v hv => ⟨z, by simpa using hv, hw⟩⟩
    · rename_i fs hu
      simp only [Bool.and_eq_true, List.all_eq_true, List.any_eq_true, decide_eq_true_eq] at h
      obtain ⟨hc, hf⟩ := h
      obtain ⟨xs, n, _, _, hl, hxs, hel⟩ := DataW.trod_struct hu hx
      refine ⟨hl, fun v hv => ?_⟩
      obtain ⟨j, hj⟩ := List.mem_iff_getElem?.1 hv
      have hjl : j < P.cellsOf t := by rw [← hl]; exact (List.getElem?_eq_some_iff.1 hj).1
      obtain ⟨f, hfm, h1, h2⟩ := hc j (List.mem_range.2 hjl)
      obtain ⟨i, hi⟩ := List.mem_iff_getElem?.1 hfm
      have hi' : fs[i]? = some f := by simpa using hi
      have hxi := hel i f hi'
      have hil : i < xs.length := by rw [hxs]; exact (Array.getElem?_eq_some_iff.1 hi').1
      rw [List.getElem?_eq_getElem hil] at hxi
      obtain ⟨_, hall⟩ := flat_cells d f.type (hf f hfm) hxi
      refine hall v (List.mem_iff_getElem?.2 ⟨j - f.offset, ?_⟩)
      rw [List.getElem?_take, if_pos (by omega), List.getElem?_drop, show f.offset + (j - f.offset) = j by omega]
      exact hj
    · cases h
/-- a list of integers, by a function -/
theorem flat_ints {k : IntKind} {n : Nat} {cs : List Value} (hl : cs.length = n) (h : ∀ v ∈ cs, ∃ z : Int, v = .int k z ∧ (Lit.int k z).wf = true) : ∃ F : Nat → Int, cs = ints k n F ∧ ∀ i, i < n → (Lit.int k (F i)).wf = true := by
  obtain ⟨F, hF⟩ := Go.Deep.choose_lt (α := Int) (n := n) (p := fun i z => cs[i]? = some (.int k z) ∧ (Lit.int k z).wf = true) fun i hi => by
    obtain ⟨z, hz, hw⟩ := h cs[i] (List.getElem_mem (by omega))
    exact ⟨z, by rw [List.getElem?_eq_getElem (by omega), hz], hw⟩
  refine ⟨F, List.ext_getElem? fun i => ?_, fun i hi => (hF i hi).2⟩
  by_cases hi : i < n
  · rw [(hF i hi).1, ints_at k n F i hi]
  · rw [List.getElem?_eq_none (by omega), List.getElem?_eq_none (by rw [ints_len]; omega)]
theorem open_flat {t : TypeId} {k : IntKind} {r : Reach} {b0 n : Nat} {fs : Array Field} {v : Value} {d : DataW H} {ps : List MemPlace} (ht : P.underlying t = some (.struct fs)) (hf : flatB P k 8 t = true) (hct : P.cellsOf t = n)
    (hval : Value.okWide P w r b0 t v) (hd : DataW.Trod enc P w base spare held t v d ps) :
    ∃ F : Nat → Int, v = .agg (ints k n F).toArray ∧ ∀ i, i < n → (Lit.int k (F i)).wf = true := by
  obtain ⟨cs, rfl⟩ : ∃ cs, v = .agg cs := by
    simp only [Value.okWide, ht] at hval
    obtain ⟨cs, h1, _⟩ := hval
    exact ⟨cs, h1⟩
  obtain ⟨fuel, hx⟩ := hd
  obtain ⟨hl, hall⟩ := flat_cells 8 t hf hx
  obtain ⟨F, hF, hw⟩ := flat_ints (k := k) (n := n) (cs := cs.toList) (by rw [← hct, ← hl]; simp [Value.cells]) (by simpa [Value.cells] using hall)
  exact ⟨F, by rw [← hF], hw⟩

/-- a slice of structs of s integers each -/
def IsFlat (k : IntKind) (s : Nat) (w : World) (a : Option Addr) (len cap : Nat) (Z : Nat → Nat → Int) : Prop :=
  (a = none ∧ len = 0 ∧ cap = 0) ∨
  ∃ x, a = some x ∧ len ≤ cap ∧ cap ≤ maxLen ∧ ∀ i, i < cap → ∀ j, j < s → w.cell? (x.add (i * s + j)) = some (.int k (Z i j)) ∧ (Lit.int k (Z i j)).wf = true
theorem open_flats {t e : TypeId} {k : IntKind} {s : Nat} {a : Option Addr} {len cap : Nat} {d : DataW H} {ps : List MemPlace} (ht : P.underlying t = some (.slice e)) (hf : flatB P k 8 e = true) (hct : P.cellsOf e = s) (hs : spare = fun _ => true)
    (hd : DataW.Trod enc P w base spare held t (.slice a len cap) d ps) : ∃ Z, IsFlat k s w a len cap Z := by
  obtain ⟨fuel, hx⟩ := hd
  rcases Go.Deep.open_slice ht hx with ⟨h, _⟩ | ⟨x, l, c, m, n, D, Pl, h, _, hl, hm, hmm, _, hel⟩
  · simp [Value.cells] at h
    obtain ⟨rfl, rfl, rfl⟩ := h
    exact ⟨fun _ _ => 0, .inl ⟨rfl, rfl, rfl⟩⟩
  · simp [Value.cells] at h
    obtain ⟨rfl, rfl, rfl⟩ := h
    obtain rfl : m = cap := by rw [hmm, hs]; rfl
    obtain ⟨Z, hZ⟩ := Go.Deep.choose_lt (α := Nat → Int) (n := m) (p := fun i F => ∀ j, j < s → w.cell? (x.add (i * s + j)) = some (.int k (F j)) ∧ (Lit.int k (F j)).wf = true) fun i hi => by
      obtain ⟨cs, hcs, htr⟩ := hel i hi
      obtain ⟨hlen, hall⟩ := flat_cells 8 e hf htr
      obtain ⟨F, hF, hw⟩ := flat_ints (k := k) (n := s) (by rw [← hct]; exact hlen) hall
      refine ⟨F, fun j hj => ⟨?_, hw j hj⟩⟩
      have hc := (World.cells?_some hcs).2.2 j (by rw [hct]; exact hj)
      rw [Go.Deep.add_add, hct] at hc
      rw [hc, hF, ints_at k s F j hj]
    exact ⟨Z, .inr ⟨x, rfl, hl, hm, hZ⟩⟩
end
end Go.Proofs.Ytcpjmfemgdgplaa
