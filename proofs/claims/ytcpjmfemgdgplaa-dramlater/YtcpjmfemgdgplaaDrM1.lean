/-
  A map of lines by their index.
-/
import Derived.Test.YtcpjmfemgdgplaaRwW7
import Derived.Test.YtcpjmfemgdgplaaGeW4
import Derived.Maps.OwnSet
namespace Go.Proofs.Ytcpjmfemgdgplaa
open Go.RowKit Go.Shelf
open Go.Maps (Keyed int_keyed IsMap atKey_put_same atKey_put_other)
attribute [local go_sem] Oper.semAt_some

/-- a line's bytes as a value; how it lies in a map -/
def rawV (F : Nat → Int) : Value := .agg (ints .u8 72 F).toArray
def rawK (v : Value) : Option (DataW Value × List MemPlace) := some (.held v, [])
theorem law12 : Keyed Try.prog 3 := int_keyed Try.underlying3
theorem wf12 {i : Int} (h : I64 i) : (Lit.int .i64 i).wf = true := by
  unfold I64 at h
  exact WalkArith.wf_i64 ⟨h.1, by omega⟩
theorem key12 {i : Int} (h : I64 i) : keyOf Try.prog 3 (.int .i64 i) = some (.int .i64 i) := Maps.keyOf_int_mk Try.underlying3 (wf12 h)
/-- block M is a map of at most n entries; at index i it has the bytes G i -/
def MpAt (W : World) (M n : Nat) (G : Int → Nat → Int) : Prop := ∃ D : DataW Value, W.ownsMap Try.prog 3 rawK M n D ∧ ∀ i, I64 i → D.atKey (.int .i64 i) (.held (rawV fun _ => 0)) = .held (rawV (G i))
/-- an index has other bytes -/
def gput (G : Int → Nat → Int) (i : Int) (F : Nat → Int) : Int → Nat → Int := fun j => if j = i then F else G j
section
variable {W W' : World} {M n : Nat} {G : Int → Nat → Int}
theorem MpAt.new (W : World) : MpAt (W.alloc (.map #[] 0)) W.heap.size 0 fun _ _ => 0 := ⟨_, World.ownsMap_made W _ _ _, fun _ _ => rfl⟩
theorem MpAt.lt (h : MpAt W M n G) : M < W.heap.size := by
  obtain ⟨D, h, _⟩ := h
  exact h.lt
theorem MpAt.of (h : MpAt W M n G) (e : W'.heap[M]? = W.heap[M]?) : MpAt W' M n G := by
  obtain ⟨D, ⟨es, clock, hb, r⟩, h2⟩ := h
  exact ⟨D, ⟨es, clock, e.trans hb, r⟩, h2⟩
theorem MpAt.mono (h : MpAt W M n G) {k : Nat} (hk : n ≤ k) : MpAt W M k G := by
  obtain ⟨D, h, h2⟩ := h
  exact ⟨D, h.mono hk, h2⟩
theorem MpAt.look (h : MpAt W M n G) {i : Int} (hi : I64 i) : (Instr.lookup 80 (.map (some M)) (.int .i64 i) false).run Try.prog W = .ok (rawV (G i)) W := by
  obtain ⟨D, h, h2⟩ := h
  obtain ⟨v, ps, hr, hv⟩ := h.lookup law12 (t := 80) (e := 40) Try.underlying80 (z := rawV fun _ => 0) (zeroR W) (zd := .held (rawV fun _ => 0)) (zp := []) rfl (key12 hi)
  rw [h2 i hi] at hv
  simp only [rawK, Option.some.injEq, Prod.mk.injEq, DataW.held.injEq] at hv
  rw [hr, hv.1]
theorem MpAt.put (h : MpAt W M n G) {i : Int} (hi : I64 i) (hn : n < maxLen) (F : Nat → Int) : ∃ W', (Instr.mapUpdate 80 (.map (some M)) (.int .i64 i) (rawV F)).run Try.prog W = .ok () W' ∧ MpAt W' M (n + 1) (gput G i F) ∧ W.grownBy W' (some M) := by
  obtain ⟨D, h, h2⟩ := h
  have hm := h.isMap
  obtain ⟨W', hr, h3, h4⟩ := h.update law12 (t := 80) (e := 40) Try.underlying80 hn (key12 hi) (val := rawV F) (d := .held (rawV F)) (ps := []) rfl
  refine ⟨W', hr, ⟨_, h3, fun j hj => ?_⟩, h4⟩
  unfold gput
  by_cases e : j = i
  · subst e
    rw [if_pos rfl]
    exact atKey_put_same hm (law12.key (key12 hi)) _ _
  · rw [if_neg e, atKey_put_other (by intro e2; cases e2; exact e rfl)]
    exact h2 j hj
end
end Go.Proofs.Ytcpjmfemgdgplaa
