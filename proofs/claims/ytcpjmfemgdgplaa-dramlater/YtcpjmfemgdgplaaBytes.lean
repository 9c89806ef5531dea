/-
  Slices of bytes as the walks see them: an address, and the list of what lies there.
-/
import Derived.Test.YtcpjmfemgdgplaaRows
import Derived.WalkKit
import Derived.WalkSpells
import Derived.WalkLawsBesides
import Derived.OpenShut
import Derived.Below
namespace Go.Proofs.Ytcpjmfemgdgplaa
open Go.RowKit

/-- what the walk is told of a slice of integers that came in (as the row's frame has it) -/
def IsRow (k : IntKind) (w : World) (a : Option Addr) (len cap : Nat) (zs : List Int) : Prop :=
  (a = none ∧ len = 0 ∧ cap = 0 ∧ zs = []) ∨
  ∃ x, a = some x ∧ len ≤ cap ∧ cap ≤ maxLen ∧ zs.length = cap ∧ (∀ i, i < zs.length → w.cell? (x.add i) = some (.int k (zs.getD i 0))) ∧ ∀ n ∈ zs, (Lit.int k n).wf = true

/-- a list of bytes lies at an address (an empty one anywhere) -/
def SlAt (w : World) (a : Option Addr) (l : List Int) : Prop :=
  (l = [] ∨ ∃ b off, a = some ⟨b, off, none⟩ ∧ b < w.heap.size ∧ ∀ i, i < l.length → w.cell? ⟨b, off + i, none⟩ = some (.int .u8 (l[i]?.getD 0)))
/-- each is a byte -/
def Byt (l : List Int) : Prop := ∀ i, i < l.length → 0 ≤ l[i]?.getD 0 ∧ l[i]?.getD 0 < 256
theorem SlAt.kept {w w' : World} {a : Option Addr} {l : List Int} (h : SlAt w a l) (hs : w.heap.size ≤ w'.heap.size) (hc : ∀ b o, b < w.heap.size → w'.cell? ⟨b, o, none⟩ = w.cell? ⟨b, o, none⟩) : SlAt w' a l := by
  rcases h with h | ⟨b, off, ha, hb, hl⟩
  · exact .inl h
  · exact .inr ⟨b, off, ha, by omega, fun i hi => (hc b _ hb).trans (hl i hi)⟩
theorem SlAt.drewN {w : World} {a : Option Addr} {l : List Int} (h : SlAt w a l) (k : Nat) : SlAt (w.drewN k) a l := h.kept (Nat.le_refl _) (fun _ _ _ => rfl)
theorem SlAt.alloc {w : World} {a : Option Addr} {l : List Int} (h : SlAt w a l) (o : Obj) : SlAt (w.alloc o) a l :=
  h.kept (by simp) (fun b o' hb => World.cell?_alloc_past _ _ _ hb)
theorem SlAt.below {w w' : World} {a : Option Addr} {l : List Int} (h : SlAt w a l) (hb : Below w.heap.size w w') : SlAt w' a l :=
  h.kept hb.size (fun b o hlt => hb.cell (p := ⟨b, o, none⟩) hlt)
theorem cell_lt {w : World} {a : Addr} {v : Value} (h : w.cell? a = some v) : a.block < w.heap.size := by
  by_cases hb : a.block < w.heap.size
  · exact hb
  · have : w.heap[a.block]? = none := Array.getElem?_eq_none (by omega)
    simp [World.cell?, this] at h
theorem IsRow.slAt {w : World} {a : Option Addr} {len cap : Nat} {zs : List Int} (h : IsRow .u8 w a len cap zs) :
    SlAt w a (zs.take len) ∧ Byt (zs.take len) ∧ (zs.take len).length = len ∧ len ≤ cap ∧ len ≤ maxLen := by
  rcases h with ⟨rfl, rfl, rfl, rfl⟩ | ⟨x, rfl, hl, hm, hz, hcell, hwz⟩
  · exact ⟨.inl rfl, fun i hi => by simp at hi, rfl, Nat.le_refl _, Nat.zero_le _⟩
  · have hlen : (zs.take len).length = len := by simp; omega
    refine ⟨?_, ?_, hlen, hl, by omega⟩
    · by_cases h0 : len = 0
      · subst h0; exact .inl rfl
      · right
        obtain ⟨b, off, spot⟩ := x
        have hc := hcell 0 (by omega)
        have hspot : spot = none := by simpa [Addr.add] using World.cell?_spot hc
        subst hspot
        refine ⟨b, off, rfl, by have := cell_lt hc; simpa [Addr.add] using this, fun i hi => ?_⟩
        rw [hlen] at hi
        have := hcell i (by omega)
        simp only [Addr.add, List.getD_eq_getElem?_getD] at this
        rw [List.getElem?_take_of_lt hi]
        by_cases h00 : i = 0
        · subst h00; simpa using this
        · rw [if_neg h00] at this; exact this
    · intro i hi
      rw [hlen] at hi
      rw [List.getElem?_take_of_lt hi]
      have := range_u8 hwz i
      omega

end Go.Proofs.Ytcpjmfemgdgplaa
