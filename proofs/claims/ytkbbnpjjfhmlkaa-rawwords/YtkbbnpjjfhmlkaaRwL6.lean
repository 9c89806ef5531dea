/-
  RawWords.
-/
import Derived.Test.YtkbbnpjjfhmlkaaRwL5A
import Derived.Test.YtkbbnpjjfhmlkaaRwL5B
import Derived.Test.YtkbbnpjjfhmlkaaRwL5C
import Derived.Test.YtkbbnpjjfhmlkaaRwL5D
import Derived.Test.YtkbbnpjjfhmlkaaRwL5Z
namespace Go.Proofs.Ytkbbnpjjfhmlkaa
open Go.RowKit Go.Shelf

theorem rawWords_walk (a0 : Int) (a1 : Nat → Int) (a2 a3 : Int) (a4 : Option Addr) (len4 cap4 : Nat) (z4 : List Int) (_w0 : (Lit.int .i64 a0).wf = true) (w1 : ∀ i, i < 72 → (Lit.int .u8 (a1 i)).wf = true) (_w2 : (Lit.int .i64 a2).wf = true) (_w3 : (Lit.int .i64 a3).wf = true) (w : World) (w4 : IsRow .u8 w a4 len4 cap4 z4) :
    Calls Try.prog 3 #[.int .i64 a0, .agg (ints .u8 72 a1).toArray, .int .i64 a2, .int .i64 a3, .slice a4 len4 cap4] w fun e w' => e = .returned (.bool true) ∧ Below w.heap.size w w' := by
  have hF := args_byts 72 a1 w1
  obtain ⟨G, hG, _, _⟩ := w4.slice
  by_cases h1 : a0 = 1
  · subst h1
    by_cases hn : a2 < 0
    · exact rawWordsN1 a1 hF a3 w a2 hn a4 len4 cap4
    · by_cases hg : 8 ≤ a2
      · exact rawWordsG1 a1 hF a3 w a2 hg a4 len4 cap4
      · obtain ⟨x, rfl⟩ : ∃ x : Nat, a2 = (x : Int) := ⟨a2.toNat, by omega⟩
        by_cases hl : len4 = 9
        · subst hl
          obtain ⟨b, o, rfl, hc⟩ := hG.cells (by omega)
          exact rawWordsA1 a1 hF a3 w x (by omega) b o cap4 (fun j => (G j : Int)) hc
        · exact rawWordsB1 a1 hF a3 w x (by omega) a4 len4 cap4 (by omega)
  · by_cases h2 : a0 = 2
    · subst h2
      by_cases hn : a2 < 0
      · exact rawWordsN2 a1 hF a3 w a2 hn a4 len4 cap4
      · by_cases hg : 2 ≤ a2
        · exact rawWordsG2 a1 hF a3 w a2 hg a4 len4 cap4
        · obtain ⟨x, rfl⟩ : ∃ x : Nat, a2 = (x : Int) := ⟨a2.toNat, by omega⟩
          by_cases hl : len4 = 36
          · subst hl
            obtain ⟨b, o, rfl, hc⟩ := hG.cells (by omega)
            exact rawWordsA2 a1 hF a3 w x (by omega) b o cap4 (fun j => (G j : Int)) hc
          · exact rawWordsB2 a1 hF a3 w x (by omega) a4 len4 cap4 (by omega)
    · by_cases hn : a2 < 0
      · exact rawWordsN0 a1 hF a3 w a0 h1 h2 a2 hn a4 len4 cap4
      · exact rawWordsG0 a1 hF a3 w a0 h1 h2 a2 (by omega) a4 len4 cap4
end Go.Proofs.Ytkbbnpjjfhmlkaa
