/-
  The walks of package hsiao and of the document's answers, the readers: a bit's column, whose column a syndrome is, its verdict.
-/
import Derived.Test.YtdjknaafefnlcaaDoorBitW5
import Derived.Test.YtdjknaafefnlcaaDoorBoxes
import Derived.Test.YtdjknaafefnlcaaDoorHsMath
namespace Go.Proofs.YtdjknaafefnlcaaDoor
open Go.RowKit Go.Shelf
open Bm (wt wtK cntW)
open Hm (col onesOf nOf idx kd pl xs ap syn)
attribute [local go_sem] Oper.semAt_some

/-- a code's columns lie in block b -/
def CodeAt (w : World) (b : Nat) : Prop := ∀ i : Nat, i < 74 → w.cell? ⟨b, i, none⟩ = some (.int .u8 (col i : Int))
theorem CodeAt.of {w w' : World} {b : Nat} (h : CodeAt w b) (hc : w'.heap[b]? = w.heap[b]?) : CodeAt w' b := fun i hi => (World.cell?_of_block (w := w) (a := ⟨b, i, none⟩) hc).trans (h i hi)
theorem CodeAt.below {C : Nat} {W W' : World} {b : Nat} (h : CodeAt W b) (k : Below C W W') (hb : b < C) : CodeAt W' b := h.of (k.block b hb)
theorem CodeAt.lt {W : World} {b : Nat} (h : CodeAt W b) : b < W.heap.size := by
  obtain ⟨x, hx, _⟩ := isCells_of_cell (h 0 (by decide))
  exact (Array.getElem?_eq_some_iff.1 hx).1
theorem CodeAt.stay {B : Nat} {W W' : World} {b : Nat} (h : CodeAt W b) (k : Stay B W W') : CodeAt W' b := fun i hi => k.cell (h i hi)

/-! ### the document's columns -/
/-! ### whose column -/
set_option maxHeartbeats 1000000 in
theorem index_any (b s : Nat) (hs : s < 256) (w : World) (hc : CodeAt w b) :
    Calls Tryd.prog 87 #[.slice (some ⟨b, 0, none⟩) 74 74, .int .u8 (s : Int)] w fun e w' => e = .returned (.int .i64 (idx s 74 0)) ∧ w' = w := by
  have HC : Hid (CodeAt w b) := hc
  obtain ⟨r, Hr⟩ : ∃ r, idx s 74 0 = r := ⟨_, rfl⟩
  have HS : Hid (∀ k, k < 74 → col k = s → (∀ l, l < k → col l ≠ s) → r = (k : Int)) := fun k hk h1 h2 => by rw [← Hr]; exact Hm.idx_some s 74 0 k (by omega) (by omega) h1 (fun l _ hl => h2 l hl)
  have HN : Hid ((∀ l, l < 74 → col l ≠ s) → r = -1) := fun h => by rw [← Hr]; exact Hm.idx_none s 74 0 (fun l _ hl => h l (by omega))
  rw [Hr]
  clear hc Hr
  go_enter Tryd.func87, Tryd.ntmps87
  go_wp2
  go_loop [8] (fun a => ∃ k : Nat, k ≤ 74 ∧ Hid (∀ l, l < k → col l ≠ s) ∧ a = .int .i64 (k : Int)) (fun a => 74 - (intOf a).toNat)
  case atStart => exact ⟨0, by omega, fun l hl => by omega, rfl⟩
  case round =>
    obtain ⟨k, hk, Hk, rfl⟩ := hrel
    by_cases hlt : k < 74
    · have cell := HC.out k hlt
      obtain ⟨c, Hc⟩ : ∃ c, Hid (col k = c) := ⟨_, rfl⟩
      rw [Hc.out] at cell
      by_cases he : c = s
      · have hr := HS.out k hlt (by rw [Hc.out]; exact he) Hk.out
        subst he hr
        go_wp2
        go_ret
        exact ⟨rfl, rfl⟩
      · have hd : ((s : Int) == (c : Int)) = false := by simp; omega
        have Hk' : Hid (∀ l, l < k + 1 → col l ≠ s) := fun l hl => by
          by_cases e : l = k
          · rw [e, Hc.out]; exact he
          · exact Hk.out l (by omega)
        clear he
        go_wp2
        go_round
        case rel => exact ⟨k + 1, by omega, Hk', by go_num⟩
        case measure => simp [intOf]; omega
    · have hk' : k = 74 := by omega
      subst hk'
      have hr := HN.out Hk.out
      subst hr
      go_wp2
      go_ret
      exact ⟨rfl, rfl⟩
end Go.Proofs.YtdjknaafefnlcaaDoor
