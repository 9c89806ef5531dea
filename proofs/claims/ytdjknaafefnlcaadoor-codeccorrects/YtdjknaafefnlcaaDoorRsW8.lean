/-
  The generator, told anew.
-/
import Derived.Test.YtdjknaafefnlcaaDoorRsW7
namespace Go.Proofs.YtdjknaafefnlcaaDoor
open Go.RowKit Go.Shelf
open Gf (gI eI)
open Po (El mu pwr ev S cf toE cv Low rts)
open Rm (al sy)
attribute [local go_sem] Oper.semAt_some

set_option maxHeartbeats 400000 in
theorem clone_gen (c : Nat) (w : World) (hg : ∀ i : Nat, i < 5 → w.cell? ⟨c, 1 + i, none⟩ = some (.int .u8 (oe (gen i)))) :
    Calls Tryd.prog 54 #[.slice (some ⟨c, 1, none⟩) 5 5] w fun e w' => ∃ g cp, e = .returned (.slice (some ⟨g, 0, none⟩) 5 cp) ∧ (∀ i : Nat, i < 5 → w'.cell? ⟨g, i, none⟩ = some (.int .u8 (oe (gen i)))) ∧ Below w.heap.size w w' := by
  have hnil : ∀ w, (binOp .eql 52 (.slice (some ⟨c, 1, none⟩) 5 5) (.slice none 0 0)).run Tryd.prog w = .ok (.bool false) w := fun w => by kernel_rfl
  obtain ⟨i0, hi, hz0, hz1, hz2⟩ := info_parts info_u8
  obtain ⟨news, Hnews⟩ : ∃ news, Hid (news = (lst 5 gen).map (Value.int .u8)) := ⟨_, rfl⟩
  have HG : Hid (∀ i : Nat, i < 5 → w.cell? ⟨c, 1 + i, none⟩ = some (.int .u8 (oe (gen i)))) := hg
  have hcl : c < w.heap.size := cell_lt (hg 0 (by omega))
  clear hg
  go_enter Tryd.func54, Tryd.ntmps54
  go_wp2_with (at_builtin; refine wpList_append_own _ rfl _ _ 52 rfl w.heap.size 5 i0 (.int .u8 0) 1 1 Tryd.underlying52 hi hz0 hz1 hz2 rfl (by decide) _ 0 [] rfl ⟨rfl, .inr ⟨w.heap.size, 0, #[], rfl, Nat.le_refl _, World.alloc_heap_new w _, Nat.le_refl _, Nat.zero_le _, rfl, rfl⟩⟩ ⟨c, 1, none⟩ 5 5 news rfl ?c0 ?c1 ?c2 ?c3 ?c4 ?c5 ?_)
  case c0 => rw [Hnews.out]; simp [lst_len]
  case c1 =>
    intro j u hj
    rw [Hnews.out] at hj
    have hjn : j < 5 := by have := (List.getElem?_eq_some_iff.1 hj).1; simpa [lst_len] using this
    have e : u = .int .u8 (oe (gen j)) := by
      rw [List.getElem?_map] at hj
      simp [lst, hjn] at hj
      rw [← hj]; rfl
    rw [e, Addr.add_mid]
    exact (World.cell?_of_block (w := w) (a := ⟨c, 1 + j, none⟩) (Below.heap_alloc w (.cells #[] 5) c hcl)).trans (HG.out j hjn)
  case c2 => intro u hu; rw [Hnews.out] at hu; obtain ⟨y, _, rfl⟩ := List.mem_map.1 hu; rfl
  case c3 => unfold maxLen; omega
  case c4 => omega
  case c5 => simp
  intro v' w1 hown hgrow _
  have hB : Below w.heap.size w w1 := by
    have h0 : Below w.heap.size w (w.alloc (.cells #[] 5)) := (Below.refl _ _).alloc (Nat.le_refl _) _
    exact h0.grown hgrow (by simp) (fun k e => by cases e; exact Nat.le_refl _)
  have hown : w1.ownsRow w.heap.size 5 1 v' 5 ((lst 5 gen).map (Value.int .u8)) := by rw [← Hnews.out]; simpa using hown
  obtain ⟨g, c', rfl, hg, hcc, hrow⟩ := owned_row (lst_byt 5 gen) (by simp [lst_len]) (by omega) hown
  clear hown hgrow
  go_wp2
  go_ret
  refine ⟨g, c', rfl, fun i hi => ?_, hB⟩
  have := hrow.cell hi
  rw [lst_cf 5 gen i hi] at this
  exact this

end Go.Proofs.YtdjknaafefnlcaaDoor
