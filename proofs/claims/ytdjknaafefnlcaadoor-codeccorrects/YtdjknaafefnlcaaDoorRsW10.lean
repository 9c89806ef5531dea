/-
  Arrays of bytes held against one another; whose place four syndromes tell, by the logarithm of a quotient.
-/
import Derived.Test.YtdjknaafefnlcaaDoorRsW9
import Derived.Stop.BytesEq
namespace Go.Proofs.YtdjknaafefnlcaaDoor
open Go.RowKit Go.Shelf
open Gf (gI eI dI lI)
open Po (El mu pwr ev S cf toE cv Low rts)
open Rm (al sy At)
attribute [local go_sem] Oper.semAt_some

def bys (n : Nat) (F : Nat → El) : List UInt8 := (List.range n).map fun i => UInt8.ofNat (F i).toNat
theorem bys_len (n : Nat) (F : Nat → El) : (bys n F).length = n := by simp [bys]
theorem bys_arr (n : Nat) (F : Nat → El) : (bys n F).map Extern.Stop.cell = arr n F := by
  unfold bys arr
  rw [List.map_map]
  refine List.map_congr_left fun i _ => ?_
  have := (F i).isLt
  show Value.int .u8 _ = Value.int .u8 _
  unfold oe
  congr 1
  simp
theorem bys_inj (n : Nat) (F G : Nat → El) (h : bys n F = bys n G) : ∀ i, i < n → F i = G i := by
  refine arr_inj n F G ?_
  rw [← bys_arr, ← bys_arr, h]
theorem bys_congr (n : Nat) (F G : Nat → El) (h : ∀ i, i < n → F i = G i) : bys n F = bys n G := by
  unfold bys
  refine List.map_congr_left fun i hi => ?_
  rw [h i (List.mem_range.1 hi)]
theorem bys_beq (n : Nat) (F G : Nat → El) (b : Bool) (hb : b = true ↔ ∀ i, i < n → F i = G i) : (bys n F == bys n G) = b := by
  rw [Bool.eq_iff_iff, beq_iff_eq, hb]
  exact ⟨bys_inj n F G, bys_congr n F G⟩
theorem size_one (w : World) : (sizeOf 5).run Tryd.prog w = .ok 1 w := by kernel_rfl
theorem eql_arr (t : TypeId) (n : Nat) (ht : Tryd.prog.underlying t = some (.array n 5)) (F G : Nat → El) (b : Bool) (hb : b = true ↔ ∀ i, i < n → F i = G i) (w : World) :
    (binOp .eql t (.agg (arr n F).toArray) (.agg (arr n G).toArray)).run Tryd.prog w = .ok (.bool b) w := by
  have h := run_eql_bytes (P := Tryd.prog) w t 5 n ht Tryd.underlying5 size_one (bys n F) (bys n G) (bys_len n F) (bys_len n G)
  rw [bys_arr, bys_arr, bys_beq n F G b hb] at h
  exact h
theorem neq_arr (t : TypeId) (n : Nat) (ht : Tryd.prog.underlying t = some (.array n 5)) (F G : Nat → El) (b : Bool) (hb : b = true ↔ ∀ i, i < n → F i = G i) (w : World) :
    (binOp .neq t (.agg (arr n F).toArray) (.agg (arr n G).toArray)).run Tryd.prog w = .ok (.bool (!b)) w := by
  have h := run_equalIn_bytes (P := Tryd.prog) w 9998 t 5 n ht Tryd.underlying5 size_one (bys n F) (bys n G) (bys_len n F) (bys_len n G)
  rw [bys_arr, bys_arr, bys_beq n F G b hb] at h
  rw [run_neq_struct, h]; rfl

/-! ### the ways of a place -/
theorem al_log (E : El) (h : E ≠ 0) : ∃ n : Nat, n < 255 ∧ lI (oe E) = (n : Int) ∧ E = al n := by
  have hb := Gf.lI_bd (oe E)
  have hp : 0 < oe E := by
    have := oe_bd E
    have : oe E ≠ 0 := fun e => h (oe_inj (e.trans oe_zero.symm))
    omega
  refine ⟨(lI (oe E)).toNat, by omega, by omega, ?_⟩
  have h1 := Gf.eI_lI (oe E) hp (oe_bd E).2
  refine Po.el_ext ?_
  rw [Rm.al_toNat]
  have h2 := Gf.eI_toNat (lI (oe E))
  rw [h1, Int.emod_eq_of_lt hb.1 hb.2] at h2
  rw [← h2]; unfold oe; simp
theorem div_el (a b : El) (hb : b ≠ 0) : ∃ E : El, dI (oe a) (oe b) = oe E ∧ mu E b = a := by
  have hp : 0 < oe b := by
    have := oe_bd b
    have : oe b ≠ 0 := fun e => hb (oe_inj (e.trans oe_zero.symm))
    omega
  have hd := Gf.dI_bd (oe a) (oe b)
  refine ⟨toE (dI (oe a) (oe b)), (ofE_toE _ hd.1 hd.2).symm, ?_⟩
  have h := Gf.gI_dI (oe a) (oe b) (oe_bd a).1 (oe_bd a).2 hp (oe_bd b).2
  refine oe_inj ?_
  rw [← oe_mu, show oe (toE (dI (oe a) (oe b))) = dI (oe a) (oe b) from ofE_toE _ hd.1 hd.2]
  exact h
theorem mu_cancel {a b c : El} (hc : c ≠ 0) (h : mu a c = mu b c) : a = b := by
  have h2 : mu (a ^^^ b) c = 0 := by rw [Po.xor_mu, h, Po.xor_self']
  by_cases h0 : a ^^^ b = 0
  · exact Po.xor_eq_zero h0
  · exact absurd h2 (Po.mu_ne _ _ h0 hc)
/-- the ways of 'only' -/
theorem only_ways (s : Nat → El) : (s 0 = 0 ∧ plc s 39 0 = -1) ∨ (s 0 ≠ 0 ∧ dI (oe (s 1)) (oe (s 0)) = 0 ∧ plc s 39 0 = -1) ∨
    (s 0 ≠ 0 ∧ ∃ (E : El) (n : Nat), E ≠ 0 ∧ dI (oe (s 1)) (oe (s 0)) = oe E ∧ n < 255 ∧ lI (oe E) = (n : Int) ∧
      ((39 ≤ n ∧ plc s 39 0 = -1) ∨ (n < 39 ∧ (¬ ∀ j, j < 4 → mu (s 0) (pwr E j) = s j) ∧ plc s 39 0 = -1) ∨ (n < 39 ∧ (∀ j, j < 4 → mu (s 0) (pwr E j) = s j) ∧ plc s 39 0 = (n : Int)))) := by
  by_cases h0 : s 0 = 0
  · exact .inl ⟨h0, plc_none s 39 0 fun j _ _ hat => hat.1 h0⟩
  obtain ⟨E, hE, hm⟩ := div_el (s 1) (s 0) h0
  have key : ∀ i, At s i → E = al i := fun i hat => by
    refine mu_cancel h0 ?_
    rw [hm, hat.2.1, Po.mu_comm]
  by_cases hE0 : E = 0
  · refine .inr (.inl ⟨h0, by rw [hE, hE0]; rfl, plc_none s 39 0 fun j _ _ hat => ?_⟩)
    exact Rm.al_ne j (by rw [← key j hat]; exact hE0)
  obtain ⟨n, hn, hl, hal⟩ := al_log E hE0
  refine .inr (.inr ⟨h0, E, n, hE0, hE, hn, hl, ?_⟩)
  have same : ∀ i, i < 39 → At s i → i = n := fun i hi hat => Rm.al_inj (by omega) hn (by rw [← key i hat]; exact hal)
  by_cases h39 : n < 39
  · by_cases ha : ∀ j, j < 4 → mu (s 0) (pwr E j) = s j
    · have hat : At s n := (Rm.at_iff s n).2 ⟨h0, fun j hj => by rw [← hal]; exact (ha j hj).symm⟩
      exact .inr (.inr ⟨h39, ha, plc_some s 39 0 n (by omega) (by omega) hat fun l _ hl2 hat2 => by have := same l (by omega) hat2; omega⟩)
    · refine .inr (.inl ⟨h39, ha, plc_none s 39 0 fun j _ hj hat => ?_⟩)
      have e := same j (by omega) hat
      subst e
      exact ha fun i hi => by rw [hal]; exact (((Rm.at_iff s j).1 hat).2 i hi).symm
  · refine .inl ⟨by omega, plc_none s 39 0 fun j _ hj hat => ?_⟩
    have := same j (by omega) hat
    omega
end Go.Proofs.YtdjknaafefnlcaaDoor
