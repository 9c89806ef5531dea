/-
  The walks of the laws PolyRoots and PolyMuls.
-/
import Derived.Test.YtmcdggojlnjkoaaPolyW7
namespace Go.Proofs.Ytmcdggojlnjkoaa
open Go.RowKit Go.Deep
open Gf (eI lI gI dI pI)
open Po (toE cf mu S pwr ev cv Low rts lin one)

theorem IsRow.arg {w : World} {a : Option Addr} {len cap : Nat} {zs : List Int} (h : IsRow .u8 w a len cap zs) : Arg w a len cap (zs.take len) ∧ (len : Int) ≤ 9223372036854775807 := by
  obtain ⟨sa, ba, ea, ca, ma⟩ := h.slAt
  refine ⟨⟨ea, sa, ba, ca, fun e => ?_⟩, by unfold maxLen at ma; omega⟩
  rcases h with ⟨_, _, hc, _⟩ | ⟨x, hx, _⟩
  · exact hc
  · rw [e] at hx; cases hx

/-- does x stand among the first k? -/
def anyN (r : List Int) (x : Int) : Nat → Bool
  | 0 => false
  | k + 1 => anyN r x k || (r[k]?.getD 0 == x)
theorem anyN_iff (r : List Int) (x : Int) (k : Nat) : anyN r x k = true ↔ ∃ j, j < k ∧ r[j]?.getD 0 = x := by
  induction k with
  | zero => simp [anyN]
  | succ k ih =>
    simp only [anyN, Bool.or_eq_true, ih, beq_iff_eq]
    constructor
    · rintro (⟨j, hj, e⟩ | e)
      · exact ⟨j, by omega, e⟩
      · exact ⟨k, by omega, e⟩
    · rintro ⟨j, hj, e⟩
      by_cases h : j = k
      · subst h; exact .inr e
      · exact .inl ⟨j, by omega, e⟩
theorem RT_top (r : List Int) (k : Nat) (hk : k ≤ r.length) : RT r k k = 1 := by
  have h := Po.rts_top ((r.take k).map toE).reverse
  have e : (((r.take k).map toE).reverse).length = k := by simp; omega
  rw [e] at h
  exact h
theorem RT_ev (r : List Int) (hb : Byt r) (x : Int) (hx : 0 ≤ x ∧ x < 256) : (ofE (ev (r.length + 1) (RT r r.length) (toE x)) == 0) = anyN r x r.length := by
  have h := Po.ev_rts ((r.take r.length).map toE).reverse (toE x)
  have e : (((r.take r.length).map toE).reverse).length = r.length := by simp
  rw [e] at h
  have h2 : (ofE (ev (r.length + 1) (RT r r.length) (toE x)) == 0) = true ↔ anyN r x r.length = true := by
    rw [beq_iff_eq, ofE_eq_zero, anyN_iff]
    refine h.trans ?_
    simp only [List.take_length, List.mem_reverse, List.mem_map]
    constructor
    · rintro ⟨y, hy, he⟩
      obtain ⟨j, hj, rfl⟩ := List.getElem_of_mem hy
      have hbj := hb j hj
      rw [List.getElem?_eq_getElem hj] at hbj
      refine ⟨j, hj, ?_⟩
      rw [List.getElem?_eq_getElem hj]
      exact Po.toE_inj hbj.1 hbj.2 hx.1 hx.2 he
    · rintro ⟨j, hj, he⟩
      rw [List.getElem?_eq_getElem hj] at he
      exact ⟨_, List.getElem_mem hj, congrArg toE he⟩
  cases h3 : anyN r x r.length
  · rw [h3] at h2
    cases h4 : (ofE (ev (r.length + 1) (RT r r.length) (toE x)) == 0)
    · rfl
    · exact absurd (h2.1 h4) (by simp)
  · exact h2.2 h3

set_option maxRecDepth 100000 in
set_option maxHeartbeats 1000000 in
theorem polyRoots_walk (a0 : Option Addr) (len0 cap0 : Nat) (z0 : List Int) (a1 : Int) (w : World) (w0 : IsRow .u8 w a0 len0 cap0 z0) (w1 : (Lit.int .u8 a1).wf = true) :
    Calls Try.prog 6 #[.slice a0 len0 cap0, .int .u8 a1] w fun e w' => e = .returned (.bool true) ∧ Below w.heap.size w w' := by
  obtain ⟨A, hmax⟩ := w0.arg
  obtain ⟨r, hr⟩ : ∃ r, r = z0.take len0 := ⟨_, rfl⟩
  rw [← hr] at A
  have hx := bounds_u8 w1
  clear w0 w1 hr
  have hf := fldAt_new w 52
  have hB0 := lit_below w fieldCells 52
  by_cases hlen : 40 < len0
  · go_enter Try.func6, Try.ntmps6
    go_wp2_with (first | (go_at_call 9; refine (new_any _).mono ?_; rintro e w' ⟨rfl, rfl⟩) | (go_at_call 10; refine (anchor2_any _ _ hf).mono ?_; rintro e W1 ⟨rfl, hB1⟩))
    go_ret
    exact ⟨rfl, bnext hB0 hB1⟩
  have hlen' : len0 ≤ 40 := by omega
  clear hlen
  go_enter Try.func6, Try.ntmps6
  go_wp2_with (first | (go_at_call 9; refine (new_any _).mono ?_; rintro e w' ⟨rfl, rfl⟩) | (go_at_call 10; refine (anchor2_any _ _ hf).mono ?_; rintro e W1 ⟨rfl, hB1⟩))
  have hf1 := hf.below hB1
  have hB1' := bnext hB0 hB1
  have A1 := A.below hB1'
  clear hf hB1 hB0
  refine (roots_any _ _ _ _ r W1 hf1 A1 (by omega)).mono ?_
  rintro e W2 ⟨⟨a2, n2, c2, l2, rfl, A2, ht2, hl2, hn2⟩, hB2⟩
  have hB2' := bnext hB1' hB2
  have hrl := A1.len
  obtain rfl : n2 = len0 + 1 := by
    rw [← ht2]
    refine tl_of_cf l2 A2.byt _ (fun _ => ?_) (fun i hi => ?_)
    · rw [hl2, show len0 + 1 - 1 = len0 from by omega, RT_top r len0 (by omega)]; decide
    · rw [hl2]; exact RT_low r len0 (by omega) i hi
  have A2' := A1.below hB2
  obtain ⟨V, hV, HV⟩ : ∃ V, (0 ≤ V ∧ V < 256) ∧ Hid (ofE (ev l2.length (cf l2) (toE a1)) = V) := ⟨_, ofE_bd _, rfl⟩
  have HE : Hid ((V == 0) = anyN r a1 len0) := by
    show _ = _
    rw [← HV.out, A2.len]
    have e : cf l2 = RT r len0 := funext hl2
    have := RT_ev r A1.byt a1 ⟨hx.1, by omega⟩
    rw [hrl] at this
    rw [e]; exact this
  have HT : Hid (l2[len0]?.getD 0 = 1) := by
    show _ = _
    rw [← ofE_cf l2 A2.byt, hl2, RT_top r len0 (by omega)]; rfl
  clear hf1 hB1' hn2 ht2 hl2 hB2
  go_wp2
  go_loop [7, 22] (fun v i => ∃ k : Nat, k ≤ len0 ∧ i = .int .i64 (k : Int) ∧ v = .bool (anyN r a1 k)) (fun _ i => len0 - (intOf i).toNat)
  case atStart => exact ⟨0, by omega, rfl, rfl⟩
  case round =>
    obtain ⟨k, hk, rfl, rfl⟩ := hrel
    by_cases hlt : k < len0
    · obtain ⟨y, hy, Hy⟩ : ∃ y, (0 ≤ y ∧ y < 256) ∧ Hid (y = r[k]?.getD 0) := ⟨_, A2'.byt k (by rw [A2'.len]; exact hlt), rfl⟩
      rcases A2'.sl with sp | ⟨b1, o1, rfl, hb1, hc1⟩
      · have := A2'.len; rw [sp] at this; simp at this; omega
      have c1 : W2.cell? ⟨b1, o1 + k, none⟩ = some (.int .u8 y) := by rw [Hy.out]; exact hc1 k (by rw [A2'.len]; exact hlt)
      clear hc1
      cases hb : anyN r a1 k
      · go_wp2
        go_round
        case rel => exact ⟨k + 1, by omega, by go_num, by simp only [anyN]; rw [hb, ← Hy.out]; rfl⟩
        case measure => simp [intOf]; omega
      · go_wp2
        go_round
        case rel => exact ⟨k + 1, by omega, by go_num, by simp only [anyN]; rw [hb]; rfl⟩
        case measure => simp [intOf]; omega
    · have hkm : k = len0 := by omega
      subst hkm
      rcases A2.sl with sp | ⟨b1, o1, rfl, hb1, hc1⟩
      · have := A2.len; rw [sp] at this; simp at this
      have c1 : W2.cell? ⟨b1, o1 + k, none⟩ = some (.int .u8 1) := by rw [← HT.out]; exact hc1 k (by rw [A2.len]; omega)
      clear hc1 hlt
      have KE := refEval_any _ c2 (k + 1) l2 a1 W2 A2.sl A2.byt (by unfold maxLen; omega) A2.len ⟨hx.1, by omega⟩
      rw [HV.out] at KE
      have hv0 : ((V == 0) == anyN r a1 k) = true := by rw [HE.out]; simp
      go_wp2_with (go_at_call 24; refine KE.mono ?_; rintro e W3 ⟨rfl, rfl⟩)
      go_ret
      exact ⟨rfl, hB2'⟩

end Go.Proofs.Ytmcdggojlnjkoaa
