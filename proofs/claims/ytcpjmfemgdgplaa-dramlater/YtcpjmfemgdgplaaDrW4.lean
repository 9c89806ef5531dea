/-
  The first one of a list of faults is taken off: slices.Delete.
-/
import Derived.Test.YtcpjmfemgdgplaaDrW1
import Derived.Test.YtcpjmfemgdgplaaDrR5
import Derived.Deep.RegionLaw
import Derived.Lib.SliceRun
namespace Go.Proofs.Ytcpjmfemgdgplaa
open Go.RowKit Go.Shelf
attribute [local go_sem] Oper.semAt_some

/-- a row's first elements -/
theorem own_of_row {W : World} {lo g n cap : Nat} {t : TypeId} {f : Nat → Value} {xs : List Value} (hlo : lo ≤ g) (h : W.rowIs g t (cap * 8) f) (hn : n ≤ cap) (hc : cap ≤ maxLen) (hl : xs.length = n * 8) (hx : ∀ j, j < n * 8 → xs[j]? = some (f j)) :
    W.ownsRow lo t 8 (.slice (some ⟨g, 0, none⟩) n cap) n xs := by
  obtain ⟨c, h1, h2, h3⟩ := h
  refine ⟨hl, .inr ⟨g, cap, c, rfl, hlo, h1, hn, hc, h2, ?_⟩⟩
  refine List.ext_getElem? fun j => ?_
  by_cases hj : j < n * 8
  · rw [List.getElem?_take_of_lt hj, hx j hj, ← h3 j (by omega)]
    simp
  · rw [List.getElem?_eq_none (by simp; omega), List.getElem?_eq_none (by omega)]
theorem row_of_own {W : World} {lo g n cap : Nat} {t : TypeId} {xs : List Value} (h : W.ownsRow lo t 8 (.slice (some ⟨g, 0, none⟩) n cap) n xs) : lo ≤ g ∧ n ≤ cap ∧ cap ≤ maxLen ∧ ∃ f, W.rowIs g t (cap * 8) f ∧ ∀ j, j < n * 8 → xs[j]? = some (f j) := by
  obtain ⟨hl, ⟨h, _⟩ | ⟨g', cap', cur, hv, hg, hh, hnc, hcm, hsz, htk⟩⟩ := h
  · cases h
  · cases hv
    refine ⟨hg, hnc, hcm, fun i => cur[i]?.getD default, ⟨cur, hh, hsz, fun i hi => by simp [Array.getElem?_eq_getElem (show i < cur.size by omega)]⟩, fun j hj => ?_⟩
    rw [← htk, List.getElem?_take_of_lt hj]
    have : j < cur.size := by have := Nat.mul_le_mul_right 8 hnc; omega
    simp [this]
/-- clear over one element of eight cells -/
theorem run_clear8 {P : Program} (w : World) (t e ty : TypeId) (z : Value) (zs : List Value) (ht : P.underlying t = some (.slice e)) (hv : ∀ w, (zeroValue e).run P w = .ok z w) (hz : (Builtin.zeroCells z.cells 1).toList = zs) (h1 : ∀ v ∈ zs, v.oneCell' = true) (b o c : Nat)
    (hc : ∀ j, j < zs.length → (w.cell? ⟨b, o + j, none⟩).isSome = true) (hf : ∀ j, j < zs.length → w.frozen? ⟨b, o + j, none⟩ = false) :
    (Builtin.clear_ #[t] ty #[.slice (some ⟨b, o, none⟩) 1 c]).run P w = .ok (.tuple #[]) (w.setCells b o zs) := by
  have hst := run_storeCells_cells (P := P) b o zs 0 w (by simpa using hc) (by simpa using hf) h1
  simp only [Nat.add_zero] at hst
  simp [Builtin.clear_, run_underlying ht, hv, hz, hst]
theorem fc_at (len : Nat) (Z : Nat → Nat → Int) (j : Nat) (hj : j < len * 8) : (fcells12 len Z)[j]? = some (.int .i64 (Z (j / 8) (j % 8))) := by
  have e := fcells12_at len Z (j / 8) (j % 8) (by omega) (by omega)
  rwa [show j / 8 * 8 + j % 8 = j by omega] at e
theorem fc_len (len : Nat) (Z : Nat → Nat → Int) : (fcells12 len Z).length = len * 8 := by simp [fcells12]
theorem fc_one (len : Nat) (Z : Nat → Nat → Int) : ∀ u ∈ fcells12 len Z, u.oneCell' = true := by
  intro u hu
  obtain ⟨y, _, rfl⟩ := List.mem_map.1 hu
  rfl
theorem infoFl : (Try.prog.info? 38).map (fun i => (i.zero, i.size, i.bytes)) = some (some (.agg (ints .i64 8 fun _ => 0).toArray), 8, 64) := by kernel_rfl
theorem zeroFl (w : World) : (zeroValue 38).run Try.prog w = .ok (.agg (ints .i64 8 fun _ => 0).toArray) w := by kernel_rfl
theorem grown_put (W : World) (g o : Nat) (vs : List Value) : W.grownBy (W.setCells g o vs) (some g) := by
  have h := belows_put (Nat.zero_le g) vs o (Below.refl 0 W)
  exact ⟨h.os, h.tape, h.output, h.size, fun k _ hk => heap_puts g vs o W k (fun e => hk (by rw [e]))⟩
theorem grown_trans {A B C : World} {row : Option Nat} (h : A.grownBy B row) (k : B.grownBy C row) : A.grownBy C row :=
  ⟨k.os.trans h.os, k.tape.trans h.tape, k.output.trans h.output, Nat.le_trans h.size k.size, fun i hi hr => (k.block i (Nat.lt_of_lt_of_le hi h.size) hr).trans (h.block i hi hr)⟩
set_option maxRecDepth 100000 in
set_option maxHeartbeats 4000000 in
theorem delete12_any (lo g l cap : Nat) (Z : Nat → Nat → Int) (W : World) (h : W.ownsRow lo 38 8 (.slice (some ⟨g, 0, none⟩) (l + 1) cap) (l + 1) (fcells12 (l + 1) Z)) :
    Calls Try.prog 73 #[.slice (some ⟨g, 0, none⟩) (l + 1) cap, .int .i64 0, .int .i64 1] W fun e w' => e = .returned (.slice (some ⟨g, 0, none⟩) l cap) ∧ w'.ownsRow lo 38 8 (.slice (some ⟨g, 0, none⟩) l cap) l (fcells12 l (tlZ Z)) ∧ W.grownBy w' (some g) := by
  obtain ⟨i0, hi, hz0, hz1, hz2⟩ := info_three infoFl
  obtain ⟨hlo, hlc, hcm, f, hrow, hxs⟩ := row_of_own h
  have hcm2 : cap ≤ 9223372036854775807 := hcm
  clear h
  have hcell : ∀ j, j < (l + 1) * 8 → W.drew.cell? ⟨g, j, none⟩ = some (.int .i64 (Z (j / 8) (j % 8))) := fun j hj => by
    have e := hxs j hj
    rw [fc_at _ _ j hj] at e
    exact (hrow.cell (by have := Nat.mul_le_mul_right 8 hlc; omega)).trans e.symm
  obtain ⟨A, hA, hsrc⟩ : ∃ A : Addr, (if cap = 1 then some (⟨g, 0, none⟩ : Addr) else some ⟨g, 8, none⟩) = some A ∧ Hid (∀ t u, (fcells12 l (tlZ Z))[t]? = some u → W.drew.cell? (A.add t) = some u) := by
    by_cases h1 : cap = 1
    · refine ⟨⟨g, 0, none⟩, by simp [h1], fun t u hu => ?_⟩
      have ht : t < l * 8 := by have := (List.getElem?_eq_some_iff.1 hu).1; rwa [fc_len] at this
      omega
    · refine ⟨⟨g, 8, none⟩, by simp [h1], fun t u hu => ?_⟩
      have ht : t < l * 8 := by have := (List.getElem?_eq_some_iff.1 hu).1; rwa [fc_len] at this
      rw [fc_at _ _ t ht] at hu
      rw [Addr.add_lit, hcell (8 + t) (by omega), ← hu]
      unfold tlZ
      rw [show (8 + t) / 8 = t / 8 + 1 by omega, show (8 + t) % 8 = t % 8 by omega]
  obtain ⟨news, hnews⟩ : ∃ news, fcells12 l (tlZ Z) = news := ⟨_, rfl⟩
  have s1 : Hid (news.length = l * 8) := by rw [← hnews]; exact fc_len _ _
  have s2 : Hid (∀ u ∈ news, u.oneCell' = true) := by rw [← hnews]; exact fc_one _ _
  have s3 : Hid (∀ t, t < news.length → (W.drew.cell? ⟨g, 0 + 0 * 8 + t, none⟩).isSome = true ∧ W.drew.frozen? ⟨g, 0 + 0 * 8 + t, none⟩ = false) := fun t ht => by
    rw [s1.out] at ht
    rw [show 0 + 0 * 8 + t = t by omega, hcell t (by omega)]
    exact ⟨rfl, hrow.frozen t⟩
  obtain ⟨zs, hzs⟩ : ∃ zs, ints .i64 8 (fun _ => 0) = zs := ⟨_, rfl⟩
  have zl : zs.length = 8 := by rw [← hzs, ints_len]
  have hr0 : W.drew.rowIs g 38 (cap * 8) f := hrow
  have hr1 := rows_put news (0 + 0 * 8) W.drew f hr0
  have hr2 := rows_put zs (l * 8) _ _ hr1
  obtain ⟨W1, hW1⟩ : ∃ W1, W.drew.setCells g (0 + 0 * 8) news = W1 := ⟨_, rfl⟩
  rw [hW1] at hr1 hr2
  have hcl : ∀ ty, (Builtin.clear_ #[45] ty #[.slice (some ⟨g, l * 8, none⟩) 1 (cap - l)]).run Try.prog W1 = .ok (.tuple #[]) (W1.setCells g (l * 8) zs) := fun ty => by
    have hb := Nat.mul_le_mul_right 8 hlc
    refine run_clear8 W1 _ 38 ty (.agg (ints .i64 8 fun _ => 0).toArray) zs Try.underlying45 zeroFl (by rw [← hzs]; kernel_rfl) (by rw [← hzs]; exact ints_one' .i64 8 _) g (l * 8) (cap - l) (fun j hj => ?_) (fun j hj => hr1.frozen _)
    rw [hr1.cell (by omega)]
    rfl
  have HF : Hid (W.grownBy (W1.setCells g (l * 8) zs) (some g) ∧ (W1.setCells g (l * 8) zs).ownsRow lo 38 8 (.slice (some ⟨g, 0, none⟩) l cap) l (fcells12 l (tlZ Z))) := by
    refine ⟨?_, own_of_row hlo hr2 (by omega) hcm (fc_len _ _) fun j hj => ?_⟩
    · have g1 : W.grownBy W.drew (some g) := ⟨rfl, rfl, rfl, Nat.le_refl _, fun _ _ _ => rfl⟩
      have g2 : W.drew.grownBy W1 (some g) := by rw [← hW1]; exact grown_put _ _ _ _
      exact grown_trans (grown_trans g1 g2) (grown_put _ _ _ _)
    · rw [if_neg (by omega), if_pos (by rw [s1.out]; omega), hnews, show j - (0 + 0 * 8) = j by omega]
      have : j < news.length := by rw [s1.out]; omega
      rw [List.getElem?_eq_getElem this]
      rfl
  have HW1 : Hid (W.drew.setCells g (0 + 0 * 8) news = W1) := hW1
  have HL : Hid (fcells12 l (tlZ Z) = news) := hnews
  rw [hnews] at hsrc
  clear hW1 hr0 hr1 hr2 hxs hcell hrow hlo hnews hzs zl
  go_enter Try.func73, Try.ntmps73
  go_wp2_with fail
  have hb1 : (1 : Int) ≤ (l : Int) + 1 := by omega
  go_region_law (refine step_append_room rfl (.tmp 22) (.tmp 25) 45 rfl 38 i0 8 Try.underlying45 hi hz1 g 0 0 cap (by simp [Act.eval, Act.put]) A l (cap - 1) news (by simp [Act.eval, Act.put]) s1.out hsrc.out s2.out (by omega) s3.out ?_; rw [HW1.out])
  go_wp2
  go_ret
  rw [HL.out] at HF ⊢
  exact ⟨rfl, HF.out.2, HF.out.1⟩
end Go.Proofs.Ytcpjmfemgdgplaa
