/-
  The document's lists of faults: one more behind others.
-/
import Derived.Test.YtcpjmfemgdgplaaDrR1
import Derived.Test.YtcpjmfemgdgplaaOw
import Derived.Laws.AppendOwnNone
namespace Go.Proofs.Ytcpjmfemgdgplaa
open Go.RowKit Go.Shelf
attribute [local go_sem] Oper.semAt_some

/-- the cells of len faults -/
def fcells12 (len : Nat) (Z : Nat → Nat → Int) : List Value := (List.range (len * 8)).map fun t => .int .i64 (Z (t / 8) (t % 8))
theorem fcells12_at (len : Nat) (Z : Nat → Nat → Int) (i j : Nat) (hi : i < len) (hj : j < 8) : (fcells12 len Z)[i * 8 + j]? = some (.int .i64 (Z i j)) := by
  unfold fcells12
  rw [List.getElem?_map, List.getElem?_range (by omega)]
  have e1 : (i * 8 + j) / 8 = i := by omega
  have e2 : (i * 8 + j) % 8 = j := by omega
  simp [e1, e2]
/-- Z with one more behind the first len -/
def snZ (Z : Nat → Nat → Int) (len : Nat) (f : Nat → Int) (i j : Nat) : Int := if i < len then Z i j else f j
theorem fcells12_snoc (len : Nat) (Z : Nat → Nat → Int) (f : Nat → Int) : fcells12 len Z ++ ints .i64 8 f = fcells12 (len + 1) (snZ Z len f) := by
  refine List.ext_getElem? fun t => ?_
  by_cases h1 : t < len * 8
  · rw [List.getElem?_append_left (by simp [fcells12]; omega)]
    have e := fcells12_at len Z (t / 8) (t % 8) (by omega) (by omega)
    have e' := fcells12_at (len + 1) (snZ Z len f) (t / 8) (t % 8) (by omega) (by omega)
    rw [show t / 8 * 8 + t % 8 = t by omega] at e e'
    rw [e, e']
    unfold snZ
    rw [if_pos (by omega)]
  · rw [List.getElem?_append_right (by simp [fcells12]; omega)]
    have hl : (fcells12 len Z).length = len * 8 := by simp [fcells12]
    rw [hl]
    by_cases h2 : t < (len + 1) * 8
    · have e' := fcells12_at (len + 1) (snZ Z len f) (t / 8) (t % 8) (by omega) (by omega)
      rw [show t / 8 * 8 + t % 8 = t by omega] at e'
      rw [e', ints_at .i64 8 f (t - len * 8) (by omega)]
      unfold snZ
      rw [if_neg (by omega), show t % 8 = t - len * 8 by omega]
    · rw [List.getElem?_eq_none (by rw [ints_len]; omega), List.getElem?_eq_none (by simp [fcells12]; omega)]
/-- what append laid lies, element by element -/
theorem owned_fs {w : World} {base len : Nat} {e : TypeId} {v : Value} {Z : Nat → Nat → Int} (hwf : ∀ i, i < len → ∀ j, j < 8 → (Lit.int .i64 (Z i j)).wf = true) (h : w.ownsRow base e 8 v len (fcells12 len Z)) :
    ∃ a c, v = .slice a len c ∧ Fs w a len c Z ∧ ∀ g o, a = some ⟨g, o, none⟩ → base ≤ g := by
  obtain ⟨h1, ⟨h2, h3⟩ | ⟨g, cap, cur, hv', hg, hh, hnc, hcm, hsz, htk⟩⟩ := h
  · subst h3
    exact ⟨none, 0, h2, ⟨Nat.le_refl _, Nat.zero_le _, fun h => absurd h (by omega), fun i hi => absurd hi (by omega), fun _ => ⟨rfl, rfl⟩⟩, fun g o e => by cases e⟩
  · refine ⟨some ⟨g, 0, none⟩, cap, hv', ⟨hnc, hcm, fun h0 => ⟨g, 0, rfl, (Array.getElem?_eq_some_iff.1 hh).1, fun i hi j hj => ?_⟩, hwf, fun e => by cases e⟩, fun g' o' e => by cases e; exact hg⟩
    have e : cur[i * 8 + j]? = some (.int .i64 (Z i j)) := by
      rw [← fcells12_at len Z i j hi hj, ← htk, List.getElem?_take_of_lt (by omega)]; simp
    rw [Nat.zero_add]
    simp only [World.cell?, hh]
    simp [e]
theorem infoF12s : (Try.prog.info? 51).map (·.size) = some 8 := by kernel_rfl
theorem infoF12 : (Try.prog.info? 51).map (fun i => (i.zero, i.size, i.bytes)) = some (some (.agg #[.int .i64 0, .int .i64 0, .int .i64 0, .int .i64 0, .int .i64 0, .int .i64 0, .int .i64 0, .int .i64 0]), 8, 64) := by kernel_rfl
/-- between the two appends -/
structure Mr12 (B : Nat) (k p q u v c i x : Int) (sv : Value) (len : Nat) (Z : Nat → Nat → Int) (w W : World) : Prop where
  f : Ft W B k p q u v c i x
  o : W.ownsRow (B + 1) 51 8 sv len (fcells12 len Z)
  n : Below B w W
set_option maxHeartbeats 1000000 in
theorem more12_any (a : Option Addr) (len cap : Nat) (Z : Nat → Nat → Int) (hn : len ≤ 1000) (k p q u v c i x : Int) (hf : ∀ j, j < 8 → (Lit.int .i64 (ffn k p q u v c i x j)).wf = true) (w : World) (hs : Fs w a len cap Z) :
    Calls Try.prog 68 #[.slice a len cap, .agg #[.int .i64 k, .int .i64 p, .int .i64 q, .int .i64 u, .int .i64 v, .int .i64 c, .int .i64 i, .int .i64 x]] w fun e w' => ∃ a' c', e = .returned (.slice a' (len + 1) c') ∧ Fs w' a' (len + 1) c' (snZ Z len (ffn k p q u v c i x)) ∧ Below w.heap.size w w' ∧ ∀ g o, a' = some ⟨g, o, none⟩ → w.heap.size ≤ g := by
  obtain ⟨i0, hi, hz0, hz1, hz2⟩ := info_three infoF12
  have HW : Hid (∀ t, t < len + 1 → ∀ j, j < 8 → (Lit.int .i64 (snZ Z len (ffn k p q u v c i x) t j)).wf = true) := fun t hi j hj => by
    unfold snZ
    split
    · exact hs.wf t (by omega) j hj
    · exact hf j hj
  have hne : ∀ (y : Value) (B : Nat) (W : World), W.ownsRow (B + 1) 51 8 y len (fcells12 len Z) → ∀ g, y.ownBlock = some g → B + 1 ≤ g ∧ g < W.heap.size := fun y B W h => World.ownsRow.lt h
  have HS : Hid (Fs w a len cap Z) := hs
  clear hs hf
  go_enter Try.func68, Try.ntmps68
  go_upto_region 2 with (fail)
  obtain ⟨B, hB⟩ : ∃ B, w.heap.size = B := ⟨_, rfl⟩
  obtain ⟨V, hV⟩ : ∃ V, w.alloc (.cells #[.int .i64 k, .int .i64 p, .int .i64 q, .int .i64 u, .int .i64 v, .int .i64 c, .int .i64 i, .int .i64 x] 51) = V := ⟨_, rfl⟩
  have HI : Hid (Ft V B k p q u v c i x ∧ Below B w V ∧ Fs V a len cap Z ∧ V.heap.size = B + 1) := by
    have b0 : Below w.heap.size w V := by rw [← hV]; exact (Below.refl _ w).alloc (Nat.le_refl _) _
    refine ⟨by rw [← hV, ← hB]; exact Ft.new w k p q u v c i x _, by rw [← hB]; exact b0, HS.out.below b0, by rw [← hV, ← hB]; simp⟩
  rw [hV]
  clear hV HS
  cases a with
  | none =>
    obtain ⟨rfl, rfl⟩ := HI.out.2.2.1.nil rfl
    go_upto_region 3 with (at_builtin; refine wpList_append_own_none rfl _ _ 32 rfl (B + 1) 51 i0 8 Try.underlying32 hi (.slice none 0 0) 0 [] rfl (World.ownsRow_nil V _ _ _) rfl ?_)
    obtain ⟨W1', hW1'⟩ : ∃ W, V = W := ⟨_, rfl⟩
    have HM : Hid (Mr12 B k p q u v c i x (.slice none 0 0) 0 Z w W1') := by rw [← hW1']; exact ⟨HI.out.1, World.ownsRow_nil V _ _ _, HI.out.2.1⟩
    rw [hW1']
    clear HI hW1'
    obtain ⟨W1, hW1⟩ : ∃ W, W1' = W := ⟨_, rfl⟩
    rw [hW1] at HM ⊢
    clear hW1
    have hr := HM.out.f.range
    have hsz := Nat.succ_le_of_lt HM.out.f.lt
    obtain ⟨K, hK⟩ : ∃ K, W1.heap.size = K := ⟨_, rfl⟩
    have HK : Hid (Ft (W1.alloc (.cells #[.int .i64 k, .int .i64 p, .int .i64 q, .int .i64 u, .int .i64 v, .int .i64 c, .int .i64 i, .int .i64 x] 51)) K k p q u v c i x) := by rw [← hK]; exact Ft.new W1 k p q u v c i x _
    go_wp2_with (first
      | refine wpList_load_mid rfl 51 _ rfl B 0 rfl [.int .i64 k, .int .i64 p, .int .i64 q, .int .i64 u, .int .i64 v, .int .i64 c, .int .i64 i, .int .i64 x] _ hr Try.underlying51 rfl infoF12s ?_
      | (at_builtin; go_loud (refine wpList_append_own _ rfl _ _ 32 rfl (B + 1) 51 i0 (.agg #[.int .i64 0, .int .i64 0, .int .i64 0, .int .i64 0, .int .i64 0, .int .i64 0, .int .i64 0, .int .i64 0]) 8 64 Try.underlying32 hi hz0 hz1 hz2 rfl (by decide) _ 0 (fcells12 0 Z) rfl (World.ownsRow.alloc HM.out.o _) ⟨K, 0, none⟩ 1 1 (ints .i64 8 (ffn k p q u v c i x)) rfl ?d0 ?d1 ?d2 ?d3 ?d4 ?d5 ?_)))
    case d0 => simp [ints]
    case d1 =>
      intro j u hj
      rw [Addr.add_lit, Nat.zero_add]
      have := HK.out.range j u hj
      rwa [Nat.zero_add] at this
    case d2 => exact ints_one' .i64 8 _
    case d3 => unfold maxLen; omega
    case d4 => omega
    case d5 => simp; omega
    intro v' w1 hown hgrow hiff
    have hB1 : Below B w w1 := below_grown7 (HM.out.n.alloc (by omega) _) hgrow (fun g hg => by have := (hne _ B W1 HM.out.o g hg).1; omega) (by simp; omega)
    rw [show fcells12 0 Z ++ ints .i64 8 (ffn k p q u v c i x) = fcells12 (0 + 1) (snZ Z 0 (ffn k p q u v c i x)) from fcells12_snoc 0 Z _] at hown
    obtain ⟨a', c', rfl, hfs, hlow⟩ := owned_fs HW.out hown
    clear hown hgrow hiff hr
    go_wp2
    go_ret
    exact ⟨a', c', rfl, hfs, by rw [hB]; exact hB1, fun g o e => by have := hlow g o e; omega⟩
  | some y =>
    obtain ⟨news, Hnews⟩ : ∃ news, Hid (news = fcells12 len Z) := ⟨_, rfl⟩
    go_upto_region 3 with (at_builtin; refine wpList_append_own _ rfl _ _ 32 rfl (B + 1) 51 i0 (.agg #[.int .i64 0, .int .i64 0, .int .i64 0, .int .i64 0, .int .i64 0, .int .i64 0, .int .i64 0, .int .i64 0]) 8 64 Try.underlying32 hi hz0 hz1 hz2 rfl (by decide) _ 0 [] rfl (World.ownsRow_nil V _ _ _) y len cap news rfl ?c0 ?c1 ?c2 ?c3 ?c4 ?c5 ?_)
    case c0 => rw [Hnews.out]; simp [fcells12]
    case c1 =>
      intro t u ht
      rw [Hnews.out] at ht
      have htn : t < len * 8 := by have := (List.getElem?_eq_some_iff.1 ht).1; simpa [fcells12] using this
      have e := fcells12_at len Z (t / 8) (t % 8) (by omega) (by omega)
      rw [show t / 8 * 8 + t % 8 = t by omega, ht] at e
      cases e
      obtain ⟨b, o, e, hb, hc⟩ := HI.out.2.2.1.at_ (by omega)
      cases e
      have h1 := hc (t / 8) (by omega) (t % 8) (by omega)
      rw [show t / 8 * 8 + t % 8 = t by omega] at h1
      rw [← h1, Addr.add_lit]
    case c2 => intro u hu; rw [Hnews.out] at hu; obtain ⟨y', _, rfl⟩ := List.mem_map.1 hu; rfl
    case c3 => unfold maxLen; omega
    case c4 => omega
    case c5 => rw [HI.out.2.2.2]; omega
    intro v1 W1' hown hgrow hiff
    have HM : Hid (Mr12 B k p q u v c i x v1 len Z w W1') := by
      rw [Hnews.out] at hown
      refine ⟨Bk.of HI.out.1 (hgrow.block B HI.out.1.lt fun e => by cases e), by simpa using hown, ?_⟩
      exact below_grown7 HI.out.2.1 hgrow (fun g hg => by cases hg) (by rw [HI.out.2.2.2]; omega)
    clear HI hown hgrow hiff
    obtain ⟨W1, hW1⟩ : ∃ W, W1' = W := ⟨_, rfl⟩
    rw [hW1] at HM ⊢
    clear hW1
    have hr := HM.out.f.range
    have hsz := Nat.succ_le_of_lt HM.out.f.lt
    obtain ⟨K, hK⟩ : ∃ K, W1.heap.size = K := ⟨_, rfl⟩
    have HK : Hid (Ft (W1.alloc (.cells #[.int .i64 k, .int .i64 p, .int .i64 q, .int .i64 u, .int .i64 v, .int .i64 c, .int .i64 i, .int .i64 x] 51)) K k p q u v c i x) := by rw [← hK]; exact Ft.new W1 k p q u v c i x _
    go_wp2_with (first
      | refine wpList_load_mid rfl 51 _ rfl B 0 rfl [.int .i64 k, .int .i64 p, .int .i64 q, .int .i64 u, .int .i64 v, .int .i64 c, .int .i64 i, .int .i64 x] _ hr Try.underlying51 rfl infoF12s ?_
      | (at_builtin; go_loud (refine wpList_append_own _ rfl _ _ 32 rfl (B + 1) 51 i0 (.agg #[.int .i64 0, .int .i64 0, .int .i64 0, .int .i64 0, .int .i64 0, .int .i64 0, .int .i64 0, .int .i64 0]) 8 64 Try.underlying32 hi hz0 hz1 hz2 rfl (by decide) _ len (fcells12 len Z) rfl (World.ownsRow.alloc HM.out.o _) ⟨K, 0, none⟩ 1 1 (ints .i64 8 (ffn k p q u v c i x)) rfl ?d0 ?d1 ?d2 ?d3 ?d4 ?d5 ?_)))
    case d0 => simp [ints]
    case d1 =>
      intro j u hj
      rw [Addr.add_lit, Nat.zero_add]
      have := HK.out.range j u hj
      rwa [Nat.zero_add] at this
    case d2 => exact ints_one' .i64 8 _
    case d3 => unfold maxLen; omega
    case d4 => omega
    case d5 => simp; omega
    intro v' w1 hown hgrow hiff
    have hB1 : Below B w w1 := below_grown7 (HM.out.n.alloc (by omega) _) hgrow (fun g hg => by have := (hne _ B W1 HM.out.o g hg).1; omega) (by simp; omega)
    rw [fcells12_snoc] at hown
    obtain ⟨a', c', rfl, hfs, hlow⟩ := owned_fs HW.out hown
    clear hown hgrow hiff hr
    go_wp2
    go_ret
    exact ⟨a', c', rfl, hfs, by rw [hB]; exact hB1, fun g o e => by have := hlow g o e; omega⟩
end Go.Proofs.Ytcpjmfemgdgplaa
