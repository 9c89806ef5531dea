/-
  Texts of one family, one behind another: Ow, DrR2, FaW11, DrM1, DrW1, DrW2, DrR3, DrR4.
-/
import Derived.Test.YtcpjmfemgdgplaaM01
import Derived.OwnWalk
import Derived.OwnWalkIn
import Derived.Maps.AppendAt
import Derived.Deep.Onto
import Derived.Test.YtcpjmfemgdgplaaM10
import Derived.Laws.AppendOwnNone
import Derived.Test.YtcpjmfemgdgplaaM04
import Derived.Test.YtcpjmfemgdgplaaM03
import Derived.Maps.OwnSet
import Derived.Great.Walk

/-
  A slice of integers that a call owns and lets grow.
-/
namespace Go.Proofs.Ytcpjmfemgdgplaa
open Go.RowKit
attribute [local go_sem] Oper.semAt_some

/-- the first n numbers that F tells -/
def lst (F : Nat → Nat) (n : Nat) : List Value := (List.range n).map fun x => .int .i64 (F x : Int)
theorem lst_snoc (F : Nat → Nat) (n : Nat) : lst F n ++ [.int .i64 (F n : Int)] = lst F (n + 1) := by simp [lst, List.range_succ]
theorem lst_at (F : Nat → Nat) (n i : Nat) (h : i < n) : (lst F n)[i]? = some (.int .i64 (F i : Int)) := by simp [lst, h]
theorem lst_congr {F G : Nat → Nat} {n : Nat} (h : ∀ x, x < n → F x = G x) : lst F n = lst G n := by
  unfold lst
  exact List.map_congr_left fun x hx => by rw [h x (List.mem_range.1 hx)]
theorem i64_info : (Try.prog.info? 3).map (fun i => (i.zero, i.size, i.bytes)) = some (some (.int .i64 0), 1, 8) := by kernel_rfl
theorem info_three {P : Program} {e : TypeId} {z : Option Value} {s b : Nat} (h : (P.info? e).map (fun i => (i.zero, i.size, i.bytes)) = some (z, s, b)) : ∃ i, P.info? e = some i ∧ i.zero = z ∧ i.size = s ∧ i.bytes = b := by
  obtain ⟨i, hi, h2⟩ := Option.map_eq_some_iff.1 h
  simp only [Prod.mk.injEq] at h2
  exact ⟨i, hi, h2.1, h2.2.1, h2.2.2⟩

/-- a slice of integers in blocks from B on: its first n numbers are F's -/
def Ow (W : World) (B : Nat) (v : Value) (n : Nat) (F : Nat → Nat) : Prop := W.ownsRow B 3 1 v n (lst F n)
theorem Ow.nil (W : World) (B : Nat) (F : Nat → Nat) : Ow W B (.slice none 0 0) 0 F := World.ownsRow_nil W B _ _
theorem Ow.of {W W' : World} {B : Nat} {v : Value} {n : Nat} {F : Nat → Nat} (h : Ow W B v n F) (k : ∀ g, v.ownBlock = some g → W'.heap[g]? = W.heap[g]?) : Ow W' B v n F := by
  refine ⟨h.1, ?_⟩
  rcases h.2 with hn | ⟨g, cap, cur, rfl, hb, hg, rest⟩
  · exact .inl hn
  · exact .inr ⟨g, cap, cur, rfl, hb, (k g rfl).trans hg, rest⟩
theorem Ow.lt {W : World} {B : Nat} {v : Value} {n : Nat} {F : Nat → Nat} (h : Ow W B v n F) : ∀ g, v.ownBlock = some g → B ≤ g ∧ g < W.heap.size := World.ownsRow.lt h
theorem Ow.next {W W' : World} {B : Nat} {v : Value} {n : Nat} {F : Nat → Nat} (h : Ow W B v n F) (k : Below W.heap.size W W') : Ow W' B v n F := h.of fun g hg => k.block g (h.lt g hg).2
theorem Ow.alloc {W : World} {B : Nat} {v : Value} {n : Nat} {F : Nat → Nat} (h : Ow W B v n F) (o : Obj) : Ow (W.alloc o) B v n F := World.ownsRow.alloc h o
theorem Ow.stay {C : Nat} {W W' : World} {B : Nat} {v : Value} {n : Nat} {F : Nat → Nat} (h : Ow W B v n F) (k : Stay C W W') : Ow W' B v n F := by
  have h' := h
  rcases h.2 with hn | ⟨g, cap, cur, rfl, hb, hg, rest⟩
  · exact ⟨h.1, .inl hn⟩
  · refine h'.of fun g' hg' => ?_
    cases hg'
    exact (k.cells _ _ hg rfl).trans hg.symm
theorem one_new7 (W : World) (v : Value) (t : TypeId) : ∀ j u, [v][j]? = some u → (W.alloc (.cells #[v] t)).cell? ((⟨W.heap.size, 0, none⟩ : Addr).add j) = some u := by
  intro j u hj
  cases j with
  | zero =>
    simp at hj
    subst hj
    exact (Box.new W t v).1
  | succ j => simp at hj
theorem one_one7 (x : Int) : ∀ u ∈ [Value.int .i64 x], u.oneCell' = true := by
  intro u hu
  simp at hu
  subst hu
  rfl
theorem below_grown7 {B : Nat} {w W W' : World} {row : Option Nat} (h : Below B w W) (k : W.grownBy W' row) (hr : ∀ g, row = some g → B ≤ g) (hB : B ≤ W.heap.size) : Below B w W' :=
  ⟨k.os.trans h.os, k.tape.trans h.tape, k.output.trans h.output, Nat.le_trans h.size k.size, fun b hb => (k.block b (by omega) (fun e => by have := hr b e.symm; omega)).trans (h.block b hb)⟩
theorem Ow.open {W : World} {B : Nat} {v : Value} {n : Nat} {F : Nat → Nat} (h : Ow W B v n F) (hn : 0 < n) : ∃ g cap, v = .slice (some ⟨g, 0, none⟩) n cap ∧ B ≤ g ∧ g < W.heap.size := by
  rcases h.2 with hn | ⟨g, cap, cur, rfl, hb, hg, rest⟩
  · omega
  · exact ⟨g, cap, rfl, hb, (Array.getElem?_eq_some_iff.1 hg).1⟩
theorem Ow.cell {W : World} {B : Nat} {n g cap : Nat} {F : Nat → Nat} (h : Ow W B (.slice (some ⟨g, 0, none⟩) n cap) n F) (i : Nat) (hi : i < n) : W.cell? ⟨g, i, none⟩ = some (.int .i64 (F i : Int)) := by
  rcases h.2 with ⟨hv, _⟩ | ⟨g', cap', cur, hv, hb, hg, h1, h2, h3, h4⟩
  · cases hv
  · cases hv
    rw [cell_of_row _ _ i _ _ (0, 0) hg]
    have := lst_at F n i hi
    rw [← h4, List.getElem?_take, if_pos (by omega)] at this
    simpa using this
end Go.Proofs.Ytcpjmfemgdgplaa

/-
  The document's lists of faults: one more behind others.
-/
namespace Go.Proofs.Ytcpjmfemgdgplaa
open Go.RowKit Go.Shelf
attribute [local go_sem] Oper.semAt_some

/-- the cells of len faults -/
def fcells12 (len : Nat) (Z : Nat → Nat → Int) : List Value := (List.range (len * 8)).map fun t => .int .i64 (Z (t / 8) (t % 8))
theorem fcells12_at (len : Nat) (Z : Nat → Nat → Int) (i j : Nat) (hi : i < len) (hj : j < 8) : (fcells12 len Z)[i * 8 + j]? = some (.int .i64 (Z i j)) := by
  unfold fcells12
  rw [List.getElem?_map, List.getElem?_range (by omega)]
  have e1 : (i * 8 + j) / 8 = i := by omega
  have e2 : (i * 8 + j) % 8 = j := by omega
  simp [e1, e2]
/-- Z with one more behind the first len -/
def snZ (Z : Nat → Nat → Int) (len : Nat) (f : Nat → Int) (i j : Nat) : Int := if i < len then Z i j else f j
theorem fcells12_snoc (len : Nat) (Z : Nat → Nat → Int) (f : Nat → Int) : fcells12 len Z ++ ints .i64 8 f = fcells12 (len + 1) (snZ Z len f) := by
  refine List.ext_getElem? fun t => ?_
  by_cases h1 : t < len * 8
  · rw [List.getElem?_append_left (by simp [fcells12]; omega)]
    have e := fcells12_at len Z (t / 8) (t % 8) (by omega) (by omega)
    have e' := fcells12_at (len + 1) (snZ Z len f) (t / 8) (t % 8) (by omega) (by omega)
    rw [show t / 8 * 8 + t % 8 = t by omega] at e e'
    rw [e, e']
    unfold snZ
    rw [if_pos (by omega)]
  · rw [List.getElem?_append_right (by simp [fcells12]; omega)]
    have hl : (fcells12 len Z).length = len * 8 := by simp [fcells12]
    rw [hl]
    by_cases h2 : t < (len + 1) * 8
    · have e' := fcells12_at (len + 1) (snZ Z len f) (t / 8) (t % 8) (by omega) (by omega)
      rw [show t / 8 * 8 + t % 8 = t by omega] at e'
      rw [e', ints_at .i64 8 f (t - len * 8) (by omega)]
      unfold snZ
      rw [if_neg (by omega), show t % 8 = t - len * 8 by omega]
    · rw [List.getElem?_eq_none (by rw [ints_len]; omega), List.getElem?_eq_none (by simp [fcells12]; omega)]
/-- what append laid lies, element by element -/
theorem owned_fs {w : World} {base len : Nat} {e : TypeId} {v : Value} {Z : Nat → Nat → Int} (hwf : ∀ i, i < len → ∀ j, j < 8 → (Lit.int .i64 (Z i j)).wf = true) (h : w.ownsRow base e 8 v len (fcells12 len Z)) :
    ∃ a c, v = .slice a len c ∧ Fs w a len c Z ∧ ∀ g o, a = some ⟨g, o, none⟩ → base ≤ g := by
  obtain ⟨h1, ⟨h2, h3⟩ | ⟨g, cap, cur, hv', hg, hh, hnc, hcm, hsz, htk⟩⟩ := h
  · subst h3
    exact ⟨none, 0, h2, ⟨Nat.le_refl _, Nat.zero_le _, fun h => absurd h (by omega), fun i hi => absurd hi (by omega), fun _ => ⟨rfl, rfl⟩⟩, fun g o e => by cases e⟩
  · refine ⟨some ⟨g, 0, none⟩, cap, hv', ⟨hnc, hcm, fun h0 => ⟨g, 0, rfl, (Array.getElem?_eq_some_iff.1 hh).1, fun i hi j hj => ?_⟩, hwf, fun e => by cases e⟩, fun g' o' e => by cases e; exact hg⟩
    have e : cur[i * 8 + j]? = some (.int .i64 (Z i j)) := by
      rw [← fcells12_at len Z i j hi hj, ← htk, List.getElem?_take_of_lt (by omega)]; simp
    rw [Nat.zero_add]
    simp only [World.cell?, hh]
    simp [e]
theorem infoF12s : (Try.prog.info? 51).map (·.size) = some 8 := by kernel_rfl
theorem infoF12 : (Try.prog.info? 51).map (fun i => (i.zero, i.size, i.bytes)) = some (some (.agg #[.int .i64 0, .int .i64 0, .int .i64 0, .int .i64 0, .int .i64 0, .int .i64 0, .int .i64 0, .int .i64 0]), 8, 64) := by kernel_rfl
/-- between the two appends -/
structure Mr12 (B : Nat) (k p q u v c i x : Int) (sv : Value) (len : Nat) (Z : Nat → Nat → Int) (w W : World) : Prop where
  f : Ft W B k p q u v c i x
  o : W.ownsRow (B + 1) 51 8 sv len (fcells12 len Z)
  n : Below B w W
set_option maxHeartbeats 1000000 in
theorem more12_any (a : Option Addr) (len cap : Nat) (Z : Nat → Nat → Int) (hn : len ≤ 1000) (k p q u v c i x : Int) (hf : ∀ j, j < 8 → (Lit.int .i64 (ffn k p q u v c i x j)).wf = true) (w : World) (hs : Fs w a len cap Z) :
    Calls Try.prog 68 #[.slice a len cap, .agg #[.int .i64 k, .int .i64 p, .int .i64 q, .int .i64 u, .int .i64 v, .int .i64 c, .int .i64 i, .int .i64 x]] w fun e w' => ∃ a' c', e = .returned (.slice a' (len + 1) c') ∧ Fs w' a' (len + 1) c' (snZ Z len (ffn k p q u v c i x)) ∧ Below w.heap.size w w' ∧ ∀ g o, a' = some ⟨g, o, none⟩ → w.heap.size ≤ g := by
  obtain ⟨i0, hi, hz0, hz1, hz2⟩ := info_three infoF12
  have HW : Hid (∀ t, t < len + 1 → ∀ j, j < 8 → (Lit.int .i64 (snZ Z len (ffn k p q u v c i x) t j)).wf = true) := fun t hi j hj => by
    unfold snZ
    split
    · exact hs.wf t (by omega) j hj
    · exact hf j hj
  have hne : ∀ (y : Value) (B : Nat) (W : World), W.ownsRow (B + 1) 51 8 y len (fcells12 len Z) → ∀ g, y.ownBlock = some g → B + 1 ≤ g ∧ g < W.heap.size := fun y B W h => World.ownsRow.lt h
  have HS : Hid (Fs w a len cap Z) := hs
  clear hs hf
  go_enter Try.func68, Try.ntmps68
  go_upto_region 2 with (fail)
  obtain ⟨B, hB⟩ : ∃ B, w.heap.size = B := ⟨_, rfl⟩
  obtain ⟨V, hV⟩ : ∃ V, w.alloc (.cells #[.int .i64 k, .int .i64 p, .int .i64 q, .int .i64 u, .int .i64 v, .int .i64 c, .int .i64 i, .int .i64 x] 51) = V := ⟨_, rfl⟩
  have HI : Hid (Ft V B k p q u v c i x ∧ Below B w V ∧ Fs V a len cap Z ∧ V.heap.size = B + 1) := by
    have b0 : Below w.heap.size w V := by rw [← hV]; exact (Below.refl _ w).alloc (Nat.le_refl _) _
    refine ⟨by rw [← hV, ← hB]; exact Ft.new w k p q u v c i x _, by rw [← hB]; exact b0, HS.out.below b0, by rw [← hV, ← hB]; simp⟩
  rw [hV]
  clear hV HS
  cases a with
  | none =>
    obtain ⟨rfl, rfl⟩ := HI.out.2.2.1.nil rfl
    go_upto_region 3 with (at_builtin; refine wpList_append_own_none rfl _ _ 32 rfl (B + 1) 51 i0 8 Try.underlying32 hi (.slice none 0 0) 0 [] rfl (World.ownsRow_nil V _ _ _) rfl ?_)
    obtain ⟨W1', hW1'⟩ : ∃ W, V = W := ⟨_, rfl⟩
    have HM : Hid (Mr12 B k p q u v c i x (.slice none 0 0) 0 Z w W1') := by rw [← hW1']; exact ⟨HI.out.1, World.ownsRow_nil V _ _ _, HI.out.2.1⟩
    rw [hW1']
    clear HI hW1'
    obtain ⟨W1, hW1⟩ : ∃ W, W1' = W := ⟨_, rfl⟩
    rw [hW1] at HM ⊢
    clear hW1
    have hr := HM.out.f.range
    have hsz := Nat.succ_le_of_lt HM.out.f.lt
    obtain ⟨K, hK⟩ : ∃ K, W1.heap.size = K := ⟨_, rfl⟩
    have HK : Hid (Ft (W1.alloc (.cells #[.int .i64 k, .int .i64 p, .int .i64 q, .int .i64 u, .int .i64 v, .int .i64 c, .int .i64 i, .int .i64 x] 51)) K k p q u v c i x) := by rw [← hK]; exact Ft.new W1 k p q u v c i x _
    go_wp2_with (first
      | refine wpList_load_mid rfl 51 _ rfl B 0 rfl [.int .i64 k, .int .i64 p, .int .i64 q, .int .i64 u, .int .i64 v, .int .i64 c, .int .i64 i, .int .i64 x] _ hr Try.underlying51 rfl infoF12s ?_
      | (at_builtin; go_loud (refine wpList_append_own _ rfl _ _ 32 rfl (B + 1) 51 i0 (.agg #[.int .i64 0, .int .i64 0, .int .i64 0, .int .i64 0, .int .i64 0, .int .i64 0, .int .i64 0, .int .i64 0]) 8 64 Try.underlying32 hi hz0 hz1 hz2 rfl (by decide) _ 0 (fcells12 0 Z) rfl (World.ownsRow.alloc HM.out.o _) ⟨K, 0, none⟩ 1 1 (ints .i64 8 (ffn k p q u v c i x)) rfl ?d0 ?d1 ?d2 ?d3 ?d4 ?d5 ?_)))
    case d0 => simp [ints]
    case d1 =>
      intro j u hj
      rw [Addr.add_lit, Nat.zero_add]
      have := HK.out.range j u hj
      rwa [Nat.zero_add] at this
    case d2 => exact ints_one' .i64 8 _
    case d3 => unfold maxLen; omega
    case d4 => omega
    case d5 => simp; omega
    intro v' w1 hown hgrow hiff
    have hB1 : Below B w w1 := below_grown7 (HM.out.n.alloc (by omega) _) hgrow (fun g hg => by have := (hne _ B W1 HM.out.o g hg).1; omega) (by simp; omega)
    rw [show fcells12 0 Z ++ ints .i64 8 (ffn k p q u v c i x) = fcells12 (0 + 1) (snZ Z 0 (ffn k p q u v c i x)) from fcells12_snoc 0 Z _] at hown
    obtain ⟨a', c', rfl, hfs, hlow⟩ := owned_fs HW.out hown
    clear hown hgrow hiff hr
    go_wp2
    go_ret
    exact ⟨a', c', rfl, hfs, by rw [hB]; exact hB1, fun g o e => by have := hlow g o e; omega⟩
  | some y =>
    obtain ⟨news, Hnews⟩ : ∃ news, Hid (news = fcells12 len Z) := ⟨_, rfl⟩
    go_upto_region 3 with (at_builtin; refine wpList_append_own _ rfl _ _ 32 rfl (B + 1) 51 i0 (.agg #[.int .i64 0, .int .i64 0, .int .i64 0, .int .i64 0, .int .i64 0, .int .i64 0, .int .i64 0, .int .i64 0]) 8 64 Try.underlying32 hi hz0 hz1 hz2 rfl (by decide) _ 0 [] rfl (World.ownsRow_nil V _ _ _) y len cap news rfl ?c0 ?c1 ?c2 ?c3 ?c4 ?c5 ?_)
    case c0 => rw [Hnews.out]; simp [fcells12]
    case c1 =>
      intro t u ht
      rw [Hnews.out] at ht
      have htn : t < len * 8 := by have := (List.getElem?_eq_some_iff.1 ht).1; simpa [fcells12] using this
      have e := fcells12_at len Z (t / 8) (t % 8) (by omega) (by omega)
      rw [show t / 8 * 8 + t % 8 = t by omega, ht] at e
      cases e
      obtain ⟨b, o, e, hb, hc⟩ := HI.out.2.2.1.at_ (by omega)
      cases e
      have h1 := hc (t / 8) (by omega) (t % 8) (by omega)
      rw [show t / 8 * 8 + t % 8 = t by omega] at h1
      rw [← h1, Addr.add_lit]
    case c2 => intro u hu; rw [Hnews.out] at hu; obtain ⟨y', _, rfl⟩ := List.mem_map.1 hu; rfl
    case c3 => unfold maxLen; omega
    case c4 => omega
    case c5 => rw [HI.out.2.2.2]; omega
    intro v1 W1' hown hgrow hiff
    have HM : Hid (Mr12 B k p q u v c i x v1 len Z w W1') := by
      rw [Hnews.out] at hown
      refine ⟨Bk.of HI.out.1 (hgrow.block B HI.out.1.lt fun e => by cases e), by simpa using hown, ?_⟩
      exact below_grown7 HI.out.2.1 hgrow (fun g hg => by cases hg) (by rw [HI.out.2.2.2]; omega)
    clear HI hown hgrow hiff
    obtain ⟨W1, hW1⟩ : ∃ W, W1' = W := ⟨_, rfl⟩
    rw [hW1] at HM ⊢
    clear hW1
    have hr := HM.out.f.range
    have hsz := Nat.succ_le_of_lt HM.out.f.lt
    obtain ⟨K, hK⟩ : ∃ K, W1.heap.size = K := ⟨_, rfl⟩
    have HK : Hid (Ft (W1.alloc (.cells #[.int .i64 k, .int .i64 p, .int .i64 q, .int .i64 u, .int .i64 v, .int .i64 c, .int .i64 i, .int .i64 x] 51)) K k p q u v c i x) := by rw [← hK]; exact Ft.new W1 k p q u v c i x _
    go_wp2_with (first
      | refine wpList_load_mid rfl 51 _ rfl B 0 rfl [.int .i64 k, .int .i64 p, .int .i64 q, .int .i64 u, .int .i64 v, .int .i64 c, .int .i64 i, .int .i64 x] _ hr Try.underlying51 rfl infoF12s ?_
      | (at_builtin; go_loud (refine wpList_append_own _ rfl _ _ 32 rfl (B + 1) 51 i0 (.agg #[.int .i64 0, .int .i64 0, .int .i64 0, .int .i64 0, .int .i64 0, .int .i64 0, .int .i64 0, .int .i64 0]) 8 64 Try.underlying32 hi hz0 hz1 hz2 rfl (by decide) _ len (fcells12 len Z) rfl (World.ownsRow.alloc HM.out.o _) ⟨K, 0, none⟩ 1 1 (ints .i64 8 (ffn k p q u v c i x)) rfl ?d0 ?d1 ?d2 ?d3 ?d4 ?d5 ?_)))
    case d0 => simp [ints]
    case d1 =>
      intro j u hj
      rw [Addr.add_lit, Nat.zero_add]
      have := HK.out.range j u hj
      rwa [Nat.zero_add] at this
    case d2 => exact ints_one' .i64 8 _
    case d3 => unfold maxLen; omega
    case d4 => omega
    case d5 => simp; omega
    intro v' w1 hown hgrow hiff
    have hB1 : Below B w w1 := below_grown7 (HM.out.n.alloc (by omega) _) hgrow (fun g hg => by have := (hne _ B W1 HM.out.o g hg).1; omega) (by simp; omega)
    rw [fcells12_snoc] at hown
    obtain ⟨a', c', rfl, hfs, hlow⟩ := owned_fs HW.out hown
    clear hown hgrow hiff hr
    go_wp2
    go_ret
    exact ⟨a', c', rfl, hfs, by rw [hB]; exact hB1, fun g o e => by have := hlow g o e; omega⟩
end Go.Proofs.Ytcpjmfemgdgplaa

/-
  The walks of package fault: faults kept, and those of them that last.
-/
namespace Go.Proofs.Ytcpjmfemgdgplaa
open Go.RowKit Go.Shelf
attribute [local go_sem] Oper.semAt_some

theorem fault_info : (Try.prog.info? 38).map (fun i => (i.zero, i.size, i.bytes)) = some (some (.agg #[.int .i64 0, .int .i64 0, .int .i64 0, .int .i64 0, .int .i64 0, .int .i64 0, .int .i64 0, .int .i64 0]), 8, 64) := by kernel_rfl
theorem fault_parts : ∃ i, Try.prog.info? 38 = some i ∧ i.zero = some (.agg #[.int .i64 0, .int .i64 0, .int .i64 0, .int .i64 0, .int .i64 0, .int .i64 0, .int .i64 0, .int .i64 0]) ∧ i.size = 8 ∧ i.bytes = 64 := by
  have h := fault_info
  cases hi : Try.prog.info? 38 with
  | none => rw [hi] at h; cases h
  | some i =>
    rw [hi] at h
    simp only [Option.map_some, Option.some.injEq, Prod.mk.injEq] at h
    exact ⟨i, rfl, h.1, h.2.1, h.2.2⟩
/-- the cells of len faults -/
def fcells (len : Nat) (Z : Nat → Nat → Int) : List Value := (List.range (len * 8)).map fun t => .int .i64 (Z (t / 8) (t % 8))
theorem fcells_at (len : Nat) (Z : Nat → Nat → Int) (i j : Nat) (hi : i < len) (hj : j < 8) : (fcells len Z)[i * 8 + j]? = some (.int .i64 (Z i j)) := by
  unfold fcells
  rw [List.getElem?_map, List.getElem?_range (by omega)]
  have e1 : (i * 8 + j) / 8 = i := by omega
  have e2 : (i * 8 + j) % 8 = j := by omega
  simp [e1, e2]
theorem owned_faults {w : World} {base len : Nat} {v : Value} {Z : Nat → Nat → Int} (hwf : ∀ i, i < len → ∀ j, j < 8 → (Lit.int .i64 (Z i j)).wf = true) (hv : v ≠ .slice none 0 0) (h : w.ownsRow base 38 8 v len (fcells len Z)) :
    ∃ g c, v = .slice (some ⟨g, 0, none⟩) len c ∧ base ≤ g ∧ Fs w (some ⟨g, 0, none⟩) len c Z := by
  obtain ⟨h1, ⟨h2, _⟩ | ⟨g, cap, cur, hv', hg, hh, hnc, hcm, hsz, htk⟩⟩ := h
  · exact absurd h2 hv
  · refine ⟨g, cap, hv', hg, hnc, hcm, fun h0 => ⟨g, 0, rfl, (Array.getElem?_eq_some_iff.1 hh).1, fun i hi j hj => ?_⟩, hwf, fun e => by cases e⟩
    have e : cur[i * 8 + j]? = some (.int .i64 (Z i j)) := by
      rw [← fcells_at len Z i j hi hj, ← htk, List.getElem?_take_of_lt (by omega)]; simp
    rw [Nat.zero_add]
    simp only [World.cell?, hh]
    simp [e]
set_option maxHeartbeats 1000000 in
theorem fclone_any (a : Option Addr) (len cap : Nat) (Z : Nat → Nat → Int) (hn : len ≤ 1000) (w : World) (hs : Fs w a len cap Z) :
    Calls Try.prog 40 #[.slice a len cap] w fun e w' => ∃ a' c', e = .returned (.slice a' len c') ∧ Fs w' a' len c' Z ∧ Below w.heap.size w w' ∧ (0 < len → ∃ g, a' = some ⟨g, 0, none⟩ ∧ w.heap.size ≤ g) := by
  cases a with
  | none =>
    obtain ⟨rfl, rfl⟩ := hs.nil rfl
    have hnil : ∀ w, (binOp .eql 45 (.slice none 0 0) (.slice none 0 0)).run Try.prog w = .ok (.bool true) w := fun w => by kernel_rfl
    have H : Hid (Fs w none 0 0 Z) := hs
    clear hs
    go_enter Try.func40, Try.ntmps40
    go_wp2
    go_ret
    exact ⟨none, 0, rfl, H.out, Below.refl _ _, fun h => by omega⟩
  | some x =>
    have hnil : ∀ w, (binOp .eql 45 (.slice (some x) len cap) (.slice none 0 0)).run Try.prog w = .ok (.bool false) w := fun w => by kernel_rfl
    obtain ⟨i0, hi, hz0, hz1, hz2⟩ := fault_parts
    obtain ⟨news, Hnews⟩ : ∃ news, Hid (news = fcells len Z) := ⟨_, rfl⟩
    have HS : Hid (Fs w (some x) len cap Z) := hs
    clear hs
    go_enter Try.func40, Try.ntmps40
    go_wp2_with (at_builtin; refine wpList_append_own _ rfl _ _ 45 rfl w.heap.size 38 i0 (.agg #[.int .i64 0, .int .i64 0, .int .i64 0, .int .i64 0, .int .i64 0, .int .i64 0, .int .i64 0, .int .i64 0]) 8 64 Try.underlying45 hi hz0 hz1 hz2 rfl (by decide) _ 0 [] rfl ⟨rfl, .inr ⟨w.heap.size, 0, #[], rfl, Nat.le_refl _, World.alloc_heap_new w _, Nat.le_refl _, Nat.zero_le _, rfl, rfl⟩⟩ x len cap news rfl ?c0 ?c1 ?c2 ?c3 ?c4 ?c5 ?_)
    case c0 => rw [Hnews.out]; simp [fcells]
    case c1 =>
      intro t u ht
      rw [Hnews.out] at ht
      have htn : t < len * 8 := by have := (List.getElem?_eq_some_iff.1 ht).1; simpa [fcells] using this
      have e := fcells_at len Z (t / 8) (t % 8) (by omega) (by omega)
      rw [show t / 8 * 8 + t % 8 = t by omega, ht] at e
      cases e
      obtain ⟨b, o, e, hb, hc⟩ := HS.out.at_ (by omega)
      cases e
      have h1 := hc (t / 8) (by omega) (t % 8) (by omega)
      rw [show t / 8 * 8 + t % 8 = t by omega] at h1
      have := (World.cell?_of_block (w := w) (a := ⟨b, o + t, none⟩) (Below.heap_alloc w (.cells #[] 38) b hb)).trans h1
      rw [← this, Addr.add_lit]
    case c2 => intro u hu; rw [Hnews.out] at hu; obtain ⟨y, _, rfl⟩ := List.mem_map.1 hu; rfl
    case c3 => unfold maxLen; omega
    case c4 => omega
    case c5 => simp
    intro v' w1 hown hgrow hiff
    have hB : Below w.heap.size w w1 := by
      have h0 : Below w.heap.size w (w.alloc (.cells #[] 38)) := (Below.refl _ _).alloc (Nat.le_refl _) _
      exact h0.grown hgrow (by simp) (fun k e => by cases e; exact Nat.le_refl _)
    have hv : v' ≠ .slice none 0 0 := hiff
    rw [Hnews.out] at hown
    obtain ⟨g, c', rfl, hg, hfs⟩ := owned_faults HS.out.wf hv (by simpa using hown)
    clear hown hgrow hiff hv
    go_wp2
    go_ret
    exact ⟨some ⟨g, 0, none⟩, c', rfl, hfs, hB, fun _ => ⟨g, rfl, hg⟩⟩
/-- what Lasting tells: an iterator over a slice of its own, in a box -/
structure Lg (w w' : World) (T : Nat) (a' : Option Addr) (len c' : Nat) (Z : Nat → Nat → Int) : Prop where
  b : Box w' T (.slice a' len c')
  f : Fs w' a' len c' Z
  n : Below w.heap.size w w'
  t : w.heap.size ≤ T
  g : 0 < len → ∃ g, a' = some ⟨g, 0, none⟩ ∧ w.heap.size ≤ g
end Go.Proofs.Ytcpjmfemgdgplaa

/-
  A map of lines by their index.
-/
namespace Go.Proofs.Ytcpjmfemgdgplaa
open Go.RowKit Go.Shelf
open Go.Maps (Keyed int_keyed IsMap atKey_put_same atKey_put_other)
attribute [local go_sem] Oper.semAt_some

/-- a line's bytes as a value; how it lies in a map -/
def rawV (F : Nat → Int) : Value := .agg (ints .u8 72 F).toArray
def rawK (v : Value) : Option (DataW Value × List MemPlace) := some (.held v, [])
theorem law12 : Keyed Try.prog 3 := int_keyed Try.underlying3
theorem wf12 {i : Int} (h : I64 i) : (Lit.int .i64 i).wf = true := by
  unfold I64 at h
  exact WalkArith.wf_i64 ⟨h.1, by omega⟩
theorem key12 {i : Int} (h : I64 i) : keyOf Try.prog 3 (.int .i64 i) = some (.int .i64 i) := Maps.keyOf_int_mk Try.underlying3 (wf12 h)
/-- block M is a map of at most n entries; at index i it has the bytes G i -/
def MpAt (W : World) (M n : Nat) (G : Int → Nat → Int) : Prop := ∃ D : DataW Value, W.ownsMap Try.prog 3 rawK M n D ∧ ∀ i, I64 i → D.atKey (.int .i64 i) (.held (rawV fun _ => 0)) = .held (rawV (G i))
/-- an index has other bytes -/
def gput (G : Int → Nat → Int) (i : Int) (F : Nat → Int) : Int → Nat → Int := fun j => if j = i then F else G j
section
variable {W W' : World} {M n : Nat} {G : Int → Nat → Int}
theorem MpAt.new (W : World) : MpAt (W.alloc (.map #[] 0)) W.heap.size 0 fun _ _ => 0 := ⟨_, World.ownsMap_made W _ _ _, fun _ _ => rfl⟩
theorem MpAt.lt (h : MpAt W M n G) : M < W.heap.size := by
  obtain ⟨D, h, _⟩ := h
  exact h.lt
theorem MpAt.of (h : MpAt W M n G) (e : W'.heap[M]? = W.heap[M]?) : MpAt W' M n G := by
  obtain ⟨D, ⟨es, clock, hb, r⟩, h2⟩ := h
  exact ⟨D, ⟨es, clock, e.trans hb, r⟩, h2⟩
theorem MpAt.mono (h : MpAt W M n G) {k : Nat} (hk : n ≤ k) : MpAt W M k G := by
  obtain ⟨D, h, h2⟩ := h
  exact ⟨D, h.mono hk, h2⟩
theorem MpAt.look (h : MpAt W M n G) {i : Int} (hi : I64 i) : (Instr.lookup 80 (.map (some M)) (.int .i64 i) false).run Try.prog W = .ok (rawV (G i)) W := by
  obtain ⟨D, h, h2⟩ := h
  obtain ⟨v, ps, hr, hv⟩ := h.lookup law12 (t := 80) (e := 40) Try.underlying80 (z := rawV fun _ => 0) (zeroR W) (zd := .held (rawV fun _ => 0)) (zp := []) rfl (key12 hi)
  rw [h2 i hi] at hv
  simp only [rawK, Option.some.injEq, Prod.mk.injEq, DataW.held.injEq] at hv
  rw [hr, hv.1]
theorem MpAt.put (h : MpAt W M n G) {i : Int} (hi : I64 i) (hn : n < maxLen) (F : Nat → Int) : ∃ W', (Instr.mapUpdate 80 (.map (some M)) (.int .i64 i) (rawV F)).run Try.prog W = .ok () W' ∧ MpAt W' M (n + 1) (gput G i F) ∧ W.grownBy W' (some M) := by
  obtain ⟨D, h, h2⟩ := h
  have hm := h.isMap
  obtain ⟨W', hr, h3, h4⟩ := h.update law12 (t := 80) (e := 40) Try.underlying80 hn (key12 hi) (val := rawV F) (d := .held (rawV F)) (ps := []) rfl
  refine ⟨W', hr, ⟨_, h3, fun j hj => ?_⟩, h4⟩
  unfold gput
  by_cases e : j = i
  · subst e
    rw [if_pos rfl]
    exact atKey_put_same hm (law12.key (key12 hi)) _ _
  · rw [if_neg e, atKey_put_other (by intro e2; cases e2; exact e rfl)]
    exact h2 j hj
end
end Go.Proofs.Ytcpjmfemgdgplaa

/-
  The chips in memory: their struct, their map, their lists.
-/
namespace Go.Proofs.Ytcpjmfemgdgplaa
open Go.RowKit Go.Shelf
open Ge (pw rt hd ix)
attribute [local go_sem] Oper.semAt_some

/-- what lies in the own block of a value, if it has any -/
theorem own_kept {W W' : World} {lo l : Nat} {t : TypeId} {v : Value} {xs : List Value} (h : W.ownsRow lo t 8 v l xs) (e : ∀ g, v.ownBlock = some g → W'.heap[g]? = W.heap[g]?) : W'.ownsRow lo t 8 v l xs := by
  refine ⟨h.1, ?_⟩
  rcases h.2 with hn | ⟨g, cap, cur, rfl, hb, hg, r⟩
  · exact .inl hn
  · exact .inr ⟨g, cap, cur, rfl, hb, (e g rfl).trans hg, r⟩
theorem own_one {W : World} {lo l : Nat} {t : TypeId} {v : Value} {xs : List Value} (h : W.ownsRow lo t 8 v l xs) : v.oneCell' = true := by
  rcases h.2 with ⟨rfl, _⟩ | ⟨g, cap, cur, rfl, _⟩ <;> rfl
/-- the blocks of chips -/
def mine (B M : Nat) (vb vc : Value) (g : Nat) : Prop := g = B ∨ g = M ∨ vb.ownBlock = some g ∨ vc.ownBlock = some g
/-- faults that lie in a list, each right for a geometry -/
def Okc (r s b o d : Int) (len : Nat) (Z : Nat → Nat → Int) : Prop := ∀ i, i < len → hd r s b o d (Z i 1) (Z i 2) (Z i 3) (Z i 4) = true
def Wfz (len : Nat) (Z : Nat → Nat → Int) : Prop := ∀ i, i < len → ∀ j, j < 8 → (Lit.int .i64 (Z i j)).wf = true
/-- chips in memory: all their blocks from lo on; the struct in B, the map in M -/
structure Dm (W : World) (lo B M : Nat) (r s b o d m : Int) (n : Nat) (G : Int → Nat → Int) (vb : Value) (l1 : Nat) (Y : Nat → Nat → Int) (vc : Value) (l2 : Nat) (Z : Nat → Nat → Int) : Prop where
  c : Cb W B (dl r s b o d m (.map (some M)) vb vc)
  mp : MpAt W M n G
  f1 : W.ownsRow lo 38 8 vb l1 (fcells12 l1 Y)
  f2 : W.ownsRow lo 38 8 vc l2 (fcells12 l2 Z)
  w1 : Wfz l1 Y
  w2 : Wfz l2 Z
  ok : Okc r s b o d l2 Z
  by_ : ∀ i, Byts 72 (G i)
  lb : lo ≤ B
  lm : lo ≤ M
  a1 : B ≠ M
  a2 : vb.ownBlock ≠ some B ∧ vb.ownBlock ≠ some M
  a3 : vc.ownBlock ≠ some B ∧ vc.ownBlock ≠ some M
  a4 : ∀ g, vb.ownBlock = some g → vc.ownBlock ≠ some g
  le : l1 ≤ 256 ∧ l2 ≤ 256
section
variable {W W' : World} {lo B M : Nat} {r s b o d m : Int} {n : Nat} {G : Int → Nat → Int} {vb vc : Value} {l1 l2 : Nat} {Y Z : Nat → Nat → Int}
theorem Dm.of (h : Dm W lo B M r s b o d m n G vb l1 Y vc l2 Z) (k : ∀ g, mine B M vb vc g → W'.heap[g]? = W.heap[g]?) : Dm W' lo B M r s b o d m n G vb l1 Y vc l2 Z :=
  ⟨h.c.of (k B (.inl rfl)), h.mp.of (k M (.inr (.inl rfl))), own_kept h.f1 (fun g e => k g (.inr (.inr (.inl e)))), own_kept h.f2 (fun g e => k g (.inr (.inr (.inr e)))), h.w1, h.w2, h.ok, h.by_, h.lb, h.lm, h.a1, h.a2, h.a3, h.a4, h.le⟩
theorem Dm.mine_lt (h : Dm W lo B M r s b o d m n G vb l1 Y vc l2 Z) : ∀ g, mine B M vb vc g → lo ≤ g ∧ g < W.heap.size := by
  rintro g (rfl | rfl | e | e)
  · exact ⟨h.lb, h.c.lt⟩
  · exact ⟨h.lm, h.mp.lt⟩
  · exact h.f1.lt g e
  · exact h.f2.lt g e
theorem Dm.next (h : Dm W lo B M r s b o d m n G vb l1 Y vc l2 Z) (e : Below W.heap.size W W') : Dm W' lo B M r s b o d m n G vb l1 Y vc l2 Z := h.of fun g hg => e.block g (h.mine_lt g hg).2
theorem Dm.mono (h : Dm W lo B M r s b o d m n G vb l1 Y vc l2 Z) {k : Nat} (hk : n ≤ k) : Dm W lo B M r s b o d m k G vb l1 Y vc l2 Z :=
  ⟨h.c, h.mp.mono hk, h.f1, h.f2, h.w1, h.w2, h.ok, h.by_, h.lb, h.lm, h.a1, h.a2, h.a3, h.a4, h.le⟩
theorem Dm.lo_le (h : Dm W lo B M r s b o d m n G vb l1 Y vc l2 Z) : lo ≤ W.heap.size := by have := h.lb; have := h.c.lt; omega
theorem Dm.g (h : Dm W lo B M r s b o d m n G vb l1 Y vc l2 Z) : W.rangeAt B 0 [.int .i64 r, .int .i64 s, .int .i64 b, .int .i64 o, .int .i64 d] := h.c.rangeAt 0 _ rfl
theorem Dm.cm (h : Dm W lo B M r s b o d m n G vb l1 Y vc l2 Z) : W.cell? ⟨B, 5, none⟩ = some (.int .i64 m) := h.c.cell rfl
theorem Dm.ca (h : Dm W lo B M r s b o d m n G vb l1 Y vc l2 Z) : W.cell? ⟨B, 6, none⟩ = some (.map (some M)) := h.c.cell rfl
theorem Dm.cb (h : Dm W lo B M r s b o d m n G vb l1 Y vc l2 Z) : W.cell? ⟨B, 7, none⟩ = some vb := h.c.cell rfl
theorem Dm.cc (h : Dm W lo B M r s b o d m n G vb l1 Y vc l2 Z) : W.cell? ⟨B, 8, none⟩ = some vc := h.c.cell rfl
theorem Dm.fs1 (h : Dm W lo B M r s b o d m n G vb l1 Y vc l2 Z) : ∃ a c, vb = .slice a l1 c ∧ Fs W a l1 c Y := by
  obtain ⟨a, c, e, f, _⟩ := owned_fs h.w1 h.f1
  exact ⟨a, c, e, f⟩
theorem Dm.fs2 (h : Dm W lo B M r s b o d m n G vb l1 Y vc l2 Z) : ∃ a c, vc = .slice a l2 c ∧ Fs W a l2 c Z := by
  obtain ⟨a, c, e, f, _⟩ := owned_fs h.w2 h.f2
  exact ⟨a, c, e, f⟩
end
/-- what a call on chips leaves: all below lo, and all that is not theirs -/
structure Mv (lo : Nat) (T : Nat → Prop) (W W' : World) : Prop where
  n : Below lo W W'
  k : ∀ g, g < W.heap.size → ¬ T g → W'.heap[g]? = W.heap[g]?
section
variable {lo : Nat} {T T' : Nat → Prop} {W W' W'' : World}
theorem Mv.next (h : Below W.heap.size W W') (hl : lo ≤ W.heap.size) : Mv lo T W W' := ⟨h.mono hl, fun g hg _ => h.block g hg⟩
theorem Mv.trans (h : Mv lo T W W') (k : Mv lo T' W' W'') (e : ∀ g, T' g → T g ∨ W.heap.size ≤ g) : Mv lo T W W'' :=
  ⟨h.n.trans k.n, fun g hg ht => (k.k g (Nat.lt_of_lt_of_le hg h.n.size) fun t => (e g t).elim ht fun h => by omega).trans (h.k g hg ht)⟩
theorem Mv.mono (h : Mv lo T W W') (e : ∀ g, T g → T' g) : Mv lo T' W W' := ⟨h.n, fun g hg ht => h.k g hg fun t => ht (e g t)⟩
end
end Go.Proofs.Ytcpjmfemgdgplaa

/-
  What chips tell without turning: has, Geom, Mode, Faults, Coming, indexOf.
-/
namespace Go.Proofs.Ytcpjmfemgdgplaa
open Go.RowKit Go.Shelf
open Ge (pw rt hd ix)
attribute [local go_sem] Oper.semAt_some

theorem infoDr : (Try.prog.info? 82).map (·.size) = some 9 := by kernel_rfl
theorem at_either (r s b o d i : Int) : ∃ p q u v f : Int, Hid (hx r s b o d i = (f == 0)) ∧ Hid (hx r s b o d i = true → p = i / 1048576 ∧ q = i / 65536 % 16 ∧ u = i / 64 % 1024 ∧ v = i % 64 ∧ f = 0) ∧
    Hid (∀ w, Calls Try.prog 69 #[.agg #[.int .i64 r, .int .i64 s, .int .i64 b, .int .i64 o, .int .i64 d], .int .i64 i] w fun e w' => e = .returned (.tuple #[.agg #[.int .i64 p, .int .i64 q, .int .i64 u, .int .i64 v], .int .i64 f]) ∧ Below w.heap.size w w') := by
  cases h : hx r s b o d i with
  | true => exact ⟨_, _, _, _, 0, by simp [Hid], fun _ => ⟨rfl, rfl, rfl, rfl, rfl⟩, fun w => at_yes r s b o d i h w⟩
  | false => exact ⟨0, 0, 0, 0, 12, by simp [Hid], fun e => (by cases e), fun w => at_no r s b o d i h w⟩
section
variable {W : World} {lo B M : Nat} {r s b o d m : Int} {n : Nat} {G : Int → Nat → Int} {vb vc : Value} {l1 l2 : Nat} {Y Z : Nat → Nat → Int}
set_option maxHeartbeats 1000000 in
theorem dHas_any (h : Dm W lo B M r s b o d m n G vb l1 Y vc l2 Z) (i : Int) :
    Calls Try.prog 41 #[.pointer (some ⟨B, 0, none⟩), .int .i64 i] W fun e w' => e = .returned (.bool (hx r s b o d i)) ∧ Below W.heap.size W w' := by
  obtain ⟨p, q, u, v, f, hz, _, CA⟩ := at_either r s b o d i
  obtain ⟨z, Z0⟩ : ∃ z, hx r s b o d i = z := ⟨_, rfl⟩
  rw [Z0] at hz ⊢
  have HD : Hid (Dm W lo B M r s b o d m n G vb l1 Y vc l2 Z) := h
  have hg := h.g
  have c0 := h.c.cell (i := 0) rfl
  have HB0 : Hid (Below W.heap.size W W) := Below.refl _ W
  clear Z0 h
  go_enter Try.func41, Try.ntmps41
  go_wp2_with (first
    | refine wpList_load_mid rfl 23 _ rfl B 0 rfl [.int .i64 r, .int .i64 s, .int .i64 b, .int .i64 o, .int .i64 d] _ hg Try.underlying23 rfl infoGm ?_)
  refine (CA.out _).mono ?_
  rintro e W1 ⟨rfl, b1⟩
  have HB : Hid (Below W.heap.size W W1) := b1
  clear b1 hg c0 CA HD HB0
  go_wp2
  go_ret
  refine ⟨by rw [hz.out]; rfl, ?_⟩
  exact HB.out.alloc HB.out.size _
set_option maxHeartbeats 1000000 in
theorem dGeom_any (h : Dm W lo B M r s b o d m n G vb l1 Y vc l2 Z) :
    Calls Try.prog 14 #[.pointer (some ⟨B, 0, none⟩)] W fun e w' => e = .returned (.agg #[.int .i64 r, .int .i64 s, .int .i64 b, .int .i64 o, .int .i64 d]) ∧ Below W.heap.size W w' := by
  have HD : Hid (Dm W lo B M r s b o d m n G vb l1 Y vc l2 Z) := h
  clear h
  go_enter Try.func14, Try.ntmps14
  go_upto_region 1 with (fail)
  obtain ⟨K, hK⟩ : ∃ K, W.heap.size = K := ⟨_, rfl⟩
  obtain ⟨V, hV⟩ : ∃ V, W.alloc (.cells #[.int .i64 0, .int .i64 0, .int .i64 0, .int .i64 0, .int .i64 0] 23) = V := ⟨_, rfl⟩
  have HB : Hid (Below W.heap.size W V) := by rw [← hV]; exact (Below.refl _ W).alloc (Nat.le_refl _) _
  have hD := HD.out.next HB.out
  have HG : Hid (Gm V K 0 0 0 0 0) := by rw [← hV, ← hK]; exact Gm.new W 0 0 0 0 0 _
  have th : V.there K 0 5 := Bk.there HG.out .i64 (gfn r s b o d)
  have on : (#[.int .i64 r, .int .i64 s, .int .i64 b, .int .i64 o, .int .i64 d] : Array Value).all (·.oneCell') = true := ints_one .i64 5 (gfn r s b o d)
  have hg := hD.g
  have c0 := hD.c.cell (i := 0) rfl
  rw [hV, hK]
  clear hV hD HD
  go_wp2_with (first
    | refine wpList_load_mid rfl 23 _ rfl B 0 rfl [.int .i64 r, .int .i64 s, .int .i64 b, .int .i64 o, .int .i64 d] _ hg Try.underlying23 rfl infoGm ?_
    | refine wpList_store_mid rfl 23 _ _ rfl K 0 #[.int .i64 r, .int .i64 s, .int .i64 b, .int .i64 o, .int .i64 d] rfl rfl th infoGm on ?_)
  have hs2 : (World.setCells V K 0 [.int .i64 r, .int .i64 s, .int .i64 b, .int .i64 o, .int .i64 d]).rangeAt K 0 [.int .i64 r, .int .i64 s, .int .i64 b, .int .i64 o, .int .i64 d] := World.rangeAt_setCells_same V _ 0 _ (by simpa using th)
  have hld := run_loadVar_mid (P := Try.prog) (World.setCells V K 0 [.int .i64 r, .int .i64 s, .int .i64 b, .int .i64 o, .int .i64 d]) K 0 23 [.int .i64 r, .int .i64 s, .int .i64 b, .int .i64 o, .int .i64 d] _ hs2 Try.underlying23 rfl infoGm
  refine bodyPost_ret (v := .agg #[.int .i64 r, .int .i64 s, .int .i64 b, .int .i64 o, .int .i64 d]) ?_ rfl ⟨rfl, belows_put (by omega) _ 0 HB.out⟩
  simp [results, Try.f14, Act.put, asAddr, hld]
theorem dMode_any (h : Dm W lo B M r s b o d m n G vb l1 Y vc l2 Z) :
    Calls Try.prog 15 #[.pointer (some ⟨B, 0, none⟩)] W fun e w' => e = .returned (.int .i64 m) ∧ Below W.heap.size W w' := by
  have c0 := h.c.cell (i := 0) rfl
  have c5 := h.cm
  have HB : Hid (Below W.heap.size W W) := Below.refl _ W
  clear h
  go_enter Try.func15, Try.ntmps15
  go_wp2
  go_ret
  exact ⟨rfl, HB.out⟩
theorem dFaults_any (h : Dm W lo B M r s b o d m n G vb l1 Y vc l2 Z) :
    Calls Try.prog 12 #[.pointer (some ⟨B, 0, none⟩)] W fun e w' => ∃ a c, e = .returned (.slice a l1 c) ∧ Fs w' a l1 c Y ∧ Below W.heap.size W w' := by
  obtain ⟨a, c, e, hf⟩ := h.fs1
  have CC : Hid (Calls Try.prog 40 #[.slice a l1 c] W fun e w' => ∃ a' c', e = .returned (.slice a' l1 c') ∧ Fs w' a' l1 c' Y ∧ Below W.heap.size W w' ∧ (0 < l1 → ∃ g, a' = some ⟨g, 0, none⟩ ∧ W.heap.size ≤ g)) := fclone_any a l1 c Y (by have := h.le.1; omega) W hf
  have c0 := h.c.cell (i := 0) rfl
  have c7 := h.cb
  rw [← e] at CC
  clear h hf e
  go_enter Try.func12, Try.ntmps12
  go_wp2_with (go_at_call 40; refine CC.out.mono ?_; rintro e W1 ⟨a', c', rfl, hf, hb, _⟩; have HF : Hid (Fs W1 a' l1 c' Y ∧ Below W.heap.size W W1) := ⟨hf, hb⟩; clear hf hb CC c0 c7)
  go_ret
  exact ⟨a', c', rfl, HF.out.1, HF.out.2⟩
theorem dComing_any (h : Dm W lo B M r s b o d m n G vb l1 Y vc l2 Z) :
    Calls Try.prog 13 #[.pointer (some ⟨B, 0, none⟩)] W fun e w' => ∃ a c, e = .returned (.slice a l2 c) ∧ Fs w' a l2 c Z ∧ Below W.heap.size W w' := by
  obtain ⟨a, c, e, hf⟩ := h.fs2
  have CC : Hid (Calls Try.prog 40 #[.slice a l2 c] W fun e w' => ∃ a' c', e = .returned (.slice a' l2 c') ∧ Fs w' a' l2 c' Z ∧ Below W.heap.size W w' ∧ (0 < l2 → ∃ g, a' = some ⟨g, 0, none⟩ ∧ W.heap.size ≤ g)) := fclone_any a l2 c Z (by have := h.le.2; omega) W hf
  have c0 := h.c.cell (i := 0) rfl
  have c7 := h.cc
  rw [← e] at CC
  clear h hf e
  go_enter Try.func13, Try.ntmps13
  go_wp2_with (go_at_call 40; refine CC.out.mono ?_; rintro e W1 ⟨a', c', rfl, hf, hb, _⟩; have HF : Hid (Fs W1 a' l2 c' Z ∧ Below W.heap.size W W1) := ⟨hf, hb⟩; clear hf hb CC c0 c7)
  go_ret
  exact ⟨a', c', rfl, HF.out.1, HF.out.2⟩
end
end Go.Proofs.Ytcpjmfemgdgplaa

/-
  The document's cells: what is stored at an index.
-/
namespace Go.Proofs.Ytcpjmfemgdgplaa
open Go.RowKit Go.Shelf
attribute [local go_sem] Oper.semAt_some

theorem exec_build12 {P : Program} {op : Oper} {a : Act} (ty : TypeId) (ho : op.op = .build ty #[]) (v : Value) (h : ∀ w, (Instr.build ty #[]).run P w = .ok v w) (w : World) : (execOp a.eval op).run P w = .ok (.value v) w := by
  simp [execOp, ho, h]
/-- an entry: an index, 72 bytes -/
abbrev En := Int × (Nat → Int)
def ecell (e : En) : List Value := .int .i64 e.1 :: ints .u8 72 e.2
def ecells (E : List En) : List Value := E.flatMap ecell
theorem ecell_len (e : En) : (ecell e).length = 73 := by simp [ecell, ints_len]
theorem ecells_len (E : List En) : (ecells E).length = E.length * 73 := by
  induction E with
  | nil => rfl
  | cons e E ih =>
    have : ecells (e :: E) = ecell e ++ ecells E := rfl
    rw [this, List.length_append, ecell_len, ih, List.length_cons]
    omega
theorem ecells_snoc (E : List En) (e : En) : ecells E ++ ecell e = ecells (E ++ [e]) := by simp [ecells]
theorem ecells_at (E : List En) (i : Nat) (e : En) (h : E[i]? = some e) (j : Nat) (hj : j < 73) : (ecells E)[i * 73 + j]? = (ecell e)[j]? := by
  induction E generalizing i with
  | nil => simp at h
  | cons x E ih =>
    have hx : ecells (x :: E) = ecell x ++ ecells E := rfl
    rw [hx]
    cases i with
    | zero =>
      simp at h
      subst h
      rw [List.getElem?_append_left (by rw [ecell_len]; omega)]
      simp
    | succ i =>
      rw [List.getElem?_append_right (by rw [ecell_len]; omega), ecell_len, show (i + 1) * 73 + j - 73 = i * 73 + j by omega]
      exact ih i (by simpa using h)
theorem ecell_one (e : En) : ∀ u ∈ ecell e, u.oneCell' = true := by
  intro u hu
  rcases List.mem_cons.1 hu with rfl | h
  · rfl
  · exact ints_one' .u8 72 e.2 u h
theorem ecells_one (E : List En) : ∀ u ∈ ecells E, u.oneCell' = true := by
  intro u hu
  obtain ⟨e, _, h⟩ := List.mem_flatMap.1 hu
  exact ecell_one e u h
/-- what is stored at an index -/
def gE : List En → Int → Nat → Int
  | [], _ => fun _ => 0
  | e :: E, i => if e.1 = i then e.2 else gE E i
theorem gE_hit (E : List En) (t : Nat) (e : En) (h : E[t]? = some e) (i : Int) (hi : e.1 = i) : gE (E.drop t) i = e.2 := by
  have hl : t < E.length := (List.getElem?_eq_some_iff.1 h).1
  rw [List.drop_eq_getElem_cons hl]
  have he : E[t] = e := (List.getElem?_eq_some_iff.1 h).2
  rw [he]
  simp [gE, hi]
theorem gE_miss (E : List En) (t : Nat) (e : En) (h : E[t]? = some e) (i : Int) (hi : e.1 ≠ i) : gE (E.drop t) i = gE (E.drop (t + 1)) i := by
  have hl : t < E.length := (List.getElem?_eq_some_iff.1 h).1
  rw [List.drop_eq_getElem_cons hl]
  have he : E[t] = e := (List.getElem?_eq_some_iff.1 h).2
  rw [he]
  simp [gE, hi]
/-- the entries unlike an index -/
def fE (E : List En) (i : Int) : List En := E.filter fun e => decide (e.1 ≠ i)
/-- an index has some bytes -/
def pE (E : List En) (i : Int) (F : Nat → Int) : List En := (i, F) :: fE E i
theorem gE_fE (E : List En) (i j : Int) (h : i ≠ j) : gE (fE E i) j = gE E j := by
  induction E with
  | nil => rfl
  | cons e E ih =>
    unfold fE at ih ⊢
    by_cases he : e.1 = i
    · rw [List.filter_cons_of_neg (by simp [he]), ih]
      simp [gE, show e.1 ≠ j by rw [he]; exact h]
    · rw [List.filter_cons_of_pos (by simp [he])]
      simp only [gE, ih]
theorem gE_pE (E : List En) (i j : Int) (F : Nat → Int) : gE (pE E i F) j = if i = j then F else gE E j := by
  unfold pE
  simp only [gE]
  split
  · rfl
  · rename_i h
    exact gE_fE E i j h
theorem gE_byt (E : List En) (h : ∀ e ∈ E, Byts 72 e.2) (i : Int) : Byts 72 (gE E i) := by
  induction E with
  | nil => exact fun j hj => ⟨by simp [gE], by simp [gE]⟩
  | cons e E ih =>
    simp only [gE]
    split
    · exact h e (by simp)
    · exact ih fun x hx => h x (by simp [hx])
/-- entries in a slice -/
structure Er (W : World) (a : Option Addr) (len cap : Nat) (E : List En) : Prop where
  ln : len = E.length
  le : len ≤ cap
  cm : cap ≤ maxLen
  at_ : 0 < len → ∃ b o, a = some ⟨b, o, none⟩ ∧ b < W.heap.size ∧ W.rangeAt b o (ecells E)
  wf : ∀ e ∈ E, I64 e.1 ∧ Byts 72 e.2
  nil : a = none → len = 0 ∧ cap = 0
theorem Er.below {w W : World} {a : Option Addr} {len cap : Nat} {E : List En} (h : Er w a len cap E) (k : Below w.heap.size w W) : Er W a len cap E :=
  ⟨h.ln, h.le, h.cm, fun h0 => by
    obtain ⟨b, o, h1, h2, h3⟩ := h.at_ h0
    exact ⟨b, o, h1, Nat.lt_of_lt_of_le h2 k.size, fun j v hv => (k.cell (p := ⟨b, o + j, none⟩) h2).trans (h3 j v hv)⟩, h.wf, h.nil⟩
theorem er_none (w : World) : Er w none 0 0 [] := ⟨rfl, Nat.le_refl _, Nat.zero_le _, fun h => absurd h (by omega), fun e h => by simp at h, fun _ => ⟨rfl, rfl⟩⟩
theorem er_part {w : World} {b o : Nat} {E : List En} (h : w.rangeAt b o (ecells E)) (t : Nat) (e : En) (he : E[t]? = some e) : w.cell? ⟨b, o + t * 73, none⟩ = some (.int .i64 e.1) ∧ w.rangeAt b (o + t * 73 + 1) (ints .u8 72 e.2) ∧ w.rangeAt b (o + t * 73) (ecell e) := by
  have hp : ∀ j v, (ecell e)[j]? = some v → w.cell? ⟨b, o + t * 73 + j, none⟩ = some v := fun j v hv => by
    have hj : j < 73 := by
      have := (List.getElem?_eq_some_iff.1 hv).1
      rwa [ecell_len] at this
    have := h (t * 73 + j) v (by rw [ecells_at E t e he j hj]; exact hv)
    rwa [← Nat.add_assoc] at this
  refine ⟨hp 0 _ rfl, fun j v hv => ?_, hp⟩
  have := hp (j + 1) v (by simpa [ecell] using hv)
  rwa [show o + t * 73 + (j + 1) = o + t * 73 + 1 + j by omega] at this
/-- at work in Get -/
structure Gt12 (B C : Nat) (r s b o d m : Int) (va vb vc : Value) (w W : World) : Prop where
  c : Cb W B (dl r s b o d m va vb vc)
  e : Bk .u8 W C 72 (fun _ => 0)
  n : Below B w W
theorem Gt12.next {B C : Nat} {r s b o d m : Int} {va vb vc : Value} {w W W' : World} (h : Gt12 B C r s b o d m va vb vc w W) (k : Below W.heap.size W W') : Gt12 B C r s b o d m va vb vc w W' := ⟨h.c.next k, h.e.next k, h.n.trans (k.mono (Nat.le_of_lt h.c.lt))⟩
set_option maxRecDepth 100000 in
set_option maxHeartbeats 4000000 in
theorem get12_any (r s b o d m : Int) (a : Option Addr) (len cap : Nat) (vb vc : Value) (E : List En) (idx : Int) (w : World) (hs : Er w a len cap E) :
    Calls Try.prog 45 #[.agg #[.int .i64 r, .int .i64 s, .int .i64 b, .int .i64 o, .int .i64 d, .int .i64 m, .slice a len cap, vb, vc], .int .i64 idx] w fun e w' => e = .returned (.agg (ints .u8 72 (gE E idx)).toArray) ∧ Below w.heap.size w w' := by
  have hlm : len ≤ maxLen := Nat.le_trans hs.le hs.cm
  unfold maxLen at hlm
  obtain ⟨va, hva⟩ : ∃ va, Value.slice a len cap = va := ⟨_, rfl⟩
  have hn := hs.ln
  have HR : Hid (0 < len → ∃ b o, a = some ⟨b, o, none⟩ ∧ ∀ W, Below w.heap.size w W → W.rangeAt b o (ecells E)) := fun h0 => by
    obtain ⟨b, o, h1, h2, h3⟩ := hs.at_ h0
    exact ⟨b, o, h1, fun W hW j v hv => (hW.cell (p := ⟨b, o + j, none⟩) h2).trans (h3 j v hv)⟩
  clear hs
  have hz := zeroA9
  obtain ⟨T, hT⟩ : ∃ Z, (ints .u8 72 fun _ => 0).toArray = Z := ⟨_, rfl⟩
  rw [hT] at hz
  rw [hva]
  go_enter Try.func45, Try.ntmps45
  go_upto_region 1 with (fail)
  obtain ⟨B, hB⟩ : ∃ B, w.heap.size = B := ⟨_, rfl⟩
  obtain ⟨C, hC⟩ : ∃ C, B + 1 = C := ⟨_, rfl⟩
  obtain ⟨V, hV⟩ : ∃ V, (w.alloc (.cells #[.int .i64 r, .int .i64 s, .int .i64 b, .int .i64 o, .int .i64 d, .int .i64 m, va, vb, vc] 34)).alloc (.cells T 39) = V := ⟨_, rfl⟩
  have HS : Hid (Gt12 B C r s b o d m va vb vc w V) := by
    have a2 := Bk.new .u8 (w.alloc (.cells #[.int .i64 r, .int .i64 s, .int .i64 b, .int .i64 o, .int .i64 d, .int .i64 m, va, vb, vc] 34)) 72 (fun _ => 0) 39
    rw [hT] at a2
    simp only [World.size_alloc] at a2
    rw [← hV, ← hC, ← hB]
    exact ⟨(Cb.new w (dl r s b o d m va vb vc) _).alloc _, a2, ((Below.refl _ w).alloc (Nat.le_refl _) _).alloc (by simp) _⟩
  rw [hB] at HR
  have oC : B < C := by omega
  rw [hV, hB, hC]
  clear hV hC hT hz
  go_wp2
  go_loopw [5] (fun i wr => ∃ t : Nat, t ≤ len ∧ i = .int .i64 (t : Int) ∧ Hid (gE E idx = gE (E.drop t) idx) ∧ Hid (Gt12 B C r s b o d m va vb vc w wr)) (fun i _ => len - (intOf i).toNat)
  case atStart => exact ⟨0, by omega, rfl, rfl, HS⟩
  case round =>
    clear HS
    obtain ⟨t, ht, rfl, HG, HS⟩ := hrel
    have hc := HS.out.c.cell (i := 6) (v := va) rfl
    rw [← hva] at hc
    by_cases hlt : t < len
    · obtain ⟨pb, po, rfl, HQ⟩ := HR.out (by omega)
      obtain ⟨⟨x, F⟩, he⟩ : ∃ e, E[t]? = some e := ⟨E[t]'(by omega), List.getElem?_eq_getElem (by omega)⟩
      obtain ⟨hx, hF, _⟩ := er_part (HQ wr HS.out.n) t (x, F) he
      simp only at hx hF
      clear HQ
      by_cases hi : x = idx
      · have HE : Hid (gE E idx = F) := HG.out.trans (gE_hit E t _ he idx hi)
        obtain ⟨L, hL⟩ : ∃ L, ints .u8 72 F = L := ⟨_, rfl⟩
        have i0 : (Try.prog.info? 39).map (·.size) = some L.length := by rw [← hL, ints_len]; exact infoA9
        have j9 : (Try.prog.info? 39).map (·.size) = some L.toArray.size := by simpa using i0
        have one1 : L.toArray.all (·.oneCell') = true := by rw [← hL]; exact ints_one .u8 72 F
        have ht2 := Bk.there HS.out.e .u8 F
        have HLL : Hid (ints .u8 72 F = L) := hL
        rw [hL] at hF ht2
        clear hL HG he HR
        go_wp2_with (first
          | refine wpList_load_mid rfl 39 _ rfl pb (po + t * 73 + 1) rfl L _ hF Try.underlying39 rfl i0 ?_
          | refine wpList_store_mid rfl 39 _ _ rfl C 0 L.toArray rfl rfl ht2 j9 one1 ?_)
        have hs2 : (World.setCells wr C 0 L).rangeAt C 0 L := World.rangeAt_setCells_same wr _ 0 L (by simpa using ht2)
        have hld := run_loadVar_mid (P := Try.prog) (World.setCells wr C 0 L) C 0 39 L _ hs2 Try.underlying39 rfl i0
        refine bodyPost_ret (v := .agg L.toArray) ?_ rfl ⟨by rw [HE.out, HLL.out], by first | exact belows_put (by omega) _ 0 HS.out.n | (rw [hB]; exact belows_put (by omega) _ 0 HS.out.n)⟩
        simp [results, Try.f45, Act.put, asAddr, hld]
      · have HE : Hid (gE E idx = gE (E.drop (t + 1)) idx) := HG.out.trans (gE_miss E t _ he idx hi)
        clear hF he HG HR
        go_wp2
        go_roundw
        case rel => exact ⟨t + 1, by omega, by go_num, HE, HS⟩
        case measure => simp [intOf]; omega
    · obtain rfl : t = len := by omega
      have HE : Hid (gE E idx = fun _ => 0) := HG.out.trans (by rw [List.drop_of_length_le (by omega)]; rfl)
      clear HG HR
      obtain ⟨L, hL⟩ : ∃ L, ints .u8 72 (fun _ => 0) = L := ⟨_, rfl⟩
      have i0 : (Try.prog.info? 39).map (·.size) = some L.length := by rw [← hL, ints_len]; exact infoA9
      have j9 : (Try.prog.info? 39).map (·.size) = some L.toArray.size := by simpa using i0
      have one1 : L.toArray.all (·.oneCell') = true := by rw [← hL]; exact ints_one .u8 72 _
      have ht2 := Bk.there HS.out.e .u8 (fun _ => 0)
      have hb0 : ∀ w, (Instr.build 39 #[]).run Try.prog w = .ok (.agg L.toArray) w := fun w => by rw [← hL]; exact run_build w _ _ _ (by kernel_rfl)
      have HLL : Hid (ints .u8 72 (fun _ => 0) = L) := hL
      rw [hL] at ht2
      clear hL
      go_wp2_with (first
        | refine wpList_known rfl _ (exec_build12 39 rfl _ hb0 _) ?_
        | refine wpList_store_mid rfl 39 _ _ rfl C 0 L.toArray rfl rfl ht2 j9 one1 ?_)
      have hs2 : (World.setCells wr C 0 L).rangeAt C 0 L := World.rangeAt_setCells_same wr _ 0 L (by simpa using ht2)
      have hld := run_loadVar_mid (P := Try.prog) (World.setCells wr C 0 L) C 0 39 L _ hs2 Try.underlying39 rfl i0
      refine bodyPost_ret (v := .agg L.toArray) ?_ rfl ⟨by rw [HE.out, HLL.out], by first | exact belows_put (by omega) _ 0 HS.out.n | (rw [hB]; exact belows_put (by omega) _ 0 HS.out.n)⟩
      simp [results, Try.f45, Act.put, asAddr, hld]
end Go.Proofs.Ytcpjmfemgdgplaa

/-
  The document's cells: an index has some bytes.
-/
namespace Go.Proofs.Ytcpjmfemgdgplaa
open Go.RowKit Go.Shelf
attribute [local go_sem] Oper.semAt_some

theorem built12 (i : Int) (F : Nat → Int) : Try.prog.built 111 [(0, .int .i64 i), (1, .agg (ints .u8 72 F).toArray)] = some (ecell (i, F)).toArray := by kernel_rfl
theorem slice12 (i : Int) (F : Nat → Int) : Try.prog.builtSlice 111 1 [(0, .agg (ecell (i, F)).toArray)] = some (ecell (i, F)).toArray := by kernel_rfl
theorem infoC12 : (Try.prog.info? 111).map (·.size) = some 73 := by kernel_rfl
theorem infoC12s : (Try.prog.info? 111).map (fun i => (i.zero, i.size, i.bytes)) = some (some (.agg (ecell (0, fun _ => 0)).toArray), 73, 80) := by kernel_rfl
theorem pE_len (E : List En) (i : Int) (F : Nat → Int) : (pE E i F).length ≤ E.length + 1 := by
  unfold pE fE
  have := List.length_filter_le (fun e : En => decide (e.1 ≠ i)) E
  simp only [List.length_cons]
  omega
theorem pE_miss (E : List En) (t : Nat) (e : En) (h : E[t]? = some e) (i : Int) (F : Nat → Int) (hi : e.1 ≠ i) : pE (E.take (t + 1)) i F = pE (E.take t) i F ++ [e] := by
  unfold pE fE
  rw [List.take_add_one, h]
  simp [hi]
theorem pE_hit (E : List En) (t : Nat) (e : En) (h : E[t]? = some e) (i : Int) (F : Nat → Int) (hi : e.1 = i) : pE (E.take (t + 1)) i F = pE (E.take t) i F := by
  unfold pE fE
  rw [List.take_add_one, h]
  simp [hi]
theorem pE_wf (E : List En) (i : Int) (F : Nat → Int) (hi : I64 i) (hF : Byts 72 F) (h : ∀ e ∈ E, I64 e.1 ∧ Byts 72 e.2) : ∀ e ∈ pE E i F, I64 e.1 ∧ Byts 72 e.2 := by
  intro e he
  rcases List.mem_cons.1 he with rfl | he
  · exact ⟨hi, hF⟩
  · exact h e (List.mem_filter.1 he).1
theorem Er.of {w W : World} {a : Option Addr} {len cap : Nat} {E : List En} (h : Er w a len cap E) (k : ∀ g o, a = some ⟨g, o, none⟩ → W.heap[g]? = w.heap[g]?) : Er W a len cap E :=
  ⟨h.ln, h.le, h.cm, fun h0 => by
    obtain ⟨b, o, h1, h2, h3⟩ := h.at_ h0
    have e := k b o h1
    refine ⟨b, o, h1, ?_, fun j v hv => (World.cell?_of_block (w := w) (w' := W) (a := ⟨b, o + j, none⟩) e).trans (h3 j v hv)⟩
    rw [Array.getElem?_eq_getElem h2] at e
    exact (Array.getElem?_eq_some_iff.1 e).1, h.wf, h.nil⟩
/-- what append laid lies, entry by entry -/
theorem owned_er {w : World} {base : Nat} {t : TypeId} {v : Value} {E : List En} (hwf : ∀ e ∈ E, I64 e.1 ∧ Byts 72 e.2) (h : w.ownsRow base t 73 v E.length (ecells E)) :
    ∃ a c, v = .slice a E.length c ∧ Er w a E.length c E ∧ ∀ g o, a = some ⟨g, o, none⟩ → base ≤ g := by
  obtain ⟨h1, ⟨h2, h3⟩ | ⟨g, cap, cur, hv', hg, hh, hnc, hcm, hsz, htk⟩⟩ := h
  · exact ⟨none, 0, by rw [h2, h3], by
      have : E = [] := List.length_eq_zero_iff.1 h3
      subst this
      exact er_none w, fun g o e => by cases e⟩
  · refine ⟨some ⟨g, 0, none⟩, cap, hv', ⟨rfl, hnc, hcm, fun h0 => ⟨g, 0, rfl, (Array.getElem?_eq_some_iff.1 hh).1, fun j u hu => ?_⟩, hwf, fun e => by cases e⟩, fun g' o' e => by cases e; exact hg⟩
    have hj : j < (ecells E).length := (List.getElem?_eq_some_iff.1 hu).1
    rw [ecells_len] at hj
    rw [← htk, List.getElem?_take_of_lt hj] at hu
    rw [Nat.zero_add, cell_of_row _ _ j _ _ (0, 0) hh]
    simpa using hu
theorem exec_cell12 {op : Oper} {a : Act} (x y : Nat) (ho : op.op = .build 111 #[(0, .tmp x), (1, .tmp y)]) (i : Int) (A N : Array Value) (hx : a.eval (.tmp x) = .int .i64 i) (hy : a.eval (.tmp y) = .agg A) (hb : Try.prog.built 111 [(0, .int .i64 i), (1, .agg A)] = some N) (w : World) :
    (execOp a.eval op).run Try.prog w = .ok (.value (.agg N)) w := by
  have h := run_build (P := Try.prog) w 111 #[(0, .int .i64 i), (1, .agg A)] N hb
  simp [execOp, ho, hx, hy, h]
theorem wp_one12 {ops : Array Oper} {rest : List Oper} {o : Oper} {a : Act} {w : World} {Q : Exit → Act → World → Prop} (hg : o.guard = none) (x : Nat) (ho : o.op = .buildSlice 31 1 #[(0, .tmp x)]) (K : Nat) (hK : w.heap.size = K) (dst : Option Tmp) (hd : o.dst = dst)
    (A : Array Value) (hx : a.eval (.tmp x) = .agg A) (hb : Try.prog.builtSlice 111 1 [(0, .agg A)] = some A)
    (h : wpList Try.prog ops Q rest (a.put dst (.slice (some ⟨K, 0, none⟩) 1 1)) (w.alloc (.cells A 111))) : wpList Try.prog ops Q (o :: rest) a w :=
  Great.wpList_buildSliceTo hg 31 111 1 _ ho K hK dst hd Try.underlying31 A (by simpa [hx] using hb) h
theorem below_set12 {B b i : Nat} {w W : World} {v : Value} (hb : B ≤ b) (h : Below B w W) : Below B w (W.setCell ⟨b, i, none⟩ v) :=
  belows_put hb [v] i h
theorem dl_one (r s b o d m : Int) (va vb vc : Value) (ha : va.oneCell' = true) (hb : vb.oneCell' = true) (hc : vc.oneCell' = true) : (dl r s b o d m va vb vc).toArray.all (·.oneCell') = true := by
  simp only [List.all_toArray, dl, List.all_cons, List.all_nil, ha, hb, hc]
  rfl
/-- at work in Put -/
structure Pt12 (B R Q : Nat) (r s b o d m : Int) (va vb vc : Value) (sv : Value) (X : List En) (w W : World) : Prop where
  c : Cb W B (dl r s b o d m va vb vc)
  e : Cb W R (dl 0 0 0 0 0 0 (.slice none 0 0) (.slice none 0 0) (.slice none 0 0))
  n : Below B w W

  o : W.ownsRow Q 111 73 sv X.length (ecells X)
  q : Q ≤ W.heap.size
set_option maxRecDepth 100000 in
set_option maxHeartbeats 4000000 in
theorem put12_any (r s b o d m : Int) (a : Option Addr) (len cap : Nat) (vb vc : Value) (E : List En) (idx : Int) (F : Nat → Int) (hidx : I64 idx) (hF : Byts 72 F) (hlen : len ≤ 1000000) (hvb : vb.oneCell' = true) (hvc : vc.oneCell' = true) (w : World) (hs : Er w a len cap E) :
    Calls Try.prog 39 #[.agg #[.int .i64 r, .int .i64 s, .int .i64 b, .int .i64 o, .int .i64 d, .int .i64 m, .slice a len cap, vb, vc], .int .i64 idx, .agg (ints .u8 72 F).toArray] w fun e w' => ∃ a' c', e = .returned (.agg #[.int .i64 r, .int .i64 s, .int .i64 b, .int .i64 o, .int .i64 d, .int .i64 m, .slice a' (pE E idx F).length c', vb, vc]) ∧ Er w' a' (pE E idx F).length c' (pE E idx F) ∧ Below w.heap.size w w' ∧ ∀ g o, a' = some ⟨g, o, none⟩ → w.heap.size ≤ g := by
  obtain ⟨i0, hi, hz0, hz1, hz2⟩ := info_three infoC12s
  obtain ⟨va, hva⟩ : ∃ va, Value.slice a len cap = va := ⟨_, rfl⟩
  have hn := hs.ln
  have HW : Hid (∀ e ∈ pE E idx F, I64 e.1 ∧ Byts 72 e.2) := pE_wf E idx F hidx hF hs.wf
  have HR : Hid (0 < len → ∃ b o, a = some ⟨b, o, none⟩ ∧ ∀ W, Below w.heap.size w W → b < w.heap.size ∧ W.rangeAt b o (ecells E)) := fun h0 => by
    obtain ⟨b, o, h1, h2, h3⟩ := hs.at_ h0
    exact ⟨b, o, h1, fun W hW => ⟨h2, fun j v hv => (hW.cell (p := ⟨b, o + j, none⟩) h2).trans (h3 j v hv)⟩⟩
  have HV : Hid (vb.oneCell' = true ∧ vc.oneCell' = true) := ⟨hvb, hvc⟩
  clear hs hF hidx hvb hvc
  have HB : Hid (Try.prog.built 111 [(0, .int .i64 idx), (1, .agg (ints .u8 72 F).toArray)] = some (ecell (idx, F)).toArray ∧ Try.prog.builtSlice 111 1 [(0, .agg (ecell (idx, F)).toArray)] = some (ecell (idx, F)).toArray) := ⟨built12 idx F, slice12 idx F⟩
  obtain ⟨L, hL⟩ : ∃ L, ints .u8 72 F = L := ⟨_, rfl⟩
  obtain ⟨N0, hN0⟩ : ∃ N0, ecell (idx, F) = N0 := ⟨_, rfl⟩
  have iL : (Try.prog.info? 39).map (·.size) = some L.length := by rw [← hL, ints_len]; exact infoA9
  rw [hL, hN0] at HB
  rw [hva, hL]
  go_enter Try.func39, Try.ntmps39
  go_upto_region 1 with (fail)
  obtain ⟨B, hB⟩ : ∃ B, w.heap.size = B := ⟨_, rfl⟩
  obtain ⟨C, hC⟩ : ∃ C, B + 1 = C := ⟨_, rfl⟩
  obtain ⟨R, hR⟩ : ∃ R, C + 1 = R := ⟨_, rfl⟩
  obtain ⟨Q, hQ⟩ : ∃ Q, R + 1 = Q := ⟨_, rfl⟩
  obtain ⟨V, hV⟩ : ∃ V, ((w.alloc (.cells #[.int .i64 r, .int .i64 s, .int .i64 b, .int .i64 o, .int .i64 d, .int .i64 m, va, vb, vc] 34)).alloc (.cells L.toArray 39)).alloc (.cells #[.int .i64 0, .int .i64 0, .int .i64 0, .int .i64 0, .int .i64 0, .int .i64 0, .slice none 0 0, .slice none 0 0, .slice none 0 0] 34) = V := ⟨_, rfl⟩
  have HS : Hid (Cb V B (dl r s b o d m va vb vc) ∧ Cb V C L ∧ Cb V R (dl 0 0 0 0 0 0 (.slice none 0 0) (.slice none 0 0) (.slice none 0 0)) ∧ Below B w V ∧ V.heap.size = Q) := by
    have a1 := Cb.new (w.alloc (.cells #[.int .i64 r, .int .i64 s, .int .i64 b, .int .i64 o, .int .i64 d, .int .i64 m, va, vb, vc] 34)) L 39
    have a2 := Cb.new ((w.alloc (.cells #[.int .i64 r, .int .i64 s, .int .i64 b, .int .i64 o, .int .i64 d, .int .i64 m, va, vb, vc] 34)).alloc (.cells L.toArray 39)) (dl 0 0 0 0 0 0 (.slice none 0 0) (.slice none 0 0) (.slice none 0 0)) 34
    simp only [World.size_alloc] at a1 a2
    rw [← hV, ← hQ, ← hR, ← hC, ← hB]
    exact ⟨((Cb.new w (dl r s b o d m va vb vc) _).alloc _).alloc _, a1.alloc _, a2, (((Below.refl _ w).alloc (Nat.le_refl _) _).alloc (by simp) _).alloc (by simp; omega) _, by simp⟩
  rw [hB] at HR
  rw [hV, hB, hC, hR]
  clear hV
  have hr := HS.out.2.1.range
  have hQ2 := HS.out.2.2.2.2
  go_upto_region 2 with (first
    | refine wpList_load_mid rfl 39 _ rfl C 0 rfl L _ hr Try.underlying39 rfl iL ?_
    | refine wpList_known rfl _ (exec_cell12 9 10 rfl idx L.toArray N0.toArray rfl rfl (by exact HB.out.1) _) ?_
    | refine wp_one12 rfl 11 rfl Q (by exact hQ2) (some 12) rfl N0.toArray rfl (by exact HB.out.2) ?_)
  obtain ⟨W0, hW0⟩ : ∃ W0, V.alloc (.cells N0.toArray 111) = W0 := ⟨_, rfl⟩
  replace HS : Hid (Pt12 B R Q r s b o d m va vb vc (.slice (some ⟨Q, 0, none⟩) 1 1) (pE (E.take 0) idx F) w W0) := by
    have hl : N0.length = 73 := by rw [← hN0]; exact ecell_len _
    have hq : (V.alloc (.cells N0.toArray 111)).heap[Q]? = some (.cells N0.toArray 111 (0, 0)) := by rw [← hQ2]; exact World.alloc_heap_new V _
    rw [← hW0]
    refine ⟨HS.out.1.alloc _, HS.out.2.2.1.alloc _, HS.out.2.2.2.1.alloc (by omega) _, ⟨?_, .inr ⟨Q, 1, N0.toArray, rfl, Nat.le_refl _, hq, by simp [pE, fE], by unfold maxLen; omega, by simp [hl], ?_⟩⟩, by simp; omega⟩
    · rw [ecells_len]
    · simp [pE, fE, ecells, hN0]
      exact List.take_of_length_le (by omega)
  rw [hW0]
  clear hW0 hr hQ2 iL HB
  go_wp2
  go_loopw [7, 8] (fun v i wr => ∃ (t : Nat) (sv : Value), sv = v ∧ t ≤ len ∧ i = .int .i64 (t : Int) ∧ Hid (Pt12 B R Q r s b o d m va vb vc sv (pE (E.take t) idx F) w wr)) (fun _ i _ => len - (intOf i).toNat)
  case atStart => exact ⟨0, _, rfl, by omega, rfl, HS⟩
  case round =>
    clear HS
    obtain ⟨t, sv, rfl, ht, rfl, HS⟩ := hrel
    have hc := HS.out.c.cell (i := 6) (v := va) rfl
    rw [← hva] at hc
    by_cases hlt : t < len
    · obtain ⟨pb, po, rfl, HQ⟩ := HR.out (by omega)
      obtain ⟨hpb, HQ⟩ := HQ wr HS.out.n
      obtain ⟨⟨x, G⟩, he⟩ : ∃ e, E[t]? = some e := ⟨E[t]'(by omega), List.getElem?_eq_getElem (by omega)⟩
      obtain ⟨hx, _, hr⟩ := er_part HQ t (x, G) he
      simp only at hx
      clear HQ
      by_cases hx2 : x = idx
      · replace HS : Hid (Pt12 B R Q r s b o d m va vb vc sv (pE (E.take (t + 1)) idx F) w wr) := by rw [pE_hit E t _ he idx F hx2]; exact HS
        clear hr he HR
        go_wp2
        go_roundw
        case rel => exact ⟨t + 1, _, rfl, by omega, by go_num, HS⟩
        case measure => simp [intOf]; omega
      · have hn0 : (pE (E.take t) idx F).length ≤ 1000001 := by
          have h1 := pE_len (E.take t) idx F
          have h2 : (E.take t).length ≤ t := by simp; omega
          omega
        have HX : Hid (pE (E.take (t + 1)) idx F = pE (E.take t) idx F ++ [(x, G)]) := pE_miss E t _ he idx F hx2
        obtain ⟨X, hX⟩ : ∃ X, pE (E.take t) idx F = X := ⟨_, rfl⟩
        rw [hX] at HX HS hn0
        obtain ⟨M, hM⟩ : ∃ M, ecell (x, G) = M := ⟨_, rfl⟩
        have iM : (Try.prog.info? 111).map (·.size) = some M.length := by rw [← hM, ecell_len]; exact infoC12
        have HM : Hid (Try.prog.builtSlice 111 1 [(0, .agg M.toArray)] = some M.toArray ∧ M.length = 1 * 73 ∧ (∀ u ∈ M, u.oneCell' = true) ∧ ecells X ++ M = ecells (X ++ [(x, G)])) := by
          rw [← hM]
          exact ⟨slice12 x G, ecell_len _, ecell_one _, ecells_snoc X _⟩
        rw [hM] at hr
        clear hM he HR hX
        obtain ⟨K, hK⟩ : ∃ K, wr.heap.size = K := ⟨_, rfl⟩
        have HN : Hid (Cb (wr.alloc (.cells M.toArray 111)) K M) := by rw [← hK]; exact Cb.new wr M _
        have hzz : (Value.agg (ecell (0, fun _ => 0)).toArray).cells.size = 73 := by
          show (ecell (0, fun _ => 0)).toArray.size = 73
          rw [List.size_toArray, ecell_len]
        have hq := HS.out.q
        have hown := HS.out.o
        obtain ⟨n0, hn1⟩ : ∃ n0, X.length = n0 := ⟨_, rfl⟩
        rw [hn1] at hown hn0
        have hne : ∀ g, sv.ownBlock = some g → Q ≤ g ∧ g < wr.heap.size := fun g hg => World.ownsRow.lt hown g hg
        go_upto_region 4 with (first
          | refine wpList_load_mid rfl 111 _ rfl pb (po + t * 73) rfl M _ hr Try.underlying111 rfl iM ?_
          | refine wp_one12 rfl 33 rfl K (by exact hK) (some 34) rfl M.toArray rfl (by exact HM.out.1) ?_
          | (at_builtin; go_loud (refine wpList_append_own _ rfl _ _ 31 rfl Q 111 i0 (.agg (ecell (0, fun _ => 0)).toArray) 73 80 Try.underlying31 hi hz0 hz1 hz2 hzz (by decide) sv n0 (ecells X) rfl (World.ownsRow.alloc hown _) ⟨K, 0, none⟩ 1 1 M rfl ?d0 ?d1 ?d2 ?d3 ?d4 ?d5 ?_)))
        case d0 => exact HM.out.2.1
        try case d1 =>
          intro j u hj
          rw [Addr.add_lit, Nat.zero_add]
          exact HN.out.cell hj
        case d2 => exact HM.out.2.2.1
        case d3 => unfold maxLen; omega
        case d4 => omega
        case d5 => first | omega | exact hq | exact Nat.le_trans hq (Nat.le_of_eq (by rw [World.size_alloc]))
        intro v' w1 hown2 hgrow hiff
        rw [HM.out.2.2.2, ← HX.out] at hown2
        have hl1 : n0 + 1 = (pE (E.take (t + 1)) idx F).length := by rw [HX.out, ← hn1]; simp
        rw [hl1] at hown2
        replace HS : Hid (Pt12 B R Q r s b o d m va vb vc v' (pE (E.take (t + 1)) idx F) w w1) := by
          have hBR : ∀ g, g < Q → some g ≠ sv.ownBlock := fun g hg e => by have := (hne g e.symm).1; omega
          have hg1 := hgrow.size
          refine ⟨(HS.out.c.alloc _).of (hgrow.block B (by have := HS.out.c.lt; simp; omega) (hBR B (by omega))), (HS.out.e.alloc _).of (hgrow.block R (by have := HS.out.e.lt; simp; omega) (hBR R (by omega))), ?_, hown2, by simp at hg1; omega⟩
          exact below_grown7 (HS.out.n.alloc (by omega) _) hgrow (fun g hg => by have := (hne g hg).1; omega) (by simp; omega)
        clear hown2 hgrow hiff hr hown hzz HN HM iM
        go_wp2
        go_roundw
        case rel => exact ⟨t + 1, _, rfl, by omega, by go_num, HS⟩
        case measure => simp [intOf]; omega
    · obtain rfl : t = len := by omega
      obtain rfl : t = E.length := hn
      rw [List.take_length] at HS
      clear HR
      obtain ⟨a', c', rfl, her, hlow⟩ := owned_er HW.out HS.out.o
      obtain ⟨n1, hn1⟩ : ∃ n1, (pE E idx F).length = n1 := ⟨_, rfl⟩
      rw [hn1] at HS her ⊢
      have hf := HS.out.c.free 6
      clear hva
      have HE : Hid (Er wr a' n1 c' (pE E idx F)) := her
      clear her
      go_upto_region 8 with (fail)
      obtain ⟨sv, hsv⟩ : ∃ sv, Value.slice a' n1 c' = sv := ⟨_, rfl⟩
      have hso : sv.oneCell' = true := by rw [← hsv]; rfl
      obtain ⟨W1, hW1⟩ : ∃ W1, wr.setCell ⟨B, 6, none⟩ sv = W1 := ⟨_, rfl⟩
      replace HS : Hid (Cb W1 B (dl r s b o d m sv vb vc) ∧ Cb W1 R (dl 0 0 0 0 0 0 (.slice none 0 0) (.slice none 0 0) (.slice none 0 0)) ∧ Below B w W1 ∧ Er W1 a' n1 c' (pE E idx F)) := by
        rw [hsv] at HS
        rw [← hW1]
        refine ⟨HS.out.c.set 6 sv, HS.out.e.other (by omega) 6 sv, below_set12 (Nat.le_refl _) HS.out.n, HE.out.of fun g o e => ?_⟩
        have := hlow g o e
        exact Below.heap_setCell wr ⟨B, 6, none⟩ sv g (by show g ≠ B; omega)
      clear HE
      simp only [hsv, hW1]
      clear hW1 hf hc
      have hr1 := HS.out.1.range
      have ht : W1.there R 0 9 := HS.out.2.1.thereAt 0 9 (by simp [dl])
      obtain ⟨A9, hA9⟩ : ∃ A, dl r s b o d m sv vb vc = A := ⟨_, rfl⟩
      have i9 : (Try.prog.info? 34).map (·.size) = some A9.length := by rw [← hA9]; exact infoD12
      have j9 : (Try.prog.info? 34).map (·.size) = some A9.toArray.size := by rw [← hA9]; exact infoD12
      have ht2 : W1.there R 0 A9.toArray.size := by rw [← hA9]; exact ht
      have one1 : A9.toArray.all (·.oneCell') = true := by rw [← hA9]; exact dl_one r s b o d m sv vb vc hso HV.out.1 HV.out.2
      rw [hA9] at hr1
      go_wp2_with (first
        | refine wpList_load_mid rfl 34 _ rfl B 0 rfl A9 _ hr1 Try.underlying34 rfl i9 ?_
        | refine wpList_store_mid rfl 34 _ _ rfl R 0 A9.toArray rfl rfl ht2 j9 one1 ?_)
      have hs2 : (World.setCells W1 R 0 A9).rangeAt R 0 A9 := World.rangeAt_setCells_same W1 _ 0 A9 (by simpa using ht2)
      have hld := run_loadVar_mid (P := Try.prog) (World.setCells W1 R 0 A9) R 0 34 A9 _ hs2 Try.underlying34 rfl i9
      refine bodyPost_ret (v := .agg A9.toArray) ?_ rfl ⟨a', c', by rw [← hA9, ← hsv, ← hn1]; rfl, ?_, (by first | exact belows_put (by omega) _ 0 HS.out.2.2.1 | (rw [hB]; exact belows_put (by omega) _ 0 HS.out.2.2.1)), fun g o e => by have := hlow g o e; omega⟩
      · simp [results, Try.f39, Act.put, asAddr, hld]
      · rw [hn1]
        refine HS.out.2.2.2.of fun g o e => ?_
        have := hlow g o e
        exact heap_puts R A9 0 W1 g (by omega)
end Go.Proofs.Ytcpjmfemgdgplaa
