/-
  The walks of package hsiao and of the document's answers, the readers: a bit's column, whose column a syndrome is, its verdict.
-/
import Derived.Test.YtcabfhndcckjdaaDoorBitW5
import Derived.Test.YtcabfhndcckjdaaDoorBoxes
import Derived.Test.YtcabfhndcckjdaaDoorHsMath
namespace Go.Proofs.YtcabfhndcckjdaaDoor
open Go.RowKit Go.Shelf
open Bm (wt wtK cntW)
open Hm (col onesOf nOf idx kd pl xs ap syn)
attribute [local go_sem] Oper.semAt_some

/-- a code's columns lie in block b -/
def CodeAt (w : World) (b : Nat) : Prop := ∀ i : Nat, i < 74 → w.cell? ⟨b, i, none⟩ = some (.int .u8 (col i : Int))
theorem CodeAt.of {w w' : World} {b : Nat} (h : CodeAt w b) (hc : w'.heap[b]? = w.heap[b]?) : CodeAt w' b := fun i hi => (World.cell?_of_block (w := w) (a := ⟨b, i, none⟩) hc).trans (h i hi)
theorem CodeAt.below {C : Nat} {W W' : World} {b : Nat} (h : CodeAt W b) (k : Below C W W') (hb : b < C) : CodeAt W' b := h.of (k.block b hb)
theorem CodeAt.lt {W : World} {b : Nat} (h : CodeAt W b) : b < W.heap.size := by
  obtain ⟨x, hx, _⟩ := isCells_of_cell (h 0 (by decide))
  exact (Array.getElem?_eq_some_iff.1 hx).1
theorem CodeAt.stay {B : Nat} {W W' : World} {b : Nat} (h : CodeAt W b) (k : Stay B W W') : CodeAt W' b := fun i hi => k.cell (h i hi)

set_option maxHeartbeats 400000 in
theorem column_in (b i : Nat) (hi : i < 74) (w : World) (hc : CodeAt w b) :
    Calls Tryd.prog 12 #[.pointer (some ⟨b, 0, none⟩), .int .i64 (i : Int)] w fun e w' => e = .returned (.int .u8 (col i : Int)) ∧ w' = w := by
  have h := hc i hi
  clear hc
  obtain ⟨c, Hc⟩ : ∃ c, col i = c := ⟨_, rfl⟩
  rw [Hc] at h ⊢
  go_enter Tryd.func12, Tryd.ntmps12
  go_wp2
  go_ret
  exact ⟨rfl, rfl⟩
set_option maxHeartbeats 400000 in
theorem column_out (b : Nat) (i : Int) (hi : i < 0 ∨ 74 ≤ i) (w : World) :
    Calls Tryd.prog 12 #[.pointer (some ⟨b, 0, none⟩), .int .i64 i] w fun e w' => e = .returned (.int .u8 0) ∧ w' = w := by
  rcases hi with hi | hi
  · go_enter Tryd.func12, Tryd.ntmps12
    go_wp2
    go_ret
    exact ⟨rfl, rfl⟩
  · go_enter Tryd.func12, Tryd.ntmps12
    go_wp2
    go_ret
    exact ⟨rfl, rfl⟩

/-! ### the document's columns -/
set_option maxRecDepth 100000 in
set_option maxHeartbeats 1000000 in
theorem nth_any (i : Nat) (hi : i < 74) (w : World) :
    Calls Tryd.prog 25 #[.int .i64 (onesOf i : Int), .int .i64 (nOf i : Int)] w fun e w' => e = .returned (.int .u8 (col i : Int)) ∧ w' = w := by
  have hcl := Hm.col_lt i
  obtain ⟨on, Hon⟩ : ∃ on, onesOf i = on := ⟨_, rfl⟩
  obtain ⟨nn, hnn, Hnn⟩ : ∃ nn, nn < 74 ∧ nOf i = nn := ⟨_, by unfold nOf; split; omega; split <;> omega, rfl⟩
  obtain ⟨c, Hc⟩ : ∃ c, col i = c := ⟨_, rfl⟩
  obtain ⟨f, Hf, hf⟩ : ∃ f : Nat → Nat, Hid (wt = f) ∧ Hid (∀ x, f x ≤ 64) := ⟨wt, rfl, Bm.wt_le⟩
  have cR : Hid (∀ (x : Nat) (_ : x < 18446744073709551616) (w : World), Calls Tryd.prog 14 #[.int .u64 (x : Int)] w fun e w' => e = .returned (.int .i64 (f x : Int)) ∧ w' = w) := by rw [← Hf.out]; exact refWeight_any
  have hcon : on ≤ 5 := by rw [← Hon]; unfold onesOf; split; omega; split; omega; split <;> omega
  obtain ⟨g, Hg⟩ : ∃ g : Nat → Nat, Hid (cntW (on : Int) = g) := ⟨_, rfl⟩
  have Hg0 : Hid (g 0 = 0) := by rw [← Hg.out]; rfl
  have Hat : Hid (∀ x, f x = on → g x = nn → x = c) := fun x h1 h2 => by rw [← Hc]; exact Hm.col_at hi (by rw [Hf.out, Hon]; exact h1) (by rw [Hon, Hnn, Hg.out]; exact h2)
  have Hend : Hid (f c = on ∧ g c = nn) := ⟨by rw [← Hf.out, ← Hc, (Hm.col_all i hi).2.2.1, Hon], by rw [← Hg.out, ← Hon, ← Hc, (Hm.col_all i hi).2.2.2, Hnn]⟩
  have Hyes : Hid (∀ x, f x = on → g (x + 1) = g x + 1) := fun x h => by rw [← Hg.out]; exact Bm.cntW_yes _ _ (by rw [Hf.out, h])
  have Hno : Hid (∀ x, f x ≠ on → g (x + 1) = g x) := fun x h => by rw [← Hg.out]; exact Bm.cntW_no _ _ (by rw [Hf.out]; omega)
  rw [Hc] at hcl
  rw [Hon, Hnn, Hc]
  clear Hon Hnn Hc Hf Hg hi
  go_enter Tryd.func25, Tryd.ntmps25
  go_wp2
  go_loop [1, 5] (fun a b => ∃ x m : Nat, x ≤ c ∧ m ≤ nn ∧ Hid (m + g x = nn) ∧ a = .int .i64 (m : Int) ∧ b = .int .i64 (x : Int)) (fun _ b => c - (intOf b).toNat)
  case atStart => exact ⟨0, nn, by omega, by omega, by show _ = _; have := Hg0.out; omega, rfl, rfl⟩
  case round =>
    obtain ⟨x, m, hx, hm, Hm', rfl, rfl⟩ := hrel
    have hx64 : x < 18446744073709551616 := by omega
    obtain ⟨t, ht, Ht⟩ : ∃ t, t ≤ 64 ∧ Hid (f x = t) := ⟨_, hf.out x, rfl⟩
    by_cases he : t = on
    · by_cases hm0 : m = 0
      · have hxc : x = c := Hat.out x (by rw [Ht.out, he]) (by have := Hm'.out; omega)
        subst hxc hm0 he
        go_wp2_with (go_at_call 14; refine (cR.out _ hx64 _).mono ?_; rintro e w' ⟨rfl, rfl⟩; rw [Ht.out])
        go_ret
        exact ⟨rfl, rfl⟩
      · have hxc : x ≠ c := fun e => by have h1 := Hend.out.2; rw [← e] at h1; have := Hm'.out; omega
        have Hy := Hyes.out x (by rw [Ht.out, he])
        have Hy' : Hid (m - 1 + g (x + 1) = nn) := by show _ = _; have := Hm'.out; omega
        have hd0 : ((m : Int) == 0) = false := by simp; omega
        have hm1 : 1 ≤ m := by omega
        subst he
        clear Hy hm0
        go_wp2_with (go_at_call 14; refine (cR.out _ hx64 _).mono ?_; rintro e w' ⟨rfl, rfl⟩; rw [Ht.out])
        go_round
        case rel => exact ⟨x + 1, m - 1, by omega, by omega, Hy', by go_num, by go_num⟩
        case measure => simp [intOf]; omega
    · have hxc : x ≠ c := fun e => he (by rw [← Ht.out, e, Hend.out.1])
      have Hy := Hno.out x (by rw [Ht.out]; exact he)
      have Hy' : Hid (m + g (x + 1) = nn) := by show _ = _; have := Hm'.out; omega
      have hd : ((t : Int) == (on : Int)) = false := by simp; omega
      clear Hy he
      go_wp2_with (go_at_call 14; refine (cR.out _ hx64 _).mono ?_; rintro e w' ⟨rfl, rfl⟩; rw [Ht.out])
      go_round
      case rel => exact ⟨x + 1, m, by omega, by omega, Hy', by first | rfl | go_num, by go_num⟩
      case measure => simp [intOf]; omega

set_option maxHeartbeats 1000000 in
theorem refColumn_in (i : Nat) (hi : i < 74) (w : World) :
    Calls Tryd.prog 13 #[.int .i64 (i : Int)] w fun e w' => e = .returned (.int .u8 (col i : Int)) ∧ w' = w := by
  obtain ⟨on, nn, c, HN, Hc, hcase⟩ : ∃ on nn c : Nat, Hid (∀ w, Calls Tryd.prog 25 #[.int .i64 (on : Int), .int .i64 (nn : Int)] w fun e w' => e = .returned (.int .u8 (c : Int)) ∧ w' = w) ∧ col i = c ∧
      ((i < 56 ∧ on = 3 ∧ nn = i) ∨ (56 ≤ i ∧ i < 64 ∧ on = 5 ∧ nn = i - 56) ∨ (64 ≤ i ∧ i < 72 ∧ on = 1 ∧ nn = i - 64) ∨ (72 ≤ i ∧ on = 5 ∧ nn = i - 64)) := by
    refine ⟨onesOf i, nOf i, col i, nth_any i hi, rfl, ?_⟩
    unfold onesOf nOf
    by_cases h1 : i < 56
    · exact .inl ⟨h1, by rw [if_pos h1], by rw [if_pos h1]⟩
    · by_cases h2 : i < 64
      · exact .inr (.inl ⟨by omega, h2, by rw [if_neg h1, if_pos h2], by rw [if_neg h1, if_pos h2]⟩)
      · by_cases h3 : i < 72
        · exact .inr (.inr (.inl ⟨by omega, h3, by rw [if_neg h1, if_neg h2, if_pos h3], by rw [if_neg h1, if_neg h2]⟩))
        · exact .inr (.inr (.inr ⟨by omega, by rw [if_neg h1, if_neg h2, if_neg h3], by rw [if_neg h1, if_neg h2]⟩))
  rw [Hc]
  rcases hcase with ⟨h1, rfl, rfl⟩ | ⟨h0, h1, rfl, rfl⟩ | ⟨h0, h1, rfl, rfl⟩ | ⟨h0, rfl, rfl⟩
  · go_enter Tryd.func13, Tryd.ntmps13
    go_wp2_with (go_at_call 25; refine (HN.out _).mono ?_; rintro e w' ⟨rfl, rfl⟩)
    go_ret
    exact ⟨rfl, rfl⟩
  · have e : (i : Int) - 56 = ((i - 56 : Nat) : Int) := by omega
    obtain ⟨m, hm⟩ : ∃ m, i - 56 = m := ⟨_, rfl⟩
    rw [hm] at HN e
    go_enter Tryd.func13, Tryd.ntmps13
    go_wp2_with (go_at_call 25; refine (HN.out _).mono ?_; rintro e w' ⟨rfl, rfl⟩)
    go_ret
    exact ⟨rfl, rfl⟩
  · have e : (i : Int) - 64 = ((i - 64 : Nat) : Int) := by omega
    obtain ⟨m, hm⟩ : ∃ m, i - 64 = m := ⟨_, rfl⟩
    rw [hm] at HN e
    go_enter Tryd.func13, Tryd.ntmps13
    go_wp2_with (go_at_call 25; refine (HN.out _).mono ?_; rintro e w' ⟨rfl, rfl⟩)
    go_ret
    exact ⟨rfl, rfl⟩
  · have e : (i : Int) - 64 = ((i - 64 : Nat) : Int) := by omega
    obtain ⟨m, hm⟩ : ∃ m, i - 64 = m := ⟨_, rfl⟩
    rw [hm] at HN e
    go_enter Tryd.func13, Tryd.ntmps13
    go_wp2_with (go_at_call 25; refine (HN.out _).mono ?_; rintro e w' ⟨rfl, rfl⟩)
    go_ret
    exact ⟨rfl, rfl⟩
set_option maxHeartbeats 400000 in
theorem refColumn_out (i : Int) (hi : i < 0 ∨ 74 ≤ i) (w : World) :
    Calls Tryd.prog 13 #[.int .i64 i] w fun e w' => e = .returned (.int .u8 0) ∧ w' = w := by
  rcases hi with hi | hi
  · go_enter Tryd.func13, Tryd.ntmps13
    go_wp2
    go_ret
    exact ⟨rfl, rfl⟩
  · have hd : decide (73 < i) = true := by simp; omega
    go_enter Tryd.func13, Tryd.ntmps13
    go_wp2
    go_ret
    exact ⟨rfl, rfl⟩

/-! ### whose column -/
set_option maxHeartbeats 1000000 in
theorem index_any (b s : Nat) (hs : s < 256) (w : World) (hc : CodeAt w b) :
    Calls Tryd.prog 28 #[.slice (some ⟨b, 0, none⟩) 74 74, .int .u8 (s : Int)] w fun e w' => e = .returned (.int .i64 (idx s 74 0)) ∧ w' = w := by
  have HC : Hid (CodeAt w b) := hc
  obtain ⟨r, Hr⟩ : ∃ r, idx s 74 0 = r := ⟨_, rfl⟩
  have HS : Hid (∀ k, k < 74 → col k = s → (∀ l, l < k → col l ≠ s) → r = (k : Int)) := fun k hk h1 h2 => by rw [← Hr]; exact Hm.idx_some s 74 0 k (by omega) (by omega) h1 (fun l _ hl => h2 l hl)
  have HN : Hid ((∀ l, l < 74 → col l ≠ s) → r = -1) := fun h => by rw [← Hr]; exact Hm.idx_none s 74 0 (fun l _ hl => h l (by omega))
  rw [Hr]
  clear hc Hr
  go_enter Tryd.func28, Tryd.ntmps28
  go_wp2
  go_loop [8] (fun a => ∃ k : Nat, k ≤ 74 ∧ Hid (∀ l, l < k → col l ≠ s) ∧ a = .int .i64 (k : Int)) (fun a => 74 - (intOf a).toNat)
  case atStart => exact ⟨0, by omega, fun l hl => by omega, rfl⟩
  case round =>
    obtain ⟨k, hk, Hk, rfl⟩ := hrel
    by_cases hlt : k < 74
    · have cell := HC.out k hlt
      obtain ⟨c, Hc⟩ : ∃ c, Hid (col k = c) := ⟨_, rfl⟩
      rw [Hc.out] at cell
      by_cases he : c = s
      · have hr := HS.out k hlt (by rw [Hc.out]; exact he) Hk.out
        subst he hr
        go_wp2
        go_ret
        exact ⟨rfl, rfl⟩
      · have hd : ((s : Int) == (c : Int)) = false := by simp; omega
        have Hk' : Hid (∀ l, l < k + 1 → col l ≠ s) := fun l hl => by
          by_cases e : l = k
          · rw [e, Hc.out]; exact he
          · exact Hk.out l (by omega)
        clear he
        go_wp2
        go_round
        case rel => exact ⟨k + 1, by omega, Hk', by go_num⟩
        case measure => simp [intOf]; omega
    · have hk' : k = 74 := by omega
      subst hk'
      have hr := HN.out Hk.out
      subst hr
      go_wp2
      go_ret
      exact ⟨rfl, rfl⟩
end Go.Proofs.YtcabfhndcckjdaaDoor
