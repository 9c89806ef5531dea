/-
  The document's columns as an array; what a syndrome is told as.
-/
import Derived.Test.YtcabfhndcckjdaaDoorHsW1
import Derived.Deep.MidRow
namespace Go.Proofs.YtcabfhndcckjdaaDoor
open Go.RowKit Go.Shelf
open Bm (wt wtK cntW)
open Hm (col onesOf nOf idx kd pl xs ap syn)
attribute [local go_sem] Oper.semAt_some

/-- the array's cells behind k rounds -/
def stageC : Nat → Array Value
  | 0 => Array.replicate 74 (.int .u8 0)
  | k + 1 => (stageC k).setIfInBounds k (.int .u8 (col k : Int))
theorem stageC_size (k : Nat) : (stageC k).size = 74 := by
  induction k with
  | zero => simp [stageC]
  | succ k ih => simp [stageC, ih]
theorem stageC_cell (k o : Nat) (h : o < 74) : ∃ v, (stageC k)[o]? = some v :=
  ⟨(stageC k)[o]'(by rw [stageC_size]; exact h), Array.getElem?_eq_getElem (by rw [stageC_size]; exact h)⟩
theorem stageC_at (k n : Nat) (hn : n < k) (hk : k ≤ 74) : (stageC k)[n]? = some (.int .u8 (col n : Int)) := by
  induction k with
  | zero => omega
  | succ k ih =>
    simp only [stageC]
    by_cases e : n = k
    · subst e; rw [Array.getElem?_setIfInBounds_self_of_lt (by rw [stageC_size]; omega)]
    · rw [Array.getElem?_setIfInBounds_ne (by omega)]; exact ih (by omega) (by omega)
theorem below_put {B b : Nat} (hb : B ≤ b) : ∀ (vs : List Value) (o : Nat) {a w : World}, Below B a w → Below B a (w.setCells b o vs)
  | [], _, _, _, h => h
  | v :: vs, o, _, _, h => below_put hb vs (o + 1) (h.setCell (p := ⟨b, o, none⟩) hb v)
/-- all columns -/
def colsL : List Value := (stageC 74).toList
theorem colsL_len : colsL.length = 74 := by simp [colsL, stageC_size]
theorem colsL_at (n : Nat) (h : n < 74) : colsL[n]? = some (.int .u8 (col n : Int)) := by
  rw [← stageC_at 74 n h (Nat.le_refl _)]; simp [colsL]
theorem colsL_one : colsL.toArray.all (·.oneCell') = true := by
  refine all_oneCell_toArray fun v hv => ?_
  obtain ⟨n, hn⟩ := List.mem_iff_getElem?.1 hv
  have hn' : n < 74 := by have := (List.getElem?_eq_some_iff.1 hn).1; rw [colsL_len] at this; exact this
  rw [colsL_at n hn'] at hn
  cases hn; rfl
/-- the array lies in block b -/
theorem range_cols {W : World} {b : Nat} (h : CodeAt W b) : W.rangeAt b 0 colsL := fun j v hv => by
  have hj : j < 74 := by have := (List.getElem?_eq_some_iff.1 hv).1; rw [colsL_len] at this; exact this
  rw [colsL_at j hj] at hv
  cases hv
  rw [Nat.zero_add]; exact h j hj
theorem zero_cols (w : World) : (zeroValue 32).run Tryd.prog w = .ok (.agg (stageC 0)) w := by kernel_rfl
theorem info_cols : (Tryd.prog.info? 32).map (·.size) = some colsL.length := by rw [colsL_len]; kernel_rfl
theorem code_new (w : World) (t : TypeId) : CodeAt (w.alloc (.cells (stageC 74) t)) w.heap.size := fun i hi => by
  rw [World.cell?_alloc_new]; exact stageC_at 74 i hi (Nat.le_refl _)

set_option maxRecDepth 100000 in
set_option maxHeartbeats 400000 in
theorem refColumns_any (w : World) :
    Calls Tryd.prog 16 #[] w fun e w' => e = .returned (.agg colsL.toArray) ∧ Below w.heap.size w w' := by
  have hz := zero_cols
  go_enter Tryd.func16, Tryd.ntmps16
  go_wp2
  go_loopw [2] (fun i wr => ∃ k : Nat, k ≤ 74 ∧ i = .int .i64 k ∧ wr = (w.alloc (.cells (stageC 0) 32)).alloc (.cells (stageC k) 32)) (fun i _ => 74 - (intOf i).toNat)
  case atStart => exact ⟨0, by omega, rfl, rfl⟩
  case round =>
    obtain ⟨k, hk, rfl, rfl⟩ := hrel
    by_cases hlt : k < 74
    · obtain ⟨v1, hv1⟩ := stageC_cell k k (by omega)
      go_wp2_with (go_at_call 13; refine (refColumn_in _ hlt _).mono ?_; rintro e w' ⟨rfl, rfl⟩)
      go_roundw
      case rel => exact ⟨k + 1, by omega, by go_num, rfl⟩
      case measure => simp [intOf]; omega
    · have : k = 74 := by omega
      subst this
      clear hz
      obtain ⟨V, hV⟩ : ∃ V, (w.alloc (.cells (stageC 0) 32)).alloc (.cells (stageC 74) 32) = V := ⟨_, rfl⟩
      have hr : V.rangeAt (w.heap.size + 1) 0 colsL := by
        have h := code_new (w.alloc (.cells (stageC 0) 32)) 32
        rw [World.size_alloc, hV] at h
        exact range_cols h
      have ht : V.there w.heap.size 0 colsL.toArray.size := fun j hj => by
        rw [← hV, World.cell?_of_block (w := w.alloc (.cells (stageC 0) 32)) (Below.heap_alloc _ _ _ (by simp)), World.frozen?_of_block (w := w.alloc (.cells (stageC 0) 32)) (Below.heap_alloc _ _ _ (by simp)), World.cell?_alloc_new]
        have hj' : j < 74 := by simpa [colsL_len] using hj
        obtain ⟨v, hv⟩ := stageC_cell 0 j hj'
        rw [Nat.zero_add, hv]
        exact ⟨rfl, by simp⟩
      have hB : Below w.heap.size w V := by rw [← hV]; exact ((Below.refl _ w).alloc (Nat.le_refl _) _).alloc (by simp) _
      rw [hV]
      clear hV
      go_wp2_with (first | refine wpList_load_mid rfl 32 _ rfl _ 0 rfl colsL _ hr Tryd.underlying32 rfl info_cols ?_ | refine wpList_store_mid rfl 32 _ _ rfl _ 0 colsL.toArray rfl rfl ht info_cols colsL_one ?_)
      have hs : (V.setCells w.heap.size 0 colsL).rangeAt w.heap.size 0 colsL := World.rangeAt_setCells_same V _ 0 colsL (by simpa using ht)
      have hld := run_loadVar_mid (P := Tryd.prog) (V.setCells w.heap.size 0 colsL) w.heap.size 0 32 colsL _ hs Tryd.underlying32 rfl info_cols
      refine bodyPost_ret (v := .agg colsL.toArray) ?_ rfl ⟨rfl, below_put (Nat.le_refl _) colsL 0 hB⟩
      simp [results, Tryd.f16, Act.put, asAddr, hld]

theorem idx_lt (s : Nat) : ∀ n i, -1 ≤ idx s n i ∧ idx s n i < (i + n : Nat)
  | 0, i => by unfold idx; omega
  | n + 1, i => by
    unfold idx
    have := idx_lt s n (i + 1)
    split <;> omega
/-- the ways to tell a syndrome -/
theorem told (s : Nat) : (s = 0 ∧ kd s = 0 ∧ pl s = -1) ∨ (s ≠ 0 ∧ idx s 74 0 = -1 ∧ kd s = 4 ∧ pl s = -1) ∨ (s ≠ 0 ∧ idx s 74 0 = 72 ∧ kd s = 3 ∧ pl s = -1) ∨ (s ≠ 0 ∧ idx s 74 0 = 73 ∧ kd s = 2 ∧ pl s = -1) ∨
    (s ≠ 0 ∧ 0 ≤ idx s 74 0 ∧ idx s 74 0 < 72 ∧ kd s = 1 ∧ pl s = idx s 74 0) := by
  have hr := idx_lt s 74 0
  unfold kd pl
  by_cases h0 : s = 0
  · exact .inl ⟨h0, by rw [if_pos h0], by rw [if_pos h0]⟩
  · by_cases h1 : idx s 74 0 = -1
    · exact .inr (.inl ⟨h0, h1, by rw [if_neg h0, if_pos h1], by rw [if_neg h0, h1]; rfl⟩)
    · by_cases h2 : idx s 74 0 = 72
      · exact .inr (.inr (.inl ⟨h0, h2, by rw [if_neg h0, if_neg h1, if_pos h2], by rw [if_neg h0, if_pos h2]⟩))
      · by_cases h3 : idx s 74 0 = 73
        · exact .inr (.inr (.inr (.inl ⟨h0, h3, by rw [if_neg h0, if_neg h1, if_neg h2, if_pos h3], by rw [if_neg h0, if_neg h2, if_pos h3]⟩)))
        · exact .inr (.inr (.inr (.inr ⟨h0, by omega, by omega, by rw [if_neg h0, if_neg h1, if_neg h2, if_neg h3], by rw [if_neg h0, if_neg h2, if_neg h3]⟩)))

set_option maxHeartbeats 1000000 in
theorem classify_any (b s : Nat) (hs : s < 256) (w : World) (hc : CodeAt w b) :
    Calls Tryd.prog 18 #[.pointer (some ⟨b, 0, none⟩), .int .u8 (s : Int)] w fun e w' => e = .returned (.tuple #[.int .i64 (kd s), .int .i64 (pl s)]) ∧ w' = w := by
  obtain ⟨r, Hr⟩ : ∃ r, idx s 74 0 = r := ⟨_, rfl⟩
  have HI : Hid (∀ w, CodeAt w b → Calls Tryd.prog 28 #[.slice (some ⟨b, 0, none⟩) 74 74, .int .u8 (s : Int)] w fun e w' => e = .returned (.int .i64 r) ∧ w' = w) := fun w hw => by rw [← Hr]; exact index_any b s hs w hw
  have HC : Hid (CodeAt w b) := hc
  have ht := told s
  rw [Hr] at ht
  clear hc
  rcases ht with ⟨h0, h1, h2⟩ | ⟨h0, h3, h1, h2⟩ | ⟨h0, h3, h1, h2⟩ | ⟨h0, h3, h1, h2⟩ | ⟨h0, h3, h4, h1, h2⟩ <;> rw [h1, h2] <;> clear h1 h2 Hr
  · subst h0
    go_enter Tryd.func18, Tryd.ntmps18
    go_wp2
    go_ret2
    exact ⟨rfl, rfl⟩
  all_goals
    have hd : ((s : Int) == 0) = false := by simp; omega
    try subst h3
    clear h0
    go_enter Tryd.func18, Tryd.ntmps18
    go_wp2_with (go_at_call 28; refine (HI.out _ HC.out).mono ?_; rintro e w' ⟨rfl, rfl⟩)
    go_ret2
    exact ⟨rfl, rfl⟩

set_option maxRecDepth 100000 in
set_option maxHeartbeats 1000000 in
theorem refClassify_any (s : Nat) (hs : s < 256) (w : World) :
    Calls Tryd.prog 19 #[.agg colsL.toArray, .int .u8 (s : Int)] w fun e w' => e = .returned (.tuple #[.int .i64 (kd s), .int .i64 (pl s)]) ∧ Below w.heap.size w w' := by
  have Ht : Hid _ := told s
  have HSm : Hid (∀ k, k < 74 → col k = s → (∀ l, l < k → col l ≠ s) → idx s 74 0 = (k : Int)) := fun k hk h1 h2 => Hm.idx_some s 74 0 k (by omega) (by omega) h1 (fun l _ hl => h2 l hl)
  have HN : Hid ((∀ l, l < 74 → col l ≠ s) → idx s 74 0 = -1) := fun h => Hm.idx_none s 74 0 (fun l _ hl => h l (by omega))
  obtain ⟨A, hA, hAs⟩ : ∃ A : Array Value, colsL.toArray = A ∧ Hid (∀ k, k < 74 → A[k]? = some (.int .u8 (col k : Int))) := ⟨_, rfl, fun k hk => by simpa using colsL_at k hk⟩
  rw [hA]
  clear hA
  by_cases h0 : s = 0
  · rcases Ht.out with ⟨_, h1, h2⟩ | ⟨h, _⟩ | ⟨h, _⟩ | ⟨h, _⟩ | ⟨h, _⟩
    · rw [h1, h2]
      clear Ht HSm HN h1 h2
      subst h0
      go_enter Tryd.func19, Tryd.ntmps19
      go_wp2
      go_ret2
      exact ⟨rfl, (Below.refl _ w).alloc (Nat.le_refl _) _⟩
    all_goals exact absurd h0 h
  · have hd : ((s : Int) == 0) = false := by simp; omega
    have H0 : Hid (s ≠ 0) := h0
    clear h0
    go_enter Tryd.func19, Tryd.ntmps19
    go_wp2
    obtain ⟨V, hV⟩ : ∃ V, w.alloc (.cells A 32) = V := ⟨_, rfl⟩
    have hcell : Hid (∀ k, k < 74 → V.cell? ⟨w.heap.size, k, none⟩ = some (.int .u8 (col k : Int))) := fun k hk => by rw [← hV, World.cell?_alloc_new]; exact hAs.out k hk
    have hB : Below w.heap.size w V := by rw [← hV]; exact (Below.refl _ w).alloc (Nat.le_refl _) _
    rw [hV]
    clear hV hAs
    go_loop [6] (fun a => ∃ k : Nat, k ≤ 74 ∧ Hid (∀ l, l < k → col l ≠ s) ∧ a = .int .i64 (k : Int)) (fun a => 74 - (intOf a).toNat)
    case atStart => exact ⟨0, by omega, fun l hl => by omega, rfl⟩
    case round =>
      obtain ⟨k, hk, Hk, rfl⟩ := hrel
      by_cases hlt : k < 74
      · have cell := hcell.out k hlt
        obtain ⟨c, Hc⟩ : ∃ c, Hid (col k = c) := ⟨_, rfl⟩
        rw [Hc.out] at cell
        by_cases he : c = s
        · have hr := HSm.out k hlt (by rw [Hc.out]; exact he) Hk.out
          have ht := Ht.out
          rw [hr] at ht
          have h0 := H0.out
          have ht' : (k = 72 ∧ kd s = 3 ∧ pl s = -1) ∨ (k = 73 ∧ kd s = 2 ∧ pl s = -1) ∨ (k < 72 ∧ kd s = 1 ∧ pl s = (k : Int)) := by omega
          clear ht hr h0 Ht HSm HN hcell Hk H0
          subst he
          rcases ht' with ⟨rfl, h1, h2⟩ | ⟨rfl, h1, h2⟩ | ⟨h3, h1, h2⟩
          all_goals
            have h1' : Hid _ := h1
            have h2' : Hid _ := h2
            clear h1 h2 Hc
            go_wp2
            go_ret2
            exact ⟨by rw [h1'.out, h2'.out]; rfl, hB⟩
        · have hd2 : ((c : Int) == (s : Int)) = false := by simp; omega
          have Hk' : Hid (∀ l, l < k + 1 → col l ≠ s) := fun l hl => by
            by_cases e : l = k
            · rw [e, Hc.out]; exact he
            · exact Hk.out l (by omega)
          clear he
          go_wp2
          go_round
          case rel => exact ⟨k + 1, by omega, Hk', by go_num⟩
          case measure => simp [intOf]; omega
      · have hk' : k = 74 := by omega
        subst hk'
        have hr := HN.out Hk.out
        have ht := Ht.out
        rw [hr] at ht
        have h0 := H0.out
        have ht' : Hid (kd s = 4 ∧ pl s = -1) := by show _ ∧ _; omega
        clear ht hr h0 Ht HSm HN hcell Hk H0
        go_wp2
        go_ret2
        exact ⟨by rw [ht'.out.1, ht'.out.2]; rfl, hB⟩
end Go.Proofs.YtcabfhndcckjdaaDoor
