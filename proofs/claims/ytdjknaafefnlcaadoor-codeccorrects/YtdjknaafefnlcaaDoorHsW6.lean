/-
  The first so many words with so many ones.
-/
import Derived.Test.YtdjknaafefnlcaaDoorHsW5
import Derived.OwnWalk
import Derived.OwnWalkIn
namespace Go.Proofs.YtdjknaafefnlcaaDoor
open Go.RowKit Go.Shelf
open Bm (wt wtK cntW)
open Hm (col onesOf nOf idx kd pl xs ap syn)
attribute [local go_sem] Oper.semAt_some

/-- the words below x with k ones -/
def chs (k : Int) : Nat → List Nat
  | 0 => []
  | x + 1 => if (wt x : Int) = k then chs k x ++ [x] else chs k x
theorem chs_yes (k : Int) (x : Nat) (h : (wt x : Int) = k) : chs k (x + 1) = chs k x ++ [x] := by simp [chs, h]
theorem chs_no (k : Int) (x : Nat) (h : ¬ (wt x : Int) = k) : chs k (x + 1) = chs k x := by simp [chs, h]
theorem chs_len (k : Int) (x : Nat) : (chs k x).length = cntW k x := by
  induction x with
  | zero => rfl
  | succ x ih =>
    by_cases h : (wt x : Int) = k
    · rw [chs_yes _ _ h, Bm.cntW_yes _ _ h]; simp [ih]
    · rw [chs_no _ _ h, Bm.cntW_no _ _ h]; exact ih
theorem chs_take (k : Int) (x y : Nat) (h : x ≤ y) : chs k x = (chs k y).take (cntW k x) := by
  induction y with
  | zero =>
    obtain rfl : x = 0 := by omega
    rfl
  | succ y ih =>
    by_cases e : x = y + 1
    · subst e
      rw [← chs_len, List.take_length]
    · have h1 := ih (by omega)
      by_cases hw : (wt y : Int) = k
      · have hle : cntW k x ≤ (chs k y).length := by rw [chs_len]; exact Bm.cntW_mono k x y (by omega)
        rw [chs_yes _ _ hw, List.take_append_of_le_length hle]; exact h1
      · rw [chs_no _ _ hw]; exact h1
/-- the first n of them -/
def firsts (n : Nat) (k : Int) : List Nat := (chs k 256).take n
def bytesV (l : List Nat) : List Value := l.map fun x : Nat => Value.int .u8 (x : Int)
theorem bytesV_len (l : List Nat) : (bytesV l).length = l.length := by simp [bytesV]
theorem bytesV_snoc (l : List Nat) (x : Nat) : bytesV l ++ [.int .u8 (x : Int)] = bytesV (l ++ [x]) := by simp [bytesV]

theorem owns_of {W W' : World} {base e size : Nat} {g n cap : Nat} {xs : List Value} (h : W.ownsRow base e size (.slice (some ⟨g, 0, none⟩) n cap) n xs) (k : W'.heap[g]? = W.heap[g]?) : W'.ownsRow base e size (.slice (some ⟨g, 0, none⟩) n cap) n xs := by
  rcases h with ⟨h1, ⟨h2, _⟩ | ⟨g', cap', cur, h2, h3, h4, h5⟩⟩
  · cases h2
  · simp only [Value.slice.injEq, Option.some.injEq, Addr.mk.injEq, and_true, true_and] at h2
    obtain ⟨rfl, rfl⟩ := h2
    exact ⟨h1, .inr ⟨_, _, cur, rfl, h3, k.trans h4, h5⟩⟩
theorem owns_stay {B : Nat} {W W' : World} {base e size : Nat} {g n cap : Nat} {xs : List Value} (h : W.ownsRow base e size (.slice (some ⟨g, 0, none⟩) n cap) n xs) (k : Stay B W W') : W'.ownsRow base e size (.slice (some ⟨g, 0, none⟩) n cap) n xs := by
  have h' := h
  rcases h with ⟨h1, ⟨h2, _⟩ | ⟨g', cap', cur, h2, h3, h4, h5⟩⟩
  · cases h2
  · simp only [Value.slice.injEq, Option.some.injEq, Addr.mk.injEq, and_true, true_and] at h2
    obtain ⟨rfl, rfl⟩ := h2
    exact owns_of h' ((k.cells _ _ h4 rfl).trans h4.symm)
theorem below_grown {B : Nat} {w W W' : World} {row : Option Nat} (h : Below B w W) (k : W.grownBy W' row) (hr : ∀ g, row = some g → B ≤ g) (hB : B ≤ W.heap.size) : Below B w W' :=
  ⟨k.os.trans h.os, k.tape.trans h.tape, k.output.trans h.output, Nat.le_trans h.size k.size, fun b hb => (k.block b (by omega) (fun e => by have := hr b e.symm; omega)).trans (h.block b hb)⟩

theorem one_new (W : World) (v : Value) (t : TypeId) : ∀ j u, [v][j]? = some u → (W.alloc (.cells #[v] t)).cell? ((⟨W.heap.size, 0, none⟩ : Addr).add j) = some u := by
  intro j u hj
  cases j with
  | zero =>
    simp at hj
    subst hj
    exact (Box.new W t v).1
  | succ j => simp at hj
theorem one_one (x : Int) : ∀ u ∈ [Value.int .u8 x], u.oneCell' = true := by
  intro u hu
  simp at hu
  subst hu
  rfl
theorem Keep.grown {M : Nat → Prop} {X Y Z : World} {g : Nat} (h : Keep M X Y) (k : Y.grownBy Z (some g)) (hg : M g) : Keep M X Z :=
  h.trans ⟨k.size, fun b hb hm => k.block b hb (fun e => hm (by cases e; exact hg))⟩

/-- between two rounds: B the first block of the call; the row lies in B + 1, its variable in P -/
structure FsI (B P n : Nat) (k : Int) (w : World) (x : Nat) (W : World) : Prop where
  fit : cntW k x ≤ n
  nb : Box W B (.int .i64 (n : Int))
  cb : Box W P (.slice (some ⟨B + 1, 0, none⟩) (cntW k x) n)
  own : W.ownsRow B 5 1 (.slice (some ⟨B + 1, 0, none⟩) (cntW k x) n) (cntW k x) (bytesV (chs k x))
  below : Below B w W

theorem u8_info4 : (Tryd.prog.info? 5).map (fun i => (i.zero, i.size, i.bytes)) = some (some (.int .u8 0), 1, 1) := by kernel_rfl

set_option maxRecDepth 100000 in
set_option maxHeartbeats 2000000 in
theorem first_any (n : Nat) (k : Nat) (hn : n ≤ 64) (hk : k ≤ 8) (hN : n ≤ cntW (k : Int) 256) (w : World) :
    Calls Tryd.prog 56 #[.int .i64 (n : Int), .int .i64 (k : Int)] w fun e w' =>
      e = .returned (.slice (some ⟨w.heap.size + 1, 0, none⟩) n n) ∧ w'.ownsRow w.heap.size 5 1 (.slice (some ⟨w.heap.size + 1, 0, none⟩) n n) n (bytesV (firsts n (k : Int))) ∧ Below w.heap.size w w' := by
  obtain ⟨i, hi, hz0, hz1, hz2⟩ := info_parts u8_info4
  refine (callsIn_wide (n := 10)).1 ?_
  refine callsIn_of_wp_marks Tryd.func56 rfl trivial ?_ rfl
  simp only [Tryd.ntmps56, List.size_toArray, List.length_cons, List.length_nil, Nat.reduceAdd, Nat.reduceSub, Array.replicate_succ, Array.replicate_zero, List.push_toArray, List.append_toArray, List.nil_append, List.cons_append]
  refine wpIn_wide.2 ?_
  go_wp2_with (at_make; refine wpList_make_own _ rfl _ _ 52 rfl w.heap.size 5 i (.int .u8 0) 1 Tryd.underlying52 hi hz0 hz1 _ _ _ n rfl rfl (by omega) (by rw [hz2]; omega) (by unfold maxLen; omega) (by simp) ?_; intro V1 hown hgrow)
  have hV1 : w.heap.size + 1 ≤ V1.heap.size := by have := hgrow.size; simpa using this
  have a0 : Box V1 w.heap.size (.int .i64 (n : Int)) := (Box.new w _ _).of (hgrow.block _ (by simp) (by simp))
  have hB1 : Below w.heap.size w V1 := below_grown ((Below.refl _ w).alloc (Nat.le_refl _) _) hgrow (by simp) (by simp)
  rw [World.size_alloc] at hown
  have hg1 : w.heap.size + 1 < V1.heap.size := (hown.lt _ rfl).2
  refine (choose8_yes 8 (k : Int) (by omega) (by omega) (by omega) _).mono ?_
  rintro e w' ⟨rfl, rfl⟩
  obtain ⟨V, hV⟩ : ∃ V, ((V1.alloc (.cells #[.slice (some ⟨w.heap.size + 1, 0, none⟩) 0 n] 52)).alloc (.cells #[.int .i64 8] 3)).alloc (.cells #[.int .i64 (k : Int)] 3) = V := ⟨_, rfl⟩
  obtain ⟨sV, c0, c1, c2, hSV⟩ := box3 V1 _ _ _ _ _ _ V hV
  rw [hV]
  simp only [World.size_alloc]
  obtain ⟨P, hP⟩ : ∃ P, V1.heap.size = P := ⟨_, rfl⟩
  rw [hP] at hV1 hg1 sV c0 c1 c2 ⊢
  have b0 := a0.stayed hSV
  have hown' := owns_stay hown hSV
  have hBV : Below w.heap.size w V := below_stay hB1 hSV (by omega)
  obtain ⟨B, hB⟩ : ∃ B, w.heap.size = B := ⟨_, rfl⟩
  rw [hB] at hV1 hg1 b0 c0 hown' hBV ⊢
  clear a0 hgrow hown hB1 hSV hV hP
  go_wp2
  refine (wpIn_wide (n := 10)).1 (rangeC rfl (enters_of Tryd.func92 (by kernel_rfl) rfl) (choose8_seq (P + 1) (P + 1 + 1) 8 (by omega) (k : Int) V c1.lt c2.lt c1.1 c2.1) (fun _ => rfl)
    (fun x => x = B + 1 ∨ x = P) (by rintro x (rfl | rfl) <;> constructor <;> omega) (by rintro x rfl; omega)
    (FsI B P n (k : Int) w) (fun c x W => c = .exit 0 ∧ cntW (k : Int) x = n ∧ FsI B P n (k : Int) w x W)
    (by rintro x A C ⟨h1, h2, h3, h4, h5⟩ hs; exact ⟨h1, h2.stay hs, h3.stay hs, owns_stay h4 hs, below_stay h5 hs (by omega)⟩)
    (by rintro c x A C ⟨h0, h00, h1, h2, h3, h4, h5⟩ hs; exact ⟨h0, h00, h1, h2.stay hs, h3.stay hs, owns_stay h4 hs, below_stay h5 hs (by omega)⟩)
    ⟨by simp [cntW], b0, c0, hown', hBV⟩
    (by rintro x W hx hp ⟨h1, h2, h3, h4, h5⟩
        have e1 := Bm.cntW_no _ _ hp
        have e2 := chs_no _ _ hp
        exact ⟨by rw [e1]; exact h1, h2, by rw [e1]; exact h3, by rw [e1, e2]; exact h4, h5⟩) ?round ?done ?stop)
  case round =>
    rintro l x W W2 hx hp ⟨h1, h2, h3, h4, h5⟩
    have ey := Bm.cntW_yes _ _ hp
    have el := chs_yes _ _ hp
    have hx256 : x < 256 := hx
    obtain ⟨m, hm⟩ : ∃ m, cntW (k : Int) x = m := ⟨_, rfl⟩
    obtain ⟨L, hL⟩ : ∃ L, chs (k : Int) x = L := ⟨_, rfl⟩
    rw [hm] at h1 h3 h4 ey
    rw [hL] at h4 el
    have hPW : P < W2.heap.size := h3.lt
    have q2 := h2.1; have q3 := h3.1; have f3 := h3.2
    by_cases hmn : m = n
    · have fin : Hid (Keep (fun x => x = B + 1 ∨ x = P) W2 W2 ∧ cntW (k : Int) x = n ∧ FsI B P n (k : Int) w x W2) := ⟨Keep.refl _ _, by rw [hm]; exact hmn, by rw [hm]; omega, h2, by rw [hm]; exact h3, by rw [hm, hL]; exact h4, h5⟩
      subst hmn
      clear h1 h2 h3 h4 h5 hp ey el hm hL
      gi_wp2
      try (refine ⟨trivial, ?_⟩)
      try gi_wp2
      exact ⟨fin.out.1, rfl, fin.out.2⟩
    · have hlt : m + 1 ≤ n := by omega
      have hdn : ((m : Int) == (n : Int)) = false := by simp; omega
      have H2 : Hid (Box W2 B (.int .i64 (n : Int))) := h2
      have H3 : Hid (Box W2 P (.slice (some ⟨B + 1, 0, none⟩) m n)) := h3
      have H4 : Hid (∀ o, (W2.alloc o).ownsRow B 5 1 (.slice (some ⟨B + 1, 0, none⟩) m n) m (bytesV L)) := fun o => owns_of h4 (Below.heap_alloc W2 o _ (by omega))
      have H5 : Hid (Below B w W2) := h5
      have EY : Hid _ := ey
      have EL : Hid _ := el
      clear h1 h2 h3 h4 h5 hp ey el hm hL hmn
      gi_wp2
      refine ⟨trivial, ?_⟩
      gi_wp2_with (gi_at_builtin; refine wpListIn_append_fits _ rfl _ _ 52 rfl B 5 i 1 Tryd.underlying52 hi hz1 (B + 1) m n (bytesV L) rfl (H4.out _) ⟨W2.heap.size, 0, none⟩ 1 1 [.int .u8 (x : Int)] rfl rfl (one_new W2 _ _) (one_one _) hlt ?_)
      intro W3 hown3 hgrow3
      have b3 : Box W3 P (.slice (some ⟨B + 1, 0, none⟩) m n) := (H3.out.alloc _).of (hgrow3.block P (by simp; omega) (by simp; omega))
      have a3 : Box W3 B (.int .i64 (n : Int)) := (H2.out.alloc _).of (hgrow3.block B (by simp; omega) (by simp))
      have fin : Hid (Keep (fun x => x = B + 1 ∨ x = P) W2 (W3.setCell ⟨P, 0, none⟩ (.slice (some ⟨B + 1, 0, none⟩) (m + 1) n)) ∧ FsI B P n (k : Int) w (x + 1) (W3.setCell ⟨P, 0, none⟩ (.slice (some ⟨B + 1, 0, none⟩) (m + 1) n))) := by
        refine ⟨((((Keep.refl _ W2).alloc _).grown hgrow3 (.inl rfl)).set (c := P) (.inr rfl) _), ?_⟩
        refine ⟨by rw [EY.out]; exact hlt, a3.other (by omega) _, by rw [EY.out]; exact b3.set _, ?_, (below_grown (H5.out.alloc (by omega) _) hgrow3 (by rintro g ⟨⟩; omega) (by simp; omega)).setCell (p := ⟨P, 0, none⟩) (by simp; omega) _⟩
        rw [EY.out, EL.out, ← bytesV_snoc]
        exact owns_of hown3 (Below.heap_setCell W3 ⟨P, 0, none⟩ _ _ (by simp; omega))
      have q4 := b3.1; have f4 := b3.2
      clear hown3 hgrow3 b3 a3 H2 H3 H4 H5 EY EL q2 q3 f3
      gi_wp2
      exact fin.out
  case done =>
    rintro D W hD ⟨h1, h2, h3, h4, h5⟩ hK
    have e1 : cntW (k : Int) (2 ^ 8) = n := Nat.le_antisymm h1 hN
    have e2 : chs (k : Int) (2 ^ 8) = firsts n (k : Int) := by
      unfold firsts
      rw [← e1]; exact chs_take (k : Int) 256 256 (Nat.le_refl _)
    rw [e1] at h3 h4
    rw [e2] at h4
    have q3 := h3.1
    have fin : Hid (W.heap[D]? = some (.deferred (some [])) ∧ (W.putObj D (.deferred none)).ownsRow B 5 1 (.slice (some ⟨B + 1, 0, none⟩) n n) n (bytesV (firsts n (k : Int))) ∧ Below B w (W.putObj D (.deferred none))) :=
      ⟨hK, owns_stay h4 (Stay.putObj (B := D) _ hK rfl (Nat.le_refl _)), sy_shut hK (by omega) h5⟩
    clear h1 h2 h3 h4 h5 hK e1 e2
    go_wp2
    refine ⟨by simp, .inl ⟨_, _, rfl, run_takeDeferred fin.out.1, ?_⟩⟩
    refine ⟨_, results_tmp rfl _ _ _, ?_, ?_⟩
    · rw [hB]; rfl
    · rw [hB]; exact fin.out.2
  case stop =>
    rintro D c x W hD hx hp ⟨rfl, e1, h1, h2, h3, h4, h5⟩ hK
    have e2 : chs (k : Int) x = firsts n (k : Int) := by
      unfold firsts
      rw [← e1]; exact chs_take (k : Int) x 256 (Nat.le_of_lt hx)
    rw [e1] at h3 h4
    rw [e2] at h4
    have q3 := h3.1
    have fin : Hid (W.heap[D]? = some (.deferred (some [])) ∧ (W.putObj D (.deferred none)).ownsRow B 5 1 (.slice (some ⟨B + 1, 0, none⟩) n n) n (bytesV (firsts n (k : Int))) ∧ Below B w (W.putObj D (.deferred none))) :=
      ⟨hK, owns_stay h4 (Stay.putObj (B := D) _ hK rfl (Nat.le_refl _)), sy_shut hK (by omega) h5⟩
    clear h1 h2 h3 h4 h5 hK e1 e2 hp
    refine wpIn_wide.2 ?_
    go_wp2
    refine ⟨by simp, .inl ⟨_, _, rfl, run_takeDeferred fin.out.1, ?_⟩⟩
    refine ⟨_, results_tmp rfl _ _ _, ?_, ?_⟩
    · rw [hB]; rfl
    · rw [hB]; exact fin.out.2
end Go.Proofs.YtdjknaafefnlcaaDoor
