/-
  The walks of package inter: a number taken apart.
-/
import Derived.Test.YtalbloeaojpbgaaInW1
namespace Go.Proofs.Ytalbloeaojpbgaa
open Go.RowKit
open Ge (pw rt hd ix)
open In (mx)
attribute [local go_sem] Oper.semAt_some

/-- what is left of a number behind i parts, and the part i -/
def qn (n : Int) (F : Nat → Int) : Nat → Int
  | 0 => n
  | i + 1 => qn n F i / F i
def pn (n : Int) (F : Nat → Int) (i : Nat) : Int := qn n F i % F i
theorem qn_in {n : Int} {F : Nat → Int} (h0 : 0 ≤ n) (h1 : n < 1000000) {k : Nat} (hF : ∀ i, i < k → 0 < F i) : ∀ j, j ≤ k → 0 ≤ qn n F j ∧ qn n F j < 1000000
  | 0, _ => ⟨h0, h1⟩
  | j + 1, hj => by
    have := qn_in h0 h1 hF j (by omega)
    have hp := hF j (by omega)
    refine ⟨Int.ediv_nonneg this.1 (by omega), ?_⟩
    have := Int.ediv_le_self (F j) this.1
    show qn n F j / F j < 1000000
    omega
theorem info_int8 : (Try.prog.info? 3).map (fun i => (i.zero, i.size, i.bytes)) = some (some (.int .i64 0), 1, 8) := by kernel_rfl

/-- between two rounds: j parts are told -/
structure TkS (w : World) (B g k : Nat) (n : Int) (F : Nat → Int) (j : Nat) (W : World) : Prop where
  out : Bk .i64 W B k (fun x => if x < j then pn n F x else 0)
  arg : Bk .i64 W g k F
  below : Below B w W
theorem TkS.put {w W : World} {B g k : Nat} {n : Int} {F : Nat → Int} {j : Nat} (h : TkS w B g k n F j W) (hg : g < B) : TkS w B g k n F (j + 1) (W.setCell ⟨B, j, none⟩ (.int .i64 (pn n F j))) := by
  refine ⟨(h.out.set j _).congr fun i _ => ?_, h.arg.other (by omega) _ _, h.below.setCell (p := ⟨B, j, none⟩) (Nat.le_refl _) _⟩
  by_cases e : i = j
  · subst e; simp
  · rw [if_neg e]
    by_cases e2 : i < j
    · rw [if_pos e2, if_pos (by omega)]
    · rw [if_neg e2, if_neg (by omega)]
set_option maxRecDepth 100000 in
set_option maxHeartbeats 4000000 in
theorem takeApart_any (n : Int) (h0 : 0 ≤ n) (h1 : n < 1000000) (g k : Nat) (hk : k ≤ 10) (F : Nat → Int) (hF : ∀ i, i < k → 0 < F i ∧ F i < 1000000) (w : World) (hg : Bk .i64 w g k F) :
    Calls Try.prog 28 #[.int .i64 n, .slice (some ⟨g, 0, none⟩) k k] w fun e w' => e = .returned (.slice (some ⟨w.heap.size, 0, none⟩) k k) ∧ Bk .i64 w' w.heap.size k (pn n F) ∧ Below w.heap.size w w' := by
  have hmk := run_make_row' (P := Try.prog) 31 3 (.int .i64 0) 8 Try.underlying31 info_int8 rfl .i64 .i64 k (by omega) (by omega)
  have HF : Hid (∀ i, i < k → 0 < F i ∧ F i < 1000000) := hF
  have HQ : Hid (∀ j, j ≤ k → 0 ≤ qn n F j ∧ qn n F j < 1000000) := qn_in h0 h1 fun i hi => (hF i hi).1
  have hgl := hg.lt
  have HT : Hid (TkS w w.heap.size g k n F 0 (w.alloc (.cells (madeCells #[.int .i64 0] k) 3))) := ⟨(Bk.ofRow (World.rowIs_made w _ k _)).congr fun i _ => (by rw [if_neg (by omega)]), hg.alloc _, (Below.refl _ w).alloc (Nat.le_refl _) _⟩
  clear hF hg
  go_enter Try.func28, Try.ntmps28
  go_wp2
  obtain ⟨B, hB⟩ : ∃ B, w.heap.size = B := ⟨_, rfl⟩
  rw [hB] at HT hgl ⊢
  clear hmk
  go_loopw [0, 13] (fun m i wr => ∃ j : Nat, j ≤ k ∧ i = .int .i64 (j : Int) ∧ m = .int .i64 (qn n F j) ∧ Hid (TkS w B g k n F j wr)) (fun _ i _ => k - (intOf i).toNat)
  case atStart => exact ⟨0, by omega, rfl, rfl, HT⟩
  case round =>
    clear HT
    obtain ⟨j, hj, rfl, rfl, HT⟩ := hrel
    by_cases hlt : j < k
    · have c1 := HT.out.arg.cell j hlt
      have c2 := HT.out.out.cell j hlt
      have c3 := HT.out.out.free j
      obtain ⟨q0, q1⟩ := HQ.out j (by omega)
      obtain ⟨f0, f1⟩ := HF.out j hlt
      have HT2 : Hid (TkS w B g k n F (j + 1) (wr.setCell ⟨B, j, none⟩ (.int .i64 (pn n F j)))) := HT.out.put hgl
      have HQ2 : Hid (qn n F (j + 1) = qn n F j / F j ∧ pn n F j = qn n F j % F j) := ⟨rfl, rfl⟩
      obtain ⟨q2, Hq2⟩ : ∃ q2, Hid (qn n F (j + 1) = q2) := ⟨_, rfl⟩
      obtain ⟨p2, Hp2⟩ : ∃ p2, Hid (pn n F j = p2) := ⟨_, rfl⟩
      obtain ⟨q, Hq⟩ : ∃ q, Hid (qn n F j = q) := ⟨_, rfl⟩
      obtain ⟨f, Hf⟩ : ∃ f, Hid (F j = f) := ⟨_, rfl⟩
      rw [Hp2.out] at HT2
      rw [Hq2.out, Hp2.out, Hq.out, Hf.out] at HQ2
      rw [Hq.out] at q0 q1 ⊢
      rw [Hf.out] at f0 f1 c1
      clear HF HQ
      go_wp2
      go_roundw
      case rel => exact ⟨j + 1, by omega, by go_num, by rw [Hq2.out, HQ2.out.1], by rw [← HQ2.out.2]; exact HT2⟩
      case measure => simp [intOf]; omega
    · obtain rfl : j = k := by omega
      go_wp2
      go_ret
      rw [hB]
      exact ⟨rfl, HT.out.out.congr fun i hi => by rw [if_pos hi], HT.out.below⟩

/-- the place of a page, the bank not mixed -/
def gf3 (a b c : Int) : Nat → Int
  | 0 => a
  | 1 => b
  | _ => c
theorem apart3 (n a b c : Int) (h0 : 0 ≤ n) (h1 : n < 1000000) (ha : 0 < a ∧ a < 1000000) (hb : 0 < b ∧ b < 1000000) (hc : 0 < c ∧ c < 1000000) (h2 : n < c * b * a) (w : World) (t : TypeId) :
    Calls Try.prog 28 #[.int .i64 n, .slice (some ⟨w.heap.size, 0, none⟩) 3 3] (w.alloc (.cells #[.int .i64 a, .int .i64 b, .int .i64 c] t)) fun e w' => e = .returned (.slice (some ⟨w.heap.size + 1, 0, none⟩) 3 3) ∧ Bk .i64 w' (w.heap.size + 1) 3 (gf3 (n % a) (n / a % b) (n / a / b)) ∧ Below w.heap.size w w' := by
  refine (takeApart_any n h0 h1 w.heap.size 3 (by omega) (gf3 a b c) ?_ _ (Bk.new .i64 w 3 (gf3 a b c) t)).mono ?_
  · intro i hi
    match i, hi with
    | 0, _ => exact ha
    | 1, _ => exact hb
    | 2, _ => exact hc
  · rintro e w' ⟨rfl, hk, hB⟩
    rw [World.size_alloc] at hk ⊢
    refine ⟨rfl, hk.congr fun i hi => ?_, ((Below.refl _ w).alloc (Nat.le_refl _) _).trans (hB.mono (by simp))⟩
    match i, hi with
    | 0, _ => rfl
    | 1, _ => rfl
    | 2, _ =>
      show n / a / b % c = n / a / b
      exact Int.emod_eq_of_lt (In.dg ha.1 hb.1 h0).2.2.1 (In.dg_top ha.1 hb.1 h2)
theorem apart2 (n a b : Int) (h0 : 0 ≤ n) (h1 : n < 1000000) (ha : 0 < a ∧ a < 1000000) (hb : 0 < b ∧ b < 1000000) (h2 : n < b * a) (w : World) (t : TypeId) :
    Calls Try.prog 28 #[.int .i64 n, .slice (some ⟨w.heap.size, 0, none⟩) 2 2] (w.alloc (.cells #[.int .i64 a, .int .i64 b] t)) fun e w' => e = .returned (.slice (some ⟨w.heap.size + 1, 0, none⟩) 2 2) ∧ Bk .i64 w' (w.heap.size + 1) 2 (gf3 (n % a) (n / a) 0) ∧ Below w.heap.size w w' := by
  refine (takeApart_any n h0 h1 w.heap.size 2 (by omega) (gf3 a b 0) ?_ _ (Bk.new .i64 w 2 (gf3 a b 0) t)).mono ?_
  · intro i hi
    match i, hi with
    | 0, _ => exact ha
    | 1, _ => exact hb
  · rintro e w' ⟨rfl, hk, hB⟩
    rw [World.size_alloc] at hk ⊢
    refine ⟨rfl, hk.congr fun i hi => ?_, ((Below.refl _ w).alloc (Nat.le_refl _) _).trans (hB.mono (by simp))⟩
    match i, hi with
    | 0, _ => rfl
    | 1, _ =>
      show n / a % b = n / a
      exact Int.emod_eq_of_lt (Int.ediv_nonneg h0 (by omega)) (Int.ediv_lt_of_lt_mul ha.1 h2)
end Go.Proofs.Ytalbloeaojpbgaa
