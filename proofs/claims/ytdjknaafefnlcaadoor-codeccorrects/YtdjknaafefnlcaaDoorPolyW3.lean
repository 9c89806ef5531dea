/-
  The walk of addScaled: a row that the caller made is added to.
-/
import Derived.Test.YtdjknaafefnlcaaDoorPolyW2
namespace Go.Proofs.YtdjknaafefnlcaaDoor
open Go.RowKit Go.Deep
open Gf (eI lI gI dI pI)
open Po (toE cf mu S pwr ev cv Low)

/-- a block holds n elements at its head -/
def RowE (w : World) (g n : Nat) (F : Nat → Po.El) : Prop := ∃ N f, n ≤ N ∧ w.rowIs g 5 N f ∧ ∀ j, j < n → f j = .int .u8 (ofE (F j))
theorem RowE.cell {w : World} {g n : Nat} {F : Nat → Po.El} (h : RowE w g n F) {i : Nat} (hi : i < n) : w.cell? ⟨g, i, none⟩ = some (.int .u8 (ofE (F i))) := by
  obtain ⟨N, f, hN, hr, hf⟩ := h
  rw [hr.cell (by omega), hf i hi]
theorem RowE.frozen {w : World} {g n : Nat} {F : Nat → Po.El} (h : RowE w g n F) (i : Nat) : w.frozen? ⟨g, i, none⟩ = false := by
  obtain ⟨N, f, hN, hr, hf⟩ := h
  exact hr.frozen i
theorem RowE.lt {w : World} {g n : Nat} {F : Nat → Po.El} (h : RowE w g n F) : g < w.heap.size := by
  obtain ⟨N, f, hN, hr, hf⟩ := h
  exact hr.lt
theorem RowE.congr {w : World} {g n : Nat} {F G : Nat → Po.El} (h : RowE w g n F) (e : ∀ i, i < n → F i = G i) : RowE w g n G := by
  obtain ⟨N, f, hN, hr, hf⟩ := h
  exact ⟨N, f, hN, hr, fun j hj => by rw [hf j hj, e j hj]⟩
theorem RowE.set {w : World} {g n : Nat} {F : Nat → Po.El} (h : RowE w g n F) (i : Nat) (E : Po.El) : RowE (w.setCell ⟨g, i, none⟩ (.int .u8 (ofE E))) g n (fun j => if j = i then E else F j) := by
  obtain ⟨N, f, hN, hr, hf⟩ := h
  refine ⟨N, _, hN, hr.set i _, fun j hj => ?_⟩
  by_cases e : j = i
  · simp [e]
  · simp [e, hf j hj]
theorem RowE.drewN {w : World} {g n : Nat} {F : Nat → Po.El} (h : RowE w g n F) (k : Nat) : RowE (w.drewN k) g n F := h
theorem RowE.below {B : Nat} {w w' : World} {g n : Nat} {F : Nat → Po.El} (h : RowE w g n F) (hb : Below B w w') (hg : g < B) : RowE w' g n F := by
  obtain ⟨N, f, hN, hr, hf⟩ := h
  exact ⟨N, f, hN, hr.of_block (hb.block g hg), hf⟩
theorem rowE_made (w : World) (n : Nat) : RowE (w.alloc (.cells (madeCells #[.int .u8 0] n) 5)) w.heap.size n (fun _ => 0) :=
  ⟨n, _, Nat.le_refl _, World.rowIs_made w _ n _, fun _ _ => rfl⟩
/-- a list lies below a block -/
def Lies (g : Nat) (a : Option Addr) (l : List Int) : Prop := l = [] ∨ ∃ b off, a = some ⟨b, off, none⟩ ∧ b < g
/-- F, with A times l added from o on, as far as k of l -/
def adN (F : Nat → Po.El) (A : Po.El) (l : List Int) (o k : Nat) (j : Nat) : Po.El := if o ≤ j ∧ j < o + k then F j ^^^ mu A (cf l (j - o)) else F j
theorem adN_zero (F : Nat → Po.El) (A : Po.El) (l : List Int) (o j : Nat) : adN F A l o 0 j = F j := by unfold adN; rw [if_neg (by omega)]
theorem adN_at (F : Nat → Po.El) (A : Po.El) (l : List Int) (o k : Nat) : adN F A l o k (o + k) = F (o + k) := by unfold adN; rw [if_neg (by omega)]
theorem adN_step (F : Nat → Po.El) (A : Po.El) (l : List Int) (o k j : Nat) : (if j = o + k then F (o + k) ^^^ mu A (cf l k) else adN F A l o k j) = adN F A l o (k + 1) j := by
  unfold adN
  by_cases e : j = o + k
  · subst e; rw [if_pos rfl, if_pos (by omega), show o + k - o = k from by omega]
  · rw [if_neg e]
    by_cases h : o ≤ j ∧ j < o + k
    · rw [if_pos h, if_pos (by omega)]
    · rw [if_neg h, if_neg (by omega)]
theorem adN_all (F : Nat → Po.El) (A : Po.El) (l : List Int) (o j : Nat) : adN F A l o l.length j = F j ^^^ (if o ≤ j then mu A (cf l (j - o)) else 0) := by
  unfold adN
  by_cases h : o ≤ j
  · rw [if_pos h]
    by_cases h2 : j < o + l.length
    · rw [if_pos ⟨h, h2⟩]
    · rw [if_neg (by omega), Po.cf_low l (j - o) (by omega), Po.mu_zero, Po.x0]
  · rw [if_neg h, if_neg (by omega), Po.x0]

theorem ad_row {wr : World} {g n o k : Nat} {F : Nat → Po.El} {A : Int} {l : List Int} {y v : Int} (hA : 0 ≤ A ∧ A < 256) (bq : Byt l) (row : RowE wr g n (adN F (toE A) l o k)) (Hy : Hid (y = l[k]?.getD 0)) (Hv : Hid (ofE (adN F (toE A) l o k (o + k)) = v)) (q : Nat) :
    RowE ((wr.drewN q).setCell ⟨g, o + k, none⟩ (.int .u8 (bits .xor .u8 v (gI A y)))) g n (adN F (toE A) l o (k + 1)) := by
  have h2 : gI A (ofE (cf l k)) = ofE (mu (toE A) (cf l k)) := by rw [← gI_ofE, ofE_toE A hA.1 hA.2]
  rw [← Hv.out, Hy.out, ← ofE_cf l bq k, adN_at, h2, xor_ofE]
  exact ((row.drewN q).set (o + k) _).congr (fun j _ => adN_step F (toE A) l o k j)

set_option maxRecDepth 100000 in
set_option maxHeartbeats 1000000 in
theorem addScaled_any (b g n o m c : Nat) (aq : Option Addr) (cq nq : Nat) (l : List Int) (A : Int) (F : Nat → Po.El) (w : World) (hf : FldAt w b) (hb : b < g) (sq : SlAt w aq l) (hq : Lies g aq l) (bq : Byt l) (hA : 0 ≤ A ∧ A < 256)
    (hn : o + nq ≤ n) (hm : nq ≤ m) (mn : m < 4611686018427387904) (row : RowE w g n F) (en : l.length = nq) :
    Calls Tryd.prog 84 #[.pointer (some ⟨b, 0, none⟩), .slice (some ⟨g, o, none⟩) m c, .slice aq nq cq, .int .u8 A] w fun e w' => e = .returned (.tuple #[]) ∧ RowE w' g n (adN F (toE A) l o l.length) ∧ Below g w w' := by
  subst en
  go_enter Tryd.func84, Tryd.ntmps84
  go_wp2
  go_loopw [12] (fun i wr => ∃ k : Nat, k ≤ l.length ∧ i = .int .i64 (k : Int) ∧ RowE wr g n (adN F (toE A) l o k) ∧ Below g w wr) (fun i _ => l.length - (intOf i).toNat)
  case atStart => exact ⟨0, by omega, rfl, row.congr (fun i _ => (adN_zero F _ l o i).symm), Below.refl _ _⟩
  case round =>
    clear row
    obtain ⟨k, hk, rfl, row, hB⟩ := hrel
    by_cases hlt : k < l.length
    · obtain ⟨y, h1, Hy⟩ : ∃ y, (0 ≤ y ∧ y < 256) ∧ Hid (y = l[k]?.getD 0) := ⟨_, bq k hlt, rfl⟩
      obtain ⟨v, h2, Hv⟩ : ∃ v, (0 ≤ v ∧ v < 256) ∧ Hid (ofE (adN F (toE A) l o k (o + k)) = v) := ⟨_, ofE_bd _, rfl⟩
      rcases sq with sq | ⟨b1, o1, rfl, hb1, hc1⟩
      · rw [sq] at hlt; simp at hlt
      have hb1g : b1 < g := by
        rcases hq with hq | ⟨b', o', e, h⟩
        · rw [hq] at hlt; simp at hlt
        · cases e; exact h
      have c1 : wr.cell? ⟨b1, o1 + k, none⟩ = some (.int .u8 y) := by rw [Hy.out, hB.cell (p := ⟨b1, o1 + k, none⟩) hb1g]; exact hc1 k hlt
      have c2 := row.cell (i := o + k) (by omega)
      rw [Hv.out] at c2
      have z2 : wr.frozen? ⟨g, o + k, none⟩ = false := row.frozen (o + k)
      have hfr : FldAt wr b := hf.of (fun o => hB.cell (p := ⟨b, o, none⟩) hb)
      clear hc1
      go_wp2
      go_region_with (go_at_call 85; refine (mul_any _ _ _ (by omega) (by omega) (by omega) (by omega) _ (by exact hfr.of fun _ => rfl)).mono ?_; rintro e w' ⟨rfl, q, rfl⟩)
      all_goals
        go_wp2
        go_roundw
        case rel => exact ⟨k + 1, by omega, by go_num, ad_row hA bq row Hy Hv _, (below_drewN hB _).setCell (p := ⟨g, o + k, none⟩) (Nat.le_refl _) _⟩
        case measure => simp [intOf]; omega
    · have : k = l.length := by omega
      subst this
      go_wp2
      go_end0
      exact ⟨rfl, row, hB⟩

end Go.Proofs.YtdjknaafefnlcaaDoor
