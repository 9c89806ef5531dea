/-
  The walk of the law GfLinear: two lists are made, filled, and summed.
-/
import Derived.Test.YtdjknaafefnlcaaDoorGfW5
import Derived.Deep.OwnRows
import Derived.Deep.DeepCutAuto
import Derived.BigRegion
import Derived.Deep.RegionWith
namespace Go.Proofs.YtdjknaafefnlcaaDoor
open Go.RowKit Go.Deep
open Gf (eI lI gI dI pI)

theorem xor8_nat (P Q : Nat) (hP : P < 256) (hQ : Q < 256) : P ^^^ Q < 256 := by
  have : P ^^^ Q < 2 ^ 8 := Nat.xor_lt_two_pow (by simpa using hP) (by simpa using hQ)
  simpa using this
theorem xor8_swap (p q r t : Int) (hp : 0 ≤ p ∧ p < 256) (hq : 0 ≤ q ∧ q < 256) (hr : 0 ≤ r ∧ r < 256) (ht : 0 ≤ t ∧ t < 256) :
    bits .xor .u8 (bits .xor .u8 p q) (bits .xor .u8 r t) = bits .xor .u8 (bits .xor .u8 p r) (bits .xor .u8 q t) := by
  obtain ⟨P, rfl⟩ := Int.eq_ofNat_of_zero_le hp.1
  obtain ⟨Q, rfl⟩ := Int.eq_ofNat_of_zero_le hq.1
  obtain ⟨R, rfl⟩ := Int.eq_ofNat_of_zero_le hr.1
  obtain ⟨T, rfl⟩ := Int.eq_ofNat_of_zero_le ht.1
  have hP : P < 256 := by omega
  have hQ : Q < 256 := by omega
  have hR : R < 256 := by omega
  have hT : T < 256 := by omega
  rw [u8_xor_nat P Q hP hQ, u8_xor_nat R T hR hT, u8_xor_nat P R hP hR, u8_xor_nat Q T hQ hT, u8_xor_nat _ _ (xor8_nat P Q hP hQ) (xor8_nat R T hR hT), u8_xor_nat _ _ (xor8_nat P R hP hR) (xor8_nat Q T hQ hT), Gf.xor4]
def sumL (la lb : List Int) (N : Nat) : List Int := (List.range N).map fun j => bits .xor .u8 (la[j]?.getD 0) (lb[j]?.getD 0)
def timL (la : List Int) (x : Int) (N : Nat) : List Int := (List.range N).map fun j => gI (la[j]?.getD 0) x
theorem sumL_get (la lb : List Int) (N j : Nat) (h : j < N) : (sumL la lb N)[j]?.getD 0 = bits .xor .u8 (la[j]?.getD 0) (lb[j]?.getD 0) := by
  simp [sumL, h]
theorem timL_get (la : List Int) (x : Int) (N j : Nat) (h : j < N) : (timL la x N)[j]?.getD 0 = gI (la[j]?.getD 0) x := by
  simp [timL, h]
theorem dotN_sum (la lb lc : List Int) (N k : Nat) (hk : k ≤ N) (ha : ∀ j, j < N → 0 ≤ la[j]?.getD 0 ∧ la[j]?.getD 0 < 256) (hb : ∀ j, j < N → 0 ≤ lb[j]?.getD 0 ∧ lb[j]?.getD 0 < 256) (hc : ∀ j, j < N → 0 ≤ lc[j]?.getD 0 ∧ lc[j]?.getD 0 < 256) :
    dotN (sumL la lb N) lc k = bits .xor .u8 (dotN la lc k) (dotN lb lc k) := by
  induction k with
  | zero => simp only [dotN]; decide +kernel
  | succ k ih =>
    have h1 := ha k (by omega)
    have h2 := hb k (by omega)
    have h3 := hc k (by omega)
    have h4 := dotN_bd la lc k
    have h5 := dotN_bd lb lc k
    have h6 := Gf.gI_bd (la[k]?.getD 0) (lc[k]?.getD 0)
    have h7 := Gf.gI_bd (lb[k]?.getD 0) (lc[k]?.getD 0)
    simp only [dotN]
    rw [ih (by omega), sumL_get la lb N k (by omega), Gf.gI_comm _ (lc[k]?.getD 0), Gf.gI_xor _ _ _ h3.1 h3.2 h1.1 h1.2 h2.1 h2.2, Gf.gI_comm (lc[k]?.getD 0) (la[k]?.getD 0), Gf.gI_comm (lc[k]?.getD 0) (lb[k]?.getD 0)]
    exact xor8_swap _ _ _ _ h4 h5 h6 h7
theorem dotN_tim (la lc : List Int) (x : Int) (hx : 0 ≤ x ∧ x < 256) (N k : Nat) (hk : k ≤ N) (ha : ∀ j, j < N → 0 ≤ la[j]?.getD 0 ∧ la[j]?.getD 0 < 256) (hc : ∀ j, j < N → 0 ≤ lc[j]?.getD 0 ∧ lc[j]?.getD 0 < 256) :
    dotN (timL la x N) lc k = gI (dotN la lc k) x := by
  induction k with
  | zero => simp only [dotN]; rw [Gf.gI_zero_left]
  | succ k ih =>
    have h1 := ha k (by omega)
    have h3 := hc k (by omega)
    have h4 := dotN_bd la lc k
    have h6 := Gf.gI_bd (la[k]?.getD 0) (lc[k]?.getD 0)
    simp only [dotN]
    rw [ih (by omega), timL_get la x N k (by omega), Gf.gI_comm (bits .xor .u8 _ _) x, Gf.gI_xor _ _ _ hx.1 hx.2 h4.1 h4.2 h6.1 h6.2, Gf.gI_comm x (dotN la lc k)]
    congr 1
    rw [Gf.gI_assoc _ _ _ h1.1 h1.2 hx.1 hx.2 h3.1 h3.2, Gf.gI_comm x (lc[k]?.getD 0), ← Gf.gI_assoc _ _ _ h1.1 h1.2 h3.1 h3.2 hx.1 hx.2, Gf.gI_comm x]
theorem dotN_comm (la lb : List Int) (k : Nat) : dotN la lb k = dotN lb la k := by
  induction k with
  | zero => rfl
  | succ k ih => simp only [dotN]; rw [ih, Gf.gI_comm]
theorem dotN_take (la lb : List Int) (N k : Nat) (hk : k ≤ N) : dotN (la.take N) lb k = dotN la lb k := by
  induction k with
  | zero => rfl
  | succ k ih => simp only [dotN]; rw [ih (by omega), List.getElem?_take_of_lt (by omega)]


theorem SlAt.take {w : World} {a : Option Addr} {l : List Int} (h : SlAt w a l) (n : Nat) : SlAt w a (l.take n) := by
  rcases h with h | ⟨b, off, ha, hb, hl⟩
  · left; simp [h]
  · right
    refine ⟨b, off, ha, hb, fun i hi => ?_⟩
    have hi' : i < n ∧ i < l.length := by simp at hi; omega
    rw [List.getElem?_take_of_lt hi'.1]
    exact hl i hi'.2
theorem Byt.take {l : List Int} (h : Byt l) (n : Nat) : Byt (l.take n) := by
  intro i hi
  have hi' : i < n ∧ i < l.length := by simp at hi; omega
  rw [List.getElem?_take_of_lt hi'.1]
  exact h i hi'.2
theorem dotI_bd (la lb : List Int) : 0 ≤ dotI la lb ∧ dotI la lb < 256 := dotN_bd _ _ _
theorem info_u8 : (Tryd.prog.info? 5).map (fun i => (i.zero, i.size, i.bytes)) = some (some (.int .u8 0), 1, 1) := by kernel_rfl

theorem run_min4 {P : Program} (a b c N : Nat) (h : N = min (min (min a b) c) 200) (ts : Array TypeId) (t : TypeId) (w : World) :
    (Builtin.min_ ts t #[.int .i64 (a : Int), .int .i64 (b : Int), .int .i64 (c : Int), .int .i64 200]).run P w = .ok (.int .i64 (N : Int)) w := by
  have e : (if (200 : Int) < (if (c : Int) < (if (b : Int) < (a : Int) then (b : Int) else a) then (c : Int) else (if (b : Int) < (a : Int) then (b : Int) else a)) then (200 : Int) else (if (c : Int) < (if (b : Int) < (a : Int) then (b : Int) else a) then (c : Int) else (if (b : Int) < (a : Int) then (b : Int) else a))) = (N : Int) := by
    repeat' split
    all_goals omega
  rw [← e]
  simp [Builtin.min_, Builtin.min2]

theorem below_two (B : Nat) (w : World) (k : Nat) (o1 o2 : Obj) (h : B ≤ w.heap.size) : Below B w (((w.drewN k).alloc o1).alloc o2) := by
  have h0 : Below B w (w.drewN k) := ⟨rfl, rfl, rfl, Nat.le_refl _, fun _ _ => rfl⟩
  exact (h0.alloc h o1).alloc (by simp; omega) o2
theorem made_rows (w : World) (k n : Nat) (t : TypeId) (z : Value) (m : Nat) (hm : m = w.heap.size) :
    (((w.drewN k).alloc (.cells (madeCells #[z] n) t)).alloc (.cells (madeCells #[z] n) t)).rowIs m t n (fun _ => z) ∧
    (((w.drewN k).alloc (.cells (madeCells #[z] n) t)).alloc (.cells (madeCells #[z] n) t)).rowIs (m + 1) t n (fun _ => z) := by
  subst hm
  constructor
  · exact World.rowIs.alloc (World.rowIs_made (w.drewN k) z n t) _
  · have h := World.rowIs_made ((w.drewN k).alloc (.cells (madeCells #[z] n) t)) z n t
    have e : ((w.drewN k).alloc (.cells (madeCells #[z] n) t)).heap.size = w.heap.size + 1 := by simp
    rw [e] at h
    exact h
theorem below_drewN {B : Nat} {w w' : World} (h : Below B w w') (k : Nat) : Below B w (w'.drewN k) := ⟨h.os, h.tape, h.output, h.size, h.block⟩
theorem below_of_new {w wr : World} {o : Obj} (h : Below (w.heap.size + 1) (w.alloc o) wr) : Below w.heap.size w wr :=
  ((Below.refl _ w).alloc (Nat.le_refl _) o).trans (h.mono (by omega))
def fs (la lb : List Int) (k : Nat) : Nat → Value := fun j => .int .u8 (if j < k then bits .xor .u8 (la[j]?.getD 0) (lb[j]?.getD 0) else 0)
def ft (la : List Int) (x : Int) (k : Nat) : Nat → Value := fun j => .int .u8 (if j < k then gI (la[j]?.getD 0) x else 0)
theorem fs_step (la lb : List Int) (k N : Nat) (y z : Int) (Hy : Hid (y = la[k]?.getD 0)) (Hz : Hid (z = lb[k]?.getD 0)) (j : Nat) (_ : j < N) : (if j = k then Value.int .u8 (bits .xor .u8 y z) else fs la lb k j) = fs la lb (k + 1) j := by
  unfold fs
  by_cases e : j = k
  · subst e; rw [if_pos rfl, if_pos (by omega), ← Hy.out, ← Hz.out]
  · rw [if_neg e]
    by_cases h : j < k
    · rw [if_pos h, if_pos (by omega)]
    · rw [if_neg h, if_neg (by omega)]
theorem ft_step (la : List Int) (x : Int) (k N : Nat) (y : Int) (Hy : Hid (y = la[k]?.getD 0)) (j : Nat) (_ : j < N) : (if j = k then Value.int .u8 (gI y x) else ft la x k j) = ft la x (k + 1) j := by
  unfold ft
  by_cases e : j = k
  · subst e; rw [if_pos rfl, if_pos (by omega), ← Hy.out]
  · rw [if_neg e]
    by_cases h : j < k
    · rw [if_pos h, if_pos (by omega)]
    · rw [if_neg h, if_neg (by omega)]



end Go.Proofs.YtdjknaafefnlcaaDoor
