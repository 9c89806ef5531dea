/-
  What a law holds that counts the indices of all, of each rank, and of the pages that begin there; and the numbers that it comes to.
-/
import Derived.Test.YtjinbhggimbcbaaGeW10
namespace Go.Proofs.Ytjinbhggimbcbaa
open Go.RowKit
open Ge (pw rt hd ix)

/-- how many lines have been told of the pages that begin among the first x -/
def U (nc : Nat) : Nat → Nat
  | 0 => 0
  | x + 1 => if x % nc = 0 then U nc x + nc else U nc x
theorem U_in (nc q : Nat) : ∀ v, 0 < v → v ≤ nc → U nc (q * nc + v) = U nc (q * nc) + nc
  | 0, h, _ => by omega
  | 1, _, h => by
    show (if (q * nc) % nc = 0 then _ else _) = _
    rw [Nat.mul_mod_left, if_pos rfl]
  | v + 2, _, h => by
    show (if (q * nc + (v + 1)) % nc = 0 then _ else _) = _
    rw [Nat.add_comm (q * nc), Nat.add_mul_mod_self_right, Nat.mod_eq_of_lt (by omega), if_neg (by omega)]
    exact U_in nc q (v + 1) (by omega) (by omega)
theorem U_mul (nc : Nat) (h : 0 < nc) : ∀ q, U nc (q * nc) = q * nc
  | 0 => by rw [Nat.zero_mul]; rfl
  | q + 1 => by rw [Nat.succ_mul, U_in nc q nc h (Nat.le_refl _), U_mul nc h q]
theorem U_le (nc : Nat) : ∀ x, U nc x ≤ x * nc
  | 0 => by rw [Nat.zero_mul]; exact Nat.le_refl _
  | x + 1 => by
    have := U_le nc x
    rw [Nat.succ_mul]
    show (if x % nc = 0 then _ else _) ≤ _
    split <;> omega
/-- a rank's indices: how many, which, and which begin a page -/
theorem rank_told (r s b o c : Int) : ∃ m L nc : Nat, m ≤ 8 ∧ m * L ≤ 4096 ∧ nc ≤ 64 ∧ cnt r s b o c = m * L ∧ (0 < m → perR r s b o c = (L : Int)) ∧
    ∀ i : Nat, (if hd r s b o c i 0 0 0 = true then b.toNat * o.toNat * c.toNat else 0) = (if i < m then L else 0) ∧ (i < m → 0 < L ∧ U nc L = L ∧
      ∀ x, x < L → rix o.toNat c.toNat i x / 1048576 = i ∧ rix o.toNat c.toNat i x < 8388608 ∧
        (rix o.toNat c.toNat i x % 64 = 0 → U nc (x + 1) = U nc x + nc ∧ (if pgOk r s b o c ((rix o.toNat c.toNat i x / 64 : Nat) : Int) = true then c.toNat else 0) = nc) ∧
        (¬ rix o.toNat c.toNat i x % 64 = 0 → U nc (x + 1) = U nc x)) := by
  by_cases hr : rt r s b o c = true
  · have ha := Ge.rt_all hr
    obtain ⟨nb, rfl⟩ := Int.eq_ofNat_of_zero_le (show 0 ≤ b by omega)
    obtain ⟨no, rfl⟩ := Int.eq_ofNat_of_zero_le (show 0 ≤ o by omega)
    obtain ⟨nc, rfl⟩ := Int.eq_ofNat_of_zero_le (show 0 ≤ c by omega)
    obtain ⟨m, hm⟩ := Int.eq_ofNat_of_zero_le (show 0 ≤ r + s by omega)
    have hcn : cnt r s nb no nc = m * (nb * no * nc) := by
      rw [cnt, if_pos hr, hm]
      simp only [Int.toNat_natCast]
    simp only [Int.toNat_natCast]
    have hp : 0 < nb * no * nc := Nat.mul_pos (Nat.mul_pos (by omega) (by omega)) (by omega)
    have hb16 : nb ≤ 16 := by omega
    have ho16 : no ≤ 1024 := by omega
    have hc16 : nc ≤ 64 := by omega
    have hc0 : 0 < nc := by omega
    have hm8 : m ≤ 8 := by omega
    have h6 : m * (nb * no * nc) ≤ 4096 := by
      have h6 := ha.2.2.2.2.2
      rw [hm] at h6
      have e : (((m * (nb * no * nc)) : Nat) : Int) = (m : Int) * nb * no * nc := by
        simp only [Int.natCast_mul, Int.mul_assoc]
      omega
    refine ⟨m, nb * no * nc, nc, hm8, h6, hc16, hcn, fun _ => ?_, fun i => ⟨?_, fun hi => ⟨hp, U_mul nc hc0 _, fun x hxl => ?_⟩⟩⟩
    · unfold perR
      rw [if_pos hr]
      simp only [Int.natCast_mul]
    · by_cases hi : i < m
      · rw [if_pos hi, if_pos]
        unfold hd; rw [hr, decide_eq_true (show 0 ≤ (i : Int) ∧ (i : Int) < r + s by omega), decide_eq_true (show (0 : Int) ≤ 0 ∧ (0 : Int) < (nb : Int) by omega), decide_eq_true (show (0 : Int) ≤ 0 ∧ (0 : Int) < (no : Int) by omega), decide_eq_true (show (0 : Int) ≤ 0 ∧ (0 : Int) < (nc : Int) by omega)]; rfl
      · rw [if_neg hi, if_neg]
        intro h
        have := (Ge.hd_all h).2.1
        omega
    · obtain ⟨z, u, j, v, hz, hu, hj, hv, rfl⟩ := parts (m := 1) (show x < 1 * (nb * no * nc) by omega)
      obtain rfl : z = 0 := by omega
      simp only [Nat.zero_mul, Nat.zero_add]
      rw [rix_at no nc i u j v hj hv]
      refine ⟨by omega, by omega, fun h => ?_, fun h => ?_⟩
      · obtain rfl : v = 0 := by omega
        refine ⟨U_in nc (u * no + j) 1 (by omega) hc0, if_pos ?_⟩
        have e0 : (1048576 * i + 65536 * u + 64 * j + 0) / 64 = 16384 * i + 1024 * u + j := by omega
        rw [e0]
        unfold pgOk hx hd
        have e1 : ((16384 * i + 1024 * u + j : Nat) : Int) * 64 / 1048576 = i := by omega
        have e2 : ((16384 * i + 1024 * u + j : Nat) : Int) * 64 / 65536 % 16 = u := by omega
        have e3 : ((16384 * i + 1024 * u + j : Nat) : Int) * 64 / 64 % 1024 = j := by omega
        have e4 : ((16384 * i + 1024 * u + j : Nat) : Int) * 64 % 64 = 0 := by omega
        rw [hr, e1, e2, e3, e4]
        simp only [Bool.and_eq_true, decide_eq_true_eq]
        repeat' apply And.intro
        all_goals first | omega | trivial
      · have e1 := U_in nc (u * no + j) (v + 1) (by omega) hv
        have e2 := U_in nc (u * no + j) v (by omega) (by omega)
        rw [Nat.add_assoc, e1, e2]
  · refine ⟨0, 0, 0, by omega, by omega, by omega, by rw [cnt, if_neg hr], fun h => by omega, fun i => ⟨?_, fun h => by omega⟩⟩
    rw [if_neg, if_neg (by omega)]
    exact fun h => hr (Ge.hd_all h).1
theorem cum_step (i m L : Nat) : min (i + 1) m * L = min i m * L + (if i < m then L else 0) := by
  by_cases h : i < m
  · rw [if_pos h, show min (i + 1) m = min i m + 1 by omega, Nat.succ_mul]
  · rw [if_neg h, show min (i + 1) m = min i m by omega, Nat.add_zero]

/-- the law's state: B its geometry, B + 1 its result, A the counter of all, the marks of the ranges that are over -/
structure PtS (w : World) (B A : Nat) (r s b o c : Int) (n : Nat) (ds : List Nat) (W : World) : Prop where
  gm : Gm W B r s b o c
  bt : Box W (B + 1) (.bool false)
  ba : Box W A (.int .i64 (n : Int))
  hA : B + 2 ≤ A
  below : Below B w W
  nd : ds.Nodup
  dm : ∀ D ∈ ds, A < D ∧ W.heap[D]? = some (.deferred (some []))
theorem Box.cells {W : World} {b : Nat} {v : Value} (h : Box W b v) : ∃ o, W.heap[b]? = some o ∧ o.isCells = true := isCells_of_cell h.1
section
variable {w W W' : World} {B A P E Z : Nat} {r s b o c : Int} {n g x : Nat} {ds : List Nat}
theorem PtS.stay (h : PtS w B A r s b o c n ds W) {C : Nat} (q : Stay C W W') (hB : B ≤ C) (hd : ∀ D ∈ ds, D < C) : PtS w B A r s b o c n ds W' :=
  ⟨h.gm.stay q, h.bt.stay q, h.ba.stay q, h.hA, below_stay h.below q hB, h.nd, fun D hD => ⟨(h.dm D hD).1, (q.low D (hd D hD)).trans (h.dm D hD).2⟩⟩
theorem PtS.ds_lt (h : PtS w B A r s b o c n ds W) : ∀ D ∈ ds, D < W.heap.size := fun D hD => (Array.getElem?_eq_some_iff.1 (h.dm D hD).2).1
theorem PtS.next (h : PtS w B A r s b o c n ds W) (q : Below W.heap.size W W') : PtS w B A r s b o c n ds W' :=
  h.stay (stay_below q) (by have := h.gm.lt; omega) h.ds_lt
theorem PtS.mark (h : PtS w B A r s b o c n ds W) {D : Nat} (hA : A < D) (hn : ∀ E ∈ ds, E < D) (hD : W.heap[D]? = some (.deferred (some []))) : PtS w B A r s b o c n (D :: ds) W :=
  { h with nd := List.nodup_cons.2 ⟨fun e => by have := hn D e; omega, h.nd⟩, dm := fun E hE => (List.mem_cons.1 hE).elim (fun e => by subst e; exact ⟨hA, hD⟩) (h.dm E) }
theorem PtS.put (h : PtS w B A r s b o c n ds W) {S : Nat} {v u : Value} (hS : A < S) (hb : Box W S v) : PtS w B A r s b o c n ds (W.setCell ⟨S, 0, none⟩ u) := by
  have hA := h.hA
  have kp : ∀ i, i ≠ S → (W.setCell ⟨S, 0, none⟩ u).heap[i]? = W.heap[i]? := fun i hi => Below.heap_setCell W _ _ i (fun e => hi e)
  obtain ⟨ob, h1, h2⟩ := hb.cells
  exact ⟨Bk.of h.gm (kp _ (by omega)), h.bt.of (kp _ (by omega)), h.ba.of (kp _ (by omega)), h.hA, h.below.setCell (p := ⟨S, 0, none⟩) (by simp; omega) _, h.nd, fun D hD => ⟨(h.dm D hD).1, (kp D (mark_ne h1 h2 (h.dm D hD).2)).trans (h.dm D hD).2⟩⟩
theorem PtS.putA (h : PtS w B A r s b o c n ds W) (u : Nat) : PtS w B A r s b o c u ds (W.setCell ⟨A, 0, none⟩ (.int .i64 (u : Int))) := by
  have hA := h.hA
  have kp : ∀ i, i ≠ A → (W.setCell ⟨A, 0, none⟩ (.int .i64 (u : Int))).heap[i]? = W.heap[i]? := fun i hi => Below.heap_setCell W _ _ i (fun e => hi e)
  exact ⟨Bk.of h.gm (kp _ (by omega)), h.bt.of (kp _ (by omega)), h.ba.set _, h.hA, h.below.setCell (p := ⟨A, 0, none⟩) (by simp; omega) _, h.nd, fun D hD => ⟨(h.dm D hD).1, (kp D (by have := (h.dm D hD).1; omega)).trans (h.dm D hD).2⟩⟩
theorem PtS.fin (h : PtS w B A r s b o c n ds W) : ds.Nodup ∧ (∀ D ∈ ds, B ≤ D ∧ (W.setCell ⟨B + 1, 0, none⟩ (.bool true)).heap[D]? = some (.deferred (some []))) ∧ Box (W.setCell ⟨B + 1, 0, none⟩ (.bool true)) (B + 1) (.bool true) ∧ Below B w (W.setCell ⟨B + 1, 0, none⟩ (.bool true)) := by
  have hA := h.hA
  refine ⟨h.nd, fun D hD => ?_, h.bt.set _, h.below.setCell (p := ⟨B + 1, 0, none⟩) (by simp) _⟩
  have h1 := h.dm D hD
  exact ⟨by omega, (Below.heap_setCell W _ _ D (fun e => by simp at e; omega)).trans h1.2⟩
/-- with the counter of the pages' lines -/
structure PtP (w : World) (B A P : Nat) (r s b o c : Int) (n g : Nat) (ds : List Nat) (W : World) : Prop where
  pt : PtS w B A r s b o c n ds W
  bp : Box W P (.int .i64 (g : Int))
  hP : A < P
theorem PtP.stay (h : PtP w B A P r s b o c n g ds W) {C : Nat} (q : Stay C W W') (hB : B ≤ C) (hd : ∀ D ∈ ds, D < C) : PtP w B A P r s b o c n g ds W' := ⟨h.pt.stay q hB hd, h.bp.stay q, h.hP⟩
theorem PtP.next (h : PtP w B A P r s b o c n g ds W) (q : Below W.heap.size W W') : PtP w B A P r s b o c n g ds W' := ⟨h.pt.next q, h.bp.below q h.bp.lt, h.hP⟩
theorem PtP.putP (h : PtP w B A P r s b o c n g ds W) (u : Nat) : PtP w B A P r s b o c n u ds (W.setCell ⟨P, 0, none⟩ (.int .i64 (u : Int))) := ⟨h.pt.put h.hP h.bp, h.bp.set _, h.hP⟩
theorem PtP.put (h : PtP w B A P r s b o c n g ds W) {S : Nat} {v u : Value} (hS : P < S) (hb : Box W S v) : PtP w B A P r s b o c n g ds (W.setCell ⟨S, 0, none⟩ u) :=
  ⟨h.pt.put (by have := h.hP; omega) hb, h.bp.of (Below.heap_setCell W _ _ _ (fun e => by simp at e; omega)), h.hP⟩
/-- within a rank: E its number, E + 1 the counter of its indices -/
structure PtR (w : World) (B A P E : Nat) (r s b o c : Int) (n : Nat) (i g x : Nat) (ds : List Nat) (W : World) : Prop where
  pp : PtP w B A P r s b o c n g ds W
  be : Box W E (.int .i64 (i : Int))
  bn : Box W (E + 1) (.int .i64 (x : Int))
  hE : P < E
variable {i : Nat}
theorem PtR.stay (h : PtR w B A P E r s b o c n i g x ds W) {C : Nat} (q : Stay C W W') (hB : B ≤ C) (hd : ∀ D ∈ ds, D < C) : PtR w B A P E r s b o c n i g x ds W' := ⟨h.pp.stay q hB hd, h.be.stay q, h.bn.stay q, h.hE⟩
theorem PtR.next (h : PtR w B A P E r s b o c n i g x ds W) (q : Below W.heap.size W W') : PtR w B A P E r s b o c n i g x ds W' := ⟨h.pp.next q, h.be.below q h.be.lt, h.bn.below q h.bn.lt, h.hE⟩
theorem PtR.putN (h : PtR w B A P E r s b o c n i g x ds W) (u : Nat) : PtR w B A P E r s b o c n i g u ds (W.setCell ⟨E + 1, 0, none⟩ (.int .i64 (u : Int))) :=
  ⟨h.pp.put (by have := h.hE; omega) h.bn, h.be.of (Below.heap_setCell W _ _ _ (fun e => by simp at e)), h.bn.set _, h.hE⟩
theorem PtR.putP (h : PtR w B A P E r s b o c n i g x ds W) (u : Nat) : PtR w B A P E r s b o c n i u x ds (W.setCell ⟨P, 0, none⟩ (.int .i64 (u : Int))) :=
  ⟨h.pp.putP u, h.be.of (Below.heap_setCell W _ _ _ (fun e => by have := h.hE; simp at e; omega)), h.bn.of (Below.heap_setCell W _ _ _ (fun e => by have := h.hE; simp at e; omega)), h.hE⟩
theorem PtR.m2 (h : PtR w B A P E r s b o c n i g x ds W) : Ok (fun _ b => b = P ∨ b = E + 1) W := ok_fix fun b hb => by have := h.bn.lt; have := h.hE; omega
theorem PtR.m1 (h : PtR w B A P E r s b o c n i g x ds W) : Ok (fun _ b => b = P) W := ok_fix fun b hb => by have := h.bn.lt; have := h.hE; omega
end
theorem keep_alloc {M : Nat → Prop} (W : World) (ob : Obj) : KeepD (fun _ => M) W (W.alloc ob) := ⟨by simp, fun b hb hn => ⟨Below.heap_alloc W ob b hb, hn⟩⟩
/-- within a page that begins at the index y, in the box Z: W2 the world when the round began -/
structure PtY (w : World) (B A P E Z : Nat) (r s b o c : Int) (n : Nat) (i g x y : Nat) (ds : List Nat) (W2 : World) (k : Nat) (W : World) : Prop where
  pr : PtR w B A P E r s b o c n i (g + k) x ds W
  bz : Box W Z (.int .i64 (y : Int))
  hZ : E + 1 < Z
  kp : KeepD (fun _ b => b = P ∨ b = E + 1) W2 W
end Go.Proofs.Ytjinbhggimbcbaa
