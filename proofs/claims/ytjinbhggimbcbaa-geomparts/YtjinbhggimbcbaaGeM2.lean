/-
  A rank's and a page's indices among all indices: each is a stretch of them.
-/
import Derived.Test.YtjinbhggimbcbaaGeW9
namespace Go.Proofs.Ytjinbhggimbcbaa
open Go.RowKit
open Ge (pw rt hd ix)

/-- how many of a stretch of L from a on lie below x -/
def seg (a L x : Nat) : Nat := min (x - a) L
theorem seg_zero (a L : Nat) : seg a L 0 = 0 := by unfold seg; omega
theorem seg_in {a L x : Nat} (h1 : a ≤ x) (h2 : x < a + L) : seg a L (x + 1) = seg a L x + 1 ∧ seg a L x = x - a ∧ seg a L x < L := by unfold seg; omega
theorem seg_out {a L x : Nat} (h : ¬ (a ≤ x ∧ x < a + L)) : seg a L (x + 1) = seg a L x := by unfold seg; omega
theorem seg_end {a L N : Nat} (h : a + L ≤ N) : seg a L N = L := by unfold seg; omega

theorem radix {a b n p q : Nat} (hp : p < n) (hq : q < n) (h : a * n + p = b * n + q) : a = b ∧ p = q := by
  have h1 : (a * n + p) / n = a := by rw [Nat.add_comm, Nat.add_mul_div_right _ _ (by omega), Nat.div_eq_of_lt hp, Nat.zero_add]
  have h2 : (b * n + q) / n = b := by rw [Nat.add_comm, Nat.add_mul_div_right _ _ (by omega), Nat.div_eq_of_lt hq, Nat.zero_add]
  have e : a = b := by rw [← h1, ← h2, h]
  subst e
  exact ⟨rfl, by omega⟩
theorem stretch {y n x : Nat} (hn : 0 < n) : y * n ≤ x ∧ x < y * n + n ↔ x / n = y := by
  have hm := Nat.mod_lt x hn
  have hd := Nat.div_add_mod x n
  rw [Nat.mul_comm] at hd
  constructor
  · rintro ⟨h1, h2⟩
    have : x / n * n + x % n = y * n + (x - y * n) := by omega
    exact (radix hm (by omega) this).1
  · rintro rfl
    omega
/-- an index's parts -/
theorem parts {m nb no nc x : Nat} (h : x < m * (nb * no * nc)) : ∃ i u j v, i < m ∧ u < nb ∧ j < no ∧ v < nc ∧ x = ((i * nb + u) * no + j) * nc + v := by
  have hc : 0 < nc := by
    rcases Nat.eq_zero_or_pos nc with e | e
    · subst e; simp at h
    · exact e
  have ho : 0 < no := by
    rcases Nat.eq_zero_or_pos no with e | e
    · subst e; simp at h
    · exact e
  have hb : 0 < nb := by
    rcases Nat.eq_zero_or_pos nb with e | e
    · subst e; simp at h
    · exact e
  refine ⟨x / nc / no / nb, x / nc / no % nb, x / nc % no, x % nc, ?_, Nat.mod_lt _ hb, Nat.mod_lt _ ho, Nat.mod_lt _ hc, ?_⟩
  · rw [Nat.div_div_eq_div_mul, Nat.div_div_eq_div_mul, Nat.div_lt_iff_lt_mul (by exact Nat.mul_pos hc (Nat.mul_pos ho hb))]
    rw [show nc * (no * nb) = nb * no * nc from by rw [Nat.mul_comm nb no, Nat.mul_comm (no * nb) nc]]
    exact h
  · have e1 := Nat.div_add_mod x nc
    have e2 := Nat.div_add_mod (x / nc) no
    have e3 := Nat.div_add_mod (x / nc / no) nb
    rw [Nat.mul_comm] at e1 e2 e3
    rw [e3, e2, e1]
theorem aix_parts {nb no nc i u j v : Nat} (hu : u < nb) (hj : j < no) (hv : v < nc) : aix no nc (nb * no * nc) (((i * nb + u) * no + j) * nc + v) = 1048576 * i + 65536 * u + 64 * j + v := by
  have hq2 : (u * no + j) * nc + v < nb * no * nc := by
    have h1 : u * no + j + 1 ≤ nb * no := Nat.le_trans (show u * no + j + 1 ≤ u * no + no by omega) (by rw [← Nat.succ_mul]; exact Nat.mul_le_mul_right _ hu)
    have h2 := Nat.mul_le_mul_right nc h1
    rw [Nat.succ_mul] at h2
    omega
  have e : ((i * nb + u) * no + j) * nc + v = i * (nb * no * nc) + ((u * no + j) * nc + v) := by
    simp only [Nat.add_mul, Nat.mul_assoc, Nat.add_assoc]
  rw [e, aix_at _ _ _ _ _ hq2, rix_at no nc i u j v hj hv]

/-- what a rank tells is a stretch of all -/
theorem rank_seg (r s b o c k : Int) : ∃ a, a + (if hd r s b o c k 0 0 0 = true then b.toNat * o.toNat * c.toNat else 0) ≤ cnt r s b o c ∧
    ∀ x, x < cnt r s b o c → (((aix o.toNat c.toNat (b.toNat * o.toNat * c.toNat) x : Nat) : Int) / 1048576 = k ↔ a ≤ x ∧ x < a + (if hd r s b o c k 0 0 0 = true then b.toNat * o.toNat * c.toNat else 0)) ∧
      (a ≤ x → x < a + (if hd r s b o c k 0 0 0 = true then b.toNat * o.toNat * c.toNat else 0) → rix o.toNat c.toNat k.toNat (x - a) = aix o.toNat c.toNat (b.toNat * o.toNat * c.toNat) x) := by
  by_cases hr : rt r s b o c = true
  · have ha := Ge.rt_all hr
    obtain ⟨nb, rfl⟩ := Int.eq_ofNat_of_zero_le (show 0 ≤ b by omega)
    obtain ⟨no, rfl⟩ := Int.eq_ofNat_of_zero_le (show 0 ≤ o by omega)
    obtain ⟨nc, rfl⟩ := Int.eq_ofNat_of_zero_le (show 0 ≤ c by omega)
    obtain ⟨m, hm⟩ := Int.eq_ofNat_of_zero_le (show 0 ≤ r + s by omega)
    have hcn : cnt r s nb no nc = m * (nb * no * nc) := by
      rw [cnt, if_pos hr, hm]
      simp only [Int.toNat_natCast]
    rw [hcn]
    simp only [Int.toNat_natCast]
    have hp : 0 < nb * no * nc := Nat.mul_pos (Nat.mul_pos (by omega) (by omega)) (by omega)
    have key : ∀ x, x < m * (nb * no * nc) → ((aix no nc (nb * no * nc) x : Nat) : Int) / 1048576 = ((x / (nb * no * nc) : Nat) : Int) := by
      intro x hx
      obtain ⟨i, u, j, v, hi, hu, hj, hv, rfl⟩ := parts hx
      have hq2 : (u * no + j) * nc + v < nb * no * nc := by
        have h1 : u * no + j + 1 ≤ nb * no := Nat.le_trans (show u * no + j + 1 ≤ u * no + no by omega) (by rw [← Nat.succ_mul]; exact Nat.mul_le_mul_right _ hu)
        have h2 := Nat.mul_le_mul_right nc h1
        rw [Nat.succ_mul] at h2
        omega
      rw [aix_parts hu hj hv]
      have e : ((i * nb + u) * no + j) * nc + v = i * (nb * no * nc) + ((u * no + j) * nc + v) := by
        simp only [Nat.add_mul, Nat.mul_assoc, Nat.add_assoc]
      rw [e, Nat.add_comm (i * (nb * no * nc)), Nat.add_mul_div_right _ _ hp, Nat.div_eq_of_lt hq2, Nat.zero_add]
      omega
    by_cases hk : 0 ≤ k ∧ k < r + s
    · have h : hd r s nb no nc k 0 0 0 = true := by
        unfold hd; rw [hr, decide_eq_true hk, decide_eq_true (show (0 : Int) ≤ 0 ∧ (0 : Int) < (nb : Int) by omega), decide_eq_true (show (0 : Int) ≤ 0 ∧ (0 : Int) < (no : Int) by omega), decide_eq_true (show (0 : Int) ≤ 0 ∧ (0 : Int) < (nc : Int) by omega)]; rfl
      rw [if_pos h]
      obtain ⟨n, rfl⟩ := Int.eq_ofNat_of_zero_le hk.1
      have hn : n < m := by omega
      refine ⟨n * (nb * no * nc), ?_, fun x hx => ⟨?_, fun h1 h2 => ?_⟩⟩
      · have := Nat.mul_le_mul_right (nb * no * nc) (show n + 1 ≤ m by omega)
        rw [Nat.succ_mul] at this
        exact this
      · rw [key x hx, stretch hp]
        exact Int.ofNat_inj
      · obtain ⟨q, rfl⟩ := Nat.exists_eq_add_of_le h1
        rw [aix_at _ _ _ _ _ (by omega), Nat.add_sub_cancel_left, Int.toNat_natCast]
    · have h : ¬ hd r s nb no nc k 0 0 0 = true := fun h => hk (Ge.hd_all h).2.1
      rw [if_neg h]
      refine ⟨0, by omega, fun x hx => ⟨?_, fun h1 h2 => by omega⟩⟩
      rw [key x hx]
      have : x / (nb * no * nc) < m := (Nat.div_lt_iff_lt_mul hp).2 hx
      obtain ⟨y, hy⟩ : ∃ y, x / (nb * no * nc) = y := ⟨_, rfl⟩
      rw [hy] at this ⊢
      omega
  · have h : ¬ hd r s b o c k 0 0 0 = true := fun h => hr (Ge.hd_all h).1
    rw [if_neg h]
    refine ⟨0, by omega, fun x hx => ?_⟩
    rw [cnt, if_neg hr] at hx
    omega

/-- what a page tells is a stretch of all -/
theorem page_seg (r s b o c k : Int) : ∃ a, a + (if pgOk r s b o c k = true then c.toNat else 0) ≤ cnt r s b o c ∧
    ∀ x, x < cnt r s b o c → (((aix o.toNat c.toNat (b.toNat * o.toNat * c.toNat) x : Nat) : Int) / 64 = k ↔ a ≤ x ∧ x < a + (if pgOk r s b o c k = true then c.toNat else 0)) ∧
      (a ≤ x → x < a + (if pgOk r s b o c k = true then c.toNat else 0) → (k * 64).toNat + (x - a) = aix o.toNat c.toNat (b.toNat * o.toNat * c.toNat) x) := by
  by_cases hr : rt r s b o c = true
  · have ha := Ge.rt_all hr
    obtain ⟨nb, rfl⟩ := Int.eq_ofNat_of_zero_le (show 0 ≤ b by omega)
    obtain ⟨no, rfl⟩ := Int.eq_ofNat_of_zero_le (show 0 ≤ o by omega)
    obtain ⟨nc, rfl⟩ := Int.eq_ofNat_of_zero_le (show 0 ≤ c by omega)
    obtain ⟨m, hm⟩ := Int.eq_ofNat_of_zero_le (show 0 ≤ r + s by omega)
    have hcn : cnt r s nb no nc = m * (nb * no * nc) := by
      rw [cnt, if_pos hr, hm]
      simp only [Int.toNat_natCast]
    rw [hcn]
    simp only [Int.toNat_natCast]
    have hb16 : nb ≤ 16 := by omega
    have ho16 : no ≤ 1024 := by omega
    have hc16 : nc ≤ 64 := by omega
    have hc0 : 0 < nc := by omega
    have hm8 : m ≤ 8 := by omega
    by_cases hk : pgOk r s nb no nc k = true
    · rw [if_pos hk]
      unfold pgOk at hk
      simp only [Bool.and_eq_true, decide_eq_true_eq] at hk
      obtain ⟨⟨hk0, hk1⟩, hk2⟩ := hk
      obtain ⟨_, h1, h2, h3, _⟩ := Ge.hd_all hk2
      obtain ⟨n, rfl⟩ := Int.eq_ofNat_of_zero_le hk0
      obtain ⟨i0, hi0⟩ : ∃ i0 : Nat, i0 = n * 64 / 1048576 := ⟨_, rfl⟩
      obtain ⟨u0, hu0⟩ : ∃ u0 : Nat, u0 = n * 64 / 65536 % 16 := ⟨_, rfl⟩
      obtain ⟨j0, hj0⟩ : ∃ j0 : Nat, j0 = n * 64 / 64 % 1024 := ⟨_, rfl⟩
      have li : i0 < m := by omega
      have lu : u0 < nb := by omega
      have lj : j0 < no := by omega
      have en : n * 64 = 1048576 * i0 + 65536 * u0 + 64 * j0 := by omega
      clear h1 h2 h3 hi0 hu0 hj0
      refine ⟨((i0 * nb + u0) * no + j0) * nc, ?_, fun x hx => ?_⟩
      · have e1 : i0 * nb + u0 + 1 ≤ m * nb := Nat.le_trans (show i0 * nb + u0 + 1 ≤ i0 * nb + nb by omega) (by rw [← Nat.succ_mul]; exact Nat.mul_le_mul_right _ li)
        have e2 : (i0 * nb + u0) * no + j0 + 1 ≤ m * nb * no := by
          have := Nat.mul_le_mul_right no e1
          rw [Nat.succ_mul] at this
          omega
        have e3 := Nat.mul_le_mul_right nc e2
        rw [Nat.succ_mul] at e3
        simp only [Nat.mul_assoc] at e3 ⊢
        exact e3
      · obtain ⟨i, u, j, v, hi, hu, hj, hv, rfl⟩ := parts hx
        rw [aix_parts hu hj hv, stretch hc0]
        have ey : (((i * nb + u) * no + j) * nc + v) / nc = (i * nb + u) * no + j := by rw [Nat.add_comm, Nat.add_mul_div_right _ _ hc0, Nat.div_eq_of_lt hv, Nat.zero_add]
        refine ⟨?_, fun h1 h2 => ?_⟩
        · rw [ey]
          constructor
          · intro h
            obtain rfl : i = i0 := by omega
            obtain rfl : u = u0 := by omega
            obtain rfl : j = j0 := by omega
            rfl
          · intro h
            obtain ⟨h1, rfl⟩ := radix hj lj h
            obtain ⟨rfl, rfl⟩ := radix hu lu h1
            omega
        · have h := (stretch hc0).1 ⟨h1, h2⟩
          rw [ey] at h
          obtain ⟨h3, rfl⟩ := radix hj lj h
          obtain ⟨rfl, rfl⟩ := radix hu lu h3
          omega
    · rw [if_neg hk]
      refine ⟨0, by omega, fun x hx0 => ⟨⟨fun h => ?_, fun h => by omega⟩, fun h1 h2 => by omega⟩⟩
      exfalso
      apply hk
      obtain ⟨i, u, j, v, hi, hu, hj, hv, rfl⟩ := parts hx0
      rw [aix_parts hu hj hv] at h
      unfold pgOk hx hd
      have e1 : k * 64 / 1048576 = i := by omega
      have e2 : k * 64 / 65536 % 16 = u := by omega
      have e3 : k * 64 / 64 % 1024 = j := by omega
      have e4 : k * 64 % 64 = 0 := by omega
      rw [hr, e1, e2, e3, e4]
      simp only [Bool.and_eq_true, decide_eq_true_eq]
      repeat' apply And.intro
      all_goals first | omega | trivial
  · have h : ¬ pgOk r s b o c k = true := fun h => by
      unfold pgOk at h
      simp only [Bool.and_eq_true] at h
      exact hr (Ge.hd_all h.2).1
    rw [if_neg h]
    refine ⟨0, by omega, fun x hx => ?_⟩
    rw [cnt, if_neg hr] at hx
    omega
theorem aix_lt (r s b o c : Int) (x : Nat) (hx : x < cnt r s b o c) : aix o.toNat c.toNat (b.toNat * o.toNat * c.toNat) x < 8388608 := by
  unfold cnt at hx
  split at hx
  · rename_i hr
    have ha := Ge.rt_all hr
    obtain ⟨i, u, j, v, hi, hu, hj, hv, rfl⟩ := parts hx
    rw [aix_parts hu hj hv]
    omega
  · omega
end Go.Proofs.Ytjinbhggimbcbaa
