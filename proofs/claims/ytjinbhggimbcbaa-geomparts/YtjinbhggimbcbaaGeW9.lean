/-
  The document's own list of all indices: four loops, and a slice that grows.
-/
import Derived.Test.YtjinbhggimbcbaaGeW8
import Derived.OwnWalk
import Derived.OwnWalkIn
import Derived.Maps.AppendAt
import Derived.Deep.Onto
namespace Go.Proofs.Ytjinbhggimbcbaa
open Go.RowKit
open Ge (pw rt hd ix)
attribute [local go_sem] Oper.semAt_some

/-- the first n numbers that F tells -/
def lst (F : Nat → Nat) (n : Nat) : List Value := (List.range n).map fun x => .int .i64 (F x : Int)
theorem lst_snoc (F : Nat → Nat) (n : Nat) : lst F n ++ [.int .i64 (F n : Int)] = lst F (n + 1) := by simp [lst, List.range_succ]
theorem lst_at (F : Nat → Nat) (n i : Nat) (h : i < n) : (lst F n)[i]? = some (.int .i64 (F i : Int)) := by simp [lst, h]
theorem lst_congr {F G : Nat → Nat} {n : Nat} (h : ∀ x, x < n → F x = G x) : lst F n = lst G n := by
  unfold lst
  exact List.map_congr_left fun x hx => by rw [h x (List.mem_range.1 hx)]
theorem i64_info : (Try.prog.info? 3).map (fun i => (i.zero, i.size, i.bytes)) = some (some (.int .i64 0), 1, 8) := by kernel_rfl
theorem info_three {P : Program} {e : TypeId} {z : Option Value} {s b : Nat} (h : (P.info? e).map (fun i => (i.zero, i.size, i.bytes)) = some (z, s, b)) : ∃ i, P.info? e = some i ∧ i.zero = z ∧ i.size = s ∧ i.bytes = b := by
  obtain ⟨i, hi, h2⟩ := Option.map_eq_some_iff.1 h
  simp only [Prod.mk.injEq] at h2
  exact ⟨i, hi, h2.1, h2.2.1, h2.2.2⟩

/-- a slice of integers in blocks from B on: its first n numbers are F's -/
def Ow (W : World) (B : Nat) (v : Value) (n : Nat) (F : Nat → Nat) : Prop := W.ownsRow B 3 1 v n (lst F n)
theorem Ow.nil (W : World) (B : Nat) (F : Nat → Nat) : Ow W B (.slice none 0 0) 0 F := World.ownsRow_nil W B _ _
theorem Ow.of {W W' : World} {B : Nat} {v : Value} {n : Nat} {F : Nat → Nat} (h : Ow W B v n F) (k : ∀ g, v.ownBlock = some g → W'.heap[g]? = W.heap[g]?) : Ow W' B v n F := by
  refine ⟨h.1, ?_⟩
  rcases h.2 with hn | ⟨g, cap, cur, rfl, hb, hg, rest⟩
  · exact .inl hn
  · exact .inr ⟨g, cap, cur, rfl, hb, (k g rfl).trans hg, rest⟩
theorem Ow.lt {W : World} {B : Nat} {v : Value} {n : Nat} {F : Nat → Nat} (h : Ow W B v n F) : ∀ g, v.ownBlock = some g → B ≤ g ∧ g < W.heap.size := World.ownsRow.lt h
theorem Ow.next {W W' : World} {B : Nat} {v : Value} {n : Nat} {F : Nat → Nat} (h : Ow W B v n F) (k : Below W.heap.size W W') : Ow W' B v n F := h.of fun g hg => k.block g (h.lt g hg).2
theorem Ow.alloc {W : World} {B : Nat} {v : Value} {n : Nat} {F : Nat → Nat} (h : Ow W B v n F) (o : Obj) : Ow (W.alloc o) B v n F := World.ownsRow.alloc h o
theorem Ow.stay {C : Nat} {W W' : World} {B : Nat} {v : Value} {n : Nat} {F : Nat → Nat} (h : Ow W B v n F) (k : Stay C W W') : Ow W' B v n F := by
  have h' := h
  rcases h.2 with hn | ⟨g, cap, cur, rfl, hb, hg, rest⟩
  · exact ⟨h.1, .inl hn⟩
  · refine h'.of fun g' hg' => ?_
    cases hg'
    exact (k.cells _ _ hg rfl).trans hg.symm
theorem one_new7 (W : World) (v : Value) (t : TypeId) : ∀ j u, [v][j]? = some u → (W.alloc (.cells #[v] t)).cell? ((⟨W.heap.size, 0, none⟩ : Addr).add j) = some u := by
  intro j u hj
  cases j with
  | zero =>
    simp at hj
    subst hj
    exact (Box.new W t v).1
  | succ j => simp at hj
theorem one_one7 (x : Int) : ∀ u ∈ [Value.int .i64 x], u.oneCell' = true := by
  intro u hu
  simp at hu
  subst hu
  rfl
theorem below_grown7 {B : Nat} {w W W' : World} {row : Option Nat} (h : Below B w W) (k : W.grownBy W' row) (hr : ∀ g, row = some g → B ≤ g) (hB : B ≤ W.heap.size) : Below B w W' :=
  ⟨k.os.trans h.os, k.tape.trans h.tape, k.output.trans h.output, Nat.le_trans h.size k.size, fun b hb => (k.block b (by omega) (fun e => by have := hr b e.symm; omega)).trans (h.block b hb)⟩

/-- between two rounds: x numbers are listed -/
structure LaS (w : World) (B : Nat) (r s b o c : Int) (F : Nat → Nat) (x : Nat) (v : Value) (W : World) : Prop where
  own : Ow W (B + 1) v x F
  gm : Gm W B r s b o c
  below : Below B w W

theorem LaS.grow {w wr W2 W3 : World} {B : Nat} {r s b o c : Int} {F : Nat → Nat} {x : Nat} {v v' : Value} (h : LaS w B r s b o c F x v wr) (b2 : Below wr.heap.size wr W2) (ob : Obj) (own : W3.ownsRow (B + 1) 3 1 v' (x + 1) (lst F x ++ [.int .i64 (F x : Int)])) (gr : (W2.alloc ob).grownBy W3 v.ownBlock) : LaS w B r s b o c F (x + 1) v' W3 := by
  have hlt := h.gm.lt
  have hz := b2.size
  have hne : ∀ g, v.ownBlock = some g → B + 1 ≤ g := fun g hg => (h.own.lt g hg).1
  refine ⟨by rw [lst_snoc] at own; exact own, Bk.of ((h.gm.next b2).alloc ob) (gr.block B (by simp; omega) fun e => by have := hne B e.symm; omega), ?_⟩
  have hb : Below B w (W2.alloc ob) := (h.below.trans (b2.mono (by omega))).alloc (by omega) _
  exact below_grown7 hb gr (fun g hg => by have := hne g hg; omega) (by simp; omega)

theorem rix_ix (r b w c : Nat) : ((1048576 * r + 65536 * b + 64 * w + c : Nat) : Int) = ix (r : Int) (b : Int) (w : Int) (c : Int) := by unfold ix; omega

set_option maxRecDepth 100000 in
set_option maxHeartbeats 4000000 in
theorem refAll_any (r s b o c : Int) (hr : I64 r) (hb : I64 b) (ho : I64 o) (hc : I64 c) (w : World) :
    Calls Try.prog 17 #[.agg #[.int .i64 r, .int .i64 s, .int .i64 b, .int .i64 o, .int .i64 c]] w fun e w' => ∃ v, e = .returned v ∧ Ow w' w.heap.size v (cnt r s b o c) (aix o.toNat c.toNat (b.toNat * o.toNat * c.toNat)) ∧ Below w.heap.size w w' := by
  obtain ⟨z, Z⟩ : ∃ z, Hid (rt r s b o c = z) := ⟨_, rfl⟩
  have HH : Hid (∀ w, Calls Try.prog 11 #[.agg #[.int .i64 r, .int .i64 s, .int .i64 b, .int .i64 o, .int .i64 c]] w fun e w' => e = .returned (.bool z) ∧ Below w.heap.size w w') := fun w => by rw [← Z.out]; exact refRight_any r s b o c hr hb ho hc w
  clear hr hb ho hc
  obtain ⟨N, HN⟩ : ∃ N, Hid (cnt r s b o c = N) := ⟨_, rfl⟩
  rw [HN.out]
  go_enter Try.func17, Try.ntmps17
  go_wp2_with fail
  have h0 := Gm.new w r s b o c 27
  have h2 : Below w.heap.size w (w.alloc (.cells #[.int .i64 r, .int .i64 s, .int .i64 b, .int .i64 o, .int .i64 c] 27)) := (Below.refl _ w).alloc (Nat.le_refl _) _
  refine (HH.out _).mono ?_
  rintro e W1 ⟨rfl, bW⟩
  have H : Hid (Gm W1 w.heap.size r s b o c ∧ Below w.heap.size w W1) := ⟨h0.next bW, h2.trans (bW.mono h2.size)⟩
  clear h0 h2 bW
  cases z with
  | false =>
    go_wp2
    go_ret
    refine ⟨_, rfl, ?_, H.out.2⟩
    rw [← HN.out, cnt, if_neg (by rw [Z.out]; decide)]
    exact Ow.nil _ _ _
  | true =>
    have ha := Ge.rt_all Z.out
    obtain ⟨nr, rfl⟩ := Int.eq_ofNat_of_zero_le (show 0 ≤ r by omega)
    obtain ⟨ns, rfl⟩ := Int.eq_ofNat_of_zero_le (show 0 ≤ s by omega)
    obtain ⟨nb, rfl⟩ := Int.eq_ofNat_of_zero_le (show 0 ≤ b by omega)
    obtain ⟨no, rfl⟩ := Int.eq_ofNat_of_zero_le (show 0 ≤ o by omega)
    obtain ⟨nc, rfl⟩ := Int.eq_ofNat_of_zero_le (show 0 ≤ c by omega)
    have hm8 : nr + ns ≤ 8 := by omega
    have hb16 : nb ≤ 16 := by omega
    have ho1 : no ≤ 1024 := by omega
    have hc64 : nc ≤ 64 := by omega
    have hN : N = (nr + ns) * (nb * no * nc) := by
      rw [← HN.out, cnt, if_pos Z.out]
      simp only [Int.toNat_natCast]
      rw [show ((nr : Int) + (ns : Int)).toNat = nr + ns from by omega]
    have hN4 : N ≤ 4096 := by
      have := ha.2.2.2.2.2
      have e : (((nr + ns) * (nb * no * nc) : Nat) : Int) = ((nr : Int) + ns) * nb * no * nc := by
        simp only [Int.natCast_mul, Int.natCast_add, Int.mul_assoc]
      rw [← hN] at e
      omega
    obtain ⟨B, hB⟩ : ∃ B, w.heap.size = B := ⟨_, rfl⟩
    rw [hB] at H ⊢
    obtain ⟨F, HF⟩ : ∃ F, Hid (aix no nc (nb * no * nc) = F) := ⟨_, rfl⟩
    have HFx : Hid (∀ i k j q, k < nb → j < no → q < nc → (F (((i * nb + k) * no + j) * nc + q) : Int) = ix (i : Int) (k : Int) (j : Int) (q : Int)) := by
      intro i k j q hk hj hq
      have hq2 : (k * no + j) * nc + q < nb * no * nc := by
        have h1 : k * no + j + 1 ≤ nb * no := Nat.le_trans (show k * no + j + 1 ≤ k * no + no by omega) (by rw [← Nat.succ_mul]; exact Nat.mul_le_mul_right _ hk)
        have h2 := Nat.mul_le_mul_right nc h1
        rw [Nat.succ_mul] at h2
        omega
      have e : ((i * nb + k) * no + j) * nc + q = i * (nb * no * nc) + ((k * no + j) * nc + q) := by
        simp only [Nat.add_mul, Nat.mul_assoc, Nat.add_assoc]
      rw [← HF.out, e, aix_at _ _ _ _ _ hq2, rix_at no nc i k j q hj hq, rix_ix]
    have HNx : Hid (∀ i k j q, i < nr + ns → k < nb → j < no → q < nc → ((i * nb + k) * no + j) * nc + q < 4096) := by
      intro i k j q hi hk hj hq
      have hq2 : (k * no + j) * nc + q < nb * no * nc := by
        have h1 : k * no + j + 1 ≤ nb * no := Nat.le_trans (show k * no + j + 1 ≤ k * no + no by omega) (by rw [← Nat.succ_mul]; exact Nat.mul_le_mul_right _ hk)
        have h2 := Nat.mul_le_mul_right nc h1
        rw [Nat.succ_mul] at h2
        omega
      have e : ((i * nb + k) * no + j) * nc + q = i * (nb * no * nc) + ((k * no + j) * nc + q) := by
        simp only [Nat.add_mul, Nat.mul_assoc, Nat.add_assoc]
      have := in_all hi hq2
      rw [e]; omega
    have HL : Hid (LaS w B nr ns nb no nc F 0 (.slice none 0 0) W1) := ⟨Ow.nil _ _ _, H.out.1, H.out.2⟩
    have HNe : Hid (N = (nr + ns) * (nb * no * nc)) := hN
    clear ha H Z HN hN hN4
    obtain ⟨i3, hi3, hz0, hz1, hz2⟩ := info_three i64_info
    go_wp2
    go_loopw [3, 4] (fun v i wr => ∃ k : Nat, k ≤ nr + ns ∧ i = .int .i64 (k : Int) ∧ Hid (LaS w B nr ns nb no nc F (k * nb * no * nc) v wr)) (fun _ i _ => (nr + ns - (intOf i).toNat))
    case atStart => exact ⟨0, by omega, rfl, by simp only [Nat.zero_mul]; exact HL⟩
    case round =>
      clear HL
      obtain ⟨i, hi, rfl, H1⟩ := hrel
      have c0 := H1.out.gm.c0; have c1 := H1.out.gm.c1
      by_cases hlt : i < nr + ns
      · have c2 := H1.out.gm.c2
        have hlt' : decide ((i : Int) < (nr : Int) + (ns : Int)) = true := decide_eq_true (by omega)
        go_wp2
        clear c0 c1 c2
        go_loopw [3, 5] (fun v i' wr => ∃ k : Nat, k ≤ nb ∧ i' = .int .i64 (k : Int) ∧ Hid (LaS w B nr ns nb no nc F ((i * nb + k) * no * nc) v wr)) (fun _ i _ => (nb - (intOf i).toNat))
        case atStart => exact ⟨0, by omega, rfl, by simp only [Nat.add_zero]; exact H1⟩
        case round =>
          clear H1
          obtain ⟨k, hk, rfl, H2⟩ := hrel
          have c2 := H2.out.gm.c2
          by_cases hltk : k < nb
          · go_wp2
            clear c2
            go_loopw [3, 6] (fun v i' wr => ∃ j : Nat, j ≤ no ∧ i' = .int .i64 (j : Int) ∧ Hid (LaS w B nr ns nb no nc F (((i * nb + k) * no + j) * nc) v wr)) (fun _ i _ => (no - (intOf i).toNat))
            case atStart => exact ⟨0, by omega, rfl, by simp only [Nat.add_zero]; exact H2⟩
            case round =>
              clear H2
              obtain ⟨j, hj, rfl, H3⟩ := hrel
              have c3 := H3.out.gm.c3
              by_cases hltj : j < no
              · go_wp2
                clear c3
                go_loopw [3, 7] (fun v i' wr => ∃ q : Nat, q ≤ nc ∧ i' = .int .i64 (q : Int) ∧ Hid (LaS w B nr ns nb no nc F (((i * nb + k) * no + j) * nc + q) v wr)) (fun _ i _ => (nc - (intOf i).toNat))
                case atStart => exact ⟨0, by omega, rfl, by simp only [Nat.add_zero]; exact H3⟩
                case round =>
                  clear H3
                  obtain ⟨q, hq, rfl, H4⟩ := hrel
                  have c4 := H4.out.gm.c4
                  by_cases hltq : q < nc
                  · have hx4 := HNx.out i k j q hlt hltk hltj hltq
                    have HX := HFx.out i k j q hltk hltj hltq
                    obtain ⟨x, hx⟩ : ∃ x, ((i * nb + k) * no + j) * nc + q = x := ⟨_, rfl⟩
                    rw [hx] at H4 hx4 HX
                    have HI : Hid (∀ w : World, Calls Try.prog 15 #[.agg #[.int .i64 (i : Int), .int .i64 (k : Int), .int .i64 (j : Int), .int .i64 (q : Int)]] w fun e w' => e = .returned (.int .i64 (F x : Int)) ∧ Below w.heap.size w w') := fun w => by rw [HX]; exact refIndex_any _ _ _ _ (by omega) (by omega) (by omega) (by omega) w
                    have HX2 : Hid _ := hx
                    clear HX hx
                    have HO : Hid (∀ W2, Below wr.heap.size wr W2 → ∀ ob, (W2.alloc ob).ownsRow (B + 1) 3 1 u3 x (lst F x)) := fun W2 b2 ob => (H4.out.own.next b2).alloc ob
                    have hBW : B + 1 ≤ wr.heap.size := H4.out.gm.lt
                    go_wp2_with (first | (go_at_call 15; refine (HI.out _).mono ?_; rintro e W2 ⟨rfl, b2⟩) | (at_builtin; refine wpList_append_own _ rfl _ _ 39 rfl (B + 1) 3 i3 (.int .i64 0) 1 8 Try.underlying39 hi3 hz0 hz1 hz2 rfl (by decide) u3 x (lst F x) rfl (HO.out _ b2 _) ⟨W2.heap.size, 0, none⟩ 1 1 [.int .i64 (F x : Int)] rfl rfl (one_new7 W2 _ _) (one_one7 _) (by unfold maxLen; omega) (by omega) (by have := b2.size; simp; omega) ?_; intro v3 W3 own3 gr3 _))
                    have HF4 := LaS.grow H4.out b2 _ own3 gr3
                    clear own3 gr3
                    go_roundw
                    case rel => exact ⟨q + 1, by omega, by go_num, by rw [← Nat.add_assoc, HX2.out]; exact HF4⟩
                    case measure => simp [intOf]; omega
                  · obtain rfl : q = nc := by omega
                    go_wp2
                    go_roundw
                    case rel => exact ⟨j + 1, by omega, by go_num, by rw [show ((i * nb + k) * no + (j + 1)) * q = ((i * nb + k) * no + j) * q + q from by rw [← Nat.add_assoc, Nat.succ_mul]]; exact H4⟩
                    case measure => simp [intOf]; omega
              · obtain rfl : j = no := by omega
                go_wp2
                go_roundw
                case rel => exact ⟨k + 1, by omega, by go_num, by rw [show (i * nb + (k + 1)) * j * nc = ((i * nb + k) * j + j) * nc from by rw [← Nat.add_assoc, Nat.succ_mul]]; exact H3⟩
                case measure => simp [intOf]; omega
          · obtain rfl : k = nb := by omega
            go_wp2
            go_roundw
            case rel => exact ⟨i + 1, by omega, by go_num, by rw [show (i + 1) * k * no * nc = (i * k + k) * no * nc from by rw [Nat.succ_mul]]; exact H2⟩
            case measure => simp [intOf]; omega
      · obtain rfl : i = nr + ns := by omega
        go_wp2
        go_ret
        refine ⟨_, rfl, ?_, by rw [hB]; exact H1.out.below⟩
        have := H1.out.own
        rw [Int.toNat_natCast, Int.toNat_natCast, Int.toNat_natCast, HF.out, HNe.out, hB, show (nr + ns) * (nb * no * nc) = (nr + ns) * nb * no * nc from by simp only [Nat.mul_assoc]]
        exact World.ownsRow.mono this (by omega)
end Go.Proofs.Ytjinbhggimbcbaa
