/-
  The iterators of package geom: a rank's indices.
-/
import Derived.Test.YtjinbhggimbcbaaGeW5
namespace Go.Proofs.Ytjinbhggimbcbaa
open Go.RowKit
open Ge (pw rt hd ix)
attribute [local go_sem] Oper.semAt_some

/-- the x-th index of rank r -/
def rix (no nc r x : Nat) : Nat := 1048576 * r + 65536 * (x / (no * nc)) + 64 * (x / nc % no) + x % nc
theorem rix_at (no nc r k j i : Nat) (hj : j < no) (hi : i < nc) : rix no nc r ((k * no + j) * nc + i) = 1048576 * r + 65536 * k + 64 * j + i := by
  have h0 : 0 < nc := by omega
  have e1 : ((k * no + j) * nc + i) / nc = k * no + j := by rw [Nat.add_comm, Nat.add_mul_div_right _ _ h0, Nat.div_eq_of_lt hi, Nat.zero_add]
  have e2 : ((k * no + j) * nc + i) % nc = i := by rw [Nat.add_comm, Nat.add_mul_mod_self_right, Nat.mod_eq_of_lt hi]
  have e3 : (k * no + j) / no = k := by rw [Nat.add_comm, Nat.add_mul_div_right _ _ (by omega), Nat.div_eq_of_lt hj, Nat.zero_add]
  have e4 : (k * no + j) % no = j := by rw [Nat.add_comm, Nat.add_mul_mod_self_right, Nat.mod_eq_of_lt hj]
  unfold rix
  rw [e2, e1, e4, Nat.mul_comm no nc, ← Nat.div_div_eq_div_mul, e1, e3]

theorem Gm.keep {M : World → Nat → Prop} {W W' : World} {b : Nat} {r s b' o c : Int} (h : Gm W b r s b' o c) (k : KeepD M W W') (hm : ¬ M W b) : Gm W' b r s b' o c := Bk.of h (k.2 b (Bk.lt h) hm).1
theorem Gm.stay {B : Nat} {W W' : World} {b : Nat} {r s b' o c : Int} (h : Gm W b r s b' o c) (k : Stay B W W') : Gm W' b r s b' o c := Bk.stay h k

set_option maxRecDepth 100000 in
set_option maxHeartbeats 4000000 in
theorem rank1_seq (gb rb : Nat) (r s : Int) (nb no nc nr : Nat) (hb : nb ≤ 16) (ho : no ≤ 1024) (hc : nc ≤ 64) (hr : nr < 8) (w : World) (hG : Gm w gb r s (nb : Int) (no : Int) (nc : Int)) (hB : Box w rb (.int .i64 (nr : Int))) :
    SeqD Try.prog 33 #[.pointer (some ⟨gb, 0, none⟩), .pointer (some ⟨rb, 0, none⟩)] (fun x => #[.int .i64 (rix no nc nr x : Int)]) (nb * no * nc) (fun y => y = gb ∨ y = rb) w := by
  intro l M J Jx W hMi hW hM hJ hJx hY h0
  have HMi : Hid (∀ x W, J x W → Ok M W) := hMi.1
  clear hMi
  have HG : Hid (Gm W gb r s (nb : Int) (no : Int) (nc : Int)) := Bk.below hG hW hG.lt
  have HB : Hid (Box W rb (.int .i64 (nr : Int))) := hB.below hW hB.lt
  have HMg : Hid (¬ M W gb) := hM gb (.inl rfl)
  have HMr : Hid (¬ M W rb) := hM rb (.inr rfl)
  have HJ : Hid (∀ (x : Nat) (A A' : World), W.heap.size ≤ A.heap.size → J x A → Below A.heap.size A A' → J x A') := fun x A A' hl h k => hJ x A A' h ((stay_below k).mono hl)
  have HY : Hid (∀ (x : Nat) (W1 : World), x < nb * no * nc → J x W1 → YieldAt Fence.wide 8 Try.prog l #[.int .i64 (rix no nc nr x : Int)] W1 fun e W' => (e = .returned (.bool true) ∧ J (x + 1) W' ∧ KeepD M W1 W') ∨ (e = .returned (.bool false) ∧ Jx x W' ∧ KeepD M W1 W')) := hY
  have HKB : Hid (∀ wr, KeepD M W wr → Box wr rb (.int .i64 (nr : Int))) := fun wr h => h.box HB.out HMr.out
  clear hJ hJx hY hM hW hG hB
  refine callsIn_of_wp Try.func33 rfl trivial ?_ rfl
  simp only [Try.ntmps33, List.size_toArray, List.length_cons, List.length_nil, Nat.reduceAdd, Nat.reduceSub, Array.replicate_succ, Array.replicate_zero, List.push_toArray, List.append_toArray, List.nil_append, List.cons_append]
  have c2 := HG.out.c2
  gi_wp2
  clear c2
  gi_loopw [9] (fun i wr => ∃ k : Nat, k ≤ nb ∧ i = .int .i64 (k : Int) ∧ J (k * no * nc) wr ∧ KeepD M W wr) (fun i _ => (nb - (intOf i).toNat))
  case atStart => exact ⟨0, by omega, rfl, by rw [Nat.zero_mul, Nat.zero_mul]; exact h0, KeepD.refl _ _⟩
  case round =>
    obtain ⟨k, hk, rfl, hJs, hK⟩ := hrel
    by_cases hlt : k < nb
    · have c3 := (HG.out.keep hK HMg.out).c3
      gi_wp2
      clear c3
      gi_loopw [14] (fun i wr => ∃ j : Nat, j ≤ no ∧ i = .int .i64 (j : Int) ∧ J ((k * no + j) * nc) wr ∧ KeepD M W wr) (fun i _ => (no - (intOf i).toNat))
      case atStart => exact ⟨0, by omega, rfl, by rw [Nat.add_zero]; exact hJs, hK⟩
      case round =>
        obtain ⟨j, hj, rfl, hJj, hKj⟩ := hrel
        by_cases hltj : j < no
        · have hGr := HG.out.keep hKj HMg.out
          have hBr := HKB.out wr hKj
          have cr := hBr.1
          have e0 : ((1048576 * nr + 65536 * k + 64 * j : Nat) : Int) = ix (nr : Int) (k : Int) (j : Int) 0 := by unfold ix; omega
          have HX : Hid (∀ w : World, Calls Try.prog 26 #[.agg #[.int .i64 (nr : Int), .int .i64 (k : Int), .int .i64 (j : Int), .int .i64 0]] w fun e w' => e = .returned (.int .i64 ((1048576 * nr + 65536 * k + 64 * j : Nat) : Int)) ∧ Below w.heap.size w w') := fun w => by rw [e0]; exact index_any _ _ _ _ (by omega) (by omega) (by omega) (by omega) w
          obtain ⟨F, hF, HF⟩ : ∃ F, F < 8388608 ∧ Hid (1048576 * nr + 65536 * k + 64 * j = F) := ⟨_, by omega, rfl⟩
          rw [HF.out] at HX
          have HC : Hid (∀ V1 : World, Below wr.heap.size wr V1 → CallsIn Fence.wide 8 Try.prog 34 #[.agg #[.int .i64 r, .int .i64 s, .int .i64 (nb : Int), .int .i64 (no : Int), .int .i64 (nc : Int)], .int .i64 (F : Int), .func (.yield l) #[] #[]] V1 fun e W' =>
              (e = .returned (.bool true) ∧ J ((k * no + j) * nc + nc) W' ∧ KeepD M V1 W') ∨ (e = .returned (.bool false) ∧ ∃ x, x < nc ∧ Jx ((k * no + j) * nc + x) W' ∧ KeepD M V1 W')) := fun V1 hV1 =>
            columns_seq r s nb no nc hc F hF l M (fun x => J ((k * no + j) * nc + x)) (fun x => Jx ((k * no + j) * nc + x)) V1 ((HMi.out _ _ hJj).stay (stay_below hV1))
              (fun A hA => HJ.out _ V1 A (by have := hV1.size; have := hKj.1; omega) (HJ.out _ wr V1 hKj.1 hJj hV1) hA)
              (fun x W1 hx h => by
                have hlx : (k * no + j) * nc + x < nb * no * nc := by
                  have h1 : k * no + j + 1 ≤ nb * no := Nat.le_trans (show k * no + j + 1 ≤ k * no + no by omega) (by rw [← Nat.succ_mul]; exact Nat.mul_le_mul_right _ hlt)
                  have h2 := Nat.mul_le_mul_right nc h1
                  rw [Nat.succ_mul] at h2
                  omega
                have := HY.out ((k * no + j) * nc + x) W1 hlx h
                rw [rix_at no nc nr k j x hltj hx, HF.out] at this
                exact this)
          clear e0
          gi_wp2_with (first | (refine ⟨trivial, ?_⟩; gi_at_call 26; refine (callsIn_wide.2 (HX.out _)).mono ?_; rintro e W2 ⟨rfl, b2⟩; have hG2 := hGr.next b2; have d0 := hG2.c0; have d1 := hG2.c1; have d2 := hG2.c2; have d3 := hG2.c3; have d4 := hG2.c4) | (refine ⟨trivial, ?_⟩; gi_at_call 34; refine (HC.out _ b2).mono ?_; rintro e W3 hE; obtain ⟨ans, rfl, hE2⟩ := yields7 hE))
          · rcases hE2.out with ⟨rfl, _⟩ | ⟨_, x, hx, hJ3, _⟩
            · rename_i hr; cases hr
            · refine bodyPost_ret (results_none rfl _ _ _) rfl ?_
              have h1 : k * no + j + 1 ≤ nb * no := Nat.le_trans (show k * no + j + 1 ≤ k * no + no by omega) (by rw [← Nat.succ_mul]; exact Nat.mul_le_mul_right _ hlt)
              have h2 := Nat.mul_le_mul_right nc h1
              rw [Nat.succ_mul] at h2
              exact ⟨⟨_, rfl⟩, .inr ⟨(k * no + j) * nc + x, by omega, hJ3⟩⟩
          · rcases hE2.out with ⟨_, hJ3, hK3⟩ | ⟨rfl, _⟩
            · refine ⟨⟨_, _, _, _, _, _, _, _, _, _, _, _, _, _, _, _, ⟨j + 1, by omega, by go_num, by rw [show (k * no + (j + 1)) * nc = (k * no + j) * nc + nc from by rw [← Nat.add_assoc, Nat.succ_mul]]; exact hJ3, hKj.trans ((KeepD.ofStay (HMi.out _ _ hJj) (stay_below b2) (Nat.le_refl _)).trans hK3)⟩, rfl⟩, ?_⟩
              simp [intOf]; omega
            · rename_i hr; cases hr
        · obtain rfl : j = no := by omega
          gi_wp2
          refine ⟨⟨_, _, _, _, _, _, _, _, _, _, _, _, _, _, _, _, _, _, _, _, _, _, _, ⟨k + 1, by omega, by go_num, by rw [show (k + 1) * j * nc = (k * j + j) * nc from by rw [Nat.succ_mul]]; exact hJj, hKj⟩, rfl⟩, ?_⟩
          simp [intOf]; omega
    · obtain rfl : k = nb := by omega
      gi_wp2
      go_end0
      exact ⟨⟨_, rfl⟩, .inl hJs⟩
end Go.Proofs.Ytjinbhggimbcbaa
