/-
  The law DramFlips: a bit that is turned twice is as it was; a write cures what was turned, and none that lasts.
-/
import Derived.Test.YtcpjmfemgdgplaaM17
import Derived.Test.YtcpjmfemgdgplaaM18
namespace Go.Proofs.Ytcpjmfemgdgplaa
open Go.RowKit Go.Shelf
open Ge (pw rt hd ix)
attribute [local go_sem] Oper.semAt_some

theorem gdA12 : Try.prog.eqGuardType Try.prog.depth 39 = false := by kernel_rfl
theorem ex_flip12 {m n k : Int} (h : Md m n k) (h0 : 0 < n) (F : Nat → Int) (hF : Byts 72 F) (i : Nat) (hi : i < 576) : ex m n k (flR F i) F = 1 := by
  have hb := hF (i / 8) (by omega)
  have hd : ∀ m, Rw.dl m (flR F i (i / 8)) (F (i / 8)) = 1 := fun m => by
    rw [flR_at F hF i _ (by omega), if_pos rfl]
    have := Rw.dl_flip m (F (i / 8)).toNat (i % 8) (by omega) (by omega)
    rwa [show (((F (i / 8)).toNat : Nat) : Int) = F (i / 8) by omega] at this
  have hne : ∀ j, j < 72 → j ≠ i / 8 → flR F i j = F j := fun j hj e => by rw [flR_at F hF i j hj, if_neg e]
  rcases h with ⟨rfl, rfl, rfl⟩ | ⟨rfl, rfl, rfl⟩ | ⟨_, _, rfl, rfl⟩
  · exact (Rw.mx_one 1 _ _ 9 8 (i / 8) (by omega) (by omega) fun j hj e => hne j (by omega) e).trans (hd 1)
  · exact (Rw.mx_one 2 _ _ 36 2 (i / 8) (by omega) (by omega) fun j hj e => hne j (by omega) e).trans (hd 2)
  · omega

theorem index_any12 (r s b o c p q u v : Int) : ∃ i f : Int, Hid ((hd r s b o c p q u v = true ∧ i = ix p q u v ∧ f = 0) ∨ (hd r s b o c p q u v = false ∧ i = 0 ∧ f = 12)) ∧
    Hid (∀ w : World, Calls Try.prog 22 #[.agg #[.int .i64 r, .int .i64 s, .int .i64 b, .int .i64 o, .int .i64 c], .agg #[.int .i64 p, .int .i64 q, .int .i64 u, .int .i64 v]] w fun e w' => e = .returned (.tuple #[.int .i64 i, .int .i64 f]) ∧ Below w.heap.size w w') := by
  cases h : hd r s b o c p q u v with
  | true => exact ⟨_, _, .inl ⟨rfl, rfl, rfl⟩, fun w => index_yes r s b o c p q u v h w⟩
  | false => exact ⟨_, _, .inr ⟨rfl, rfl, rfl⟩, fun w => index_no r s b o c p q u v h w⟩
theorem flR_twice (F : Nat → Int) (hF : Byts 72 F) (i j : Nat) (hj : j < 72) : flR (flR F i) i j = F j := by
  rw [flR_at _ (flR_byt F hF i) i j hj, flR_at F hF i j hj]
  by_cases e : j = i / 8
  · rw [if_pos e, if_pos e]
    have := hF j hj
    rw [Int.toNat_natCast, Nat.xor_assoc, Nat.xor_self, Nat.xor_zero]
    omega
  · rw [if_neg e, if_neg e]
theorem frc_byt12 (F : Nat → Int) (hF : Byts 72 F) (p q u v x y : Int) : Byts 72 (frc F x y) := by
  have h1 := apF_byt 9 2 p q u v 0 x y p q u v F hF
  unfold apF at h1
  rw [if_pos ⟨by decide, by simp [lz, nw, ls]⟩, if_pos rfl] at h1
  exact h1
theorem ffn_wf12 {k p q u v c x y : Int} (h0 : I64 k) (h1 : I64 p) (h2 : I64 q) (h3 : I64 u) (h4 : I64 v) (h5 : I64 c) (h6 : I64 x) (h7 : I64 y) : ∀ j, j < 8 → (Lit.int .i64 (ffn k p q u v c x y j)).wf = true := by
  intro j hj
  have : j = 0 ∨ j = 1 ∨ j = 2 ∨ j = 3 ∨ j = 4 ∨ j = 5 ∨ j = 6 ∨ j = 7 := by omega
  rcases this with rfl | rfl | rfl | rfl | rfl | rfl | rfl | rfl
  · exact wf12 h0
  · exact wf12 h1
  · exact wf12 h2
  · exact wf12 h3
  · exact wf12 h4
  · exact wf12 h5
  · exact wf12 h6
  · exact wf12 h7
set_option maxRecDepth 100000 in
set_option maxHeartbeats 8000000 in
theorem dramFlips_core (r s b o d m p q u v bit y : Int) (F : Nat → Int) (hF : Byts 72 F) (w : World) :
    Calls Try.prog 5 #[.agg #[.int .i64 r, .int .i64 s, .int .i64 b, .int .i64 o, .int .i64 d], .int .i64 m, .agg #[.int .i64 p, .int .i64 q, .int .i64 u, .int .i64 v], .int .i64 bit, .int .i64 y, .agg (ints .u8 72 F).toArray] w fun e w' => e = .returned (.bool true) ∧ Below w.heap.size w w' := by
  obtain ⟨k, j, hm⟩ := md_any m
  obtain ⟨L, hL⟩ : ∃ L, ints .u8 72 F = L := ⟨_, rfl⟩
  have HL : Hid (ints .u8 72 F = L) := hL
  have HF : Hid (Byts 72 F) := hF
  have HM : Hid (Md m k j) := hm
  have ll : L.length = 72 := by rw [← hL]; exact ints_len _ _ _
  rw [hL]
  clear hL hF hm
  go_enter Try.func5, Try.ntmps5
  go_upto_region 1 with (fail)
  obtain ⟨A, hA⟩ : ∃ A, w.heap.size = A := ⟨_, rfl⟩
  obtain ⟨A1, hA1⟩ : ∃ A1, A + 1 = A1 := ⟨_, rfl⟩
  obtain ⟨A2, hA2⟩ : ∃ A2, A1 + 1 = A2 := ⟨_, rfl⟩
  obtain ⟨V, hV⟩ : ∃ V, ((w.alloc (.cells #[.int .i64 r, .int .i64 s, .int .i64 b, .int .i64 o, .int .i64 d] 23)).alloc (.cells #[.int .i64 p, .int .i64 q, .int .i64 u, .int .i64 v] 36)).alloc (.cells L.toArray 40) = V := ⟨_, rfl⟩
  have HP : Hid (Pre w [(A2, L), (A1, [.int .i64 p, .int .i64 q, .int .i64 u, .int .i64 v]), (A, [.int .i64 r, .int .i64 s, .int .i64 b, .int .i64 o, .int .i64 d])] V) := by
    have h := (((Pre.start w).lay [.int .i64 r, .int .i64 s, .int .i64 b, .int .i64 o, .int .i64 d] 23).lay [.int .i64 p, .int .i64 q, .int .i64 u, .int .i64 v] 36).lay L 40
    simp only [World.size_alloc] at h
    rw [hV, hA, hA1, hA2] at h
    exact h
  rw [hV, hA, hA1, hA2]
  clear hV
  go_wp2_with fail
  refine (anchor12_any _).mono ?_
  rintro e W1 ⟨rfl, b1⟩
  replace HP : Hid (Pre w [(A2, L), (A1, [.int .i64 p, .int .i64 q, .int .i64 u, .int .i64 v]), (A, [.int .i64 r, .int .i64 s, .int .i64 b, .int .i64 o, .int .i64 d])] W1) := HP.out.next b1
  clear b1
  have hg : W1.rangeAt A 0 [.int .i64 r, .int .i64 s, .int .i64 b, .int .i64 o, .int .i64 d] := HP.out.c2.range
  go_wp2_with (first | refine wpList_load_mid rfl 23 _ rfl A 0 rfl [.int .i64 r, .int .i64 s, .int .i64 b, .int .i64 o, .int .i64 d] _ hg Try.underlying23 rfl infoGm ?_)
  by_cases hr : rt r s b o d = true
  case neg =>
    refine (dNew_geom r s b o d m (by simpa using hr) _).mono ?_
    rintro e W2 ⟨rfl, b2⟩
    have HZ : Hid (Below w.heap.size w W2) := (HP.out.next b2).n
    clear HP hg b2
    go_wp2
    go_ret
    exact ⟨rfl, by first | exact HZ.out | (rw [hA] at HZ; exact HZ.out)⟩
  by_cases hk : 0 < k
  case neg =>
    have hk0 : Md m 0 0 := by rcases HM.out with ⟨_, h, _⟩ | ⟨_, h, _⟩ | ⟨h1, h2, _⟩; omega; omega; exact Md.none m h1 h2
    refine (dNew_mode r s b o d m hr hk0 _).mono ?_
    rintro e W2 ⟨rfl, b2⟩
    have HZ : Hid (Below w.heap.size w W2) := (HP.out.next b2).n
    clear HP hg b2
    go_wp2
    go_ret
    exact ⟨rfl, by first | exact HZ.out | (rw [hA] at HZ; exact HZ.out)⟩
  refine (lwNew HP.out hr HM.out hk).mono ?_
  rintro e W2 ⟨B, M, rfl, h2⟩
  obtain ⟨lo, hlo⟩ : ∃ lo, W1.heap.size = lo := ⟨_, rfl⟩
  rw [hlo] at h2
  have HQ : Hid (Lq w [(A2, L), (A1, [.int .i64 p, .int .i64 q, .int .i64 u, .int .i64 v]), (A, [.int .i64 r, .int .i64 s, .int .i64 b, .int .i64 o, .int .i64 d])] [] lo B M r s b o d m 0 (fun _ _ => 0) 0 (fun _ _ => 0) W2) := h2.quiet
  clear h2 HP hg
  have hg : W2.rangeAt A 0 [.int .i64 r, .int .i64 s, .int .i64 b, .int .i64 o, .int .i64 d] := (HQ.out.ce (A, [.int .i64 r, .int .i64 s, .int .i64 b, .int .i64 o, .int .i64 d]) (by simp)).range
  have hp : W2.rangeAt A1 0 [.int .i64 p, .int .i64 q, .int .i64 u, .int .i64 v] := (HQ.out.ce (A1, [.int .i64 p, .int .i64 q, .int .i64 u, .int .i64 v]) (by simp)).range
  go_wp2_with (first
    | refine wpList_load_mid rfl 23 _ rfl A 0 rfl [.int .i64 r, .int .i64 s, .int .i64 b, .int .i64 o, .int .i64 d] _ hg Try.underlying23 rfl infoGm ?_
    | refine wpList_load_mid rfl 36 _ rfl A1 0 rfl [.int .i64 p, .int .i64 q, .int .i64 u, .int .i64 v] _ hp Try.underlying36 rfl info_place ?_)
  obtain ⟨i, f, hif, CI⟩ := index_any12 r s b o d p q u v
  refine (CI.out _).mono ?_
  rintro e W3 ⟨rfl, b3⟩
  replace HQ : Hid (Lq w [(A2, L), (A1, [.int .i64 p, .int .i64 q, .int .i64 u, .int .i64 v]), (A, [.int .i64 r, .int .i64 s, .int .i64 b, .int .i64 o, .int .i64 d])] [] lo B M r s b o d m 0 (fun _ _ => 0) 0 (fun _ _ => 0) W3) := HQ.out.next b3
  clear b3 CI hg hp
  rcases hif.out with ⟨hh, hi, rfl⟩ | ⟨hh, rfl, rfl⟩
  case inr =>
    have HZ : Hid (Below w.heap.size w W3) := HQ.out.bel
    clear HQ
    go_wp2
    go_ret
    exact ⟨rfl, by first | exact HZ.out | (rw [hA] at HZ; exact HZ.out)⟩
  by_cases g0 : bit < 0
  · have HZ : Hid (Below w.heap.size w W3) := HQ.out.bel
    have HG : Hid (hd r s b o d p q u v = true) := hh
    clear HQ hh hi
    go_wp2
    go_ret
    exact ⟨rfl, by first | exact HZ.out | (rw [hA] at HZ; exact HZ.out)⟩
  by_cases g1 : bit > 575
  · have HZ : Hid (Below w.heap.size w W3) := HQ.out.bel
    have HG : Hid (hd r s b o d p q u v = true) := hh
    clear HQ hh hi
    go_wp2
    go_ret
    exact ⟨rfl, by first | exact HZ.out | (rw [hA] at HZ; exact HZ.out)⟩
  by_cases g2 : y < 0
  · have HZ : Hid (Below w.heap.size w W3) := HQ.out.bel
    have HG : Hid (hd r s b o d p q u v = true) := hh
    clear HQ hh hi
    go_wp2
    go_ret
    exact ⟨rfl, by first | exact HZ.out | (rw [hA] at HZ; exact HZ.out)⟩
  by_cases g3 : y > 1
  · have HZ : Hid (Below w.heap.size w W3) := HQ.out.bel
    have HG : Hid (hd r s b o d p q u v = true) := hh
    clear HQ hh hi
    go_wp2
    go_ret
    exact ⟨rfl, by first | exact HZ.out | (rw [hA] at HZ; exact HZ.out)⟩
  obtain ⟨x, rfl⟩ := Int.eq_ofNat_of_zero_le (show 0 ≤ bit by omega)
  have hxb : x < 576 := by omega
  have hx9 : hx r s b o d i = true := by rw [hi]; exact hx_ix hh
  have hpb := hd_bounds hh
  have eix : ix p q u v = i := hi.symm
  have e0 : i / 1048576 = p := by rw [hi]; unfold ix; omega
  have e1 : i / 65536 % 16 = q := by rw [hi]; unfold ix; omega
  have e2 : i / 64 % 1024 = u := by rw [hi]; unfold ix; omega
  have e3 : i % 64 = v := by rw [hi]; unfold ix; omega
  have hF := HF.out
  have hr1 : rtF k (hd r s b o d p q u v) 1 p q u v 0 (x : Int) 0 = true := by unfold rtF; rw [hh]; simp only [Bool.true_and, decide_eq_true_eq]; unfold rtP kOk; omega
  have hr2 : rtF k (hd r s b o d p q u v) 2 p q u v 0 (x : Int) y = true := by unfold rtF; rw [hh]; simp only [Bool.true_and, decide_eq_true_eq]; unfold rtP kOk; omega
  have hw1 : ∀ j, j < 8 → (Lit.int .i64 (ffn 1 p q u v 0 (x : Int) 0 j)).wf = true := ffn_wf12 (by unfold I64; omega) (by unfold I64; omega) (by unfold I64; omega) (by unfold I64; omega) (by unfold I64; omega) (by unfold I64; omega) (by unfold I64; omega) (by unfold I64; omega)
  have hw2 : ∀ j, j < 8 → (Lit.int .i64 (ffn 2 p q u v 0 (x : Int) y j)).wf = true := ffn_wf12 (by unfold I64; omega) (by unfold I64; omega) (by unfold I64; omega) (by unfold I64; omega) (by unfold I64; omega) (by unfold I64; omega) (by unfold I64; omega) (by unfold I64; omega)
  have eL := HL.out
  have hm := HM.out
  obtain ⟨G1, hG1⟩ : ∃ G1, gput (fun _ _ => 0) i F = G1 := ⟨_, rfl⟩
  have v1 : G1 i = F := by rw [← hG1, gput_same]
  obtain ⟨F2, hF2⟩ : ∃ F2, flR F x = F2 := ⟨_, rfl⟩
  obtain ⟨G2, hG2⟩ : ∃ G2, gput G1 i (flR (G1 i) x) = G2 := ⟨_, rfl⟩
  have v2 : G2 i = F2 := by rw [← hG2, gput_same, v1, hF2]
  obtain ⟨F3, hF3⟩ : ∃ F3, flR F2 x = F3 := ⟨_, rfl⟩
  obtain ⟨G3, hG3⟩ : ∃ G3, gput G2 i (flR (G2 i) x) = G3 := ⟨_, rfl⟩
  have v3 : G3 i = F3 := by rw [← hG3, gput_same, v2, hF3]
  obtain ⟨G4, hG4⟩ : ∃ G4, gput G3 i (flR (G3 i) x) = G4 := ⟨_, rfl⟩
  obtain ⟨G5x, hG5⟩ : ∃ G9, gput G4 i F = G9 := ⟨_, rfl⟩
  have v5 : G5x i = F := by rw [← hG5, gput_same]
  obtain ⟨Y1, hY1⟩ : ∃ Y1, snZ (fun _ _ => 0) 0 (ffn 2 p q u v 0 (x : Int) y) = Y1 := ⟨_, rfl⟩
  obtain ⟨G6, hG6⟩ : ∃ G6, gput G5x i F = G6 := ⟨_, rfl⟩
  have v6 : G6 i = F := by rw [← hG6, gput_same]
  obtain ⟨F4, hF4⟩ : ∃ F4, frc F (x : Int) y = F4 := ⟨_, rfl⟩
  have vo : ovF k Y1 p q u v F 1 = F4 := by
    rw [← hF4, ← hY1]
    show apF k 2 p q u v 0 (x : Int) y p q u v F = _
    unfold apF
    rw [if_pos ⟨by decide, by simp [lz, nw, ls]⟩, if_pos rfl]
  obtain ⟨L2, hL2⟩ : ∃ L, ints .u8 72 F2 = L := ⟨_, rfl⟩
  obtain ⟨L3, hL3⟩ : ∃ L, ints .u8 72 F3 = L := ⟨_, rfl⟩
  obtain ⟨L4, hL4⟩ : ∃ L, ints .u8 72 F4 = L := ⟨_, rfl⟩
  have ll2 : L2.length = 72 := by rw [← hL2]; exact ints_len _ _ _
  have ll3 : L3.length = 72 := by rw [← hL3]; exact ints_len _ _ _
  have ll4 : L4.length = 72 := by rw [← hL4]; exact ints_len _ _ _
  have CW1 : Hid (∀ (W : World) (ls : List (Nat × List Value)), Lq w [(A2, L), (A1, [.int .i64 p, .int .i64 q, .int .i64 u, .int .i64 v]), (A, [.int .i64 r, .int .i64 s, .int .i64 b, .int .i64 o, .int .i64 d])] ls lo B M r s b o d m 0 (fun _ _ => 0) 0 (fun _ _ => 0) W → Calls Try.prog 20 #[.pointer (some ⟨B, 0, none⟩), .int .i64 i, .agg L.toArray] W fun e w' => e = .returned (.tuple #[.agg #[.int .i64 i, .bool false], .int .i64 0]) ∧ Lq w [(A2, L), (A1, [.int .i64 p, .int .i64 q, .int .i64 u, .int .i64 v]), (A, [.int .i64 r, .int .i64 s, .int .i64 b, .int .i64 o, .int .i64 d])] ls lo B M r s b o d m 1 G1 0 (fun _ _ => 0) w') := fun W ls h => by
    have := lqWrite h i F hF (by omega) hx9
    rw [hG1] at this
    unfold rawV at this
    rwa [eL] at this
  have CI1 : Hid (∀ (W : World) (ls : List (Nat × List Value)), Lq w [(A2, L), (A1, [.int .i64 p, .int .i64 q, .int .i64 u, .int .i64 v]), (A, [.int .i64 r, .int .i64 s, .int .i64 b, .int .i64 o, .int .i64 d])] ls lo B M r s b o d m 1 G1 0 (fun _ _ => 0) W → Calls Try.prog 23 #[.pointer (some ⟨B, 0, none⟩), .agg #[.int .i64 1, .int .i64 p, .int .i64 q, .int .i64 u, .int .i64 v, .int .i64 0, .int .i64 (x : Int), .int .i64 0]] W fun e w' => e = .returned (.int .i64 0) ∧ Lq w [(A2, L), (A1, [.int .i64 p, .int .i64 q, .int .i64 u, .int .i64 v]), (A, [.int .i64 r, .int .i64 s, .int .i64 b, .int .i64 o, .int .i64 d])] ls lo B M r s b o d m 2 G2 0 (fun _ _ => 0) w') := fun W ls h => by
    have := lqFlip h hm p q u v 0 x 0 hw1 (by omega) hr1
    rwa [eix, hG2] at this
  have CL1 : Hid (∀ (W : World) (ls : List (Nat × List Value)), Lq w [(A2, L), (A1, [.int .i64 p, .int .i64 q, .int .i64 u, .int .i64 v]), (A, [.int .i64 r, .int .i64 s, .int .i64 b, .int .i64 o, .int .i64 d])] ls lo B M r s b o d m 2 G2 0 (fun _ _ => 0) W → Calls Try.prog 17 #[.pointer (some ⟨B, 0, none⟩), .int .i64 i] W fun e w' => e = .returned (.tuple #[.agg L2.toArray, .int .i64 0]) ∧ Lq w [(A2, L), (A1, [.int .i64 p, .int .i64 q, .int .i64 u, .int .i64 v]), (A, [.int .i64 r, .int .i64 s, .int .i64 b, .int .i64 o, .int .i64 d])] ls lo B M r s b o d m 2 G2 0 (fun _ _ => 0) w') := fun W ls h => by
    have := lqLook h hm i hx9
    rw [e0, e1, e2, e3] at this
    unfold rawV at this
    rwa [show ovF k (fun _ _ => 0) p q u v (G2 i) 0 = G2 i from rfl, v2, hL2] at this
  have CI2 : Hid (∀ (W : World) (ls : List (Nat × List Value)), Lq w [(A2, L), (A1, [.int .i64 p, .int .i64 q, .int .i64 u, .int .i64 v]), (A, [.int .i64 r, .int .i64 s, .int .i64 b, .int .i64 o, .int .i64 d])] ls lo B M r s b o d m 2 G2 0 (fun _ _ => 0) W → Calls Try.prog 23 #[.pointer (some ⟨B, 0, none⟩), .agg #[.int .i64 1, .int .i64 p, .int .i64 q, .int .i64 u, .int .i64 v, .int .i64 0, .int .i64 (x : Int), .int .i64 0]] W fun e w' => e = .returned (.int .i64 0) ∧ Lq w [(A2, L), (A1, [.int .i64 p, .int .i64 q, .int .i64 u, .int .i64 v]), (A, [.int .i64 r, .int .i64 s, .int .i64 b, .int .i64 o, .int .i64 d])] ls lo B M r s b o d m 3 G3 0 (fun _ _ => 0) w') := fun W ls h => by
    have := lqFlip h hm p q u v 0 x 0 hw1 (by omega) hr1
    rwa [eix, hG3] at this
  have CL2 : Hid (∀ (W : World) (ls : List (Nat × List Value)), Lq w [(A2, L), (A1, [.int .i64 p, .int .i64 q, .int .i64 u, .int .i64 v]), (A, [.int .i64 r, .int .i64 s, .int .i64 b, .int .i64 o, .int .i64 d])] ls lo B M r s b o d m 3 G3 0 (fun _ _ => 0) W → Calls Try.prog 17 #[.pointer (some ⟨B, 0, none⟩), .int .i64 i] W fun e w' => e = .returned (.tuple #[.agg L3.toArray, .int .i64 0]) ∧ Lq w [(A2, L), (A1, [.int .i64 p, .int .i64 q, .int .i64 u, .int .i64 v]), (A, [.int .i64 r, .int .i64 s, .int .i64 b, .int .i64 o, .int .i64 d])] ls lo B M r s b o d m 3 G3 0 (fun _ _ => 0) w') := fun W ls h => by
    have := lqLook h hm i hx9
    rw [e0, e1, e2, e3] at this
    unfold rawV at this
    rwa [show ovF k (fun _ _ => 0) p q u v (G3 i) 0 = G3 i from rfl, v3, hL3] at this
  have CI3 : Hid (∀ (W : World) (ls : List (Nat × List Value)), Lq w [(A2, L), (A1, [.int .i64 p, .int .i64 q, .int .i64 u, .int .i64 v]), (A, [.int .i64 r, .int .i64 s, .int .i64 b, .int .i64 o, .int .i64 d])] ls lo B M r s b o d m 3 G3 0 (fun _ _ => 0) W → Calls Try.prog 23 #[.pointer (some ⟨B, 0, none⟩), .agg #[.int .i64 1, .int .i64 p, .int .i64 q, .int .i64 u, .int .i64 v, .int .i64 0, .int .i64 (x : Int), .int .i64 0]] W fun e w' => e = .returned (.int .i64 0) ∧ Lq w [(A2, L), (A1, [.int .i64 p, .int .i64 q, .int .i64 u, .int .i64 v]), (A, [.int .i64 r, .int .i64 s, .int .i64 b, .int .i64 o, .int .i64 d])] ls lo B M r s b o d m 4 G4 0 (fun _ _ => 0) w') := fun W ls h => by
    have := lqFlip h hm p q u v 0 x 0 hw1 (by omega) hr1
    rwa [eix, hG4] at this
  have CW2 : Hid (∀ (W : World) (ls : List (Nat × List Value)), Lq w [(A2, L), (A1, [.int .i64 p, .int .i64 q, .int .i64 u, .int .i64 v]), (A, [.int .i64 r, .int .i64 s, .int .i64 b, .int .i64 o, .int .i64 d])] ls lo B M r s b o d m 4 G4 0 (fun _ _ => 0) W → Calls Try.prog 20 #[.pointer (some ⟨B, 0, none⟩), .int .i64 i, .agg L.toArray] W fun e w' => e = .returned (.tuple #[.agg #[.int .i64 i, .bool false], .int .i64 0]) ∧ Lq w [(A2, L), (A1, [.int .i64 p, .int .i64 q, .int .i64 u, .int .i64 v]), (A, [.int .i64 r, .int .i64 s, .int .i64 b, .int .i64 o, .int .i64 d])] ls lo B M r s b o d m 5 G5x 0 (fun _ _ => 0) w') := fun W ls h => by
    have := lqWrite h i F hF (by omega) hx9
    rw [hG5] at this
    unfold rawV at this
    rwa [eL] at this
  have CL3 : Hid (∀ (W : World) (ls : List (Nat × List Value)), Lq w [(A2, L), (A1, [.int .i64 p, .int .i64 q, .int .i64 u, .int .i64 v]), (A, [.int .i64 r, .int .i64 s, .int .i64 b, .int .i64 o, .int .i64 d])] ls lo B M r s b o d m 5 G5x 0 (fun _ _ => 0) W → Calls Try.prog 17 #[.pointer (some ⟨B, 0, none⟩), .int .i64 i] W fun e w' => e = .returned (.tuple #[.agg L.toArray, .int .i64 0]) ∧ Lq w [(A2, L), (A1, [.int .i64 p, .int .i64 q, .int .i64 u, .int .i64 v]), (A, [.int .i64 r, .int .i64 s, .int .i64 b, .int .i64 o, .int .i64 d])] ls lo B M r s b o d m 5 G5x 0 (fun _ _ => 0) w') := fun W ls h => by
    have := lqLook h hm i hx9
    rw [e0, e1, e2, e3] at this
    unfold rawV at this
    rwa [show ovF k (fun _ _ => 0) p q u v (G5x i) 0 = G5x i from rfl, v5, eL] at this
  have CS : Hid (∀ (W : World) (ls : List (Nat × List Value)), Lq w [(A2, L), (A1, [.int .i64 p, .int .i64 q, .int .i64 u, .int .i64 v]), (A, [.int .i64 r, .int .i64 s, .int .i64 b, .int .i64 o, .int .i64 d])] ls lo B M r s b o d m 5 G5x 0 (fun _ _ => 0) W → Calls Try.prog 23 #[.pointer (some ⟨B, 0, none⟩), .agg #[.int .i64 2, .int .i64 p, .int .i64 q, .int .i64 u, .int .i64 v, .int .i64 0, .int .i64 (x : Int), .int .i64 y]] W fun e w' => e = .returned (.int .i64 0) ∧ Lq w [(A2, L), (A1, [.int .i64 p, .int .i64 q, .int .i64 u, .int .i64 v]), (A, [.int .i64 r, .int .i64 s, .int .i64 b, .int .i64 o, .int .i64 d])] ls lo B M r s b o d m 5 G5x 1 Y1 w') := fun W ls h => by
    have := lqLast h hm 2 p q u v 0 (x : Int) y hw2 (by omega) (by decide) (by omega) hr2
    rwa [hY1] at this
  have CW3 : Hid (∀ (W : World) (ls : List (Nat × List Value)), Lq w [(A2, L), (A1, [.int .i64 p, .int .i64 q, .int .i64 u, .int .i64 v]), (A, [.int .i64 r, .int .i64 s, .int .i64 b, .int .i64 o, .int .i64 d])] ls lo B M r s b o d m 5 G5x 1 Y1 W → Calls Try.prog 20 #[.pointer (some ⟨B, 0, none⟩), .int .i64 i, .agg L.toArray] W fun e w' => e = .returned (.tuple #[.agg #[.int .i64 i, .bool false], .int .i64 0]) ∧ Lq w [(A2, L), (A1, [.int .i64 p, .int .i64 q, .int .i64 u, .int .i64 v]), (A, [.int .i64 r, .int .i64 s, .int .i64 b, .int .i64 o, .int .i64 d])] ls lo B M r s b o d m 6 G6 1 Y1 w') := fun W ls h => by
    have := lqWrite h i F hF (by omega) hx9
    rw [hG6] at this
    unfold rawV at this
    rwa [eL] at this
  have CL4 : Hid (∀ (W : World) (ls : List (Nat × List Value)), Lq w [(A2, L), (A1, [.int .i64 p, .int .i64 q, .int .i64 u, .int .i64 v]), (A, [.int .i64 r, .int .i64 s, .int .i64 b, .int .i64 o, .int .i64 d])] ls lo B M r s b o d m 6 G6 1 Y1 W → Calls Try.prog 17 #[.pointer (some ⟨B, 0, none⟩), .int .i64 i] W fun e w' => e = .returned (.tuple #[.agg L4.toArray, .int .i64 0]) ∧ Lq w [(A2, L), (A1, [.int .i64 p, .int .i64 q, .int .i64 u, .int .i64 v]), (A, [.int .i64 r, .int .i64 s, .int .i64 b, .int .i64 o, .int .i64 d])] ls lo B M r s b o d m 6 G6 1 Y1 w') := fun W ls h => by
    have := lqLook h hm i hx9
    rw [e0, e1, e2, e3] at this
    unfold rawV at this
    rwa [v6, vo, hL4] at this
  have CE : Hid (∀ w : World, Calls Try.prog 24 #[.int .i64 1, .agg L2.toArray, .agg L.toArray] w fun e w' => e = .returned (.int .i64 1) ∧ Below w.heap.size w w') := fun w => by
    have := refExposure_any .bits (flR F x) F (flR_byt F hF x) hF w
    rw [ex_flip12 .bits (by omega) F hF x hxb, hF2, hL2, eL] at this
    exact this
  have CO : Hid (∀ w : World, Calls Try.prog 25 #[.agg L.toArray, .int .i64 (x : Int), .int .i64 y] w fun e w' => e = .returned (.agg L4.toArray) ∧ Below w.heap.size w w') := fun w => by
    have := refForce11_any F hF (x : Int) y w
    rwa [hF4, hL4, eL] at this
  have Q1 : Hid (∀ w, (binOp .eql 40 (.agg L3.toArray) (.agg L.toArray)).run Try.prog w = .ok (.bool true) w) := fun w => by
    rw [← hL3, ← eL, ← hF3, ← hF2]
    exact eqlR _ _ (flR_byt _ (flR_byt F hF x) x) hF true (by simp only [true_iff]; exact fun j hj => flR_twice F hF x j hj) w
  have Q2 : Hid (∀ w, (binOp .eql 40 (.agg L.toArray) (.agg L.toArray)).run Try.prog w = .ok (.bool true) w) := fun w => by
    rw [← eL]
    exact eqlR F F hF hF true (by simp) w
  have Q3 : Hid (∀ w, (binOp .eql 39 (.agg L4.toArray) (.agg L4.toArray)).run Try.prog w = .ok (.bool true) w) := fun w => by
    rw [← hL4, ← hF4]
    have hb := frc_byt12 F hF p q u v (x : Int) y
    exact eql_ints 39 72 Try.underlying39 _ _ hb hb true (by simp) w
  have hz := zeroR
  obtain ⟨T0, hT0⟩ : ∃ Z, (ints .u8 72 fun _ => 0) = Z := ⟨_, rfl⟩
  have lt0 : T0.length = 72 := by rw [← hT0]; exact ints_len _ _ _
  rw [hT0] at hz
  have I72 : Hid ((Try.prog.info? 40).map (·.size) = some 72) := infoR
  have ON : Hid ((∀ v ∈ L2, v.oneCell' = true) ∧ (∀ v ∈ L3, v.oneCell' = true) ∧ (∀ v ∈ L, v.oneCell' = true) ∧ ∀ v ∈ L4, v.oneCell' = true) := by
    rw [← hL2, ← hL3, ← eL, ← hL4]
    exact ⟨ints_one' _ _ _, ints_one' _ _ _, ints_one' _ _ _, ints_one' _ _ _⟩
  have iL : (Try.prog.info? 40).map (·.size) = some L.length := by rw [ll]; exact infoR
  have g4 : ¬ (y > 1) := g3
  have gx : ¬ ((x : Int) > 575) := by omega
  have gx2 : ¬ ((x : Int) < 0) := by omega
  clear hT0 vo v1 v2 v3 v5 v6 hG1 hG2 hG3 hG4 hG5 hG6 hY1 hF2 hF3 hF4 hL2 hL3 hL4 hm eL hw1 hw2 hr1 hr2 hF e0 e1 e2 e3 hpb hx9 hi eix hh hxb HL HF hk hr HM
  have hp : W3.rangeAt A1 0 [.int .i64 p, .int .i64 q, .int .i64 u, .int .i64 v] := (HQ.out.ce (A1, [.int .i64 p, .int .i64 q, .int .i64 u, .int .i64 v]) (by simp)).range
  go_upto_region 10 with (first
    | refine wpList_load_mid rfl 36 _ rfl A1 0 rfl [.int .i64 p, .int .i64 q, .int .i64 u, .int .i64 v] _ hp Try.underlying36 rfl info_place ?_)
  obtain ⟨K, hK⟩ : ∃ K, W3.heap.size = K := ⟨_, rfl⟩
  obtain ⟨W4, hW4⟩ : ∃ W, W3.alloc (.cells #[.int .i64 1, .int .i64 p, .int .i64 q, .int .i64 u, .int .i64 v, .int .i64 0, .int .i64 (x : Int), .int .i64 0] 38) = W := ⟨_, rfl⟩
  replace HQ : Hid (Lq w [(A2, L), (A1, [.int .i64 p, .int .i64 q, .int .i64 u, .int .i64 v]), (A, [.int .i64 r, .int .i64 s, .int .i64 b, .int .i64 o, .int .i64 d])] [(K, [.int .i64 1, .int .i64 p, .int .i64 q, .int .i64 u, .int .i64 v, .int .i64 0, .int .i64 (x : Int), .int .i64 0])] lo B M r s b o d m 0 (fun _ _ => 0) 0 (fun _ _ => 0) W4) := by
    have h9 := HQ.out.lay [.int .i64 1, .int .i64 p, .int .i64 q, .int .i64 u, .int .i64 v, .int .i64 0, .int .i64 (x : Int), .int .i64 0] 38
    rw [hK] at h9
    rw [← hW4]
    exact h9
  rw [hW4, hK]
  clear hW4 hp hK
  have hx : W4.rangeAt A2 0 L := (HQ.out.ce (A2, L) (by simp)).range
  go_wp2_with (first | refine wpList_load_mid rfl 40 _ rfl A2 0 rfl L _ hx Try.underlying40 rfl iL ?_)
  refine (CW1.out _ _ HQ.out).mono ?_
  rintro e W5 ⟨rfl, h9⟩
  replace HQ : Hid (Lq w [(A2, L), (A1, [.int .i64 p, .int .i64 q, .int .i64 u, .int .i64 v]), (A, [.int .i64 r, .int .i64 s, .int .i64 b, .int .i64 o, .int .i64 d])] [(K, [.int .i64 1, .int .i64 p, .int .i64 q, .int .i64 u, .int .i64 v, .int .i64 0, .int .i64 (x : Int), .int .i64 0])] lo B M r s b o d m 1 G1 0 (fun _ _ => 0) W5) := h9
  clear h9 CW1 hx
  have hx : W5.rangeAt K 0 [.int .i64 1, .int .i64 p, .int .i64 q, .int .i64 u, .int .i64 v, .int .i64 0, .int .i64 (x : Int), .int .i64 0] := (HQ.out.cl (K, [.int .i64 1, .int .i64 p, .int .i64 q, .int .i64 u, .int .i64 v, .int .i64 0, .int .i64 (x : Int), .int .i64 0]) (by simp)).range
  go_wp2_with (first | refine wpList_load_mid rfl 38 _ rfl K 0 rfl [.int .i64 1, .int .i64 p, .int .i64 q, .int .i64 u, .int .i64 v, .int .i64 0, .int .i64 (x : Int), .int .i64 0] _ hx Try.underlying38 rfl infoFt ?_)
  refine (CI1.out _ _ HQ.out).mono ?_
  rintro e W6 ⟨rfl, h9⟩
  replace HQ : Hid (Lq w [(A2, L), (A1, [.int .i64 p, .int .i64 q, .int .i64 u, .int .i64 v]), (A, [.int .i64 r, .int .i64 s, .int .i64 b, .int .i64 o, .int .i64 d])] [(K, [.int .i64 1, .int .i64 p, .int .i64 q, .int .i64 u, .int .i64 v, .int .i64 0, .int .i64 (x : Int), .int .i64 0])] lo B M r s b o d m 2 G2 0 (fun _ _ => 0) W6) := h9
  clear h9 CI1 hx
  go_wp2_with fail
  refine (CL1.out _ _ HQ.out).mono ?_
  rintro e W7 ⟨rfl, h9⟩
  replace HQ : Hid (Lq w [(A2, L), (A1, [.int .i64 p, .int .i64 q, .int .i64 u, .int .i64 v]), (A, [.int .i64 r, .int .i64 s, .int .i64 b, .int .i64 o, .int .i64 d])] [(K, [.int .i64 1, .int .i64 p, .int .i64 q, .int .i64 u, .int .i64 v, .int .i64 0, .int .i64 (x : Int), .int .i64 0])] lo B M r s b o d m 2 G2 0 (fun _ _ => 0) W7) := h9
  clear h9 CL1
  obtain ⟨h9, ht⟩ := HQ.out.layA L2 T0 40 (by rw [ll2, lt0])
  obtain ⟨R1, hR1⟩ : ∃ R, W7.heap.size = R := ⟨_, rfl⟩
  rw [hR1] at h9 ht
  have iX : (Try.prog.info? 40).map (·.size) = some L2.toArray.size := by rw [List.size_toArray, ll2]; exact I72.out
  have one1 : L2.toArray.all (·.oneCell') = true := all_oneCell_toArray ON.out.1
  go_upto_region 13 with (first | refine wpList_store_mid rfl 40 _ _ rfl R1 0 L2.toArray rfl rfl ht iX one1 ?_)
  obtain ⟨W8, hWz⟩ : ∃ W, (W7.alloc (.cells T0.toArray 40)).setCells R1 0 L2 = W := ⟨_, rfl⟩
  replace HQ : Hid (Lq w [(A2, L), (A1, [.int .i64 p, .int .i64 q, .int .i64 u, .int .i64 v]), (A, [.int .i64 r, .int .i64 s, .int .i64 b, .int .i64 o, .int .i64 d])] [(R1, L2), (K, [.int .i64 1, .int .i64 p, .int .i64 q, .int .i64 u, .int .i64 v, .int .i64 0, .int .i64 (x : Int), .int .i64 0])] lo B M r s b o d m 2 G2 0 (fun _ _ => 0) W8) := by rw [← hWz]; exact h9
  rw [hWz]
  clear hWz h9 ht hR1 iX one1
  have hx : W8.rangeAt K 0 [.int .i64 1, .int .i64 p, .int .i64 q, .int .i64 u, .int .i64 v, .int .i64 0, .int .i64 (x : Int), .int .i64 0] := (HQ.out.cl (K, [.int .i64 1, .int .i64 p, .int .i64 q, .int .i64 u, .int .i64 v, .int .i64 0, .int .i64 (x : Int), .int .i64 0]) (by simp)).range
  go_wp2_with (first | refine wpList_load_mid rfl 38 _ rfl K 0 rfl [.int .i64 1, .int .i64 p, .int .i64 q, .int .i64 u, .int .i64 v, .int .i64 0, .int .i64 (x : Int), .int .i64 0] _ hx Try.underlying38 rfl infoFt ?_)
  refine (CI2.out _ _ HQ.out).mono ?_
  rintro e W9 ⟨rfl, h9⟩
  replace HQ : Hid (Lq w [(A2, L), (A1, [.int .i64 p, .int .i64 q, .int .i64 u, .int .i64 v]), (A, [.int .i64 r, .int .i64 s, .int .i64 b, .int .i64 o, .int .i64 d])] [(R1, L2), (K, [.int .i64 1, .int .i64 p, .int .i64 q, .int .i64 u, .int .i64 v, .int .i64 0, .int .i64 (x : Int), .int .i64 0])] lo B M r s b o d m 3 G3 0 (fun _ _ => 0) W9) := h9
  clear h9 CI2 hx
  go_wp2_with fail
  refine (CL2.out _ _ HQ.out).mono ?_
  rintro e W10 ⟨rfl, h9⟩
  replace HQ : Hid (Lq w [(A2, L), (A1, [.int .i64 p, .int .i64 q, .int .i64 u, .int .i64 v]), (A, [.int .i64 r, .int .i64 s, .int .i64 b, .int .i64 o, .int .i64 d])] [(R1, L2), (K, [.int .i64 1, .int .i64 p, .int .i64 q, .int .i64 u, .int .i64 v, .int .i64 0, .int .i64 (x : Int), .int .i64 0])] lo B M r s b o d m 3 G3 0 (fun _ _ => 0) W10) := h9
  clear h9 CL2
  obtain ⟨h9, ht⟩ := HQ.out.layA L3 T0 40 (by rw [ll3, lt0])
  obtain ⟨R2, hR2⟩ : ∃ R, W10.heap.size = R := ⟨_, rfl⟩
  rw [hR2] at h9 ht
  have iX : (Try.prog.info? 40).map (·.size) = some L3.toArray.size := by rw [List.size_toArray, ll3]; exact I72.out
  have one1 : L3.toArray.all (·.oneCell') = true := all_oneCell_toArray ON.out.2.1
  go_upto_region 15 with (first | refine wpList_store_mid rfl 40 _ _ rfl R2 0 L3.toArray rfl rfl ht iX one1 ?_)
  obtain ⟨W11, hWz⟩ : ∃ W, (W10.alloc (.cells T0.toArray 40)).setCells R2 0 L3 = W := ⟨_, rfl⟩
  replace HQ : Hid (Lq w [(A2, L), (A1, [.int .i64 p, .int .i64 q, .int .i64 u, .int .i64 v]), (A, [.int .i64 r, .int .i64 s, .int .i64 b, .int .i64 o, .int .i64 d])] [(R2, L3), (R1, L2), (K, [.int .i64 1, .int .i64 p, .int .i64 q, .int .i64 u, .int .i64 v, .int .i64 0, .int .i64 (x : Int), .int .i64 0])] lo B M r s b o d m 3 G3 0 (fun _ _ => 0) W11) := by rw [← hWz]; exact h9
  rw [hWz]
  clear hWz h9 ht hR2 iX one1
  have hx : W11.rangeAt K 0 [.int .i64 1, .int .i64 p, .int .i64 q, .int .i64 u, .int .i64 v, .int .i64 0, .int .i64 (x : Int), .int .i64 0] := (HQ.out.cl (K, [.int .i64 1, .int .i64 p, .int .i64 q, .int .i64 u, .int .i64 v, .int .i64 0, .int .i64 (x : Int), .int .i64 0]) (by simp)).range
  go_wp2_with (first | refine wpList_load_mid rfl 38 _ rfl K 0 rfl [.int .i64 1, .int .i64 p, .int .i64 q, .int .i64 u, .int .i64 v, .int .i64 0, .int .i64 (x : Int), .int .i64 0] _ hx Try.underlying38 rfl infoFt ?_)
  refine (CI3.out _ _ HQ.out).mono ?_
  rintro e W12 ⟨rfl, h9⟩
  replace HQ : Hid (Lq w [(A2, L), (A1, [.int .i64 p, .int .i64 q, .int .i64 u, .int .i64 v]), (A, [.int .i64 r, .int .i64 s, .int .i64 b, .int .i64 o, .int .i64 d])] [(R2, L3), (R1, L2), (K, [.int .i64 1, .int .i64 p, .int .i64 q, .int .i64 u, .int .i64 v, .int .i64 0, .int .i64 (x : Int), .int .i64 0])] lo B M r s b o d m 4 G4 0 (fun _ _ => 0) W12) := h9
  clear h9 CI3 hx
  have hx : W12.rangeAt A2 0 L := (HQ.out.ce (A2, L) (by simp)).range
  go_wp2_with (first | refine wpList_load_mid rfl 40 _ rfl A2 0 rfl L _ hx Try.underlying40 rfl iL ?_)
  refine (CW2.out _ _ HQ.out).mono ?_
  rintro e W13 ⟨rfl, h9⟩
  replace HQ : Hid (Lq w [(A2, L), (A1, [.int .i64 p, .int .i64 q, .int .i64 u, .int .i64 v]), (A, [.int .i64 r, .int .i64 s, .int .i64 b, .int .i64 o, .int .i64 d])] [(R2, L3), (R1, L2), (K, [.int .i64 1, .int .i64 p, .int .i64 q, .int .i64 u, .int .i64 v, .int .i64 0, .int .i64 (x : Int), .int .i64 0])] lo B M r s b o d m 5 G5x 0 (fun _ _ => 0) W13) := h9
  clear h9 CW2 hx
  go_wp2_with fail
  refine (CL3.out _ _ HQ.out).mono ?_
  rintro e W14 ⟨rfl, h9⟩
  replace HQ : Hid (Lq w [(A2, L), (A1, [.int .i64 p, .int .i64 q, .int .i64 u, .int .i64 v]), (A, [.int .i64 r, .int .i64 s, .int .i64 b, .int .i64 o, .int .i64 d])] [(R2, L3), (R1, L2), (K, [.int .i64 1, .int .i64 p, .int .i64 q, .int .i64 u, .int .i64 v, .int .i64 0, .int .i64 (x : Int), .int .i64 0])] lo B M r s b o d m 5 G5x 0 (fun _ _ => 0) W14) := h9
  clear h9 CL3
  obtain ⟨h9, ht⟩ := HQ.out.layA L T0 40 (by rw [ll, lt0])
  obtain ⟨R3, hR3⟩ : ∃ R, W14.heap.size = R := ⟨_, rfl⟩
  rw [hR3] at h9 ht
  have iX : (Try.prog.info? 40).map (·.size) = some L.toArray.size := by rw [List.size_toArray, ll]; exact I72.out
  have one1 : L.toArray.all (·.oneCell') = true := all_oneCell_toArray ON.out.2.2.1
  go_upto_region 18 with (first | refine wpList_store_mid rfl 40 _ _ rfl R3 0 L.toArray rfl rfl ht iX one1 ?_)
  obtain ⟨W15, hWz⟩ : ∃ W, (W14.alloc (.cells T0.toArray 40)).setCells R3 0 L = W := ⟨_, rfl⟩
  replace HQ : Hid (Lq w [(A2, L), (A1, [.int .i64 p, .int .i64 q, .int .i64 u, .int .i64 v]), (A, [.int .i64 r, .int .i64 s, .int .i64 b, .int .i64 o, .int .i64 d])] [(R3, L), (R2, L3), (R1, L2), (K, [.int .i64 1, .int .i64 p, .int .i64 q, .int .i64 u, .int .i64 v, .int .i64 0, .int .i64 (x : Int), .int .i64 0])] lo B M r s b o d m 5 G5x 0 (fun _ _ => 0) W15) := by rw [← hWz]; exact h9
  rw [hWz]
  clear hWz h9 ht hR3 iX one1
  have hx : W15.rangeAt A1 0 [.int .i64 p, .int .i64 q, .int .i64 u, .int .i64 v] := (HQ.out.ce (A1, [.int .i64 p, .int .i64 q, .int .i64 u, .int .i64 v]) (by simp)).range
  go_wp2_with (first | refine wpList_load_mid rfl 36 _ rfl A1 0 rfl [.int .i64 p, .int .i64 q, .int .i64 u, .int .i64 v] _ hx Try.underlying36 rfl info_place ?_)
  refine (CS.out _ _ HQ.out).mono ?_
  rintro e W16 ⟨rfl, h9⟩
  replace HQ : Hid (Lq w [(A2, L), (A1, [.int .i64 p, .int .i64 q, .int .i64 u, .int .i64 v]), (A, [.int .i64 r, .int .i64 s, .int .i64 b, .int .i64 o, .int .i64 d])] [(R3, L), (R2, L3), (R1, L2), (K, [.int .i64 1, .int .i64 p, .int .i64 q, .int .i64 u, .int .i64 v, .int .i64 0, .int .i64 (x : Int), .int .i64 0])] lo B M r s b o d m 5 G5x 1 Y1 W16) := h9
  clear h9 CS hx
  have hx : W16.rangeAt A2 0 L := (HQ.out.ce (A2, L) (by simp)).range
  go_wp2_with (first | refine wpList_load_mid rfl 40 _ rfl A2 0 rfl L _ hx Try.underlying40 rfl iL ?_)
  refine (CW3.out _ _ HQ.out).mono ?_
  rintro e W17 ⟨rfl, h9⟩
  replace HQ : Hid (Lq w [(A2, L), (A1, [.int .i64 p, .int .i64 q, .int .i64 u, .int .i64 v]), (A, [.int .i64 r, .int .i64 s, .int .i64 b, .int .i64 o, .int .i64 d])] [(R3, L), (R2, L3), (R1, L2), (K, [.int .i64 1, .int .i64 p, .int .i64 q, .int .i64 u, .int .i64 v, .int .i64 0, .int .i64 (x : Int), .int .i64 0])] lo B M r s b o d m 6 G6 1 Y1 W17) := h9
  clear h9 CW3 hx
  go_wp2_with fail
  refine (CL4.out _ _ HQ.out).mono ?_
  rintro e W18 ⟨rfl, h9⟩
  replace HQ : Hid (Lq w [(A2, L), (A1, [.int .i64 p, .int .i64 q, .int .i64 u, .int .i64 v]), (A, [.int .i64 r, .int .i64 s, .int .i64 b, .int .i64 o, .int .i64 d])] [(R3, L), (R2, L3), (R1, L2), (K, [.int .i64 1, .int .i64 p, .int .i64 q, .int .i64 u, .int .i64 v, .int .i64 0, .int .i64 (x : Int), .int .i64 0])] lo B M r s b o d m 6 G6 1 Y1 W18) := h9
  clear h9 CL4
  obtain ⟨h9, ht⟩ := HQ.out.layA L4 T0 40 (by rw [ll4, lt0])
  obtain ⟨R4, hR4⟩ : ∃ R, W18.heap.size = R := ⟨_, rfl⟩
  rw [hR4] at h9 ht
  have iX : (Try.prog.info? 40).map (·.size) = some L4.toArray.size := by rw [List.size_toArray, ll4]; exact I72.out
  have one1 : L4.toArray.all (·.oneCell') = true := all_oneCell_toArray ON.out.2.2.2
  go_upto_region 21 with (first | refine wpList_store_mid rfl 40 _ _ rfl R4 0 L4.toArray rfl rfl ht iX one1 ?_)
  obtain ⟨W19, hWz⟩ : ∃ W, (W18.alloc (.cells T0.toArray 40)).setCells R4 0 L4 = W := ⟨_, rfl⟩
  replace HQ : Hid (Lq w [(A2, L), (A1, [.int .i64 p, .int .i64 q, .int .i64 u, .int .i64 v]), (A, [.int .i64 r, .int .i64 s, .int .i64 b, .int .i64 o, .int .i64 d])] [(R4, L4), (R3, L), (R2, L3), (R1, L2), (K, [.int .i64 1, .int .i64 p, .int .i64 q, .int .i64 u, .int .i64 v, .int .i64 0, .int .i64 (x : Int), .int .i64 0])] lo B M r s b o d m 6 G6 1 Y1 W19) := by rw [← hWz]; exact h9
  rw [hWz]
  clear hWz h9 ht hR4 iX one1
  refine region_calm (by kernel_rfl) (by kernel_rfl) (fun W => Below W19.heap.size W19 W) (below_drew1 W19) ?_
  intro U hU f hf hof
  have HN : Hid (∀ u W, Below (f u).heap.size (f u) W → ∃ x, W = f x) := fun u W h => hof W ((hf u).trans (h.mono (hf u).size))
  have HE : Hid (∀ y, Lq w [(A2, L), (A1, [.int .i64 p, .int .i64 q, .int .i64 u, .int .i64 v]), (A, [.int .i64 r, .int .i64 s, .int .i64 b, .int .i64 o, .int .i64 d])] [(R4, L4), (R3, L), (R2, L3), (R1, L2), (K, [.int .i64 1, .int .i64 p, .int .i64 q, .int .i64 u, .int .i64 v, .int .i64 0, .int .i64 (x : Int), .int .i64 0])] lo B M r s b o d m 6 G6 1 Y1 (f y)) := fun y => HQ.out.next (hf y)
  clear hf hof HQ
  refine quiet_load (by rfl) 40 _ rfl R1 0 rfl L2 _ (by rintro _ ⟨y, rfl⟩; exact ((HE.out y).cl (R1, L2) (by simp)).range) Try.underlying40 rfl (by rw [ll2]; exact I72.out) ?_
  simp only [Act.put, List.setIfInBounds_toArray, List.set_cons_zero, List.set_cons_succ]
  refine quiet_load (by rfl) 40 _ rfl A2 0 rfl L _ (by rintro _ ⟨y, rfl⟩; exact ((HE.out y).ce (A2, L) (by simp)).range) Try.underlying40 rfl (by rw [ll]; exact I72.out) ?_
  simp only [Act.put, List.setIfInBounds_toArray, List.set_cons_zero, List.set_cons_succ]
  go_big_quiet_step ((go_at_call 24; exact calm_next HN.out (CE.out _)))
  go_big_quiet_step (fail)
  go_big_quiet_step (fail)
  refine quiet_load (by rfl) 40 _ rfl R2 0 rfl L3 _ (by rintro _ ⟨y, rfl⟩; exact ((HE.out y).cl (R2, L3) (by simp)).range) Try.underlying40 rfl (by rw [ll3]; exact I72.out) ?_
  simp only [Act.put, List.setIfInBounds_toArray, List.set_cons_zero, List.set_cons_succ]
  refine quiet_load (by rfl) 40 _ rfl A2 0 rfl L _ (by rintro _ ⟨y, rfl⟩; exact ((HE.out y).ce (A2, L) (by simp)).range) Try.underlying40 rfl (by rw [ll]; exact I72.out) ?_
  simp only [Act.put, List.setIfInBounds_toArray, List.set_cons_zero, List.set_cons_succ]
  refine quiet_one (by rfl) (.bool true) (exec_eqlA 40 _ _ _ rfl L3.toArray L.toArray _ rfl rfl gdR12 Q1.out) ?_
  simp only [Act.put, List.setIfInBounds_toArray, List.set_cons_zero, List.set_cons_succ]
  go_big_quiet_step (fail)
  go_big_quiet_step (fail)
  refine quiet_load (by rfl) 40 _ rfl R3 0 rfl L _ (by rintro _ ⟨y, rfl⟩; exact ((HE.out y).cl (R3, L) (by simp)).range) Try.underlying40 rfl (by rw [ll]; exact I72.out) ?_
  simp only [Act.put, List.setIfInBounds_toArray, List.set_cons_zero, List.set_cons_succ]
  refine quiet_load (by rfl) 40 _ rfl A2 0 rfl L _ (by rintro _ ⟨y, rfl⟩; exact ((HE.out y).ce (A2, L) (by simp)).range) Try.underlying40 rfl (by rw [ll]; exact I72.out) ?_
  simp only [Act.put, List.setIfInBounds_toArray, List.set_cons_zero, List.set_cons_succ]
  refine quiet_one (by rfl) (.bool true) (exec_eqlA 40 _ _ _ rfl L.toArray L.toArray _ rfl rfl gdR12 Q2.out) ?_
  simp only [Act.put, List.setIfInBounds_toArray, List.set_cons_zero, List.set_cons_succ]
  go_big_quiet_step (fail)
  go_big_quiet_step (fail)
  go_big_quiet_step (fail)
  go_big_quiet_step (fail)
  go_big_quiet_step (fail)
  go_big_quiet_step (fail)
  refine quiet_load (by rfl) 40 _ rfl R4 0 rfl L4 _ (by rintro _ ⟨y, rfl⟩; exact ((HE.out y).cl (R4, L4) (by simp)).range) Try.underlying40 rfl (by rw [ll4]; exact I72.out) ?_
  simp only [Act.put, List.setIfInBounds_toArray, List.set_cons_zero, List.set_cons_succ]
  refine quiet_load (by rfl) 40 _ rfl A2 0 rfl L _ (by rintro _ ⟨y, rfl⟩; exact ((HE.out y).ce (A2, L) (by simp)).range) Try.underlying40 rfl (by rw [ll]; exact I72.out) ?_
  simp only [Act.put, List.setIfInBounds_toArray, List.set_cons_zero, List.set_cons_succ]
  go_big_quiet_step (fail)
  go_big_quiet_step (fail)
  go_big_quiet_step ((go_at_call 25; exact calm_next HN.out (CO.out _)))
  refine quiet_one (by rfl) (.bool true) (exec_eqlA 39 _ _ _ rfl L4.toArray L4.toArray _ rfl rfl gdA12 Q3.out) ?_
  simp only [Act.put, List.setIfInBounds_toArray, List.set_cons_zero, List.set_cons_succ]
  go_big_quiet_step (fail)
  go_big_quiet_step (fail)
  refine wpQuiet_nil ?_
  rintro _ ⟨y, rfl⟩
  have HZ : Hid (Below w.heap.size w (f y)) := (HE.out y).bel
  clear HE HN CE CO
  go_wp2
  go_ret
  exact ⟨rfl, by first | exact HZ.out | (rw [hA] at HZ; exact HZ.out)⟩
theorem dramFlips_walk (a0 : Nat → Int) (a1 : Int) (a2 : Nat → Int) (a3 : Int) (a4 : Int) (a5 : Nat → Int) (_w0 : ∀ i, i < 5 → (Lit.int .i64 (a0 i)).wf = true) (_w1 : (Lit.int .i64 a1).wf = true) (_w2 : ∀ i, i < 4 → (Lit.int .i64 (a2 i)).wf = true) (_w3 : (Lit.int .i64 a3).wf = true) (_w4 : (Lit.int .i64 a4).wf = true) (w5 : ∀ i, i < 72 → (Lit.int .u8 (a5 i)).wf = true) (w : World) :
    Calls Try.prog 5 #[.agg (ints .i64 5 a0).toArray, .int .i64 a1, .agg (ints .i64 4 a2).toArray, .int .i64 a3, .int .i64 a4, .agg (ints .u8 72 a5).toArray] w fun e w' => e = .returned (.bool true) ∧ Below w.heap.size w w' :=
  dramFlips_core (a0 0) (a0 1) (a0 2) (a0 3) (a0 4) a1 (a2 0) (a2 1) (a2 2) (a2 3) a3 a4 a5 (fun i hi => by have := bounds_u8 (w5 i hi); omega) w
end Go.Proofs.Ytcpjmfemgdgplaa
