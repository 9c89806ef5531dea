/-
  The law DramLater: of two faults that last and cover one chip of a line the later one is read.
-/
import Derived.Test.YtcpjmfemgdgplaaDrL1m
import Derived.Test.YtcpjmfemgdgplaaM18
namespace Go.Proofs.Ytcpjmfemgdgplaa
open Go.RowKit Go.Shelf
open Ge (pw rt hd ix)
attribute [local go_sem] Oper.semAt_some

theorem wf_i64' {x : Int} (h : (Lit.int .i64 x).wf = true) : I64 x := by
  have := bounds_i64 h
  exact ⟨this.1, by omega⟩
theorem later_bytes {n : Int} (hn : n = 9 ∨ n = 36) {k p q u v c x y k2 p2 q2 u2 v2 c2 x2 y2 pp qq uu vv : Int} (F : Nat → Int) (h1 : ls k2 = true) (h2 : nw k2 = false) (h3 : lz k2 p2 q2 u2 v2 pp qq uu vv = true) (h4 : cv n k c x = cv n k2 c2 x2) (hc : 0 ≤ c2 ∧ c2 < n) (j : Nat) :
    apF n k2 p2 q2 u2 v2 c2 x2 y2 pp qq uu vv (apF n k p q u v c x y pp qq uu vv F) j = apF n k2 p2 q2 u2 v2 c2 x2 y2 pp qq uu vv F j := by
  have e2 : ¬ k2 = 2 := fun e => by subst e; simp [nw] at h2
  have e1 : ¬ k2 = 1 := fun e => by subst e; simp [nw] at h2
  have e5 : 2 ≤ k2 ∧ k2 ≤ 5 := by simpa [ls] using h1
  have hcv : cv n k2 c2 x2 = c2 := by unfold cv; rw [if_neg (by omega), if_pos (by omega), if_pos hc]
  have hb : ∀ X : Nat → Int, apF n k2 p2 q2 u2 v2 c2 x2 y2 pp qq uu vv X j = if 0 < n.toNat ∧ ((j % n.toNat : Nat) : Int) = c2 then y2 % 256 else X j := fun X => by
    unfold apF
    rw [if_pos ⟨h1, h3⟩, if_neg e2]
    rfl
  rw [hb, hb]
  split
  · rfl
  · rename_i hne
    by_cases e : apF n k p q u v c x y pp qq uu vv F j = F j
    · exact e
    · exfalso
      have := apF_cv hn e
      rw [h4, hcv] at this
      refine hne ⟨by omega, ?_⟩
      have e9 : ((n.toNat : Nat) : Int) = n := by omega
      rw [Int.natCast_emod, e9]
      exact this
set_option maxRecDepth 100000 in
set_option maxHeartbeats 8000000 in
theorem dramLater_core (r s b o d m k p q u v c x y k2 p2 q2 u2 v2 c2 x2 y2 pp qq uu vv : Int) (F : Nat → Int) (hF : Byts 72 F) (hw1 : ∀ j, j < 8 → (Lit.int .i64 (ffn k p q u v c x y j)).wf = true) (hw2 : ∀ j, j < 8 → (Lit.int .i64 (ffn k2 p2 q2 u2 v2 c2 x2 y2 j)).wf = true) (w : World) :
    Calls Try.prog 7 #[.agg #[.int .i64 r, .int .i64 s, .int .i64 b, .int .i64 o, .int .i64 d], .int .i64 m, .agg #[.int .i64 k, .int .i64 p, .int .i64 q, .int .i64 u, .int .i64 v, .int .i64 c, .int .i64 x, .int .i64 y], .agg #[.int .i64 k2, .int .i64 p2, .int .i64 q2, .int .i64 u2, .int .i64 v2, .int .i64 c2, .int .i64 x2, .int .i64 y2], .agg #[.int .i64 pp, .int .i64 qq, .int .i64 uu, .int .i64 vv], .agg (ints .u8 72 F).toArray] w fun e w' => e = .returned (.bool true) ∧ Below w.heap.size w w' := by
  obtain ⟨k8, j8, hm⟩ := md_any m
  obtain ⟨L, hL⟩ : ∃ L, ints .u8 72 F = L := ⟨_, rfl⟩
  have HL : Hid (ints .u8 72 F = L) := hL
  have HF : Hid (Byts 72 F) := hF
  have HM : Hid (Md m k8 j8) := hm
  have HW : Hid ((∀ j, j < 8 → (Lit.int .i64 (ffn k p q u v c x y j)).wf = true) ∧ ∀ j, j < 8 → (Lit.int .i64 (ffn k2 p2 q2 u2 v2 c2 x2 y2 j)).wf = true) := ⟨hw1, hw2⟩
  have ll : L.length = 72 := by rw [← hL]; exact ints_len _ _ _
  rw [hL]
  clear hL hF hm hw1 hw2
  go_enter Try.func7, Try.ntmps7
  go_upto_region 1 with (fail)
  obtain ⟨A, hA⟩ : ∃ A, w.heap.size = A := ⟨_, rfl⟩
  obtain ⟨A1, hA1⟩ : ∃ A1, A + 1 = A1 := ⟨_, rfl⟩
  obtain ⟨A2, hA2⟩ : ∃ A2, A1 + 1 = A2 := ⟨_, rfl⟩
  obtain ⟨A3, hA3⟩ : ∃ A3, A2 + 1 = A3 := ⟨_, rfl⟩
  obtain ⟨A4, hA4⟩ : ∃ A4, A3 + 1 = A4 := ⟨_, rfl⟩
  obtain ⟨V, hV⟩ : ∃ V, ((((w.alloc (.cells #[.int .i64 r, .int .i64 s, .int .i64 b, .int .i64 o, .int .i64 d] 23)).alloc (.cells #[.int .i64 k, .int .i64 p, .int .i64 q, .int .i64 u, .int .i64 v, .int .i64 c, .int .i64 x, .int .i64 y] 38)).alloc (.cells #[.int .i64 k2, .int .i64 p2, .int .i64 q2, .int .i64 u2, .int .i64 v2, .int .i64 c2, .int .i64 x2, .int .i64 y2] 38)).alloc (.cells #[.int .i64 pp, .int .i64 qq, .int .i64 uu, .int .i64 vv] 36)).alloc (.cells L.toArray 40) = V := ⟨_, rfl⟩
  have HP : Hid (Pre w [(A4, L), (A3, [.int .i64 pp, .int .i64 qq, .int .i64 uu, .int .i64 vv]), (A2, [.int .i64 k2, .int .i64 p2, .int .i64 q2, .int .i64 u2, .int .i64 v2, .int .i64 c2, .int .i64 x2, .int .i64 y2]), (A1, [.int .i64 k, .int .i64 p, .int .i64 q, .int .i64 u, .int .i64 v, .int .i64 c, .int .i64 x, .int .i64 y]), (A, [.int .i64 r, .int .i64 s, .int .i64 b, .int .i64 o, .int .i64 d])] V) := by
    have h := (((((Pre.start w).lay [.int .i64 r, .int .i64 s, .int .i64 b, .int .i64 o, .int .i64 d] 23).lay [.int .i64 k, .int .i64 p, .int .i64 q, .int .i64 u, .int .i64 v, .int .i64 c, .int .i64 x, .int .i64 y] 38).lay [.int .i64 k2, .int .i64 p2, .int .i64 q2, .int .i64 u2, .int .i64 v2, .int .i64 c2, .int .i64 x2, .int .i64 y2] 38).lay [.int .i64 pp, .int .i64 qq, .int .i64 uu, .int .i64 vv] 36).lay L 40
    simp only [World.size_alloc] at h
    rw [hV, hA, hA1, hA2, hA3, hA4] at h
    exact h
  rw [hV, hA, hA1, hA2, hA3, hA4]
  clear hV
  go_wp2_with fail
  refine (anchor12_any _).mono ?_
  rintro e W1 ⟨rfl, b1⟩
  replace HP : Hid (Pre w [(A4, L), (A3, [.int .i64 pp, .int .i64 qq, .int .i64 uu, .int .i64 vv]), (A2, [.int .i64 k2, .int .i64 p2, .int .i64 q2, .int .i64 u2, .int .i64 v2, .int .i64 c2, .int .i64 x2, .int .i64 y2]), (A1, [.int .i64 k, .int .i64 p, .int .i64 q, .int .i64 u, .int .i64 v, .int .i64 c, .int .i64 x, .int .i64 y]), (A, [.int .i64 r, .int .i64 s, .int .i64 b, .int .i64 o, .int .i64 d])] W1) := HP.out.next b1
  clear b1
  have hg : W1.rangeAt A 0 [.int .i64 r, .int .i64 s, .int .i64 b, .int .i64 o, .int .i64 d] := HP.out.c4.range
  go_wp2_with (first | refine wpList_load_mid rfl 23 _ rfl A 0 rfl [.int .i64 r, .int .i64 s, .int .i64 b, .int .i64 o, .int .i64 d] _ hg Try.underlying23 rfl infoGm ?_)
  by_cases hr : rt r s b o d = true
  case neg =>
    refine (dNew_geom r s b o d m (by simpa using hr) _).mono ?_
    rintro e W2 ⟨rfl, b2⟩
    have HZ : Hid (Below w.heap.size w W2) := (HP.out.next b2).n
    clear HP hg b2
    go_wp2
    go_ret
    exact ⟨rfl, by first | exact HZ.out | (rw [hA] at HZ; exact HZ.out)⟩
  by_cases hk : 0 < k8
  case neg =>
    have hk0 : Md m 0 0 := by rcases HM.out with ⟨_, h, _⟩ | ⟨_, h, _⟩ | ⟨h1, h2, _⟩; omega; omega; exact Md.none m h1 h2
    refine (dNew_mode r s b o d m hr hk0 _).mono ?_
    rintro e W2 ⟨rfl, b2⟩
    have HZ : Hid (Below w.heap.size w W2) := (HP.out.next b2).n
    clear HP hg b2
    go_wp2
    go_ret
    exact ⟨rfl, by first | exact HZ.out | (rw [hA] at HZ; exact HZ.out)⟩
  refine (lwNew HP.out hr HM.out hk).mono ?_
  rintro e W2 ⟨B, M, rfl, h2⟩
  obtain ⟨lo, hlo⟩ : ∃ lo, W1.heap.size = lo := ⟨_, rfl⟩
  rw [hlo] at h2
  have HQ : Hid (Lq w [(A4, L), (A3, [.int .i64 pp, .int .i64 qq, .int .i64 uu, .int .i64 vv]), (A2, [.int .i64 k2, .int .i64 p2, .int .i64 q2, .int .i64 u2, .int .i64 v2, .int .i64 c2, .int .i64 x2, .int .i64 y2]), (A1, [.int .i64 k, .int .i64 p, .int .i64 q, .int .i64 u, .int .i64 v, .int .i64 c, .int .i64 x, .int .i64 y]), (A, [.int .i64 r, .int .i64 s, .int .i64 b, .int .i64 o, .int .i64 d])] [] lo B M r s b o d m 0 (fun _ _ => 0) 0 (fun _ _ => 0) W2) := h2.quiet
  clear h2 HP hg
  have hg : W2.rangeAt A 0 [.int .i64 r, .int .i64 s, .int .i64 b, .int .i64 o, .int .i64 d] := (HQ.out.ce (A, [.int .i64 r, .int .i64 s, .int .i64 b, .int .i64 o, .int .i64 d]) (by simp)).range
  have hp : W2.rangeAt A3 0 [.int .i64 pp, .int .i64 qq, .int .i64 uu, .int .i64 vv] := (HQ.out.ce (A3, [.int .i64 pp, .int .i64 qq, .int .i64 uu, .int .i64 vv]) (by simp)).range
  go_wp2_with (first
    | refine wpList_load_mid rfl 23 _ rfl A 0 rfl [.int .i64 r, .int .i64 s, .int .i64 b, .int .i64 o, .int .i64 d] _ hg Try.underlying23 rfl infoGm ?_
    | refine wpList_load_mid rfl 36 _ rfl A3 0 rfl [.int .i64 pp, .int .i64 qq, .int .i64 uu, .int .i64 vv] _ hp Try.underlying36 rfl info_place ?_)
  obtain ⟨i, f, hif, CI⟩ := index_any12 r s b o d pp qq uu vv
  refine (CI.out _).mono ?_
  rintro e W3 ⟨rfl, b3⟩
  replace HQ : Hid (Lq w [(A4, L), (A3, [.int .i64 pp, .int .i64 qq, .int .i64 uu, .int .i64 vv]), (A2, [.int .i64 k2, .int .i64 p2, .int .i64 q2, .int .i64 u2, .int .i64 v2, .int .i64 c2, .int .i64 x2, .int .i64 y2]), (A1, [.int .i64 k, .int .i64 p, .int .i64 q, .int .i64 u, .int .i64 v, .int .i64 c, .int .i64 x, .int .i64 y]), (A, [.int .i64 r, .int .i64 s, .int .i64 b, .int .i64 o, .int .i64 d])] [] lo B M r s b o d m 0 (fun _ _ => 0) 0 (fun _ _ => 0) W3) := HQ.out.next b3
  clear b3 CI hg hp
  go_upto_region 7 with (fail)
  have CLa : Hid (∀ w : World, Calls Try.prog 27 #[.agg #[.int .i64 k, .int .i64 p, .int .i64 q, .int .i64 u, .int .i64 v, .int .i64 c, .int .i64 x, .int .i64 y]] w fun e w' => e = .returned (.bool (ls k)) ∧ Below w.heap.size w w') := fun w => lasts_any k p q u v c x y w
  have CLb : Hid (∀ w : World, Calls Try.prog 27 #[.agg #[.int .i64 k2, .int .i64 p2, .int .i64 q2, .int .i64 u2, .int .i64 v2, .int .i64 c2, .int .i64 x2, .int .i64 y2]] w fun e w' => e = .returned (.bool (ls k2)) ∧ Below w.heap.size w w') := fun w => lasts_any k2 p2 q2 u2 v2 c2 x2 y2 w
  have CNb : Hid (∀ w : World, Calls Try.prog 28 #[.agg #[.int .i64 k2, .int .i64 p2, .int .i64 q2, .int .i64 u2, .int .i64 v2, .int .i64 c2, .int .i64 x2, .int .i64 y2]] w fun e w' => e = .returned (.bool (nw k2)) ∧ Below w.heap.size w w') := fun w => narrow_any k2 p2 q2 u2 v2 c2 x2 y2 w
  have CZb : Hid (∀ w : World, Calls Try.prog 29 #[.agg #[.int .i64 k2, .int .i64 p2, .int .i64 q2, .int .i64 u2, .int .i64 v2, .int .i64 c2, .int .i64 x2, .int .i64 y2], .agg #[.int .i64 pp, .int .i64 qq, .int .i64 uu, .int .i64 vv]] w fun e w' => e = .returned (.bool (lz k2 p2 q2 u2 v2 pp qq uu vv)) ∧ Below w.heap.size w w') := fun w => lies_any k2 p2 q2 u2 v2 c2 x2 y2 pp qq uu vv w
  have CCa : Hid (∀ w : World, Calls Try.prog 30 #[.agg #[.int .i64 k, .int .i64 p, .int .i64 q, .int .i64 u, .int .i64 v, .int .i64 c, .int .i64 x, .int .i64 y], .int .i64 m] w fun e w' => e = .returned (.int .i64 (cv k8 k c x)) ∧ Below w.heap.size w w') := fun w => covers_any k p q u v c x y m k8 j8 HM.out w
  have CCb : Hid (∀ w : World, Calls Try.prog 30 #[.agg #[.int .i64 k2, .int .i64 p2, .int .i64 q2, .int .i64 u2, .int .i64 v2, .int .i64 c2, .int .i64 x2, .int .i64 y2], .int .i64 m] w fun e w' => e = .returned (.int .i64 (cv k8 k2 c2 x2)) ∧ Below w.heap.size w w') := fun w => covers_any k2 p2 q2 u2 v2 c2 x2 y2 m k8 j8 HM.out w
  obtain ⟨z1, hz1⟩ : ∃ z, ls k = z := ⟨_, rfl⟩
  obtain ⟨z2, hz2⟩ : ∃ z, ls k2 = z := ⟨_, rfl⟩
  obtain ⟨z3, hz3⟩ : ∃ z, nw k2 = z := ⟨_, rfl⟩
  obtain ⟨z4, hz4⟩ : ∃ z, lz k2 p2 q2 u2 v2 pp qq uu vv = z := ⟨_, rfl⟩
  obtain ⟨n1, hn1⟩ : ∃ z, cv k8 k c x = z := ⟨_, rfl⟩
  obtain ⟨n2, hn2⟩ : ∃ z, cv k8 k2 c2 x2 = z := ⟨_, rfl⟩
  have HZZ : Hid (ls k = z1 ∧ ls k2 = z2 ∧ nw k2 = z3 ∧ lz k2 p2 q2 u2 v2 pp qq uu vv = z4 ∧ cv k8 k c x = n1 ∧ cv k8 k2 c2 x2 = n2) := ⟨hz1, hz2, hz3, hz4, hn1, hn2⟩
  rw [hz1] at CLa
  rw [hz2] at CLb
  rw [hz3] at CNb
  rw [hz4] at CZb
  rw [hn1] at CCa
  rw [hn2] at CCb
  obtain ⟨z5, Z5⟩ : ∃ z : Bool, (n1 != n2) = z := ⟨_, rfl⟩
  have HZ5 : Hid ((n1 != n2) = z5) := Z5
  clear hz1 hz2 hz3 hz4 hn1 hn2
  rcases hif.out with ⟨hh, hi, rfl⟩ | ⟨hh, rfl, rfl⟩
  case inr =>
    refine region_calm (by kernel_rfl) (by kernel_rfl) (fun W => Below W3.heap.size W3 W) (below_drew1 W3) ?_
    intro U hU g hf hof
    have HN : Hid (∀ u W, Below (g u).heap.size (g u) W → ∃ x, W = g x) := fun u W h => hof W ((hf u).trans (h.mono (hf u).size))
    have HE : Hid (∀ t9, Lq w [(A4, L), (A3, [.int .i64 pp, .int .i64 qq, .int .i64 uu, .int .i64 vv]), (A2, [.int .i64 k2, .int .i64 p2, .int .i64 q2, .int .i64 u2, .int .i64 v2, .int .i64 c2, .int .i64 x2, .int .i64 y2]), (A1, [.int .i64 k, .int .i64 p, .int .i64 q, .int .i64 u, .int .i64 v, .int .i64 c, .int .i64 x, .int .i64 y]), (A, [.int .i64 r, .int .i64 s, .int .i64 b, .int .i64 o, .int .i64 d])] [] lo B M r s b o d m 0 (fun _ _ => 0) 0 (fun _ _ => 0) (g t9)) := fun t9 => HQ.out.next (hf t9)
    clear hf hof HQ
    go_big_quiet_step (fail)
    go_big_quiet_step (fail)
    go_big_quiet_step (fail)
    go_big_quiet_step (fail)
    go_big_quiet_step (fail)
    go_big_quiet_step (fail)
    go_big_quiet_step (fail)
    go_big_quiet_step (fail)
    go_big_quiet_step (fail)
    go_big_quiet_step (fail)
    go_big_quiet_step (fail)
    go_big_quiet_step (fail)
    go_big_quiet_step (fail)
    go_big_quiet_step (fail)
    go_big_quiet_step (fail)
    go_big_quiet_step (fail)
    go_big_quiet_step (fail)
    go_big_quiet_step (fail)
    go_big_quiet_step (fail)
    go_big_quiet_step (fail)
    go_big_quiet_step (fail)
    go_big_quiet_step (fail)
    go_big_quiet_step (fail)
    go_big_quiet_step (fail)
    go_big_quiet_step (fail)
    go_big_quiet_step (fail)
    go_big_quiet_step (fail)
    go_big_quiet_step (fail)
    go_big_quiet_step (fail)
    go_big_quiet_step (fail)
    go_big_quiet_step (fail)
    refine wpQuiet_nil ?_
    rintro _ ⟨y9, rfl⟩
    have HQ : Hid (Lq w [(A4, L), (A3, [.int .i64 pp, .int .i64 qq, .int .i64 uu, .int .i64 vv]), (A2, [.int .i64 k2, .int .i64 p2, .int .i64 q2, .int .i64 u2, .int .i64 v2, .int .i64 c2, .int .i64 x2, .int .i64 y2]), (A1, [.int .i64 k, .int .i64 p, .int .i64 q, .int .i64 u, .int .i64 v, .int .i64 c, .int .i64 x, .int .i64 y]), (A, [.int .i64 r, .int .i64 s, .int .i64 b, .int .i64 o, .int .i64 d])] [] lo B M r s b o d m 0 (fun _ _ => 0) 0 (fun _ _ => 0) (g y9)) := HE.out y9
    obtain ⟨W4, hW4⟩ : ∃ W, g y9 = W := ⟨_, rfl⟩
    rw [hW4] at HQ ⊢
    clear hW4 HE HN CLa CLb CNb CZb CCa CCb
    have HZ : Hid (Below w.heap.size w W4) := HQ.out.bel
    clear HQ
    go_wp2
    go_ret
    exact ⟨rfl, by first | exact HZ.out | (rw [hA] at HZ; exact HZ.out)⟩
  refine region_calm (by kernel_rfl) (by kernel_rfl) (fun W => Below W3.heap.size W3 W) (below_drew1 W3) ?_
  intro U hU g hf hof
  have HN : Hid (∀ u W, Below (g u).heap.size (g u) W → ∃ x, W = g x) := fun u W h => hof W ((hf u).trans (h.mono (hf u).size))
  have HE : Hid (∀ t9, Lq w [(A4, L), (A3, [.int .i64 pp, .int .i64 qq, .int .i64 uu, .int .i64 vv]), (A2, [.int .i64 k2, .int .i64 p2, .int .i64 q2, .int .i64 u2, .int .i64 v2, .int .i64 c2, .int .i64 x2, .int .i64 y2]), (A1, [.int .i64 k, .int .i64 p, .int .i64 q, .int .i64 u, .int .i64 v, .int .i64 c, .int .i64 x, .int .i64 y]), (A, [.int .i64 r, .int .i64 s, .int .i64 b, .int .i64 o, .int .i64 d])] [] lo B M r s b o d m 0 (fun _ _ => 0) 0 (fun _ _ => 0) (g t9)) := fun t9 => HQ.out.next (hf t9)
  clear hf hof HQ
  go_big_quiet_step (fail)
  go_big_quiet_step (fail)
  go_big_quiet_step (fail)
  refine quiet_load (by rfl) 38 _ rfl A1 0 rfl [.int .i64 k, .int .i64 p, .int .i64 q, .int .i64 u, .int .i64 v, .int .i64 c, .int .i64 x, .int .i64 y] _ (by rintro _ ⟨t9, rfl⟩; exact ((HE.out t9).ce (A1, [.int .i64 k, .int .i64 p, .int .i64 q, .int .i64 u, .int .i64 v, .int .i64 c, .int .i64 x, .int .i64 y]) (by simp)).range) Try.underlying38 rfl infoFt ?_
  simp only [Act.put, List.setIfInBounds_toArray, List.set_cons_zero, List.set_cons_succ]
  go_big_quiet_step ((go_at_call 27; exact calm_next HN.out (CLa.out _)))
  go_big_quiet_step (fail)
  go_big_quiet_step (fail)
  go_big_quiet_step (fail)
  cases z1 with
  | false =>
    simp only [Bool.not_false]
    go_big_quiet_step (fail)
    go_big_quiet_step (fail)
    go_big_quiet_step (fail)
    go_big_quiet_step (fail)
    go_big_quiet_step (fail)
    go_big_quiet_step (fail)
    go_big_quiet_step (fail)
    go_big_quiet_step (fail)
    go_big_quiet_step (fail)
    go_big_quiet_step (fail)
    go_big_quiet_step (fail)
    go_big_quiet_step (fail)
    go_big_quiet_step (fail)
    go_big_quiet_step (fail)
    go_big_quiet_step (fail)
    go_big_quiet_step (fail)
    go_big_quiet_step (fail)
    go_big_quiet_step (fail)
    go_big_quiet_step (fail)
    go_big_quiet_step (fail)
    go_big_quiet_step (fail)
    go_big_quiet_step (fail)
    go_big_quiet_step (fail)
    refine wpQuiet_nil ?_
    rintro _ ⟨y9, rfl⟩
    have HQ : Hid (Lq w [(A4, L), (A3, [.int .i64 pp, .int .i64 qq, .int .i64 uu, .int .i64 vv]), (A2, [.int .i64 k2, .int .i64 p2, .int .i64 q2, .int .i64 u2, .int .i64 v2, .int .i64 c2, .int .i64 x2, .int .i64 y2]), (A1, [.int .i64 k, .int .i64 p, .int .i64 q, .int .i64 u, .int .i64 v, .int .i64 c, .int .i64 x, .int .i64 y]), (A, [.int .i64 r, .int .i64 s, .int .i64 b, .int .i64 o, .int .i64 d])] [] lo B M r s b o d m 0 (fun _ _ => 0) 0 (fun _ _ => 0) (g y9)) := HE.out y9
    obtain ⟨W4, hW4⟩ : ∃ W, g y9 = W := ⟨_, rfl⟩
    rw [hW4] at HQ ⊢
    clear hW4 HE HN CLa CLb CNb CZb CCa CCb
    have HZ : Hid (Below w.heap.size w W4) := HQ.out.bel
    clear HQ
    go_wp2
    go_ret
    exact ⟨rfl, by first | exact HZ.out | (rw [hA] at HZ; exact HZ.out)⟩
  | true =>
    simp only [Bool.not_true]
    refine quiet_load (by rfl) 38 _ rfl A2 0 rfl [.int .i64 k2, .int .i64 p2, .int .i64 q2, .int .i64 u2, .int .i64 v2, .int .i64 c2, .int .i64 x2, .int .i64 y2] _ (by rintro _ ⟨t9, rfl⟩; exact ((HE.out t9).ce (A2, [.int .i64 k2, .int .i64 p2, .int .i64 q2, .int .i64 u2, .int .i64 v2, .int .i64 c2, .int .i64 x2, .int .i64 y2]) (by simp)).range) Try.underlying38 rfl infoFt ?_
    simp only [Act.put, List.setIfInBounds_toArray, List.set_cons_zero, List.set_cons_succ]
    go_big_quiet_step ((go_at_call 27; exact calm_next HN.out (CLb.out _)))
    go_big_quiet_step (fail)
    go_big_quiet_step (fail)
    go_big_quiet_step (fail)
    cases z2 with
    | false =>
      simp only [Bool.not_false]
      go_big_quiet_step (fail)
      go_big_quiet_step (fail)
      go_big_quiet_step (fail)
      go_big_quiet_step (fail)
      go_big_quiet_step (fail)
      go_big_quiet_step (fail)
      go_big_quiet_step (fail)
      go_big_quiet_step (fail)
      go_big_quiet_step (fail)
      go_big_quiet_step (fail)
      go_big_quiet_step (fail)
      go_big_quiet_step (fail)
      go_big_quiet_step (fail)
      go_big_quiet_step (fail)
      go_big_quiet_step (fail)
      go_big_quiet_step (fail)
      go_big_quiet_step (fail)
      go_big_quiet_step (fail)
      refine wpQuiet_nil ?_
      rintro _ ⟨y9, rfl⟩
      have HQ : Hid (Lq w [(A4, L), (A3, [.int .i64 pp, .int .i64 qq, .int .i64 uu, .int .i64 vv]), (A2, [.int .i64 k2, .int .i64 p2, .int .i64 q2, .int .i64 u2, .int .i64 v2, .int .i64 c2, .int .i64 x2, .int .i64 y2]), (A1, [.int .i64 k, .int .i64 p, .int .i64 q, .int .i64 u, .int .i64 v, .int .i64 c, .int .i64 x, .int .i64 y]), (A, [.int .i64 r, .int .i64 s, .int .i64 b, .int .i64 o, .int .i64 d])] [] lo B M r s b o d m 0 (fun _ _ => 0) 0 (fun _ _ => 0) (g y9)) := HE.out y9
      obtain ⟨W4, hW4⟩ : ∃ W, g y9 = W := ⟨_, rfl⟩
      rw [hW4] at HQ ⊢
      clear hW4 HE HN CLa CLb CNb CZb CCa CCb
      have HZ : Hid (Below w.heap.size w W4) := HQ.out.bel
      clear HQ
      go_wp2
      go_ret
      exact ⟨rfl, by first | exact HZ.out | (rw [hA] at HZ; exact HZ.out)⟩
    | true =>
      simp only [Bool.not_true]
      refine quiet_load (by rfl) 38 _ rfl A2 0 rfl [.int .i64 k2, .int .i64 p2, .int .i64 q2, .int .i64 u2, .int .i64 v2, .int .i64 c2, .int .i64 x2, .int .i64 y2] _ (by rintro _ ⟨t9, rfl⟩; exact ((HE.out t9).ce (A2, [.int .i64 k2, .int .i64 p2, .int .i64 q2, .int .i64 u2, .int .i64 v2, .int .i64 c2, .int .i64 x2, .int .i64 y2]) (by simp)).range) Try.underlying38 rfl infoFt ?_
      simp only [Act.put, List.setIfInBounds_toArray, List.set_cons_zero, List.set_cons_succ]
      go_big_quiet_step ((go_at_call 28; exact calm_next HN.out (CNb.out _)))
      go_big_quiet_step (fail)
      go_big_quiet_step (fail)
      cases z3 with
      | false =>
        refine quiet_load (by rfl) 38 _ rfl A2 0 rfl [.int .i64 k2, .int .i64 p2, .int .i64 q2, .int .i64 u2, .int .i64 v2, .int .i64 c2, .int .i64 x2, .int .i64 y2] _ (by rintro _ ⟨t9, rfl⟩; exact ((HE.out t9).ce (A2, [.int .i64 k2, .int .i64 p2, .int .i64 q2, .int .i64 u2, .int .i64 v2, .int .i64 c2, .int .i64 x2, .int .i64 y2]) (by simp)).range) Try.underlying38 rfl infoFt ?_
        simp only [Act.put, List.setIfInBounds_toArray, List.set_cons_zero, List.set_cons_succ]
        refine quiet_load (by rfl) 36 _ rfl A3 0 rfl [.int .i64 pp, .int .i64 qq, .int .i64 uu, .int .i64 vv] _ (by rintro _ ⟨t9, rfl⟩; exact ((HE.out t9).ce (A3, [.int .i64 pp, .int .i64 qq, .int .i64 uu, .int .i64 vv]) (by simp)).range) Try.underlying36 rfl info_place ?_
        simp only [Act.put, List.setIfInBounds_toArray, List.set_cons_zero, List.set_cons_succ]
        go_big_quiet_step ((go_at_call 29; exact calm_next HN.out (CZb.out _)))
        go_big_quiet_step (fail)
        go_big_quiet_step (fail)
        go_big_quiet_step (fail)
        cases z4 with
        | false =>
          simp only [Bool.not_false]
          go_big_quiet_step (fail)
          go_big_quiet_step (fail)
          go_big_quiet_step (fail)
          go_big_quiet_step (fail)
          go_big_quiet_step (fail)
          go_big_quiet_step (fail)
          go_big_quiet_step (fail)
          go_big_quiet_step (fail)
          refine wpQuiet_nil ?_
          rintro _ ⟨y9, rfl⟩
          have HQ : Hid (Lq w [(A4, L), (A3, [.int .i64 pp, .int .i64 qq, .int .i64 uu, .int .i64 vv]), (A2, [.int .i64 k2, .int .i64 p2, .int .i64 q2, .int .i64 u2, .int .i64 v2, .int .i64 c2, .int .i64 x2, .int .i64 y2]), (A1, [.int .i64 k, .int .i64 p, .int .i64 q, .int .i64 u, .int .i64 v, .int .i64 c, .int .i64 x, .int .i64 y]), (A, [.int .i64 r, .int .i64 s, .int .i64 b, .int .i64 o, .int .i64 d])] [] lo B M r s b o d m 0 (fun _ _ => 0) 0 (fun _ _ => 0) (g y9)) := HE.out y9
          obtain ⟨W4, hW4⟩ : ∃ W, g y9 = W := ⟨_, rfl⟩
          rw [hW4] at HQ ⊢
          clear hW4 HE HN CLa CLb CNb CZb CCa CCb
          have HZ : Hid (Below w.heap.size w W4) := HQ.out.bel
          clear HQ
          go_wp2
          go_ret
          exact ⟨rfl, by first | exact HZ.out | (rw [hA] at HZ; exact HZ.out)⟩
        | true =>
          simp only [Bool.not_true]
          refine quiet_load (by rfl) 38 _ rfl A1 0 rfl [.int .i64 k, .int .i64 p, .int .i64 q, .int .i64 u, .int .i64 v, .int .i64 c, .int .i64 x, .int .i64 y] _ (by rintro _ ⟨t9, rfl⟩; exact ((HE.out t9).ce (A1, [.int .i64 k, .int .i64 p, .int .i64 q, .int .i64 u, .int .i64 v, .int .i64 c, .int .i64 x, .int .i64 y]) (by simp)).range) Try.underlying38 rfl infoFt ?_
          simp only [Act.put, List.setIfInBounds_toArray, List.set_cons_zero, List.set_cons_succ]
          go_big_quiet_step (fail)
          go_big_quiet_step ((go_at_call 30; exact calm_next HN.out (CCa.out _)))
          refine quiet_load (by rfl) 38 _ rfl A2 0 rfl [.int .i64 k2, .int .i64 p2, .int .i64 q2, .int .i64 u2, .int .i64 v2, .int .i64 c2, .int .i64 x2, .int .i64 y2] _ (by rintro _ ⟨t9, rfl⟩; exact ((HE.out t9).ce (A2, [.int .i64 k2, .int .i64 p2, .int .i64 q2, .int .i64 u2, .int .i64 v2, .int .i64 c2, .int .i64 x2, .int .i64 y2]) (by simp)).range) Try.underlying38 rfl infoFt ?_
          simp only [Act.put, List.setIfInBounds_toArray, List.set_cons_zero, List.set_cons_succ]
          go_big_quiet_step (fail)
          go_big_quiet_step ((go_at_call 30; exact calm_next HN.out (CCb.out _)))
          go_big_quiet_step (fail)
          go_big_quiet_step (fail)
          refine wpQuiet_nil ?_
          rintro _ ⟨y9, rfl⟩
          have HQ : Hid (Lq w [(A4, L), (A3, [.int .i64 pp, .int .i64 qq, .int .i64 uu, .int .i64 vv]), (A2, [.int .i64 k2, .int .i64 p2, .int .i64 q2, .int .i64 u2, .int .i64 v2, .int .i64 c2, .int .i64 x2, .int .i64 y2]), (A1, [.int .i64 k, .int .i64 p, .int .i64 q, .int .i64 u, .int .i64 v, .int .i64 c, .int .i64 x, .int .i64 y]), (A, [.int .i64 r, .int .i64 s, .int .i64 b, .int .i64 o, .int .i64 d])] [] lo B M r s b o d m 0 (fun _ _ => 0) 0 (fun _ _ => 0) (g y9)) := HE.out y9
          obtain ⟨W4, hW4⟩ : ∃ W, g y9 = W := ⟨_, rfl⟩
          rw [hW4] at HQ ⊢
          clear hW4 HE HN CLa CLb CNb CZb CCa CCb
          first | rw [Z5] | skip
          cases z5 with
          | true =>
            have HZ : Hid (Below w.heap.size w W4) := HQ.out.bel
            clear HQ Z5
            go_wp2
            go_ret
            exact ⟨rfl, by first | exact HZ.out | (rw [hA] at HZ; exact HZ.out)⟩
          | false =>
            obtain ⟨e1, e2, e3, e4, e5, e6⟩ := HZZ.out
            have HX9 : Hid (hx r s b o d i = true) := (by rw [hi]; exact hx_ix hh : hx r s b o d i = true)
            have HPB : Hid ((0 ≤ pp ∧ pp < 8) ∧ (0 ≤ qq ∧ qq < 16) ∧ (0 ≤ uu ∧ uu < 1024) ∧ (0 ≤ vv ∧ vv < 64)) := hd_bounds hh
            have HI : Hid (i = ix pp qq uu vv) := hi
            have E12 : Hid (n1 = n2) := (by simpa using HZ5.out : n1 = n2)
            clear hh hi hif e1 e2 e3 e4 e5 e6 HZ5 Z5
            go_upto_region 9 with (fail)
            by_cases ra : rtF k8 (hd r s b o d p q u v) k p q u v c x y = true
            case neg =>
              have hra : rtF k8 (hd r s b o d p q u v) k p q u v c x y = false := by simpa using ra
              have CB : Hid (∀ W, (Lq w [(A4, L), (A3, [.int .i64 pp, .int .i64 qq, .int .i64 uu, .int .i64 vv]), (A2, [.int .i64 k2, .int .i64 p2, .int .i64 q2, .int .i64 u2, .int .i64 v2, .int .i64 c2, .int .i64 x2, .int .i64 y2]), (A1, [.int .i64 k, .int .i64 p, .int .i64 q, .int .i64 u, .int .i64 v, .int .i64 c, .int .i64 x, .int .i64 y]), (A, [.int .i64 r, .int .i64 s, .int .i64 b, .int .i64 o, .int .i64 d])] [] lo B M r s b o d m 0 (fun _ _ => 0) 0 (fun _ _ => 0) W) → Calls Try.prog 23 #[.pointer (some ⟨B, 0, none⟩), .agg #[.int .i64 k, .int .i64 p, .int .i64 q, .int .i64 u, .int .i64 v, .int .i64 c, .int .i64 x, .int .i64 y]] W fun e w' => e = .returned (.int .i64 10) ∧ (Lq w [(A4, L), (A3, [.int .i64 pp, .int .i64 qq, .int .i64 uu, .int .i64 vv]), (A2, [.int .i64 k2, .int .i64 p2, .int .i64 q2, .int .i64 u2, .int .i64 v2, .int .i64 c2, .int .i64 x2, .int .i64 y2]), (A1, [.int .i64 k, .int .i64 p, .int .i64 q, .int .i64 u, .int .i64 v, .int .i64 c, .int .i64 x, .int .i64 y]), (A, [.int .i64 r, .int .i64 s, .int .i64 b, .int .i64 o, .int .i64 d])] [] lo B M r s b o d m 0 (fun _ _ => 0) 0 (fun _ _ => 0) w')) := fun W h => lqBad h HM.out k p q u v c x y HW.out.1 (by omega) hra
              have CR : Hid (∀ w : World, Calls Try.prog 31 #[.agg #[.int .i64 k, .int .i64 p, .int .i64 q, .int .i64 u, .int .i64 v, .int .i64 c, .int .i64 x, .int .i64 y], .agg #[.int .i64 r, .int .i64 s, .int .i64 b, .int .i64 o, .int .i64 d], .int .i64 m] w fun e w' => e = .returned (.bool false) ∧ Below w.heap.size w w') := fun w => by rw [← hra]; exact fRight_any k p q u v c x y r s b o d m k8 j8 HM.out w
              clear ra hra
              have hx : W4.rangeAt A1 0 [.int .i64 k, .int .i64 p, .int .i64 q, .int .i64 u, .int .i64 v, .int .i64 c, .int .i64 x, .int .i64 y] := (HQ.out.ce (A1, [.int .i64 k, .int .i64 p, .int .i64 q, .int .i64 u, .int .i64 v, .int .i64 c, .int .i64 x, .int .i64 y]) (by simp)).range
              go_wp2_with (first | refine wpList_load_mid rfl 38 _ rfl A1 0 rfl [.int .i64 k, .int .i64 p, .int .i64 q, .int .i64 u, .int .i64 v, .int .i64 c, .int .i64 x, .int .i64 y] _ hx Try.underlying38 rfl infoFt ?_)
              refine (CB.out _ HQ.out).mono ?_
              rintro e W5 ⟨rfl, h9⟩
              replace HQ : Hid ((Lq w [(A4, L), (A3, [.int .i64 pp, .int .i64 qq, .int .i64 uu, .int .i64 vv]), (A2, [.int .i64 k2, .int .i64 p2, .int .i64 q2, .int .i64 u2, .int .i64 v2, .int .i64 c2, .int .i64 x2, .int .i64 y2]), (A1, [.int .i64 k, .int .i64 p, .int .i64 q, .int .i64 u, .int .i64 v, .int .i64 c, .int .i64 x, .int .i64 y]), (A, [.int .i64 r, .int .i64 s, .int .i64 b, .int .i64 o, .int .i64 d])] [] lo B M r s b o d m 0 (fun _ _ => 0) 0 (fun _ _ => 0) W5)) := h9
              clear h9 hx CB
              have hx : W5.rangeAt A1 0 [.int .i64 k, .int .i64 p, .int .i64 q, .int .i64 u, .int .i64 v, .int .i64 c, .int .i64 x, .int .i64 y] := (HQ.out.ce (A1, [.int .i64 k, .int .i64 p, .int .i64 q, .int .i64 u, .int .i64 v, .int .i64 c, .int .i64 x, .int .i64 y]) (by simp)).range
              have hg : W5.rangeAt A 0 [.int .i64 r, .int .i64 s, .int .i64 b, .int .i64 o, .int .i64 d] := (HQ.out.ce (A, [.int .i64 r, .int .i64 s, .int .i64 b, .int .i64 o, .int .i64 d]) (by simp)).range
              go_wp2_with (first | refine wpList_load_mid rfl 38 _ rfl A1 0 rfl [.int .i64 k, .int .i64 p, .int .i64 q, .int .i64 u, .int .i64 v, .int .i64 c, .int .i64 x, .int .i64 y] _ hx Try.underlying38 rfl infoFt ?_ | refine wpList_load_mid rfl 23 _ rfl A 0 rfl [.int .i64 r, .int .i64 s, .int .i64 b, .int .i64 o, .int .i64 d] _ hg Try.underlying23 rfl infoGm ?_)
              refine (CR.out _).mono ?_
              rintro e W6 ⟨rfl, b6⟩
              replace HQ : Hid ((Lq w [(A4, L), (A3, [.int .i64 pp, .int .i64 qq, .int .i64 uu, .int .i64 vv]), (A2, [.int .i64 k2, .int .i64 p2, .int .i64 q2, .int .i64 u2, .int .i64 v2, .int .i64 c2, .int .i64 x2, .int .i64 y2]), (A1, [.int .i64 k, .int .i64 p, .int .i64 q, .int .i64 u, .int .i64 v, .int .i64 c, .int .i64 x, .int .i64 y]), (A, [.int .i64 r, .int .i64 s, .int .i64 b, .int .i64 o, .int .i64 d])] [] lo B M r s b o d m 0 (fun _ _ => 0) 0 (fun _ _ => 0) W6)) := HQ.out.next b6
              clear b6 hx hg CR
              have HZ : Hid (Below w.heap.size w W6) := HQ.out.bel
              clear HQ
              go_wp2
              go_ret
              exact ⟨rfl, by first | exact HZ.out | (rw [hA] at HZ; exact HZ.out)⟩
            have hra : rtF k8 (hd r s b o d p q u v) k p q u v c x y = true := ra
            obtain ⟨Y1, hY1⟩ : ∃ Y1, snZ (fun _ _ => 0) 0 (ffn k p q u v c x y) = Y1 := ⟨_, rfl⟩
            have CA : Hid (∀ W, (Lq w [(A4, L), (A3, [.int .i64 pp, .int .i64 qq, .int .i64 uu, .int .i64 vv]), (A2, [.int .i64 k2, .int .i64 p2, .int .i64 q2, .int .i64 u2, .int .i64 v2, .int .i64 c2, .int .i64 x2, .int .i64 y2]), (A1, [.int .i64 k, .int .i64 p, .int .i64 q, .int .i64 u, .int .i64 v, .int .i64 c, .int .i64 x, .int .i64 y]), (A, [.int .i64 r, .int .i64 s, .int .i64 b, .int .i64 o, .int .i64 d])] [] lo B M r s b o d m 0 (fun _ _ => 0) 0 (fun _ _ => 0) W) → Calls Try.prog 23 #[.pointer (some ⟨B, 0, none⟩), .agg #[.int .i64 k, .int .i64 p, .int .i64 q, .int .i64 u, .int .i64 v, .int .i64 c, .int .i64 x, .int .i64 y]] W fun e w' => e = .returned (.int .i64 0) ∧ (Lq w [(A4, L), (A3, [.int .i64 pp, .int .i64 qq, .int .i64 uu, .int .i64 vv]), (A2, [.int .i64 k2, .int .i64 p2, .int .i64 q2, .int .i64 u2, .int .i64 v2, .int .i64 c2, .int .i64 x2, .int .i64 y2]), (A1, [.int .i64 k, .int .i64 p, .int .i64 q, .int .i64 u, .int .i64 v, .int .i64 c, .int .i64 x, .int .i64 y]), (A, [.int .i64 r, .int .i64 s, .int .i64 b, .int .i64 o, .int .i64 d])] [] lo B M r s b o d m 0 (fun _ _ => 0) 1 Y1 w')) := fun W h => by
              have := lqLast h HM.out k p q u v c x y HW.out.1 (by omega) HZZ.out.1 (by omega) hra
              rwa [hY1] at this
            have CR1 : Hid (∀ w : World, Calls Try.prog 31 #[.agg #[.int .i64 k, .int .i64 p, .int .i64 q, .int .i64 u, .int .i64 v, .int .i64 c, .int .i64 x, .int .i64 y], .agg #[.int .i64 r, .int .i64 s, .int .i64 b, .int .i64 o, .int .i64 d], .int .i64 m] w fun e w' => e = .returned (.bool true) ∧ Below w.heap.size w w') := fun w => by rw [← hra]; exact fRight_any k p q u v c x y r s b o d m k8 j8 HM.out w
            have HY1 : Hid (snZ (fun _ _ => 0) 0 (ffn k p q u v c x y) = Y1) := hY1
            clear ra hra hY1
            have hx : W4.rangeAt A1 0 [.int .i64 k, .int .i64 p, .int .i64 q, .int .i64 u, .int .i64 v, .int .i64 c, .int .i64 x, .int .i64 y] := (HQ.out.ce (A1, [.int .i64 k, .int .i64 p, .int .i64 q, .int .i64 u, .int .i64 v, .int .i64 c, .int .i64 x, .int .i64 y]) (by simp)).range
            go_wp2_with (first | refine wpList_load_mid rfl 38 _ rfl A1 0 rfl [.int .i64 k, .int .i64 p, .int .i64 q, .int .i64 u, .int .i64 v, .int .i64 c, .int .i64 x, .int .i64 y] _ hx Try.underlying38 rfl infoFt ?_)
            refine (CA.out _ HQ.out).mono ?_
            rintro e W5 ⟨rfl, h9⟩
            replace HQ : Hid ((Lq w [(A4, L), (A3, [.int .i64 pp, .int .i64 qq, .int .i64 uu, .int .i64 vv]), (A2, [.int .i64 k2, .int .i64 p2, .int .i64 q2, .int .i64 u2, .int .i64 v2, .int .i64 c2, .int .i64 x2, .int .i64 y2]), (A1, [.int .i64 k, .int .i64 p, .int .i64 q, .int .i64 u, .int .i64 v, .int .i64 c, .int .i64 x, .int .i64 y]), (A, [.int .i64 r, .int .i64 s, .int .i64 b, .int .i64 o, .int .i64 d])] [] lo B M r s b o d m 0 (fun _ _ => 0) 1 Y1 W5)) := h9
            clear h9 hx CA
            by_cases rb : rtF k8 (hd r s b o d p2 q2 u2 v2) k2 p2 q2 u2 v2 c2 x2 y2 = true
            case neg =>
              have hrb : rtF k8 (hd r s b o d p2 q2 u2 v2) k2 p2 q2 u2 v2 c2 x2 y2 = false := by simpa using rb
              have CB : Hid (∀ W, (Lq w [(A4, L), (A3, [.int .i64 pp, .int .i64 qq, .int .i64 uu, .int .i64 vv]), (A2, [.int .i64 k2, .int .i64 p2, .int .i64 q2, .int .i64 u2, .int .i64 v2, .int .i64 c2, .int .i64 x2, .int .i64 y2]), (A1, [.int .i64 k, .int .i64 p, .int .i64 q, .int .i64 u, .int .i64 v, .int .i64 c, .int .i64 x, .int .i64 y]), (A, [.int .i64 r, .int .i64 s, .int .i64 b, .int .i64 o, .int .i64 d])] [] lo B M r s b o d m 0 (fun _ _ => 0) 1 Y1 W) → Calls Try.prog 23 #[.pointer (some ⟨B, 0, none⟩), .agg #[.int .i64 k2, .int .i64 p2, .int .i64 q2, .int .i64 u2, .int .i64 v2, .int .i64 c2, .int .i64 x2, .int .i64 y2]] W fun e w' => e = .returned (.int .i64 10) ∧ (Lq w [(A4, L), (A3, [.int .i64 pp, .int .i64 qq, .int .i64 uu, .int .i64 vv]), (A2, [.int .i64 k2, .int .i64 p2, .int .i64 q2, .int .i64 u2, .int .i64 v2, .int .i64 c2, .int .i64 x2, .int .i64 y2]), (A1, [.int .i64 k, .int .i64 p, .int .i64 q, .int .i64 u, .int .i64 v, .int .i64 c, .int .i64 x, .int .i64 y]), (A, [.int .i64 r, .int .i64 s, .int .i64 b, .int .i64 o, .int .i64 d])] [] lo B M r s b o d m 0 (fun _ _ => 0) 1 Y1 w')) := fun W h => lqBad h HM.out k2 p2 q2 u2 v2 c2 x2 y2 HW.out.2 (by omega) hrb
              have CR : Hid (∀ w : World, Calls Try.prog 31 #[.agg #[.int .i64 k2, .int .i64 p2, .int .i64 q2, .int .i64 u2, .int .i64 v2, .int .i64 c2, .int .i64 x2, .int .i64 y2], .agg #[.int .i64 r, .int .i64 s, .int .i64 b, .int .i64 o, .int .i64 d], .int .i64 m] w fun e w' => e = .returned (.bool false) ∧ Below w.heap.size w w') := fun w => by rw [← hrb]; exact fRight_any k2 p2 q2 u2 v2 c2 x2 y2 r s b o d m k8 j8 HM.out w
              clear rb hrb
              go_wp2_with (first | refine wpList_load_g (by rfl) 38 _ rfl A2 0 rfl [.int .i64 k2, .int .i64 p2, .int .i64 q2, .int .i64 u2, .int .i64 v2, .int .i64 c2, .int .i64 x2, .int .i64 y2] _ (by exact (HQ.out.ce (A2, [.int .i64 k2, .int .i64 p2, .int .i64 q2, .int .i64 u2, .int .i64 v2, .int .i64 c2, .int .i64 x2, .int .i64 y2]) (by simp)).range) Try.underlying38 rfl infoFt ?_)
              refine (CB.out _ HQ.out).mono ?_
              rintro e W6 ⟨rfl, h9⟩
              replace HQ : Hid ((Lq w [(A4, L), (A3, [.int .i64 pp, .int .i64 qq, .int .i64 uu, .int .i64 vv]), (A2, [.int .i64 k2, .int .i64 p2, .int .i64 q2, .int .i64 u2, .int .i64 v2, .int .i64 c2, .int .i64 x2, .int .i64 y2]), (A1, [.int .i64 k, .int .i64 p, .int .i64 q, .int .i64 u, .int .i64 v, .int .i64 c, .int .i64 x, .int .i64 y]), (A, [.int .i64 r, .int .i64 s, .int .i64 b, .int .i64 o, .int .i64 d])] [] lo B M r s b o d m 0 (fun _ _ => 0) 1 Y1 W6)) := h9
              clear h9 CB
              have hx : W6.rangeAt A1 0 [.int .i64 k, .int .i64 p, .int .i64 q, .int .i64 u, .int .i64 v, .int .i64 c, .int .i64 x, .int .i64 y] := (HQ.out.ce (A1, [.int .i64 k, .int .i64 p, .int .i64 q, .int .i64 u, .int .i64 v, .int .i64 c, .int .i64 x, .int .i64 y]) (by simp)).range
              have hg : W6.rangeAt A 0 [.int .i64 r, .int .i64 s, .int .i64 b, .int .i64 o, .int .i64 d] := (HQ.out.ce (A, [.int .i64 r, .int .i64 s, .int .i64 b, .int .i64 o, .int .i64 d]) (by simp)).range
              go_wp2_with (first | refine wpList_load_mid rfl 38 _ rfl A1 0 rfl [.int .i64 k, .int .i64 p, .int .i64 q, .int .i64 u, .int .i64 v, .int .i64 c, .int .i64 x, .int .i64 y] _ hx Try.underlying38 rfl infoFt ?_ | refine wpList_load_mid rfl 23 _ rfl A 0 rfl [.int .i64 r, .int .i64 s, .int .i64 b, .int .i64 o, .int .i64 d] _ hg Try.underlying23 rfl infoGm ?_)
              refine (CR1.out _).mono ?_
              rintro e W7 ⟨rfl, b6⟩
              replace HQ : Hid ((Lq w [(A4, L), (A3, [.int .i64 pp, .int .i64 qq, .int .i64 uu, .int .i64 vv]), (A2, [.int .i64 k2, .int .i64 p2, .int .i64 q2, .int .i64 u2, .int .i64 v2, .int .i64 c2, .int .i64 x2, .int .i64 y2]), (A1, [.int .i64 k, .int .i64 p, .int .i64 q, .int .i64 u, .int .i64 v, .int .i64 c, .int .i64 x, .int .i64 y]), (A, [.int .i64 r, .int .i64 s, .int .i64 b, .int .i64 o, .int .i64 d])] [] lo B M r s b o d m 0 (fun _ _ => 0) 1 Y1 W7)) := HQ.out.next b6
              clear b6 hx hg CR1
              go_wp2_with (first | refine wpList_load_g (by rfl) 38 _ rfl A2 0 rfl [.int .i64 k2, .int .i64 p2, .int .i64 q2, .int .i64 u2, .int .i64 v2, .int .i64 c2, .int .i64 x2, .int .i64 y2] _ (by exact (HQ.out.ce (A2, [.int .i64 k2, .int .i64 p2, .int .i64 q2, .int .i64 u2, .int .i64 v2, .int .i64 c2, .int .i64 x2, .int .i64 y2]) (by simp)).range) Try.underlying38 rfl infoFt ?_ | refine wpList_load_g (by rfl) 23 _ rfl A 0 rfl [.int .i64 r, .int .i64 s, .int .i64 b, .int .i64 o, .int .i64 d] _ (by exact (HQ.out.ce (A, [.int .i64 r, .int .i64 s, .int .i64 b, .int .i64 o, .int .i64 d]) (by simp)).range) Try.underlying23 rfl infoGm ?_)
              refine (CR.out _).mono ?_
              rintro e W8 ⟨rfl, b6⟩
              replace HQ : Hid ((Lq w [(A4, L), (A3, [.int .i64 pp, .int .i64 qq, .int .i64 uu, .int .i64 vv]), (A2, [.int .i64 k2, .int .i64 p2, .int .i64 q2, .int .i64 u2, .int .i64 v2, .int .i64 c2, .int .i64 x2, .int .i64 y2]), (A1, [.int .i64 k, .int .i64 p, .int .i64 q, .int .i64 u, .int .i64 v, .int .i64 c, .int .i64 x, .int .i64 y]), (A, [.int .i64 r, .int .i64 s, .int .i64 b, .int .i64 o, .int .i64 d])] [] lo B M r s b o d m 0 (fun _ _ => 0) 1 Y1 W8)) := HQ.out.next b6
              clear b6 CR
              have HZ : Hid (Below w.heap.size w W8) := HQ.out.bel
              clear HQ
              go_wp2
              go_ret
              exact ⟨rfl, by first | exact HZ.out | (rw [hA] at HZ; exact HZ.out)⟩
            have hrb : rtF k8 (hd r s b o d p2 q2 u2 v2) k2 p2 q2 u2 v2 c2 x2 y2 = true := rb
            obtain ⟨Y2, hY2⟩ : ∃ Y2, snZ Y1 1 (ffn k2 p2 q2 u2 v2 c2 x2 y2) = Y2 := ⟨_, rfl⟩
            have CB : Hid (∀ W, (Lq w [(A4, L), (A3, [.int .i64 pp, .int .i64 qq, .int .i64 uu, .int .i64 vv]), (A2, [.int .i64 k2, .int .i64 p2, .int .i64 q2, .int .i64 u2, .int .i64 v2, .int .i64 c2, .int .i64 x2, .int .i64 y2]), (A1, [.int .i64 k, .int .i64 p, .int .i64 q, .int .i64 u, .int .i64 v, .int .i64 c, .int .i64 x, .int .i64 y]), (A, [.int .i64 r, .int .i64 s, .int .i64 b, .int .i64 o, .int .i64 d])] [] lo B M r s b o d m 0 (fun _ _ => 0) 1 Y1 W) → Calls Try.prog 23 #[.pointer (some ⟨B, 0, none⟩), .agg #[.int .i64 k2, .int .i64 p2, .int .i64 q2, .int .i64 u2, .int .i64 v2, .int .i64 c2, .int .i64 x2, .int .i64 y2]] W fun e w' => e = .returned (.int .i64 0) ∧ (Lq w [(A4, L), (A3, [.int .i64 pp, .int .i64 qq, .int .i64 uu, .int .i64 vv]), (A2, [.int .i64 k2, .int .i64 p2, .int .i64 q2, .int .i64 u2, .int .i64 v2, .int .i64 c2, .int .i64 x2, .int .i64 y2]), (A1, [.int .i64 k, .int .i64 p, .int .i64 q, .int .i64 u, .int .i64 v, .int .i64 c, .int .i64 x, .int .i64 y]), (A, [.int .i64 r, .int .i64 s, .int .i64 b, .int .i64 o, .int .i64 d])] [] lo B M r s b o d m 0 (fun _ _ => 0) 2 Y2 w')) := fun W h => by
              have := lqLast h HM.out k2 p2 q2 u2 v2 c2 x2 y2 HW.out.2 (by omega) HZZ.out.2.1 (by omega) hrb
              rwa [hY2] at this
            have HCB : Hid (0 ≤ c2 ∧ c2 < k8) := by
              unfold rtF at hrb
              simp only [Bool.and_eq_true, decide_eq_true_eq] at hrb
              have := hrb.2
              unfold rtP at this
              exact ⟨this.2.2.1, this.2.2.2.1⟩
            have HY2 : Hid (snZ Y1 1 (ffn k2 p2 q2 u2 v2 c2 x2 y2) = Y2) := hY2
            clear rb hrb hY2 CR1
            go_wp2_with (first | refine wpList_load_g (by rfl) 38 _ rfl A2 0 rfl [.int .i64 k2, .int .i64 p2, .int .i64 q2, .int .i64 u2, .int .i64 v2, .int .i64 c2, .int .i64 x2, .int .i64 y2] _ (by exact (HQ.out.ce (A2, [.int .i64 k2, .int .i64 p2, .int .i64 q2, .int .i64 u2, .int .i64 v2, .int .i64 c2, .int .i64 x2, .int .i64 y2]) (by simp)).range) Try.underlying38 rfl infoFt ?_)
            refine (CB.out _ HQ.out).mono ?_
            rintro e W6 ⟨rfl, h9⟩
            replace HQ : Hid ((Lq w [(A4, L), (A3, [.int .i64 pp, .int .i64 qq, .int .i64 uu, .int .i64 vv]), (A2, [.int .i64 k2, .int .i64 p2, .int .i64 q2, .int .i64 u2, .int .i64 v2, .int .i64 c2, .int .i64 x2, .int .i64 y2]), (A1, [.int .i64 k, .int .i64 p, .int .i64 q, .int .i64 u, .int .i64 v, .int .i64 c, .int .i64 x, .int .i64 y]), (A, [.int .i64 r, .int .i64 s, .int .i64 b, .int .i64 o, .int .i64 d])] [] lo B M r s b o d m 0 (fun _ _ => 0) 2 Y2 W6)) := h9
            clear h9 CB
            obtain ⟨G1, hG1⟩ : ∃ G1, gput (fun _ _ => 0) i F = G1 := ⟨_, rfl⟩
            have CW : Hid (∀ W, (Lq w [(A4, L), (A3, [.int .i64 pp, .int .i64 qq, .int .i64 uu, .int .i64 vv]), (A2, [.int .i64 k2, .int .i64 p2, .int .i64 q2, .int .i64 u2, .int .i64 v2, .int .i64 c2, .int .i64 x2, .int .i64 y2]), (A1, [.int .i64 k, .int .i64 p, .int .i64 q, .int .i64 u, .int .i64 v, .int .i64 c, .int .i64 x, .int .i64 y]), (A, [.int .i64 r, .int .i64 s, .int .i64 b, .int .i64 o, .int .i64 d])] [] lo B M r s b o d m 0 (fun _ _ => 0) 2 Y2 W) → Calls Try.prog 20 #[.pointer (some ⟨B, 0, none⟩), .int .i64 i, .agg L.toArray] W fun e w' => e = .returned (.tuple #[.agg #[.int .i64 i, .bool false], .int .i64 0]) ∧ (Lq w [(A4, L), (A3, [.int .i64 pp, .int .i64 qq, .int .i64 uu, .int .i64 vv]), (A2, [.int .i64 k2, .int .i64 p2, .int .i64 q2, .int .i64 u2, .int .i64 v2, .int .i64 c2, .int .i64 x2, .int .i64 y2]), (A1, [.int .i64 k, .int .i64 p, .int .i64 q, .int .i64 u, .int .i64 v, .int .i64 c, .int .i64 x, .int .i64 y]), (A, [.int .i64 r, .int .i64 s, .int .i64 b, .int .i64 o, .int .i64 d])] [] lo B M r s b o d m 1 G1 2 Y2 w')) := fun W h => by
              have := lqWrite h i F HF.out (by omega) HX9.out
              rw [hG1] at this
              unfold rawV at this
              rwa [HL.out] at this
            obtain ⟨F4, hF4⟩ : ∃ F4, apF k8 k2 p2 q2 u2 v2 c2 x2 y2 pp qq uu vv (apF k8 k p q u v c x y pp qq uu vv F) = F4 := ⟨_, rfl⟩
            obtain ⟨F5, hF5⟩ : ∃ F5, apF k8 k2 p2 q2 u2 v2 c2 x2 y2 pp qq uu vv F = F5 := ⟨_, rfl⟩
            obtain ⟨L4, hL4⟩ : ∃ L, ints .u8 72 F4 = L := ⟨_, rfl⟩
            obtain ⟨L5, hL5⟩ : ∃ L, ints .u8 72 F5 = L := ⟨_, rfl⟩
            have ll4 : L4.length = 72 := by rw [← hL4]; exact ints_len _ _ _
            have CRD : Hid (∀ W, (Lq w [(A4, L), (A3, [.int .i64 pp, .int .i64 qq, .int .i64 uu, .int .i64 vv]), (A2, [.int .i64 k2, .int .i64 p2, .int .i64 q2, .int .i64 u2, .int .i64 v2, .int .i64 c2, .int .i64 x2, .int .i64 y2]), (A1, [.int .i64 k, .int .i64 p, .int .i64 q, .int .i64 u, .int .i64 v, .int .i64 c, .int .i64 x, .int .i64 y]), (A, [.int .i64 r, .int .i64 s, .int .i64 b, .int .i64 o, .int .i64 d])] [] lo B M r s b o d m 1 G1 2 Y2 W) → Calls Try.prog 21 #[.pointer (some ⟨B, 0, none⟩), .int .i64 i] W fun e w' => e = .returned (.tuple #[.agg L4.toArray, .agg #[.int .i64 i, .bool false], .int .i64 0]) ∧ (Lq w [(A4, L), (A3, [.int .i64 pp, .int .i64 qq, .int .i64 uu, .int .i64 vv]), (A2, [.int .i64 k2, .int .i64 p2, .int .i64 q2, .int .i64 u2, .int .i64 v2, .int .i64 c2, .int .i64 x2, .int .i64 y2]), (A1, [.int .i64 k, .int .i64 p, .int .i64 q, .int .i64 u, .int .i64 v, .int .i64 c, .int .i64 x, .int .i64 y]), (A, [.int .i64 r, .int .i64 s, .int .i64 b, .int .i64 o, .int .i64 d])] [] lo B M r s b o d m 1 G1 2 Y2 w')) := fun W h => by
              have hpb := HPB.out
              have hi := HI.out
              have e0 : i / 1048576 = pp := by rw [hi]; unfold ix; omega
              have e1 : i / 65536 % 16 = qq := by rw [hi]; unfold ix; omega
              have e2 : i / 64 % 1024 = uu := by rw [hi]; unfold ix; omega
              have e3 : i % 64 = vv := by rw [hi]; unfold ix; omega
              have := lqRead h HM.out i HX9.out
              rw [e0, e1, e2, e3, ← hG1, gput_same] at this
              have vo : ovF k8 Y2 pp qq uu vv F 2 = F4 := by
                rw [← hF4, ← HY2.out, ← HY1.out]
                rfl
              rw [vo, hG1] at this
              unfold rawV at this
              rwa [hL4] at this
            have CAP : Hid (∀ w : World, Calls Try.prog 32 #[.agg #[.int .i64 k2, .int .i64 p2, .int .i64 q2, .int .i64 u2, .int .i64 v2, .int .i64 c2, .int .i64 x2, .int .i64 y2], .int .i64 m, .agg #[.int .i64 pp, .int .i64 qq, .int .i64 uu, .int .i64 vv], .agg L.toArray] w fun e w' => e = .returned (.agg L5.toArray) ∧ Below w.heap.size w w') := fun w => by
              have hb9 := bounds_i64 (HW.out.2 6 (by omega))
              have := apply_any k2 p2 q2 u2 v2 c2 x2 y2 pp qq uu vv F HF.out m k8 j8 HM.out hb9.2 w
              rwa [hF5, hL5, HL.out] at this
            have hk8 : k8 = 9 ∨ k8 = 36 := by rcases HM.out with ⟨_, h, _⟩ | ⟨_, h, _⟩ | ⟨_, _, h, _⟩ <;> omega
            have HQQ : Hid (∀ w, (binOp .eql 40 (.agg L4.toArray) (.agg L5.toArray)).run Try.prog w = .ok (.bool true) w) := fun w => by
              rw [← hL4, ← hL5, ← hF4, ← hF5]
              have hzz := HZZ.out
              refine eqlR _ _ (apF_byt _ _ _ _ _ _ _ _ _ _ _ _ _ _ (apF_byt _ _ _ _ _ _ _ _ _ _ _ _ _ _ HF.out)) (apF_byt _ _ _ _ _ _ _ _ _ _ _ _ _ _ HF.out) true (by simp only [true_iff]; exact fun j _ => later_bytes hk8 F hzz.2.1 hzz.2.2.1 hzz.2.2.2.1 (by rw [hzz.2.2.2.2.1, hzz.2.2.2.2.2, E12.out]) HCB.out j) w
            have hz := zeroR
            obtain ⟨T0, hT0⟩ : ∃ Z, (ints .u8 72 fun _ => 0) = Z := ⟨_, rfl⟩
            have lt0 : T0.length = 72 := by rw [← hT0]; exact ints_len _ _ _
            rw [hT0] at hz
            have I72 : Hid ((Try.prog.info? 40).map (·.size) = some 72) := infoR
            have iX : (Try.prog.info? 40).map (·.size) = some L4.toArray.size := by rw [List.size_toArray, ll4]; exact I72.out
            have one1 : L4.toArray.all (·.oneCell') = true := by rw [← hL4]; exact ints_one .u8 72 _
            have iL : (Try.prog.info? 40).map (·.size) = some L.length := by rw [ll]; exact infoR
            clear hT0 hG1 hF4 hF5 hL4 hL5 hk8 HY1 HY2 HCB E12 HPB HI
            have hx : W6.rangeAt A4 0 L := (HQ.out.ce (A4, L) (by simp)).range
            go_wp2_with (first | refine wpList_load_mid rfl 40 _ rfl A4 0 rfl L _ hx Try.underlying40 rfl iL ?_)
            refine (CW.out _ HQ.out).mono ?_
            rintro e W7 ⟨rfl, h9⟩
            replace HQ : Hid ((Lq w [(A4, L), (A3, [.int .i64 pp, .int .i64 qq, .int .i64 uu, .int .i64 vv]), (A2, [.int .i64 k2, .int .i64 p2, .int .i64 q2, .int .i64 u2, .int .i64 v2, .int .i64 c2, .int .i64 x2, .int .i64 y2]), (A1, [.int .i64 k, .int .i64 p, .int .i64 q, .int .i64 u, .int .i64 v, .int .i64 c, .int .i64 x, .int .i64 y]), (A, [.int .i64 r, .int .i64 s, .int .i64 b, .int .i64 o, .int .i64 d])] [] lo B M r s b o d m 1 G1 2 Y2 W7)) := h9
            clear h9 hx CW
            go_wp2_with fail
            refine (CRD.out _ HQ.out).mono ?_
            rintro e W8 ⟨rfl, h9⟩
            obtain ⟨h7, ht, ht2⟩ := h9.layRW L4 T0 40 59 i false (by rw [ll4, lt0])
            have on : (#[.int .i64 i, .bool false] : Array Value).all (·.oneCell') = true := one_we _ _
            obtain ⟨R, hR⟩ : ∃ R, W8.heap.size = R := ⟨_, rfl⟩
            rw [hR] at ht ht2 h7
            have HL7 : Hid ((Lq w [(A4, L), (A3, [.int .i64 pp, .int .i64 qq, .int .i64 uu, .int .i64 vv]), (A2, [.int .i64 k2, .int .i64 p2, .int .i64 q2, .int .i64 u2, .int .i64 v2, .int .i64 c2, .int .i64 x2, .int .i64 y2]), (A1, [.int .i64 k, .int .i64 p, .int .i64 q, .int .i64 u, .int .i64 v, .int .i64 c, .int .i64 x, .int .i64 y]), (A, [.int .i64 r, .int .i64 s, .int .i64 b, .int .i64 o, .int .i64 d])] [(R + 1, [.int .i64 i, .bool false]), (R, L4)] lo B M r s b o d m 1 G1 2 Y2 ((((W8.alloc (.cells T0.toArray 40)).alloc (.cells #[.int .i64 0, .bool false] 59)).setCells R 0 L4).setCells (R + 1) 0 [.int .i64 i, .bool false]))) := h7
            clear h9 h7 CRD HQ
            go_upto_region 13 with (first
              | refine wpList_store_mid rfl 40 _ _ rfl R 0 L4.toArray rfl rfl ht iX one1 ?_
              | refine wpList_store_mid rfl 59 _ _ rfl (R + 1) 0 #[.int .i64 i, .bool false] rfl rfl ht2 infoWe on ?_)
            obtain ⟨W9, hW9⟩ : ∃ W, ((((W8.alloc (.cells T0.toArray 40)).alloc (.cells #[.int .i64 0, .bool false] 59)).setCells R 0 L4).setCells (R + 1) 0 [.int .i64 i, .bool false]) = W := ⟨_, rfl⟩
            replace HL7 : Hid ((Lq w [(A4, L), (A3, [.int .i64 pp, .int .i64 qq, .int .i64 uu, .int .i64 vv]), (A2, [.int .i64 k2, .int .i64 p2, .int .i64 q2, .int .i64 u2, .int .i64 v2, .int .i64 c2, .int .i64 x2, .int .i64 y2]), (A1, [.int .i64 k, .int .i64 p, .int .i64 q, .int .i64 u, .int .i64 v, .int .i64 c, .int .i64 x, .int .i64 y]), (A, [.int .i64 r, .int .i64 s, .int .i64 b, .int .i64 o, .int .i64 d])] [(R + 1, [.int .i64 i, .bool false]), (R, L4)] lo B M r s b o d m 1 G1 2 Y2 W9)) := by rw [← hW9]; exact HL7.out
            rw [hW9]
            clear hW9 ht ht2 hR
            refine region_calm (by kernel_rfl) (by kernel_rfl) (fun W => Below W9.heap.size W9 W) (below_drew1 W9) ?_
            intro U2 hU2 g2 hf hof
            have HN : Hid (∀ u W, Below (g2 u).heap.size (g2 u) W → ∃ x, W = g2 x) := fun u W h => hof W ((hf u).trans (h.mono (hf u).size))
            have HE : Hid (∀ t9, (Lq w [(A4, L), (A3, [.int .i64 pp, .int .i64 qq, .int .i64 uu, .int .i64 vv]), (A2, [.int .i64 k2, .int .i64 p2, .int .i64 q2, .int .i64 u2, .int .i64 v2, .int .i64 c2, .int .i64 x2, .int .i64 y2]), (A1, [.int .i64 k, .int .i64 p, .int .i64 q, .int .i64 u, .int .i64 v, .int .i64 c, .int .i64 x, .int .i64 y]), (A, [.int .i64 r, .int .i64 s, .int .i64 b, .int .i64 o, .int .i64 d])] [(R + 1, [.int .i64 i, .bool false]), (R, L4)] lo B M r s b o d m 1 G1 2 Y2 (g2 t9))) := fun t9 => HL7.out.next (hf t9)
            clear hf hof HL7
            go_big_quiet_step (fail)
            go_big_quiet_step (fail)
            go_big_quiet_step (fail)
            refine quiet_load (by rfl) 40 _ rfl R 0 rfl L4 _ (by rintro _ ⟨t9, rfl⟩; exact ((HE.out t9).cl (R, L4) (by simp)).range) Try.underlying40 rfl (by rw [ll4]; exact I72.out) ?_
            simp only [Act.put, List.setIfInBounds_toArray, List.set_cons_zero, List.set_cons_succ]
            refine quiet_load (by rfl) 38 _ rfl A2 0 rfl [.int .i64 k2, .int .i64 p2, .int .i64 q2, .int .i64 u2, .int .i64 v2, .int .i64 c2, .int .i64 x2, .int .i64 y2] _ (by rintro _ ⟨t9, rfl⟩; exact ((HE.out t9).ce (A2, [.int .i64 k2, .int .i64 p2, .int .i64 q2, .int .i64 u2, .int .i64 v2, .int .i64 c2, .int .i64 x2, .int .i64 y2]) (by simp)).range) Try.underlying38 rfl infoFt ?_
            simp only [Act.put, List.setIfInBounds_toArray, List.set_cons_zero, List.set_cons_succ]
            go_big_quiet_step (fail)
            refine quiet_load (by rfl) 36 _ rfl A3 0 rfl [.int .i64 pp, .int .i64 qq, .int .i64 uu, .int .i64 vv] _ (by rintro _ ⟨t9, rfl⟩; exact ((HE.out t9).ce (A3, [.int .i64 pp, .int .i64 qq, .int .i64 uu, .int .i64 vv]) (by simp)).range) Try.underlying36 rfl info_place ?_
            simp only [Act.put, List.setIfInBounds_toArray, List.set_cons_zero, List.set_cons_succ]
            refine quiet_load (by rfl) 40 _ rfl A4 0 rfl L _ (by rintro _ ⟨t9, rfl⟩; exact ((HE.out t9).ce (A4, L) (by simp)).range) Try.underlying40 rfl iL ?_
            simp only [Act.put, List.setIfInBounds_toArray, List.set_cons_zero, List.set_cons_succ]
            go_big_quiet_step ((go_at_call 32; exact calm_next HN.out (CAP.out _)))
            refine quiet_one (by rfl) (.bool true) (exec_eqlA 40 _ _ _ rfl L4.toArray L5.toArray _ rfl rfl gdR12 HQQ.out) ?_
            simp only [Act.put, List.setIfInBounds_toArray, List.set_cons_zero, List.set_cons_succ]
            go_big_quiet_step (fail)
            go_big_quiet_step (fail)
            refine wpQuiet_nil ?_
            rintro _ ⟨y9, rfl⟩
            have HZ : Hid (Below w.heap.size w (g2 y9)) := (HE.out y9).bel
            clear HE HN CAP
            go_wp2
            go_ret
            exact ⟨rfl, by first | exact HZ.out | (rw [hA] at HZ; exact HZ.out)⟩
          
      | true =>
        go_big_quiet_step (fail)
        go_big_quiet_step (fail)
        go_big_quiet_step (fail)
        go_big_quiet_step (fail)
        go_big_quiet_step (fail)
        go_big_quiet_step (fail)
        go_big_quiet_step (fail)
        go_big_quiet_step (fail)
        go_big_quiet_step (fail)
        go_big_quiet_step (fail)
        go_big_quiet_step (fail)
        go_big_quiet_step (fail)
        go_big_quiet_step (fail)
        go_big_quiet_step (fail)
        refine wpQuiet_nil ?_
        rintro _ ⟨y9, rfl⟩
        have HQ : Hid (Lq w [(A4, L), (A3, [.int .i64 pp, .int .i64 qq, .int .i64 uu, .int .i64 vv]), (A2, [.int .i64 k2, .int .i64 p2, .int .i64 q2, .int .i64 u2, .int .i64 v2, .int .i64 c2, .int .i64 x2, .int .i64 y2]), (A1, [.int .i64 k, .int .i64 p, .int .i64 q, .int .i64 u, .int .i64 v, .int .i64 c, .int .i64 x, .int .i64 y]), (A, [.int .i64 r, .int .i64 s, .int .i64 b, .int .i64 o, .int .i64 d])] [] lo B M r s b o d m 0 (fun _ _ => 0) 0 (fun _ _ => 0) (g y9)) := HE.out y9
        obtain ⟨W4, hW4⟩ : ∃ W, g y9 = W := ⟨_, rfl⟩
        rw [hW4] at HQ ⊢
        clear hW4 HE HN CLa CLb CNb CZb CCa CCb
        have HZ : Hid (Below w.heap.size w W4) := HQ.out.bel
        clear HQ
        go_wp2
        go_ret
        exact ⟨rfl, by first | exact HZ.out | (rw [hA] at HZ; exact HZ.out)⟩
theorem dramLater_walk (a0 : Nat → Int) (a1 : Int) (a2 a3 a4 a5 : Nat → Int) (_w0 : ∀ i, i < 5 → (Lit.int .i64 (a0 i)).wf = true) (_w1 : (Lit.int .i64 a1).wf = true) (w2 : ∀ i, i < 8 → (Lit.int .i64 (a2 i)).wf = true) (w3 : ∀ i, i < 8 → (Lit.int .i64 (a3 i)).wf = true) (_w4 : ∀ i, i < 4 → (Lit.int .i64 (a4 i)).wf = true) (w5 : ∀ i, i < 72 → (Lit.int .u8 (a5 i)).wf = true) (w : World) :
    Calls Try.prog 7 #[.agg (ints .i64 5 a0).toArray, .int .i64 a1, .agg (ints .i64 8 a2).toArray, .agg (ints .i64 8 a3).toArray, .agg (ints .i64 4 a4).toArray, .agg (ints .u8 72 a5).toArray] w fun e w' => e = .returned (.bool true) ∧ Below w.heap.size w w' :=
  dramLater_core (a0 0) (a0 1) (a0 2) (a0 3) (a0 4) a1 (a2 0) (a2 1) (a2 2) (a2 3) (a2 4) (a2 5) (a2 6) (a2 7) (a3 0) (a3 1) (a3 2) (a3 3) (a3 4) (a3 5) (a3 6) (a3 7) (a4 0) (a4 1) (a4 2) (a4 3) a5 (fun i hi => by have := bounds_u8 (w5 i hi); omega)
    (ffn_wf12 (wf_i64' (w2 0 (by omega))) (wf_i64' (w2 1 (by omega))) (wf_i64' (w2 2 (by omega))) (wf_i64' (w2 3 (by omega))) (wf_i64' (w2 4 (by omega))) (wf_i64' (w2 5 (by omega))) (wf_i64' (w2 6 (by omega))) (wf_i64' (w2 7 (by omega))))
    (ffn_wf12 (wf_i64' (w3 0 (by omega))) (wf_i64' (w3 1 (by omega))) (wf_i64' (w3 2 (by omega))) (wf_i64' (w3 3 (by omega))) (wf_i64' (w3 4 (by omega))) (wf_i64' (w3 5 (by omega))) (wf_i64' (w3 6 (by omega))) (wf_i64' (w3 7 (by omega)))) w
end Go.Proofs.Ytcpjmfemgdgplaa
