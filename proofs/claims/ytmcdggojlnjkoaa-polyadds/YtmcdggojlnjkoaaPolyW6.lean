/-
  The walks of Scale, Add and Shift.
-/
import Derived.Test.YtmcdggojlnjkoaaPolyW5
namespace Go.Proofs.Ytmcdggojlnjkoaa
open Go.RowKit Go.Deep
open Gf (eI lI gI dI pI)
open Po (toE cf mu S pwr ev cv Low)

theorem arg_lit (w : World) (l : List Int) (hb : Byt l) : Arg (w.alloc (.cells (l.map (Value.int .u8)).toArray 5)) (some ⟨w.heap.size, 0, none⟩) l.length l.length l := by
  refine ⟨rfl, .inr ⟨w.heap.size, 0, rfl, by simp, fun i hi => ?_⟩, hb, Nat.le_refl _, fun e => by cases e⟩
  rw [Nat.zero_add, World.cell?_alloc_new]
  simp [hi]
theorem byt_one (a : Int) (h : 0 ≤ a ∧ a < 256) : Byt [a] := fun i hi => by
  have : i = 0 := by simp at hi; omega
  subst this; exact h
theorem byt_two (a b : Int) (h : 0 ≤ a ∧ a < 256) (k : 0 ≤ b ∧ b < 256) : Byt [a, b] := fun i hi => by
  have : i = 0 ∨ i = 1 := by simp at hi; omega
  rcases this with rfl | rfl
  · exact h
  · exact k
theorem IsP.congr {w : World} {e : Ending} {C D : Nat → Po.El} {N : Nat} (h : IsP w e C N) (hc : ∀ i, C i = D i) : IsP w e D N := by
  obtain ⟨a, n, c, l, he, A, ht, hl, hN⟩ := h
  exact ⟨a, n, c, l, he, A, ht, fun i => by rw [hl i, hc i], hN⟩
theorem IsP.low {w : World} {e : Ending} {C : Nat → Po.El} {N M : Nat} (h : IsP w e C N) (hc : Low M C) : IsP w e C M := by
  obtain ⟨a, n, c, l, he, A, ht, hl, hN⟩ := h
  refine ⟨a, n, c, l, he, A, ht, hl, ?_⟩
  by_cases hM : n ≤ M
  · exact hM
  · have := cf_top_tl l A.byt (by omega)
    rw [hl, ht, hc (n - 1) (by omega)] at this
    exact absurd rfl this
theorem cv_const (p : Nat → Po.El) (a : Int) (k : Nat) : cv p (cf [a]) k = mu (p k) (toE a) := by
  unfold cv
  rw [Po.S_one (k + 1) k _ (by omega) (fun i hi hne => by rw [Po.cf_low [a] (k - i) (by simp; omega), Po.mu_zero]), Nat.sub_self]; rfl

set_option maxHeartbeats 400000 in
theorem scale_any (b : Nat) (ap : Option Addr) (np cp : Nat) (p : List Int) (x : Int) (w : World) (hf : FldAt w b) (P : Arg w ap np cp p) (hp : np ≤ 2000) (hx : 0 ≤ x ∧ x < 256) :
    Calls Try.prog 12 #[.pointer (some ⟨b, 0, none⟩), .slice ap np cp, .int .u8 x] w fun e w' => IsP w' e (fun i => mu (cf p i) (toE x)) np ∧ Below w.heap.size w w' := by
  have X := arg_lit w [x] (byt_one x hx)
  have P1 := P.alloc (.cells ([x].map (Value.int .u8)).toArray 5)
  have hf1 : FldAt (w.alloc (.cells ([x].map (Value.int .u8)).toArray 5)) b := hf.below ((Below.refl _ _).alloc (Nat.le_refl _) _)
  have hB1 : Below w.heap.size w (w.alloc (.cells ([x].map (Value.int .u8)).toArray 5)) := (Below.refl _ _).alloc (Nat.le_refl _) _
  have K := pmul_any b ap np cp p _ _ _ [x] _ hf1 P1 X hp (by simp)
  simp only [List.map_cons, List.map_nil, List.length_cons, List.length_nil, Nat.zero_add] at K hB1
  go_enter Try.func12, Try.ntmps12
  go_wp2_with (go_at_call 21; refine K.mono ?_; rintro e w' ⟨⟨a, n, c, l, rfl, A, ht, hl, hN⟩, hB⟩)
  go_ret
  refine ⟨IsP.low (N := n) ⟨a, n, c, l, rfl, A, ht, fun i => by rw [hl i, cv_const], Nat.le_refl _⟩ (fun i hi => ?_), hB1.trans (hB.mono (by simp))⟩
  rw [Po.cf_low p i (by rw [P.len]; exact hi), Po.zero_mu]

theorem run_maxN {P : Program} (a b N : Nat) (h : max a b = N) (ts : Array TypeId) (t : TypeId) (w : World) : (Builtin.max_ ts t #[.int .i64 (a : Int), .int .i64 (b : Int)]).run P w = .ok (.int .i64 (N : Int)) w := by
  have e : (if (a : Int) < (b : Int) then (b : Int) else a) = (N : Int) := by split <;> omega
  rw [← e]
  simp [Builtin.max_, Builtin.max2]
theorem run_maxI {P : Program} (n : Int) (N : Nat) (h : n.toNat = N) (ts : Array TypeId) (t : TypeId) (w : World) : (Builtin.max_ ts t #[.int .i64 n, .int .i64 0]).run P w = .ok (.int .i64 (N : Int)) w := by
  have e : (if n < 0 then (0 : Int) else n) = (N : Int) := by split <;> omega
  rw [← e]
  simp [Builtin.max_, Builtin.max2]
/-- zeros, with a list laid over them from a place on -/
theorem rowE_splice {w : World} {g N off : Nat} {l : List Int} {z : List Value} (hb : Byt l) (hz : z = List.replicate N (.int .u8 0)) (hfit : off + l.length ≤ N) (cs : List Value) (hcs : cs = l.map (Value.int .u8))
    (h : w.heap[g]? = some (.cells (splice z off cs).toArray 5 (0, 0))) : RowE w g N (fun j => if off ≤ j then cf l (j - off) else 0) := by
  have hlen : (splice z off cs).length = N := by rw [length_splice _ _ _ (by rw [hz, hcs]; simp; omega), hz]; simp
  refine ⟨N, fun j => (splice z off cs)[j]?.getD (.int .u8 0), Nat.le_refl _, ⟨_, h, by simpa using hlen, fun i hi => by
    have : i < (splice z off cs).length := by omega
    simp [this]⟩, fun j hj => ?_⟩
  show (splice z off cs)[j]?.getD (.int .u8 0) = .int .u8 (ofE (if off ≤ j then cf l (j - off) else 0))
  unfold splice
  by_cases h1 : off ≤ j
  · rw [if_pos h1, List.getElem?_append_right (by rw [hz]; simp; omega)]
    have e1 : (List.take off z).length = off := by rw [hz]; simp; omega
    rw [e1]
    by_cases h2 : j - off < l.length
    · rw [List.getElem?_append_left (by rw [hcs]; simpa using h2), hcs, List.getElem?_map, ofE_cf l hb]
      rw [List.getElem?_eq_getElem h2]; rfl
    · rw [List.getElem?_append_right (by rw [hcs]; simp; omega), List.getElem?_drop, Po.cf_low l _ (by omega), hz, List.getElem?_replicate]
      split <;> rfl
  · rw [if_neg h1, List.getElem?_append_left (by rw [hz]; simp; omega), List.getElem?_take_of_lt (by omega), hz, List.getElem?_replicate, if_pos hj]; rfl
theorem made_zeros (N : Nat) : madeCells #[Value.int .u8 0] N = (List.replicate N (Value.int .u8 0)).toArray := by
  apply Array.ext_getElem?
  intro i
  simp [madeCells]
  by_cases h : i < N <;> simp [h, Nat.mod_one]
/-- the cells of a list, where a copy asks for them -/
theorem SlAt.cells {w : World} {a : Option Addr} {l : List Int} (h : SlAt w a l) (h0 : 0 < l.length) : ∃ ad, a = some ad ∧ ∀ j v, (l.map (Value.int .u8))[j]? = some v → w.cell? (ad.add j) = some v := by
  rcases h with h | ⟨b, o, ha, hb, hl⟩
  · rw [h] at h0; simp at h0
  · refine ⟨_, ha, fun j v hj => ?_⟩
    have hjl : j < l.length := by have := (List.getElem?_eq_some_iff.1 hj).1; simpa using this
    have e : v = .int .u8 (l[j]?.getD 0) := by
      rw [List.getElem?_map, List.getElem?_eq_getElem hjl] at hj
      rw [List.getElem?_eq_getElem hjl]
      simpa using hj.symm
    rw [e, ← hl j hjl]
    unfold Addr.add
    split
    · rename_i h; simp [h]
    · rfl

/-- the sum, as far as k places -/
def xrN (p q : Nat → Po.El) (k j : Nat) : Po.El := if j < k then p j ^^^ q j else p j
theorem xrN_step (p q : Nat → Po.El) (k j : Nat) : (if j = k then p k ^^^ q k else xrN p q k j) = xrN p q (k + 1) j := by
  unfold xrN
  by_cases e : j = k
  · subst e; rw [if_pos rfl, if_pos (by omega)]
  · rw [if_neg e]
    by_cases h : j < k
    · rw [if_pos h, if_pos (by omega)]
    · rw [if_neg h, if_neg (by omega)]
theorem xrN_at (p q : Nat → Po.El) (k : Nat) : xrN p q k k = p k := if_neg (by omega)

theorem size_u8 : (Try.prog.info? 5).map (·.size) = some 1 := by kernel_rfl
set_option maxRecDepth 100000 in
set_option maxHeartbeats 1000000 in
theorem add_any (ap : Option Addr) (np cp : Nat) (p : List Int) (aq : Option Addr) (nq cq : Nat) (q : List Int) (w : World) (P : Arg w ap np cp p) (Q : Arg w aq nq cq q) (hp : np ≤ 2000) (hq : nq ≤ 2000) :
    Calls Try.prog 11 #[.slice ap np cp, .slice aq nq cq] w fun e w' => IsP w' e (fun i => cf p i ^^^ cf q i) (max np nq) ∧ Below w.heap.size w w' := by
  obtain ⟨N, hN, hpN, hqN, HN⟩ : ∃ N, N ≤ 2000 ∧ np ≤ N ∧ nq ≤ N ∧ Hid (max np nq = N) := ⟨_, by omega, by omega, by omega, rfl⟩
  have hmx := run_maxN (P := Try.prog) np nq N HN.out
  have hmk := run_make_row' (P := Try.prog) 22 5 (.int .u8 0) 1 Try.underlying22 info_u8 rfl .i64 .i64 N (by omega) (by omega)
  obtain ⟨cs, Hcs⟩ : ∃ cs, Hid (cs = p.map (Value.int .u8)) := ⟨_, rfl⟩
  obtain ⟨z, Hz⟩ : ∃ z, Hid (z = List.replicate N (Value.int .u8 0)) := ⟨_, rfl⟩
  have Hl : Hid (cs.length = np) := by show _ = _; rw [Hcs.out, List.length_map, P.len]
  go_enter Try.func11, Try.ntmps11
  go_wp2_with (refine wpList_copy_splice rfl _ _ 22 22 rfl 5 Try.underlying22 size_u8 (some ⟨w.heap.size, 0, none⟩) ap N N np cp rfl rfl w.heap.size 0 z 5 ?g1 cs ?g2 ?g3 ?g4 ?g5 w.heap.size w ?g6 (Nat.le_refl _) ?_)
  case g1 => rw [Hz.out, ← made_zeros]; exact heap_alloc_new w _
  case g2 => rw [Hl.out]; exact (Nat.min_eq_left hpN).symm
  case g3 =>
    intro h0
    obtain ⟨ad, ha, hc⟩ := (P.alloc (.cells (madeCells #[Value.int .u8 0] N) 5)).sl.cells (by rw [P.len, ← Hl.out]; exact h0)
    first | exact ⟨ad, ha, by rw [Hcs.out]; exact hc⟩ | exact ⟨rfl, ad, ha, by rw [Hcs.out]; exact hc⟩
  case g4 => rw [Hl.out, Hz.out]; simp; omega
  case g5 => intro u hu; rw [Hcs.out] at hu; obtain ⟨x, _, rfl⟩ := List.mem_map.1 hu; rfl
  case g6 => exact (Below.refl _ _).alloc (Nat.le_refl _) _
  intro w1 Hr hB
  have row0 : RowE w1 w.heap.size N (cf p) := (rowE_splice P.byt Hz.out (by rw [P.len]; omega) cs Hcs.out Hr.out).congr (fun j _ => by rw [if_pos (Nat.zero_le _)]; rfl)
  clear Hr hmk hmx Hl Hcs Hz
  go_wp2
  go_loopw [19] (fun i wr => ∃ k : Nat, k ≤ nq ∧ i = .int .i64 (k : Int) ∧ RowE wr w.heap.size N (xrN (cf p) (cf q) k) ∧ Below w.heap.size w wr) (fun i _ => nq - (intOf i).toNat)
  case atStart => exact ⟨0, by omega, rfl, row0.congr (fun j _ => (if_neg (by omega)).symm), hB⟩
  case round =>
    clear row0 hB
    obtain ⟨k, hk, rfl, row, hB⟩ := hrel
    by_cases hlt : k < nq
    · obtain ⟨y, h1, Hy⟩ : ∃ y, (0 ≤ y ∧ y < 256) ∧ Hid (y = q[k]?.getD 0) := ⟨_, Q.byt k (by rw [Q.len]; exact hlt), rfl⟩
      obtain ⟨v, h2, Hv⟩ : ∃ v, (0 ≤ v ∧ v < 256) ∧ Hid (ofE (cf p k) = v) := ⟨_, ofE_bd _, rfl⟩
      rcases Q.sl with sq | ⟨b1, o1, rfl, hb1, hc1⟩
      · have := Q.len; rw [sq] at this; simp at this; omega
      have c1 : wr.cell? ⟨b1, o1 + k, none⟩ = some (.int .u8 y) := by rw [Hy.out, hB.cell (p := ⟨b1, o1 + k, none⟩) hb1]; exact hc1 k (by rw [Q.len]; exact hlt)
      have c2 := row.cell (i := k) (by omega)
      rw [xrN_at, Hv.out] at c2
      have z2 : wr.frozen? ⟨w.heap.size, k, none⟩ = false := row.frozen k
      have hkN : k < N := by omega
      clear hc1
      go_wp2
      go_roundw
      case rel =>
        refine ⟨k + 1, by omega, by go_num, ?_, hB.setCell (p := ⟨w.heap.size, k, none⟩) (Nat.le_refl _) _⟩
        rw [← Hv.out, Hy.out, ← ofE_cf q Q.byt k, xor_ofE]
        exact (row.set k _).congr (fun j _ => xrN_step _ _ k j)
      case measure => simp [intOf]; omega
    · have hkm : k = nq := by omega
      subst hkm
      have row' : RowE wr w.heap.size N (fun j => cf p j ^^^ cf q j) := row.congr (fun j _ => by
        unfold xrN
        by_cases h : j < k
        · rw [if_pos h]
        · rw [if_neg h, Po.cf_low q j (by rw [Q.len]; omega), Po.x0])
      have A := row'.arg (Nat.le_refl N)
      obtain ⟨m, Hm⟩ : ∃ m, Hid (tl (lst N (fun j => cf p j ^^^ cf q j)) = m) := ⟨_, rfl⟩
      obtain ⟨l', A', Hl', Ht', hmN⟩ := A.trim Hm
      have hlow : Low N (fun j => cf p j ^^^ cf q j) := fun j hj => by
        show cf p j ^^^ cf q j = 0
        rw [Po.cf_low p j (by rw [P.len]; omega), Po.cf_low q j (by rw [Q.len]; omega)]; rfl
      go_wp2_with (go_at_call 30; refine (trimmed_arg _ N N m _ wr A (by omega) Hm).mono ?_; rintro e w' ⟨rfl, rfl⟩)
      go_ret
      exact ⟨⟨_, m, N, l', rfl, A', Ht'.out, fun i => by rw [Hl'.out i, lst_low N _ hlow], by rw [HN.out]; exact hmN⟩, hB⟩

set_option maxRecDepth 100000 in
set_option maxHeartbeats 1000000 in
theorem shift_any (ap : Option Addr) (np cp : Nat) (p : List Int) (n : Int) (K : Nat) (w : World) (P : Arg w ap np cp p) (hp : np ≤ 2000) (hn : n ≤ 2000) (hK : Hid (n.toNat = K)) :
    Calls Try.prog 13 #[.slice ap np cp, .int .i64 n] w fun e w' => IsP w' e (fun j => if K ≤ j then cf p (j - K) else 0) (np + K) ∧ Below w.heap.size w w' := by
  obtain ⟨m, Hm⟩ : ∃ m, Hid (tl p = m) := ⟨_, rfl⟩
  obtain ⟨p', P', Hp', Ht', hmp⟩ := P.trim Hm
  have KP := trimmed_arg ap np cp m p w P (by omega) Hm
  by_cases h1 : m = 0
  · subst h1
    go_enter Try.func13, Try.ntmps13
    go_wp2_with (go_at_call 30; refine KP.mono ?_; rintro e w' ⟨rfl, rfl⟩)
    go_ret
    exact ⟨isP_none _ _ _ (fun i => by split <;> first | rfl | exact cf_low_tl p P.byt _ (by rw [Hm.out]; omega)), Below.refl _ _⟩
  have h1' : ((m : Int) == 0) = false := by simp [h1]
  have h1p : 0 < m := by omega
  clear h1
  have hK2 : K ≤ 2000 := by have := hK.out; omega
  obtain ⟨N, hN, hKN, HN⟩ : ∃ N, N ≤ 4000 ∧ K < N ∧ Hid (K + m = N) := ⟨_, by omega, by omega, rfl⟩
  have hmx := run_maxI (P := Try.prog) n K hK.out
  have hmk := run_make_row' (P := Try.prog) 22 5 (.int .u8 0) 1 Try.underlying22 info_u8 rfl .i64 .i64 N (by omega) (by omega)
  have eN : ((N : Nat) : Int) = (K : Int) + (m : Int) := by have := HN.out; omega
  rw [eN] at hmk
  clear eN
  obtain ⟨cs, Hcs⟩ : ∃ cs, Hid (cs = p'.map (Value.int .u8)) := ⟨_, rfl⟩
  obtain ⟨z, Hz⟩ : ∃ z, Hid (z = List.replicate N (Value.int .u8 0)) := ⟨_, rfl⟩
  have Hl : Hid (cs.length = m) := by show _ = _; rw [Hcs.out, List.length_map, P'.len]
  go_enter Try.func13, Try.ntmps13
  go_wp2_with (first | (go_at_call 30; refine KP.mono ?_; rintro e w' ⟨rfl, rfl⟩) | (refine wpList_copy_splice rfl _ _ 22 22 rfl 5 Try.underlying22 size_u8 (some ⟨w'.heap.size, K, none⟩) ap (N - K) (N - K) m cp rfl rfl w'.heap.size K z 5 ?g1 cs ?g2 ?g3 ?g4 ?g5 w'.heap.size w' ?g6 (Nat.le_refl _) ?_))
  case g1 => rw [Hz.out, ← made_zeros]; exact heap_alloc_new w' _
  case g2 => rw [Hl.out]; exact (Nat.min_eq_left (by have := HN.out; omega)).symm
  case g3 =>
    intro h0
    obtain ⟨ad, ha, hc⟩ := (P'.alloc (.cells (madeCells #[Value.int .u8 0] N) 5)).sl.cells (by rw [P'.len, ← Hl.out]; exact h0)
    first | exact ⟨ad, ha, by rw [Hcs.out]; exact hc⟩ | exact ⟨rfl, ad, ha, by rw [Hcs.out]; exact hc⟩
  case g4 => rw [Hl.out, Hz.out]; have := HN.out; simp; omega
  case g5 => intro u hu; rw [Hcs.out] at hu; obtain ⟨x, _, rfl⟩ := List.mem_map.1 hu; rfl
  case g6 => exact (Below.refl _ _).alloc (Nat.le_refl _) _
  intro w1 Hr hB
  have row0 := rowE_splice P'.byt Hz.out (by rw [P'.len]; have := HN.out; omega) cs Hcs.out Hr.out
  clear Hr hmk hmx Hl Hcs Hz
  go_wp2
  go_ret
  have hNN := HN.out
  have hlow : Low N (fun j => if K ≤ j then cf p' (j - K) else 0) := fun j hj => by
    show (if K ≤ j then cf p' (j - K) else 0) = 0
    rw [if_pos (by omega)]; exact Po.cf_low p' _ (by rw [P'.len]; omega)
  refine ⟨isP_row row0 (Nat.le_refl _) (fun _ => ?_) hlow _ (fun i => by rw [Hp'.out]) _ (by omega), hB⟩
  show (if K ≤ N - 1 then cf p' (N - 1 - K) else 0) ≠ 0
  have ht := cf_top_tl p P.byt (by rw [Hm.out]; exact h1p)
  rw [if_pos (by omega), Hp'.out, show N - 1 - K = m - 1 from by omega]
  rwa [Hm.out] at ht

end Go.Proofs.Ytmcdggojlnjkoaa
