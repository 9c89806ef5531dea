/-
  The walks of Roots, of Mod, and of the document's example.
-/
import Derived.Test.YtdjknaafefnlcaaDoorPolyW6
namespace Go.Proofs.YtdjknaafefnlcaaDoor
open Go.RowKit Go.Deep
open Gf (eI lI gI dI pI)
open Po (toE cf mu S pwr ev cv Low rts lin one)

/-- the polynomial of the first k roots -/
def RT (r : List Int) (k : Nat) : Nat → Po.El := rts ((r.take k).map toE).reverse
theorem RT_step (r : List Int) (k : Nat) (hk : k < r.length) : RT r (k + 1) = cv (RT r k) (lin (toE (r[k]?.getD 0))) := by
  unfold RT
  have e : r.take (k + 1) = r.take k ++ [r[k]?.getD 0] := by
    rw [List.take_add_one, List.getElem?_eq_getElem hk]; rfl
  rw [e, List.map_append, List.reverse_append]
  rfl
theorem RT_low (r : List Int) (k : Nat) (hk : k ≤ r.length) : Low (k + 1) (RT r k) := by
  have h := Po.rts_low ((r.take k).map toE).reverse
  have e : (((r.take k).map toE).reverse).length = k := by simp; omega
  rw [e] at h
  exact h
theorem cf_one (i : Nat) : cf [1] i = one i := by
  unfold one
  by_cases h : i = 0
  · subst h; rfl
  · rw [if_neg h]; exact Po.cf_low [1] i (by simp; omega)
theorem cf_lin (x : Int) (i : Nat) : cf [x, 1] i = lin (toE x) i := by
  unfold lin
  by_cases h : i = 0
  · subst h; rfl
  · rw [if_neg h]
    by_cases h1 : i = 1
    · subst h1; rfl
    · rw [if_neg h1]; exact Po.cf_low [x, 1] i (by simp; omega)
theorem degree_arg (a : Option Addr) (n c m : Nat) (l : List Int) (d : Int) (w : World) (A : Arg w a n c l) (hn : n ≤ 4000) (hm : Hid (tl l = m)) (hd : Hid (d = (m : Int) - 1)) :
    Calls Tryd.prog 81 #[.slice a n c] w fun e w' => e = .returned (.int .i64 d) ∧ w' = w := by
  obtain ⟨en, sa, ba, hc, hnil⟩ := A
  subst en
  have h := degree_any a c l w sa ba (by unfold maxLen; omega)
  rw [hm.out, ← hd.out] at h
  exact h
theorem below_like {w w' : World} (h : ∃ k, w' = w.drewN k) : Below w.heap.size w w' := by
  obtain ⟨k, rfl⟩ := h; exact below_drewN (Below.refl _ _) k
/-- one behind the other, each over all that there was -/
theorem bnext {w a b : World} (h : Below w.heap.size w a) (k : Below a.heap.size a b) : Below w.heap.size w b := h.trans (k.mono h.size)
theorem lit_below (w : World) (c : Array Value) (t : TypeId) : Below w.heap.size w (w.alloc (.cells c t)) := (Below.refl _ _).alloc (Nat.le_refl _) _

set_option maxRecDepth 100000 in
set_option maxHeartbeats 1000000 in
theorem roots_any (b : Nat) (ar : Option Addr) (nr cr : Nat) (r : List Int) (w : World) (hf : FldAt w b) (R : Arg w ar nr cr r) (hr : nr ≤ 1000) :
    Calls Tryd.prog 58 #[.pointer (some ⟨b, 0, none⟩), .slice ar nr cr] w fun e w' => IsP w' e (RT r nr) (nr + 1) ∧ Below w.heap.size w w' := by
  have X := arg_lit w [1] (byt_one 1 (by decide))
  have hB0 := lit_below w ([1].map (Value.int .u8)).toArray 5
  simp only [List.map_cons, List.map_nil, List.length_cons, List.length_nil, Nat.zero_add] at X hB0
  go_enter Tryd.func58, Tryd.ntmps58
  go_wp2
  go_loopw [5, 11] (fun v i wr => ∃ (k : Nat) (a : Option Addr) (n c : Nat) (l : List Int), k ≤ nr ∧ i = .int .i64 (k : Int) ∧ v = .slice a n c ∧ n ≤ k + 1 ∧ Arg wr a n c l ∧ Hid (tl l = n) ∧ Hid (∀ i, cf l i = RT r k i) ∧ Below w.heap.size w wr) (fun _ i _ => nr - (intOf i).toNat)
  case atStart => exact ⟨0, _, 1, 1, [1], by omega, rfl, rfl, by omega, X, (by decide : tl [1] = 1), fun i => cf_one i, hB0⟩
  case round =>
    clear X hB0
    obtain ⟨k, a, n, c, l, hk, rfl, rfl, hn, A, Ht, HC, hB⟩ := hrel
    by_cases hlt : k < nr
    · obtain ⟨x, hx, Hx⟩ : ∃ x, (0 ≤ x ∧ x < 256) ∧ Hid (x = r[k]?.getD 0) := ⟨_, R.byt k (by rw [R.len]; exact hlt), rfl⟩
      rcases R.sl with sr | ⟨b1, o1, rfl, hb1, hc1⟩
      · have := R.len; rw [sr] at this; simp at this; omega
      have c1 : wr.cell? ⟨b1, o1 + k, none⟩ = some (.int .u8 x) := by rw [Hx.out, hB.cell (p := ⟨b1, o1 + k, none⟩) hb1]; exact hc1 k (by rw [R.len]; exact hlt)
      have hfr := hf.below hB
      have hBl := lit_below wr ([x, 1].map (Value.int .u8)).toArray 5
      have X := arg_lit wr [x, 1] (byt_two x 1 hx (by decide))
      have K := pmul_any b a n c l _ _ _ [x, 1] _ (hfr.below hBl) (A.below hBl) X (by omega) (by simp)
      simp only [List.map_cons, List.map_nil, List.length_cons, List.length_nil, Nat.zero_add] at K hBl
      clear hc1 X
      go_wp2_with (go_at_call 78; refine K.mono ?_; rintro e w2 ⟨⟨a2, n2, c2, l2, rfl, A2, ht2, hl2, hn2⟩, hB2⟩)
      go_roundw
      case rel =>
        have hC : ∀ i, cf l2 i = RT r (k + 1) i := fun i => by
          rw [hl2 i, RT_step r k (by rw [R.len]; exact hlt), ← Hx.out]
          exact Po.cv_congr _ _ _ _ _ (fun i _ => HC.out i) (fun i _ => cf_lin x i)
        obtain ⟨_, n3, _, l3, he, _, _, _, hn3⟩ := IsP.low (w := w2) (e := .returned (.slice a2 n2 c2)) (N := n2) ⟨a2, n2, c2, l2, rfl, A2, ht2, hC, Nat.le_refl _⟩ (RT_low r (k + 1) (by rw [R.len]; omega))
        cases he
        exact ⟨k + 1, a2, _, _, l2, by omega, by go_num, rfl, by omega, A2, ht2, hC, hB.trans (hBl.mono hB.size |>.trans (hB2.mono (by have := hB.size; simp; omega)))⟩
      case measure => simp [intOf]; omega
    · have hkm : k = nr := by omega
      subst hkm
      go_wp2
      go_ret
      exact ⟨⟨a, n, c, l, rfl, A, Ht.out, HC.out, hn⟩, hB⟩

theorem eq_of_cf {l1 l2 : List Int} (b1 : Byt l1) (b2 : Byt l2) (t1 : tl l1 = l1.length) (t2 : tl l2 = l2.length) (h : ∀ i, cf l1 i = cf l2 i) : l1 = l2 := by
  have hg : ∀ i : Nat, l1[i]?.getD 0 = l2[i]?.getD 0 := fun i => by rw [← ofE_cf l1 b1, ← ofE_cf l2 b2, h]
  have hlen : l1.length = l2.length := by
    rw [← t2]
    refine Eq.symm (tl_unique l2 l1.length (fun h0 => ?_) (fun i hi => ?_))
    · rw [← hg, ← t1]; exact tl_top l1 (by omega)
    · rw [← hg, List.getElem?_eq_none hi]; rfl
  refine List.ext_getElem hlen (fun i h1 h2 => ?_)
  have := hg i
  rw [List.getElem?_eq_getElem h1, List.getElem?_eq_getElem h2] at this
  exact this
theorem rts_12 (i : Nat) : RT [1, 2] 2 i = cf [2, 3, 1] i := by
  by_cases h : i < 3
  · have : i = 0 ∨ i = 1 ∨ i = 2 := by omega
    rcases this with rfl | rfl | rfl <;> decide +kernel
  · rw [RT_low [1, 2] 2 (by simp) i (by omega), Po.cf_low [2, 3, 1] i (by simp; omega)]


-- DIVISION
/-- an element at a place -/
def mono (A : Po.El) (m : Nat) : Nat → Po.El := fun i => if i = m then A else 0
theorem mono_low (A : Po.El) (m : Nat) : Low (m + 1) (mono A m) := fun i hi => by unfold mono; rw [if_neg (by omega)]
theorem cv_mono (A : Po.El) (m : Nat) (q : Nat → Po.El) (j : Nat) : cv (mono A m) q j = if m ≤ j then mu A (q (j - m)) else 0 := by
  unfold cv
  by_cases h : m ≤ j
  · rw [if_pos h, Po.S_one (j + 1) m _ (by omega) (fun i hi hne => by unfold mono; rw [if_neg hne, Po.zero_mu])]
    unfold mono; rw [if_pos rfl]
  · rw [if_neg h]
    exact Po.S_null _ _ (fun i hi => by unfold mono; rw [if_neg (by omega), Po.zero_mu])
/-- what is left of p, when all from k on is gone -/
def Left (p q : Nat → Po.El) (k : Nat) (R : Nat → Po.El) : Prop := Low k R ∧ ∃ T M, Low M T ∧ ∀ j, p j = cv T q j ^^^ R j
theorem Left.start (p q : Nat → Po.El) (k : Nat) (h : Low k p) : Left p q k p := ⟨h, fun _ => 0, 0, fun _ _ => rfl, fun j => by rw [cv_zero_left _ _ (fun _ => rfl), Po.z0]⟩
theorem Left.step {p q R : Nat → Po.El} {k d : Nat} (h : Left p q (k + 1) R) (hd : d ≤ k) (hq : Low (d + 1) q) (I : Po.El) (hI : mu I (q d) = 1) :
    Left p q k (fun j => R j ^^^ (if k - d ≤ j then mu (mu (R k) I) (q (j - (k - d))) else 0)) := by
  obtain ⟨hl, T, M, hT, hp⟩ := h
  refine ⟨fun j hj => ?_, fun i => T i ^^^ mono (mu (R k) I) (k - d) i, M + (k - d + 1), ?_, fun j => ?_⟩
  · show R j ^^^ (if k - d ≤ j then mu (mu (R k) I) (q (j - (k - d))) else 0) = 0
    rw [if_pos (by omega)]
    by_cases e : j = k
    · subst e
      rw [show j - (j - d) = d from by omega, Po.mu_assoc, hI, Po.mu_one, Po.xor_self']
    · rw [hl j (by omega), hq (j - (k - d)) (by omega), Po.mu_zero, Po.x0]
  · exact Low.xor (hT.mono (by omega)) ((mono_low _ _).mono (by omega))
  · have : (if k - d ≤ j then mu (mu (R k) I) (q (j - (k - d))) else 0) ^^^ (if k - d ≤ j then mu (mu (R k) I) (q (j - (k - d))) else 0) = (0 : Po.El) := Po.xor_self' _
    rw [Po.cv_xor_left, cv_mono, hp j, Po.xor4, this, Po.x0]
theorem inv_el (y : Int) (hy0 : 0 < y) (hy1 : y < 256) : mu (toE (dI 1 y)) (toE y) = 1 := by
  have h := Gf.gI_dI 1 y (by decide) (by decide) hy0 hy1
  have hd := Gf.dI_bd 1 y
  have := Po.toE_gI (dI 1 y) y hd.1 hd.2 (by omega) hy1
  rw [h] at this
  exact this.symm

theorem slice_from (g m c o : Nat) (l : Int) (hl : l = (o : Int)) (h1 : o ≤ m) (h2 : o < c) (wx : World) :
    (Instr.slice 52 (.slice (some ⟨g, 0, none⟩) m c) (some (.int .i64 l)) none none).run Tryd.prog wx = .ok (.slice (some ⟨g, o, none⟩) (m - o) (c - o)) wx := by
  subst hl
  have he : Tryd.prog.elem 52 = 5 := by kernel_rfl
  obtain ⟨i, hi, hzz⟩ := Option.map_eq_some_iff.1 info_u8
  simp only [Prod.mk.injEq] at hzz
  rw [run_slice_l (P := Tryd.prog) (w := wx) (t := 52) (a := some ⟨g, 0, none⟩) (len := m) (cap := c) (by rw [he]; exact Tryd.underlying52) .i64 (o : Int) (by omega) (by omega), he]
  have hco : ¬ c = o := by omega
  have hz : (Addr.add ⟨g, 0, none⟩ o) = ⟨g, o, none⟩ := by
    unfold Addr.add
    by_cases h : o = 0
    · simp [h]
    · simp [h]
  simp [sizeOf, typeInfo, hi, hzz, Result.andThen, sliced, hco, hz]

theorem mod_zero (b : Nat) (ap : Option Addr) (np cp : Nat) (aq : Option Addr) (nq cq : Nat) (q : List Int) (w : World) (Q : Arg w aq nq cq q) (hq : nq ≤ 2000) (h0 : Hid (tl q = 0)) :
    Calls Tryd.prog 67 #[.pointer (some ⟨b, 0, none⟩), .slice ap np cp, .slice aq nq cq] w fun e w' => e = .returned (.tuple #[.slice none 0 0, .int .i64 16]) ∧ w' = w := by
  go_enter Tryd.func67, Tryd.ntmps67
  go_wp2_with (go_at_call 81; refine (degree_arg _ _ _ 0 q (-1) _ Q (by omega) h0 (by decide : (-1 : Int) = 0 - 1)).mono ?_; rintro e w6 ⟨rfl, rfl⟩)
  go_ret2
  exact ⟨rfl, rfl⟩
set_option maxRecDepth 100000 in
set_option maxHeartbeats 2000000 in
theorem mod_any (b : Nat) (ap : Option Addr) (np cp : Nat) (p : List Int) (aq : Option Addr) (nq cq : Nat) (q : List Int) (d : Nat) (w : World) (hf : FldAt w b) (P : Arg w ap np cp p) (Q : Arg w aq nq cq q) (hp : np ≤ 2000) (hq : nq ≤ 2000) (hd : Hid (tl q = d + 1)) :
    Calls Tryd.prog 67 #[.pointer (some ⟨b, 0, none⟩), .slice ap np cp, .slice aq nq cq] w fun e w' => ∃ a n c l, e = .returned (.tuple #[.slice a n c, .int .i64 0]) ∧ Arg w' a n c l ∧ tl l = n ∧ n ≤ d ∧ Left (cf p) (cf q) d (cf l) ∧ Below w.heap.size w w' := by
  obtain ⟨q', Q', Hq', Htq, hdq⟩ := Q.trim hd
  obtain ⟨y, hy, Hy⟩ : ∃ y, (0 < y ∧ y < 256) ∧ Hid (y = q'[d]?.getD 0) := by
    refine ⟨_, ?_, rfl⟩
    have h1 := Q'.byt d (by rw [Q'.len]; omega)
    have h2 := tl_top q' (by rw [Htq.out]; omega)
    rw [Htq.out, show d + 1 - 1 = d from by omega] at h2
    omega
  have hI : mu (toE (dI 1 y)) (cf q d) = 1 := by
    have := inv_el y hy.1 hy.2
    rw [Hy.out, ← Hq'.out d]
    rwa [Hy.out] at this
  rcases Q'.sl with sq | ⟨b1, o1, rfl, hb1, hc1⟩
  · have := Q'.len; rw [sq] at this; simp at this
  have cy : w.cell? ⟨b1, o1 + d, none⟩ = some (.int .u8 y) := by rw [Hy.out]; exact hc1 d (by rw [Q'.len]; omega)
  clear hc1
  have hId := Gf.dI_bd 1 y
  have hcq : d + 1 ≤ cq := Q'.cap
  obtain ⟨m, Hm⟩ : ∃ m, Hid (tl p = m) := ⟨_, rfl⟩
  have KD := degree_arg (some ⟨b1, o1, none⟩) nq cq (d + 1) q (d : Int) w Q (by omega) hd (by show _ = _; omega)
  have hdz : decide ((d : Int) < 0) = false := by simp
  go_enter Tryd.func67, Tryd.ntmps67
  go_wp2_with (first | (go_at_call 81; refine KD.mono ?_; rintro e w' ⟨rfl, rfl⟩) | (go_at_call 82; refine (inv_any _ _ (by omega) (by omega) _ (by exact hf)).mono ?_; rintro e w1 ⟨rfl, HL⟩))
  have hB1 := below_like HL
  clear HL KD cy
  refine (trim_any ap np cp p w1 (P.below hB1) (by omega)).mono ?_
  rw [Hm.out]
  rintro e w2 ⟨a2, c2, rfl, hB2, hc2, hnil2, hrow⟩
  have hB12 := bnext hB1 hB2
  have hmn : m ≤ np := by have h1 := tl_le p; have h2 := P.len; have h3 := Hm.out; omega
  by_cases hm0 : m = 0
  · subst hm0
    have hd0 : decide ((d : Int) ≤ -1) = false := by simp; omega
    have A0 : Arg w2 a2 0 c2 [] := ⟨rfl, .inl rfl, fun i hi => by simp at hi, by omega, hnil2⟩
    go_wp2
    refine wp_loop_rounds 1 ?_
    rw [rounds_succ]
    go_wp2_with (go_at_call 86; refine (trimmed_arg _ _ _ 0 [] _ A0 (by omega) (rfl : tl [] = 0)).mono ?_; rintro e w6 ⟨rfl, rfl⟩)
    go_ret2
    refine ⟨a2, 0, c2, [], rfl, A0, rfl, by omega, ?_, hB12⟩
    have hz : ∀ i, cf p i = 0 := fun i => cf_low_tl p P.byt i (by rw [Hm.out]; omega)
    have := Left.start (cf p) (cf q) d (fun i _ => hz i)
    have e : cf p = cf [] := funext (fun i => by rw [hz i]; rfl)
    rw [e] at this ⊢
    exact this
  · obtain ⟨g, rfl, hg, row⟩ := hrow (by omega)
    have hm0' : 0 < m := by omega
    clear hm0 hrow
    have hlow : Low m (cf p) := by have := cf_low_tl p P.byt; rwa [Hm.out] at this
    have hqlow : Low (d + 1) (cf q) := by have := cf_low_tl q Q.byt; rwa [hd.out] at this
    go_wp2
    go_loopw [12] (fun i wr => ∃ (k : Nat) (R : Nat → Po.El), k ≤ m ∧ i = .int .i64 ((k : Int) - 1) ∧ Left (cf p) (cf q) k R ∧ RowE wr g m R ∧ Below g w2 wr) (fun i _ => (intOf i + 1).toNat)
    case atStart => exact ⟨m, cf p, by omega, rfl, Left.start _ _ _ hlow, row, Below.refl _ _⟩
    case round =>
      clear row
      obtain ⟨k, R, hk, rfl, hL, row, hB⟩ := hrel
      have hgs : w'.heap.size ≤ g := by have := hB1.size; omega
      have hBr : Below w'.heap.size w' wr := hB12.trans (hB.mono hgs)
      by_cases hkd : d < k
      · obtain ⟨i, hi, Hi⟩ : ∃ i, i < m ∧ Hid (k = i + 1) := ⟨k - 1, by omega, by show _ = _; omega⟩
        have hid : d ≤ i := by have := Hi.out; omega
        rw [Hi.out, show (((i + 1 : Nat) : Int) - 1) = (i : Int) from by omega]
        have hL' : Hid (Left (cf p) (cf q) (i + 1) R) := by show Left _ _ _ _; rw [← Hi.out]; exact hL
        clear hL hkd
        obtain ⟨x, hx, Hx⟩ : ∃ x, (0 ≤ x ∧ x < 256) ∧ Hid (ofE (R i) = x) := ⟨_, ofE_bd _, rfl⟩
        have cx := row.cell hi
        rw [Hx.out] at cx
        have Qr := Q'.below hBr
        have hfr := hf.below hBr
        have hbg : b < g := by have := hf.lt; omega
        have hLies : Lies g (some ⟨b1, o1, none⟩) q' := .inr ⟨b1, o1, rfl, by omega⟩
        have hxi := Gf.gI_bd x (dI 1 y)
        obtain ⟨o, hoc, hom, ho, Ho⟩ : ∃ o, o < c2 ∧ o < m ∧ Hid ((i : Int) - (d : Int) = (o : Int)) ∧ Hid (i = d + o) := ⟨i - d, by omega, by omega, by show _ = _; omega, by show _ = _; omega⟩
        have hwr : IntKind.i64.wrap ((i : Int) - (d : Int)) = (o : Int) := by rw [ho.out, Go.IntWalk.i64_left]; exact Go.IntWalk.wrap64_in (o : Int) ⟨by omega, by omega⟩
        have hodm : o + (d + 1) ≤ m := by have := Ho.out; omega
        have hom' : o ≤ m := by omega
        have hoc' : ¬ c2 = o := by omega
        go_wp2
        go_region_with (first | (go_at_call 85; refine (mul_any _ _ _ (by omega) (by omega) (by omega) (by omega) _ (by exact hfr.of fun _ => rfl)).mono ?_; rintro e w' ⟨rfl, j, rfl⟩) | (go_at_call 84; refine (addScaled_any b g m o (m - o) (c2 - o) (some ⟨b1, o1, none⟩) cq (d + 1) q' (gI x (dI 1 y)) R _ (by exact hfr.of fun _ => rfl) hbg (by exact Qr.sl.drewN _) hLies Qr.byt hxi hodm (by omega) (by omega) (by exact row.drewN _) Qr.len).mono ?_; rintro e w3 ⟨rfl, row3, hB3⟩))
        all_goals
          go_wp2
          go_roundw
          case rel =>
            refine ⟨i, _, by omega, by go_num, Left.step hL'.out hid hqlow (toE (dI 1 y)) hI, row3.congr (fun t _ => ?_), (below_drewN hB _).trans hB3⟩
            have ex : toE (gI x (dI 1 y)) = mu (R i) (toE (dI 1 y)) := by rw [Po.toE_gI x (dI 1 y) hx.1 hx.2 hId.1 hId.2, ← Hx.out, toE_ofE]
            have eo : i - d = o := by have := Ho.out; omega
            rw [adN_all, ex, eo, Hq'.out]
          case measure => simp [intOf]
      · have hkd' : k ≤ d := by omega
        have hRl : Low m R := hL.1.mono hk
        have A := row.arg (c := c2) hc2
        obtain ⟨t, Hm2⟩ : ∃ t, Hid (tl (lst m R) = t) := ⟨_, rfl⟩
        obtain ⟨l', A', Hl', Ht', htm⟩ := A.trim Hm2
        have hdk : decide ((d : Int) ≤ (k : Int) - 1) = false := by simp; omega
        go_wp2_with (go_at_call 86; refine (trimmed_arg _ m c2 t _ wr A (by omega) Hm2).mono ?_; rintro e w6 ⟨rfl, rfl⟩)
        go_ret2
        have hC : ∀ i, cf l' i = R i := fun i => by rw [Hl'.out i, lst_low m R hRl]
        obtain ⟨_, n3, _, l3, he, _, _, _, hn3⟩ := IsP.low (w := w6) (e := .returned (.slice (some ⟨g, 0, none⟩) t c2)) (N := t) ⟨_, t, c2, l', rfl, A', Ht'.out, hC, Nat.le_refl _⟩ (hL.1.mono hkd')
        cases he
        refine ⟨_, _, _, l', rfl, A', Ht'.out, hn3, ?_, hBr⟩
        have e : cf l' = R := funext hC
        rw [e]
        exact ⟨hL.1.mono hkd', hL.2⟩

end Go.Proofs.YtdjknaafefnlcaaDoor
