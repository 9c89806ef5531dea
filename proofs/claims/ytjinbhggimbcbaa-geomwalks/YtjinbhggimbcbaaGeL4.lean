/-
  GeomWalks: all indices come in order, each once, as far as they are asked; a rank's and a page's are those of all that lie there.
-/
import Derived.Test.YtjinbhggimbcbaaGeW10
namespace Go.Proofs.Ytjinbhggimbcbaa
open Go.RowKit
open Ge (pw rt hd ix)
attribute [local go_sem] Oper.semAt_some

set_option maxRecDepth 100000 in
set_option maxHeartbeats 8000000 in
theorem geomWalks_core (r s b o c k p st : Int) (hr : I64 r) (hb : I64 b) (ho : I64 o) (hc : I64 c) (w : World) :
    Calls Try.prog 4 #[.agg #[.int .i64 r, .int .i64 s, .int .i64 b, .int .i64 o, .int .i64 c], .int .i64 k, .int .i64 p, .int .i64 st] w fun e w' => e = .returned (.bool true) ∧ Below w.heap.size w w' := by
  obtain ⟨z, Z⟩ : ∃ z, Hid (rt r s b o c = z) := ⟨_, rfl⟩
  have HH : Hid (∀ w, Calls Try.prog 11 #[.agg #[.int .i64 r, .int .i64 s, .int .i64 b, .int .i64 o, .int .i64 c]] w fun e w' => e = .returned (.bool z) ∧ Below w.heap.size w w') := fun w => by rw [← Z.out]; exact refRight_any r s b o c hr hb ho hc w
  obtain ⟨F, HF⟩ : ∃ F, Hid (aix o.toNat c.toNat (b.toNat * o.toNat * c.toNat) = F) := ⟨_, rfl⟩
  obtain ⟨N, HN⟩ : ∃ N, Hid (cnt r s b o c = N) := ⟨_, rfl⟩
  obtain ⟨R, HR⟩ : ∃ R, Hid (rix o.toNat c.toNat k.toNat = R) := ⟨_, rfl⟩
  obtain ⟨G, HG⟩ : ∃ G : Nat → Nat, Hid (G = fun x => (p * 64).toNat + x) := ⟨_, rfl⟩
  obtain ⟨L1, HL1⟩ : ∃ L, Hid ((if hd r s b o c k 0 0 0 = true then b.toNat * o.toNat * c.toNat else 0) = L) := ⟨_, rfl⟩
  obtain ⟨L2, HL2⟩ : ∃ L, Hid ((if pgOk r s b o c p = true then c.toNat else 0) = L) := ⟨_, rfl⟩
  have HAl : Hid (∀ w, Calls Try.prog 17 #[.agg #[.int .i64 r, .int .i64 s, .int .i64 b, .int .i64 o, .int .i64 c]] w fun e w' => ∃ v, e = .returned v ∧ Ow w' w.heap.size v N F ∧ Below w.heap.size w w') := fun w => by rw [← HN.out, ← HF.out]; exact refAll_any r s b o c hr hb ho hc w
  have HRk : Hid (∀ w, Calls Try.prog 18 #[.agg #[.int .i64 r, .int .i64 s, .int .i64 b, .int .i64 o, .int .i64 c], .int .i64 k] w fun e w' => ∃ v, e = .returned v ∧ Below w.heap.size w w' ∧ Tells w.heap.size v w' (fun x => #[.int .i64 (R x : Int)]) L1) := fun w => by rw [← HR.out, ← HL1.out]; exact rank_any r s b o c k w
  have HPg : Hid (∀ w, Calls Try.prog 19 #[.agg #[.int .i64 r, .int .i64 s, .int .i64 b, .int .i64 o, .int .i64 c], .int .i64 p] w fun e w' => ∃ v, e = .returned v ∧ Below w.heap.size w w' ∧ Tells w.heap.size v w' (fun x => #[.int .i64 (G x : Int)]) L2) := fun w => by rw [HG.out, ← HL2.out]; exact page_any r s b o c p w
  have HIt : Hid (∀ w, Calls Try.prog 20 #[.agg #[.int .i64 r, .int .i64 s, .int .i64 b, .int .i64 o, .int .i64 c]] w fun e w' => ∃ v, e = .returned v ∧ Below w.heap.size w w' ∧ Tells w.heap.size v w' (fun x => #[.int .i64 (F x : Int)]) N) := fun w => by rw [← HN.out, ← HF.out]; exact all_any r s b o c w
  obtain ⟨a1, S1⟩ := rank_seg r s b o c k
  obtain ⟨a2, S2⟩ := page_seg r s b o c p
  rw [HL1.out, HN.out, HF.out, HR.out] at S1
  rw [HL2.out, HN.out, HF.out] at S2
  have HS1 : Hid _ := S1
  have HS2 : Hid (a2 + L2 ≤ N ∧ ∀ x, x < N → ((F x : Int) / 64 = p ↔ a2 ≤ x ∧ x < a2 + L2) ∧ (a2 ≤ x → x < a2 + L2 → G (x - a2) = F x)) := by rw [HG.out]; exact S2
  have hFlt : Hid (∀ x, x < N → F x < 8388608) := by rw [← HN.out, ← HF.out]; exact fun x hx => aix_lt r s b o c x hx
  have hN4 : N ≤ 4096 := by
    rw [← HN.out]
    unfold cnt
    split
    · rename_i h
      have ha := Ge.rt_all h
      have h6 := ha.2.2.2.2.2
      have e : (((r + s).toNat * (b.toNat * o.toNat * c.toNat) : Nat) : Int) = (r + s) * b * o * c := by
        rw [Int.natCast_mul, Int.natCast_mul, Int.natCast_mul, Int.toNat_of_nonneg (by omega), Int.toNat_of_nonneg (by omega), Int.toNat_of_nonneg (by omega), Int.toNat_of_nonneg (by omega)]
        simp only [Int.mul_assoc]
      omega
    · omega
  have HZR : Hid (z = true → (0 ≤ r ∧ r ≤ 8) ∧ (0 ≤ s ∧ s ≤ 8) ∧ (0 ≤ b ∧ b ≤ 16) ∧ (0 ≤ o ∧ o ≤ 1024) ∧ (0 ≤ c ∧ c ≤ 64)) := fun h => by
    have ha := Ge.rt_all (Z.out.trans h)
    omega
  clear S1 S2 HL1 HL2 HN HF HR HG Z hr hb ho hc
  refine (callsIn_wide (n := 10)).1 ?_
  refine callsIn_of_wp_marks Try.func4 rfl trivial ?_ rfl
  simp only [Try.ntmps4, List.size_toArray, List.length_cons, List.length_nil, Nat.reduceAdd, Nat.reduceSub, Array.replicate_succ, Array.replicate_zero, List.push_toArray, List.append_toArray, List.nil_append, List.cons_append]
  refine wpIn_wide.2 ?_
  go_wp2_with fail
  obtain ⟨B, hB⟩ : ∃ B, w.heap.size = B := ⟨_, rfl⟩
  obtain ⟨V, hV⟩ : ∃ V, ((((w.alloc (.cells #[.int .i64 r, .int .i64 s, .int .i64 b, .int .i64 o, .int .i64 c] 23)).alloc (.cells #[.int .i64 k] 3)).alloc (.cells #[.int .i64 p] 3)).alloc (.cells #[.int .i64 st] 3)).alloc (.cells #[.bool false] 4) = V := ⟨_, rfl⟩
  have H0 : Hid (WkH w B r s b o c k p st V) := by
    rw [← hV, ← hB]
    obtain ⟨w1, h1⟩ : ∃ w1, w.alloc (.cells #[.int .i64 r, .int .i64 s, .int .i64 b, .int .i64 o, .int .i64 c] 23) = w1 := ⟨_, rfl⟩
    have z1 : w1.heap.size = w.heap.size + 1 := by rw [← h1]; simp
    have g1 : Gm w1 w.heap.size r s b o c := by rw [← h1]; exact Gm.new w r s b o c _
    have l1 : Below w.heap.size w w1 := by rw [← h1]; exact (Below.refl _ w).alloc (Nat.le_refl _) _
    rw [h1]
    obtain ⟨w2, h2⟩ : ∃ w2, w1.alloc (.cells #[.int .i64 k] 3) = w2 := ⟨_, rfl⟩
    have z2 : w2.heap.size = w.heap.size + 1 + 1 := by rw [← h2]; simp [z1]
    have b2 : Box w2 (w.heap.size + 1) (.int .i64 k) := by rw [← h2, ← z1]; exact Box.new _ _ _
    have l2 : Below w1.heap.size w1 w2 := by rw [← h2]; exact (Below.refl _ w1).alloc (Nat.le_refl _) _
    rw [h2]
    obtain ⟨w3, h3⟩ : ∃ w3, w2.alloc (.cells #[.int .i64 p] 3) = w3 := ⟨_, rfl⟩
    have z3 : w3.heap.size = w.heap.size + 1 + 1 + 1 := by rw [← h3]; simp [z2]
    have b3 : Box w3 (w.heap.size + 1 + 1) (.int .i64 p) := by rw [← h3, ← z2]; exact Box.new _ _ _
    have l3 : Below w2.heap.size w2 w3 := by rw [← h3]; exact (Below.refl _ w2).alloc (Nat.le_refl _) _
    rw [h3]
    obtain ⟨w4, h4⟩ : ∃ w4, w3.alloc (.cells #[.int .i64 st] 3) = w4 := ⟨_, rfl⟩
    have z4 : w4.heap.size = w.heap.size + 1 + 1 + 1 + 1 := by rw [← h4]; simp [z3]
    have b4 : Box w4 (w.heap.size + 1 + 1 + 1) (.int .i64 st) := by rw [← h4, ← z3]; exact Box.new _ _ _
    have l4 : Below w3.heap.size w3 w4 := by rw [← h4]; exact (Below.refl _ w3).alloc (Nat.le_refl _) _
    rw [h4]
    have b5 := Box.new w4 4 (.bool false)
    rw [z4] at b5
    have l5 : Below w4.heap.size w4 (w4.alloc (.cells #[.bool false] 4)) := (Below.refl _ w4).alloc (Nat.le_refl _) _
    exact ⟨(((g1.next l2).next l3).next l4).next l5, ((b2.below l3 b2.lt).below l4 (by omega)).below l5 (by omega), (b3.below l4 b3.lt).below l5 (by omega), b4.below l5 b4.lt, b5, (((l1.trans (l2.mono (by omega))).trans (l3.mono (by omega))).trans (l4.mono (by omega))).trans (l5.mono (by omega))⟩
  rw [hV, hB]
  clear hV
  refine (anchor7_any _).mono ?_
  rintro e W1 ⟨rfl, bW⟩
  replace H0 : Hid (WkH w B r s b o c k p st W1) := H0.out.next bW
  clear bW
  have g0 := H0.out.gm.c0; have g1 := H0.out.gm.c1; have g2 := H0.out.gm.c2; have g3 := H0.out.gm.c3; have g4 := H0.out.gm.c4
  go_wp2_with fail
  obtain ⟨X, hX⟩ : ∃ X, W1.heap.size = X := ⟨_, rfl⟩
  obtain ⟨V, hV⟩ : ∃ V, W1.alloc (.cells #[.int .i64 r, .int .i64 s, .int .i64 b, .int .i64 o, .int .i64 c] 27) = V := ⟨_, rfl⟩
  have hXG : Gm V X r s b o c := by rw [← hV, ← hX]; exact Gm.new W1 r s b o c _
  have H1 : Hid (WkH w B r s b o c k p st V) := by rw [← hV]; exact H0.out.alloc _
  rw [hV, hX]
  clear hV hX H0 g0 g1 g2 g3 g4
  refine (HH.out _).mono ?_
  rintro e W2 ⟨rfl, bW⟩
  have HX2 : Hid (Gm W2 X r s b o c ∧ WkH w B r s b o c k p st W2) := ⟨hXG.next bW, H1.out.next bW⟩
  clear bW H1 hXG
  have g0 := HX2.out.2.gm.c0; have g1 := HX2.out.2.gm.c1; have g2 := HX2.out.2.gm.c2; have g3 := HX2.out.2.gm.c3; have g4 := HX2.out.2.gm.c4
  have q0 := HX2.out.1.c0; have q1 := HX2.out.1.c1; have q2 := HX2.out.1.c2; have q3 := HX2.out.1.c3; have q4 := HX2.out.1.c4
  obtain ⟨i3, hi3, hz0, hz1, hz2⟩ := info_three i64_info
  cases z with
  | false =>
    go_wp2_with fail
    clear g0 g1 g2 g3 g4 q0 q1 q2 q3 q4
    refine (HAl.out _).mono ?_
    rintro e W3 ⟨v0, rfl, ow, bW⟩
    obtain ⟨e0, p0, rfl⟩ := ow.form
    have H3 : Hid (WkH w B r s b o c k p st W3) := HX2.out.2.next bW
    have hW2 : B + 1 + 1 + 1 + 1 < W2.heap.size := HX2.out.2.bt.lt
    have hle := bW.size
    have HOw : Hid (Ow W3 W2.heap.size (.slice e0 N p0) N F) := ow
    clear bW ow
    go_upto_region 9 with (fail)
    obtain ⟨A, hA⟩ : ∃ A, W3.heap.size = A := ⟨_, rfl⟩
    obtain ⟨V4, hV4⟩ : ∃ V, (((((W3.alloc (.cells #[(.slice e0 N p0)] 39)).alloc (.cells #[.int .i64 0] 3)).alloc (.cells #[.int .i64 0] 3)).alloc (.cells #[.int .i64 0] 3)).alloc (.cells #[(.slice none 0 0)] 39)).alloc (.cells #[(.slice none 0 0)] 39) = V := ⟨_, rfl⟩
    have H4 : Hid (WkS w B A r s b o c k p st N F R G (.slice e0 N p0) (.slice none 0 0) (.slice none 0 0) 0 0 0 0 0 [] V4) := by rw [← hV4, ← hA]; exact H3.out.lay hW2 hle HOw.out _ _ _ _ _ _
    rw [hV4, hA]
    have lBA : B + 5 ≤ A := H4.out.hA
    clear hV4 hA HOw H3 HX2 hW2 hle HAl HZR HH
    have g0 := H4.out.gm.c0; have g1 := H4.out.gm.c1; have g2 := H4.out.gm.c2; have g3 := H4.out.gm.c3; have g4 := H4.out.gm.c4; have g5 := H4.out.br.1
    go_wp2_with fail
    clear g0 g1 g2 g3 g4 g5
    refine (HRk.out _).mono ?_
    rintro e V5 ⟨v, rfl, bV, gf, lb, T, rfl, heg, hseq, hT⟩
    have H5 : Hid (WkS w B A r s b o c k p st N F R G (.slice e0 N p0) (.slice none 0 0) (.slice none 0 0) 0 0 0 0 0 [] V5) := H4.out.next bV
    have l5 : A + 1 + 1 + 1 + 1 + 1 < V5.heap.size := H5.out.bO.lt
    have l4 : A + 1 + 1 + 1 + 1 + 1 < V4.heap.size := H4.out.bO.lt
    have hT' : ∀ b, T b → b < V5.heap.size ∧ ¬ Gr (A + 1 + 1 + 1 + 1) V5 b := fun b hb => ⟨(hT b hb).2, Gr.not H5.out.bR (by have := (hT b hb).1; omega) (fun e => by cases e)⟩
    clear bV H4
    go_wp2
    refine (wpIn_wide (n := 10)).1 (rangeD rfl heg hseq (fun _ => rfl) (Gr (A + 1 + 1 + 1 + 1)) hT' (WkI1 w B A r s b o c k p st N F R G (.slice e0 N p0)) (fun _ _ _ => False)
      ⟨fun x W h => let ⟨_, _, h⟩ := h; Gr.ok h.bR (fun g hg => (h.o1.lt g hg).2), fun _ _ _ h => h.elim⟩ (fun x X Y h hs => let ⟨e, q, h⟩ := h; ⟨e, q, h.stay hs (by omega) (fun _ h => by cases h)⟩) (fun _ _ _ _ h _ => h.elim) ⟨_, _, H5.out⟩ ?round1 ?done1 (fun _ _ _ _ _ _ h _ => h.elim))
    case round1 =>
      intro l2 x Wz hx hIz _
      have HIz : Hid (∀ W2, Stay V5.heap.size Wz W2 → WkI1 w B A r s b o c k p st N F R G (.slice e0 N p0) x W2) := fun W2 hs => let ⟨e, q, h⟩ := hIz; ⟨e, q, h.stay hs (by omega) (fun _ h => by cases h)⟩
      have HOz : Hid (Ok (Gr (A + 1 + 1 + 1 + 1)) Wz) := let ⟨_, _, h⟩ := hIz; Gr.ok h.bR (fun g hg => (h.o1.lt g hg).2)
      clear hIz
      gi_wp2
      refine ⟨KeepD.refl _ _, HOz.out, fun W2 hs2 hz2 hr2 => ?_⟩
      obtain ⟨e9, q9, h1⟩ := HIz.out W2 hs2
      have c4 := h1.bR.1
      have l2 : A + 1 + 1 + 1 + 1 + 1 < W2.heap.size := h1.bO.lt
      have hxN : x < 4096 := by have := HS1.out.1; omega
      have H1 : Hid (WkS w B A r s b o c k p st N F R G (.slice e0 N p0) (.slice e9 x q9) (.slice none 0 0) x 0 0 0 0 [] W2) := h1
      have HO : Hid (∀ ob, (W2.alloc ob).ownsRow (A + 6) 3 1 (.slice e9 x q9) x (lst R x)) := fun ob => H1.out.o1.alloc ob
      clear h1 hs2 hz2 hr2 HIz HOz
      gi_wp2_with (gi_at_builtin; refine wpListIn_append_own_at _ rfl _ _ 39 rfl (A + 6) 3 i3 (.int .i64 0) 1 8 Try.underlying39 hi3 hz0 hz1 hz2 rfl (by decide) _ x (lst R x) rfl (HO.out _) ⟨W2.heap.size, 0, none⟩ 1 1 [.int .i64 (R x : Int)] rfl rfl (one_new7 W2 _ _) (one_one7 _) (by unfold maxLen; omega) (by omega) (by simp; omega) ?_; intro v3 W3 own3 gr3 _ at3; obtain ⟨e3, q3, rfl⟩ := own_form own3; obtain ⟨b3, k3, h3⟩ := WkS.app1 H1.out _ own3 gr3 at3; have c5 := b3.1; have f5 := b3.2; have HF : Hid (KeepD (Gr (A + 1 + 1 + 1 + 1)) W2 (W3.setCell ⟨A + 1 + 1 + 1 + 1, 0, none⟩ (.slice e3 (x + 1) q3)) ∧ WkI1 w B A r s b o c k p st N F R G (.slice e0 N p0) (x + 1) (W3.setCell ⟨A + 1 + 1 + 1 + 1, 0, none⟩ (.slice e3 (x + 1) q3))) := ⟨k3, _, _, h3⟩; clear own3 gr3 at3 b3 k3 h3)
      exact HF.out
    case done1 =>
      rintro D1 W6 hD hI hK
      obtain ⟨e1, q1, h1⟩ := hI
      have H6 : Hid (WkS w B A r s b o c k p st N F R G (.slice e0 N p0) (.slice e1 L1 q1) (.slice none 0 0) L1 0 0 0 0 [D1] W6) := h1.mark (by omega) (fun _ h => by cases h) hK.1
      have lD1 : A + 6 ≤ D1 := by omega
      clear h1 hK hD H5 hT' hseq heg hT l5 l4
      have g0 := H6.out.gm.c0; have g1 := H6.out.gm.c1; have g2 := H6.out.gm.c2; have g3 := H6.out.gm.c3; have g4 := H6.out.gm.c4; have g5 := H6.out.bp.1
      go_wp2_with fail
      clear g0 g1 g2 g3 g4 g5
      refine (HPg.out _).mono ?_
      rintro e V7 ⟨v, rfl, bV, gf, lb, T, rfl, heg, hseq, hT⟩
      have H7 : Hid (WkS w B A r s b o c k p st N F R G (.slice e0 N p0) (.slice e1 L1 q1) (.slice none 0 0) L1 0 0 0 0 [D1] V7) := H6.out.next bV
      have l7 : A + 1 + 1 + 1 + 1 + 1 < V7.heap.size := H7.out.bO.lt
      have lW6 : A + 1 + 1 + 1 + 1 + 1 < W6.heap.size := H6.out.bO.lt
      have lD7 : D1 < V7.heap.size := H7.out.ds_lt D1 (by simp)
      have hT' : ∀ b, T b → b < V7.heap.size ∧ ¬ Gr (A + 1 + 1 + 1 + 1 + 1) V7 b := fun b hb => ⟨(hT b hb).2, Gr.not H7.out.bO (by have := (hT b hb).1; omega) (fun e => by cases e)⟩
      clear bV H6
      go_wp2
      refine (wpIn_wide (n := 10)).1 (rangeD rfl heg hseq (fun _ => rfl) (Gr (A + 1 + 1 + 1 + 1 + 1)) hT' (WkI2 w B A r s b o c k p st N F R G (.slice e0 N p0) (.slice e1 L1 q1) L1 [D1]) (fun _ _ _ => False)
        ⟨fun x W h => let ⟨_, _, h⟩ := h; Gr.ok h.bO (fun g hg => (h.o2.lt g hg).2), fun _ _ _ h => h.elim⟩ (fun x X Y h hs => let ⟨e, q, h⟩ := h; ⟨e, q, h.stay hs (by omega) (fun _ h => by simp at h; omega)⟩) (fun _ _ _ _ h _ => h.elim) ⟨_, _, H7.out⟩ ?round2 ?done2 (fun _ _ _ _ _ _ h _ => h.elim))
      case round2 =>
        intro l2 x Wz hx hIz _
        have HIz : Hid (∀ W2, Stay V7.heap.size Wz W2 → WkI2 w B A r s b o c k p st N F R G (.slice e0 N p0) (.slice e1 L1 q1) L1 [D1] x W2) := fun W2 hs => let ⟨e, q, h⟩ := hIz; ⟨e, q, h.stay hs (by omega) (fun _ h => by simp at h; omega)⟩
        have HOz : Hid (Ok (Gr (A + 1 + 1 + 1 + 1 + 1)) Wz) := let ⟨_, _, h⟩ := hIz; Gr.ok h.bO (fun g hg => (h.o2.lt g hg).2)
        clear hIz
        gi_wp2
        refine ⟨KeepD.refl _ _, HOz.out, fun W2 hs2 hz2 hr2 => ?_⟩
        obtain ⟨e9, q9, h1⟩ := HIz.out W2 hs2
        have c4 := h1.bO.1
        have l2 : A + 1 + 1 + 1 + 1 + 1 < W2.heap.size := h1.bO.lt
        have hxN : x < 4096 := by have := HS2.out.1; omega
        have H1 : Hid (WkS w B A r s b o c k p st N F R G (.slice e0 N p0) (.slice e1 L1 q1) (.slice e9 x q9) L1 x 0 0 0 [D1] W2) := h1
        have HO : Hid (∀ ob, (W2.alloc ob).ownsRow (A + 6) 3 1 (.slice e9 x q9) x (lst G x)) := fun ob => H1.out.o2.alloc ob
        clear h1 hs2 hz2 hr2 HIz HOz
        gi_wp2_with (gi_at_builtin; refine wpListIn_append_own_at _ rfl _ _ 39 rfl (A + 6) 3 i3 (.int .i64 0) 1 8 Try.underlying39 hi3 hz0 hz1 hz2 rfl (by decide) _ x (lst G x) rfl (HO.out _) ⟨W2.heap.size, 0, none⟩ 1 1 [.int .i64 (G x : Int)] rfl rfl (one_new7 W2 _ _) (one_one7 _) (by unfold maxLen; omega) (by omega) (by simp; omega) ?_; intro v3 W3 own3 gr3 _ at3; obtain ⟨e3, q3, rfl⟩ := own_form own3; obtain ⟨b3, k3, h3⟩ := WkS.app2 H1.out _ own3 gr3 at3; have c5 := b3.1; have f5 := b3.2; have HF : Hid (KeepD (Gr (A + 1 + 1 + 1 + 1 + 1)) W2 (W3.setCell ⟨A + 1 + 1 + 1 + 1 + 1, 0, none⟩ (.slice e3 (x + 1) q3)) ∧ WkI2 w B A r s b o c k p st N F R G (.slice e0 N p0) (.slice e1 L1 q1) L1 [D1] (x + 1) (W3.setCell ⟨A + 1 + 1 + 1 + 1 + 1, 0, none⟩ (.slice e3 (x + 1) q3))) := ⟨k3, _, _, h3⟩; clear own3 gr3 at3 b3 k3 h3)
        exact HF.out
      case done2 =>
        rintro D2 W8 hD hI hK
        obtain ⟨e2, q2, h2⟩ := hI
        have H8 : Hid (WkS w B A r s b o c k p st N F R G (.slice e0 N p0) (.slice e1 L1 q1) (.slice e2 L2 q2) L1 L2 0 0 0 [D2, D1] W8) := h2.mark (by omega) (fun E h => by simp at h; omega) hK.1
        have lD2 : D1 < D2 := by omega
        clear h2 hK hD H7 hT' hseq heg hT l7 lW6 lD7
        have g0 := H8.out.gm.c0; have g1 := H8.out.gm.c1; have g2 := H8.out.gm.c2; have g3 := H8.out.gm.c3; have g4 := H8.out.gm.c4; have g5 := H8.out.bp.1
        go_wp2_with fail
        clear g0 g1 g2 g3 g4 g5
        refine (HIt.out _).mono ?_
        rintro e V9 ⟨v, rfl, bV, gf, lb, T, rfl, heg, hseq, hT⟩
        have H9 : Hid (WkI3 w B A r s b o c k p st N F R G (.slice e0 N p0) (.slice e1 L1 q1) (.slice e2 L2 q2) L1 L2 a1 a2 [D2, D1] 0 V9) := by unfold WkI3; rw [seg_zero, seg_zero]; exact H8.out.next bV
        have l9 : A + 1 + 1 + 1 + 1 + 1 < W8.heap.size := H8.out.bO.lt
        have lz9 := bV.size
        have lD9 : D2 < V9.heap.size := WkS.ds_lt H9.out D2 (by simp)
        have hT' : ∀ b, T b → b < V9.heap.size ∧ ¬ (b = A + 1 ∨ b = A + 1 + 1 ∨ b = A + 1 + 1 + 1) := fun b hb => ⟨(hT b hb).2, by have := (hT b hb).1; omega⟩
        clear bV H8
        go_wp2
        refine (wpIn_wide (n := 10)).1 (rangeD rfl heg hseq (fun _ => rfl) (fun _ b => b = A + 1 ∨ b = A + 1 + 1 ∨ b = A + 1 + 1 + 1) hT' (WkI3 w B A r s b o c k p st N F R G (.slice e0 N p0) (.slice e1 L1 q1) (.slice e2 L2 q2) L1 L2 a1 a2 [D2, D1]) (fun _ _ _ => False)
          ⟨fun x W h => WkS.m3 h, fun _ _ _ h => h.elim⟩ (fun x X Y h hs => WkS.stay h hs (by omega) (fun D hD => by simp at hD; omega)) (fun _ _ _ _ h _ => h.elim) H9.out ?round3 ?done3 (fun _ _ _ _ _ _ h _ => h.elim))
        case round3 =>
          intro l2 x Wz hx hIz _
          have HIz : Hid (∀ W2, Stay V9.heap.size Wz W2 → WkI3 w B A r s b o c k p st N F R G (.slice e0 N p0) (.slice e1 L1 q1) (.slice e2 L2 q2) L1 L2 a1 a2 [D2, D1] x W2) := fun W2 hs => WkS.stay hIz hs (by omega) (fun D hD => by simp at hD; omega)
          have HOz : Hid (Ok (fun _ b => b = A + 1 ∨ b = A + 1 + 1 ∨ b = A + 1 + 1 + 1) Wz) := WkS.m3 hIz
          clear hIz
          gi_wp2
          refine ⟨KeepD.refl _ _, HOz.out, fun W2 hs2 hz2 hr2 => ?_⟩
          have h : WkS w B A r s b o c k p st N F R G (.slice e0 N p0) (.slice e1 L1 q1) (.slice e2 L2 q2) L1 L2 x (seg a1 L1 x) (seg a2 L2 x) [D2, D1] W2 := HIz.out W2 hs2
          clear hs2 hz2 hr2 HIz HOz
          obtain ⟨g, hg, cg⟩ := h.o0.some hx
          subst hg
          have lg : g < A := h.l0 g rfl
          have lgB : B + 5 ≤ g := (h.o0.lt g rfl).1
          have hFx := hFlt.out x hx
          obtain ⟨i1, r1⟩ := HS1.out.2 x hx
          obtain ⟨i2, r2⟩ := HS2.out.2 x hx
          obtain ⟨y, hy⟩ : ∃ y, seg a1 L1 x = y := ⟨_, rfl⟩
          obtain ⟨z, hz⟩ : ∃ z, seg a2 L2 x = z := ⟨_, rfl⟩
          have ly : y ≤ 4096 := by have := HS1.out.1; unfold seg at hy; omega
          have lz : z ≤ 4096 := by have := HS2.out.1; unfold seg at hz; omega
          rw [hy, hz] at h
          have cn := h.bn.1; have fn := h.bn.2; have ck := h.bk.1; have fk := h.bk.2; have cb := h.bg.1; have fb := h.bg.2; have ca := h.ba.1; have cR := h.bR.1; have cO := h.bO.1; have cr := h.br.1; have cp := h.bp.1
          by_cases h1 : a1 ≤ x ∧ x < a1 + L1
          · by_cases h2 : a2 ≤ x ∧ x < a2 + L2
            · obtain ⟨s1, s2, s3⟩ := seg_in h1.1 h1.2
              have E1 := i1.2 h1
              have r1' := r1 h1.1 h1.2
              rw [← s2] at r1'
              rw [hy] at s1 s3 r1'
              obtain ⟨g1, hg1, c1⟩ := h.o1.some s3
              subst hg1
              rw [r1'] at c1
              have lg1 : A + 6 ≤ g1 := (h.o1.lt g1 rfl).1
              obtain ⟨t1, t2, t3⟩ := seg_in h2.1 h2.2
              have E2 := i2.2 h2
              have r2' := r2 h2.1 h2.2
              rw [← t2] at r2'
              rw [hz] at t1 t3 r2'
              obtain ⟨g2, hg2, c2⟩ := h.o2.some t3
              subst hg2
              rw [r2'] at c2
              have lg2 : A + 6 ≤ g2 := (h.o2.lt g2 rfl).1
              have HF : Hid (KeepD (fun _ b => b = A + 1 ∨ b = A + 1 + 1 ∨ b = A + 1 + 1 + 1) W2 (((W2.setCell ⟨A + 1, 0, none⟩ (.int .i64 ((x : Int) + 1))).setCell ⟨A + 1 + 1, 0, none⟩ (.int .i64 ((y : Int) + 1))).setCell ⟨A + 1 + 1 + 1, 0, none⟩ (.int .i64 ((z : Int) + 1))) ∧ WkI3 w B A r s b o c k p st N F R G (.slice (some ⟨g, 0, none⟩) N p0) (.slice (some ⟨g1, 0, none⟩) L1 q1) (.slice (some ⟨g2, 0, none⟩) L2 q2) L1 L2 a1 a2 [D2, D1] (x + 1) (((W2.setCell ⟨A + 1, 0, none⟩ (.int .i64 ((x : Int) + 1))).setCell ⟨A + 1 + 1, 0, none⟩ (.int .i64 ((y : Int) + 1))).setCell ⟨A + 1 + 1 + 1, 0, none⟩ (.int .i64 ((z : Int) + 1)))) := by
                refine ⟨keep_set (keep_set (keep_set (KeepD.refl _ _) (.inl rfl) _) (.inr (.inl rfl)) _) (.inr (.inr rfl)) _, ?_⟩
                unfold WkI3
                rw [s1, t1]
                have := ((h.putN (x + 1)).putK (y + 1)).putG (z + 1)
                simp only [Int.natCast_add, Int.natCast_one] at this
                exact this
              clear i1 i2 r1 r2 s1 t1 h hy hz s2 r1' t2 r2' HS1 HS2
              gi_wp2
              exact HF.out
            · obtain ⟨s1, s2, s3⟩ := seg_in h1.1 h1.2
              have E1 := i1.2 h1
              have r1' := r1 h1.1 h1.2
              rw [← s2] at r1'
              rw [hy] at s1 s3 r1'
              obtain ⟨g1, hg1, c1⟩ := h.o1.some s3
              subst hg1
              rw [r1'] at c1
              have lg1 : A + 6 ≤ g1 := (h.o1.lt g1 rfl).1
              have t1 := seg_out h2
              rw [hz] at t1
              have E2 : ¬ ((F x : Int) / 64 = p) := fun e => h2 (i2.1 e)
              have HF : Hid (KeepD (fun _ b => b = A + 1 ∨ b = A + 1 + 1 ∨ b = A + 1 + 1 + 1) W2 ((W2.setCell ⟨A + 1, 0, none⟩ (.int .i64 ((x : Int) + 1))).setCell ⟨A + 1 + 1, 0, none⟩ (.int .i64 ((y : Int) + 1))) ∧ WkI3 w B A r s b o c k p st N F R G (.slice (some ⟨g, 0, none⟩) N p0) (.slice (some ⟨g1, 0, none⟩) L1 q1) (.slice e2 L2 q2) L1 L2 a1 a2 [D2, D1] (x + 1) ((W2.setCell ⟨A + 1, 0, none⟩ (.int .i64 ((x : Int) + 1))).setCell ⟨A + 1 + 1, 0, none⟩ (.int .i64 ((y : Int) + 1)))) := by
                refine ⟨keep_set (keep_set (KeepD.refl _ _) (.inl rfl) _) (.inr (.inl rfl)) _, ?_⟩
                unfold WkI3
                rw [s1, t1]
                have := (h.putN (x + 1)).putK (y + 1)
                simp only [Int.natCast_add, Int.natCast_one] at this
                exact this
              clear i1 i2 r1 r2 s1 t1 h hy hz s2 r1'  HS1 HS2
              gi_wp2
              exact HF.out
          · by_cases h2 : a2 ≤ x ∧ x < a2 + L2
            · have s1 := seg_out h1
              rw [hy] at s1
              have E1 : ¬ ((F x : Int) / 1048576 = k) := fun e => h1 (i1.1 e)
              obtain ⟨t1, t2, t3⟩ := seg_in h2.1 h2.2
              have E2 := i2.2 h2
              have r2' := r2 h2.1 h2.2
              rw [← t2] at r2'
              rw [hz] at t1 t3 r2'
              obtain ⟨g2, hg2, c2⟩ := h.o2.some t3
              subst hg2
              rw [r2'] at c2
              have lg2 : A + 6 ≤ g2 := (h.o2.lt g2 rfl).1
              have HF : Hid (KeepD (fun _ b => b = A + 1 ∨ b = A + 1 + 1 ∨ b = A + 1 + 1 + 1) W2 ((W2.setCell ⟨A + 1, 0, none⟩ (.int .i64 ((x : Int) + 1))).setCell ⟨A + 1 + 1 + 1, 0, none⟩ (.int .i64 ((z : Int) + 1))) ∧ WkI3 w B A r s b o c k p st N F R G (.slice (some ⟨g, 0, none⟩) N p0) (.slice e1 L1 q1) (.slice (some ⟨g2, 0, none⟩) L2 q2) L1 L2 a1 a2 [D2, D1] (x + 1) ((W2.setCell ⟨A + 1, 0, none⟩ (.int .i64 ((x : Int) + 1))).setCell ⟨A + 1 + 1 + 1, 0, none⟩ (.int .i64 ((z : Int) + 1)))) := by
                refine ⟨keep_set (keep_set (KeepD.refl _ _) (.inl rfl) _) (.inr (.inr rfl)) _, ?_⟩
                unfold WkI3
                rw [s1, t1]
                have := (h.putN (x + 1)).putG (z + 1)
                simp only [Int.natCast_add, Int.natCast_one] at this
                exact this
              clear i1 i2 r1 r2 s1 t1 h hy hz  t2 r2' HS1 HS2
              gi_wp2
              exact HF.out
            · have s1 := seg_out h1
              rw [hy] at s1
              have E1 : ¬ ((F x : Int) / 1048576 = k) := fun e => h1 (i1.1 e)
              have t1 := seg_out h2
              rw [hz] at t1
              have E2 : ¬ ((F x : Int) / 64 = p) := fun e => h2 (i2.1 e)
              have HF : Hid (KeepD (fun _ b => b = A + 1 ∨ b = A + 1 + 1 ∨ b = A + 1 + 1 + 1) W2 (W2.setCell ⟨A + 1, 0, none⟩ (.int .i64 ((x : Int) + 1))) ∧ WkI3 w B A r s b o c k p st N F R G (.slice (some ⟨g, 0, none⟩) N p0) (.slice e1 L1 q1) (.slice e2 L2 q2) L1 L2 a1 a2 [D2, D1] (x + 1) (W2.setCell ⟨A + 1, 0, none⟩ (.int .i64 ((x : Int) + 1)))) := by
                refine ⟨keep_set (KeepD.refl _ _) (.inl rfl) _, ?_⟩
                unfold WkI3
                rw [s1, t1]
                have := h.putN (x + 1)
                simp only [Int.natCast_add, Int.natCast_one] at this
                exact this
              clear i1 i2 r1 r2 s1 t1 h hy hz   HS1 HS2
              gi_wp2
              exact HF.out
        case done3 =>
          rintro D3 W10 hD hI hK
          have hI' : WkS w B A r s b o c k p st N F R G (.slice e0 N p0) (.slice e1 L1 q1) (.slice e2 L2 q2) L1 L2 N (seg a1 L1 N) (seg a2 L2 N) [D2, D1] W10 := hI
          rw [seg_end HS1.out.1, seg_end HS2.out.1] at hI'
          have H10 : Hid (WkS w B A r s b o c k p st N F R G (.slice e0 N p0) (.slice e1 L1 q1) (.slice e2 L2 q2) L1 L2 N L1 L2 [D3, D2, D1] W10) := hI'.mark (by omega) (fun E h => by simp at h; omega) hK.1
          have lD3 : D2 < D3 := by omega
          clear hI hI' hK hD H9 hT' hseq heg hT l9 lz9 lD9
          go_upto_region 29 with (fail)
          obtain ⟨Sb, hS⟩ : ∃ S, W10.heap.size = S := ⟨_, rfl⟩
          obtain ⟨V11, hV11⟩ : ∃ V, W10.alloc (.cells #[.int .i64 0] 3) = V := ⟨_, rfl⟩
          have H11 : Hid (WkS w B A r s b o c k p st N F R G (.slice e0 N p0) (.slice e1 L1 q1) (.slice e2 L2 q2) L1 L2 N L1 L2 [D3, D2, D1] V11 ∧ Box V11 Sb (.int .i64 0)) := by rw [← hV11, ← hS]; exact ⟨H10.out.next ((Below.refl _ W10).alloc (Nat.le_refl _) _), Box.new _ _ _⟩
          have lS : A + 1 + 1 + 1 + 1 + 1 < Sb := by rw [← hS]; exact H10.out.bO.lt
          have lDS : D3 < Sb := by rw [← hS]; exact H10.out.ds_lt D3 (by simp)
          have n1S : ∀ g, ((.slice e1 L1 q1) : Value).ownBlock = some g → g < Sb := fun g hg => by rw [← hS]; exact (H10.out.o1.lt g hg).2
          have n2S : ∀ g, ((.slice e2 L2 q2) : Value).ownBlock = some g → g < Sb := fun g hg => by rw [← hS]; exact (H10.out.o2.lt g hg).2
          rw [hV11, hS]
          clear hV11 hS H10
          have g0 := H11.out.1.gm.c0; have g1 := H11.out.1.gm.c1; have g2 := H11.out.1.gm.c2; have g3 := H11.out.1.gm.c3; have g4 := H11.out.1.gm.c4
          go_wp2_with fail
          clear g0 g1 g2 g3 g4
          refine (HIt.out _).mono ?_
          rintro e V12 ⟨v, rfl, bV, gf, lb, T, rfl, heg, hseq, hT⟩
          have H12 : Hid (WkI4 w B A r s b o c k p st N F R G (.slice e0 N p0) (.slice e1 L1 q1) (.slice e2 L2 q2) L1 L2 [D3, D2, D1] Sb 0 V12) := ⟨H11.out.1.next bV, H11.out.2.below bV H11.out.2.lt, by omega⟩
          have l12 : Sb < V11.heap.size := H11.out.2.lt
          have lz12 := bV.size
          have hT' : ∀ b, T b → b < V12.heap.size ∧ ¬ (b = Sb) := fun b hb => ⟨(hT b hb).2, by have := (hT b hb).1; omega⟩
          clear bV H11
          go_wp2
          refine (wpIn_wide (n := 10)).1 (rangeD rfl heg hseq (fun _ => rfl) (fun _ b => b = Sb) hT' (WkI4 w B A r s b o c k p st N F R G (.slice e0 N p0) (.slice e1 L1 q1) (.slice e2 L2 q2) L1 L2 [D3, D2, D1] Sb) (WkX4 w B A r s b o c k p st N F R G (.slice e0 N p0) (.slice e1 L1 q1) (.slice e2 L2 q2) L1 L2 [D3, D2, D1] Sb)
            ⟨fun x W h => ok_fix (by rintro b rfl; exact h.bx.lt), fun c x W h => ok_fix (by rintro b rfl; exact h.bx.lt)⟩ (fun x X Y h hs => ⟨h.wk.stay hs (by omega) (fun D hD => by simp at hD; omega), h.bx.stay hs, h.no⟩) (fun c x X Y h hs => ⟨h.ce, h.wk.stay hs (by omega) (fun D hD => by simp at hD; omega), h.bx.stay hs, h.yes⟩) H12.out ?round4 ?done4 ?stop4)
          case round4 =>
            intro l2 x Wz hx hIz _
            have HIz : Hid (∀ W2, Stay V12.heap.size Wz W2 → WkI4 w B A r s b o c k p st N F R G (.slice e0 N p0) (.slice e1 L1 q1) (.slice e2 L2 q2) L1 L2 [D3, D2, D1] Sb x W2) := fun W2 hs => ⟨hIz.wk.stay hs (by omega) (fun D hD => by simp at hD; omega), hIz.bx.stay hs, hIz.no⟩
            have HOz : Hid (Ok (fun _ b => b = Sb) Wz) := ok_fix (by rintro b rfl; exact hIz.bx.lt)
            clear hIz
            gi_wp2
            refine ⟨KeepD.refl _ _, HOz.out, fun W2 hs2 hz2 hr2 => ?_⟩
            have h := HIz.out W2 hs2
            clear hs2 hz2 hr2 HIz HOz
            have cs := h.bx.1; have fs := h.bx.2; have ct := h.wk.bs.1
            have hp : WkS w B A r s b o c k p st N F R G (.slice e0 N p0) (.slice e1 L1 q1) (.slice e2 L2 q2) L1 L2 N L1 L2 [D3, D2, D1] (W2.setCell ⟨Sb, 0, none⟩ (.int .i64 ((x : Int) + 1))) := h.wk.put (by omega) (fun e => by have := n1S Sb e; omega) (fun e => by have := n2S Sb e; omega) (by simp; omega)
            have hb : Box (W2.setCell ⟨Sb, 0, none⟩ (.int .i64 ((x : Int) + 1))) Sb (.int .i64 ((x + 1 : Nat) : Int)) := by rw [show ((x + 1 : Nat) : Int) = (x : Int) + 1 from by omega]; exact h.bx.set _
            have hno := h.no
            by_cases hst : st = (x : Int) + 1
            · have HF : Hid (KeepD (fun _ b => b = Sb) W2 (W2.setCell ⟨Sb, 0, none⟩ (.int .i64 ((x : Int) + 1))) ∧ WkX4 w B A r s b o c k p st N F R G (.slice e0 N p0) (.slice e1 L1 q1) (.slice e2 L2 q2) L1 L2 [D3, D2, D1] Sb (.exit 6) x (W2.setCell ⟨Sb, 0, none⟩ (.int .i64 ((x : Int) + 1)))) := ⟨keep_set (M := fun b => b = Sb) (KeepD.refl _ _) rfl _, rfl, hp, hb, by omega⟩
              clear h hp hb hno n1S n2S
              gi_wp2
              exact HF.out
            · have HF : Hid (KeepD (fun _ b => b = Sb) W2 (W2.setCell ⟨Sb, 0, none⟩ (.int .i64 ((x : Int) + 1))) ∧ WkI4 w B A r s b o c k p st N F R G (.slice e0 N p0) (.slice e1 L1 q1) (.slice e2 L2 q2) L1 L2 [D3, D2, D1] Sb (x + 1) (W2.setCell ⟨Sb, 0, none⟩ (.int .i64 ((x : Int) + 1)))) := ⟨keep_set (M := fun b => b = Sb) (KeepD.refl _ _) rfl _, hp, hb, by omega⟩
              clear h hp hb hno n1S n2S
              gi_wp2
              exact HF.out
          case done4 =>
            rintro D4 W13 hD hI hK
            have H13 : Hid (WkS w B A r s b o c k p st N F R G (.slice e0 N p0) (.slice e1 L1 q1) (.slice e2 L2 q2) L1 L2 N L1 L2 [D4, D3, D2, D1] W13) := hI.wk.mark (by omega) (fun E h => by simp at h; omega) hK.1
            have hno := hI.no
            have cs := hI.bx.1
            have cn := H13.out.bn.1; have ck := H13.out.bk.1; have cb := H13.out.bg.1; have ca := H13.out.ba.1; have cR := H13.out.bR.1; have cO := H13.out.bO.1; have ct := H13.out.bs.1; have cu := H13.out.bt.1; have fu := H13.out.bt.2
            clear hI hK H12 hT' hseq heg hT
            by_cases h1 : 1 ≤ st
            · have hmin := run_min7 (P := Try.prog) (N : Int) st N (by rw [if_neg (by omega)])
              go_wp2
              exact ends7 hB (T := B + 1 + 1 + 1 + 1) (fun W1 h1 => by simp [results, Try.f4, asAddr, go_sem, h1]) [D4, D3, D2, D1] _ H13.out.fin.1 H13.out.fin.2.1 H13.out.fin.2.2.1 H13.out.fin.2.2.2
            · go_wp2
              exact ends7' hB (T := B + 1 + 1 + 1 + 1) (fun W1 h1 => by simp [results, Try.f4, asAddr, go_sem, h1]) [D4, D3, D2, D1] _ H13.out.fin.1 H13.out.fin.2.1 H13.out.fin.2.2.1 H13.out.fin.2.2.2
          case stop4 =>
            rintro D4 cc x W13 hD hx hX hK
            obtain ⟨rfl, hwk, hbx, hyes⟩ := hX
            have H13 : Hid (WkS w B A r s b o c k p st N F R G (.slice e0 N p0) (.slice e1 L1 q1) (.slice e2 L2 q2) L1 L2 N L1 L2 [D4, D3, D2, D1] W13) := hwk.mark (by omega) (fun E h => by simp at h; omega) hK.1
            rw [← hyes] at hbx
            have cs := hbx.1
            have cn := H13.out.bn.1; have ck := H13.out.bk.1; have cb := H13.out.bg.1; have ca := H13.out.ba.1; have cR := H13.out.bR.1; have cO := H13.out.bO.1; have ct := H13.out.bs.1; have cu := H13.out.bt.1; have fu := H13.out.bt.2
            have h1 : 1 ≤ st := by omega
            have hmin := run_min7 (P := Try.prog) (N : Int) st st (by by_cases e : st < (N : Int) <;> simp [e] <;> omega)
            clear hwk hbx hK H12 hT' hseq heg hT hyes
            refine wpIn_wide.2 ?_
            go_wp2
            exact ends7 hB (T := B + 1 + 1 + 1 + 1) (fun W1 h1 => by simp [results, Try.f4, asAddr, go_sem, h1]) [D4, D3, D2, D1] _ H13.out.fin.1 H13.out.fin.2.1 H13.out.fin.2.2.1 H13.out.fin.2.2.2
  | true =>
    obtain ⟨⟨y1, y2⟩, ⟨y3, y4⟩, ⟨y5, y6⟩, ⟨y7, y8⟩, ⟨y9, y10⟩⟩ := HZR.out rfl
    obtain ⟨m1a, m1b⟩ := low_prod (r + s) b 16 16 (by omega) (by omega) (by omega) (by omega)
    obtain ⟨m2a, m2b⟩ := low_prod ((r + s) * b) o 256 1024 m1a (by omega) (by omega) (by omega)
    obtain ⟨m3a, m3b⟩ := low_prod ((r + s) * b * o) c 262144 64 m2a (by omega) (by omega) (by omega)
    by_cases hbig : 600 < (r + s) * b * o * c
    · have bt := HX2.out.2.bt
      have bt1 := bt.1; have bt2 := bt.2
      go_wp2
      exact ends7 (ds := []) hB (T := B + 1 + 1 + 1 + 1) (fun W1 h1 => by simp [results, Try.f4, asAddr, go_sem, h1]) _ List.nodup_nil (fun _ h => by cases h) (bt.set _) (HX2.out.2.below.setCell (p := ⟨B + 1 + 1 + 1 + 1, 0, none⟩) (by simp; omega) _)
    · go_wp2_with fail
      clear g0 g1 g2 g3 g4 q0 q1 q2 q3 q4
      refine (HAl.out _).mono ?_
      rintro e W3 ⟨v0, rfl, ow, bW⟩
      obtain ⟨e0, p0, rfl⟩ := ow.form
      have H3 : Hid (WkH w B r s b o c k p st W3) := HX2.out.2.next bW
      have hW2 : B + 1 + 1 + 1 + 1 < W2.heap.size := HX2.out.2.bt.lt
      have hle := bW.size
      have HOw : Hid (Ow W3 W2.heap.size (.slice e0 N p0) N F) := ow
      clear bW ow
      go_upto_region 9 with (fail)
      obtain ⟨A, hA⟩ : ∃ A, W3.heap.size = A := ⟨_, rfl⟩
      obtain ⟨V4, hV4⟩ : ∃ V, (((((W3.alloc (.cells #[(.slice e0 N p0)] 39)).alloc (.cells #[.int .i64 0] 3)).alloc (.cells #[.int .i64 0] 3)).alloc (.cells #[.int .i64 0] 3)).alloc (.cells #[(.slice none 0 0)] 39)).alloc (.cells #[(.slice none 0 0)] 39) = V := ⟨_, rfl⟩
      have H4 : Hid (WkS w B A r s b o c k p st N F R G (.slice e0 N p0) (.slice none 0 0) (.slice none 0 0) 0 0 0 0 0 [] V4) := by rw [← hV4, ← hA]; exact H3.out.lay hW2 hle HOw.out _ _ _ _ _ _
      rw [hV4, hA]
      have lBA : B + 5 ≤ A := H4.out.hA
      clear hV4 hA HOw H3 HX2 hW2 hle HAl HZR HH
      have g0 := H4.out.gm.c0; have g1 := H4.out.gm.c1; have g2 := H4.out.gm.c2; have g3 := H4.out.gm.c3; have g4 := H4.out.gm.c4; have g5 := H4.out.br.1
      go_wp2_with fail
      clear g0 g1 g2 g3 g4 g5
      refine (HRk.out _).mono ?_
      rintro e V5 ⟨v, rfl, bV, gf, lb, T, rfl, heg, hseq, hT⟩
      have H5 : Hid (WkS w B A r s b o c k p st N F R G (.slice e0 N p0) (.slice none 0 0) (.slice none 0 0) 0 0 0 0 0 [] V5) := H4.out.next bV
      have l5 : A + 1 + 1 + 1 + 1 + 1 < V5.heap.size := H5.out.bO.lt
      have l4 : A + 1 + 1 + 1 + 1 + 1 < V4.heap.size := H4.out.bO.lt
      have hT' : ∀ b, T b → b < V5.heap.size ∧ ¬ Gr (A + 1 + 1 + 1 + 1) V5 b := fun b hb => ⟨(hT b hb).2, Gr.not H5.out.bR (by have := (hT b hb).1; omega) (fun e => by cases e)⟩
      clear bV H4
      go_wp2
      refine (wpIn_wide (n := 10)).1 (rangeD rfl heg hseq (fun _ => rfl) (Gr (A + 1 + 1 + 1 + 1)) hT' (WkI1 w B A r s b o c k p st N F R G (.slice e0 N p0)) (fun _ _ _ => False)
        ⟨fun x W h => let ⟨_, _, h⟩ := h; Gr.ok h.bR (fun g hg => (h.o1.lt g hg).2), fun _ _ _ h => h.elim⟩ (fun x X Y h hs => let ⟨e, q, h⟩ := h; ⟨e, q, h.stay hs (by omega) (fun _ h => by cases h)⟩) (fun _ _ _ _ h _ => h.elim) ⟨_, _, H5.out⟩ ?round1 ?done1 (fun _ _ _ _ _ _ h _ => h.elim))
      case round1 =>
        intro l2 x Wz hx hIz _
        have HIz : Hid (∀ W2, Stay V5.heap.size Wz W2 → WkI1 w B A r s b o c k p st N F R G (.slice e0 N p0) x W2) := fun W2 hs => let ⟨e, q, h⟩ := hIz; ⟨e, q, h.stay hs (by omega) (fun _ h => by cases h)⟩
        have HOz : Hid (Ok (Gr (A + 1 + 1 + 1 + 1)) Wz) := let ⟨_, _, h⟩ := hIz; Gr.ok h.bR (fun g hg => (h.o1.lt g hg).2)
        clear hIz
        gi_wp2
        refine ⟨KeepD.refl _ _, HOz.out, fun W2 hs2 hz2 hr2 => ?_⟩
        obtain ⟨e9, q9, h1⟩ := HIz.out W2 hs2
        have c4 := h1.bR.1
        have l2 : A + 1 + 1 + 1 + 1 + 1 < W2.heap.size := h1.bO.lt
        have hxN : x < 4096 := by have := HS1.out.1; omega
        have H1 : Hid (WkS w B A r s b o c k p st N F R G (.slice e0 N p0) (.slice e9 x q9) (.slice none 0 0) x 0 0 0 0 [] W2) := h1
        have HO : Hid (∀ ob, (W2.alloc ob).ownsRow (A + 6) 3 1 (.slice e9 x q9) x (lst R x)) := fun ob => H1.out.o1.alloc ob
        clear h1 hs2 hz2 hr2 HIz HOz
        gi_wp2_with (gi_at_builtin; refine wpListIn_append_own_at _ rfl _ _ 39 rfl (A + 6) 3 i3 (.int .i64 0) 1 8 Try.underlying39 hi3 hz0 hz1 hz2 rfl (by decide) _ x (lst R x) rfl (HO.out _) ⟨W2.heap.size, 0, none⟩ 1 1 [.int .i64 (R x : Int)] rfl rfl (one_new7 W2 _ _) (one_one7 _) (by unfold maxLen; omega) (by omega) (by simp; omega) ?_; intro v3 W3 own3 gr3 _ at3; obtain ⟨e3, q3, rfl⟩ := own_form own3; obtain ⟨b3, k3, h3⟩ := WkS.app1 H1.out _ own3 gr3 at3; have c5 := b3.1; have f5 := b3.2; have HF : Hid (KeepD (Gr (A + 1 + 1 + 1 + 1)) W2 (W3.setCell ⟨A + 1 + 1 + 1 + 1, 0, none⟩ (.slice e3 (x + 1) q3)) ∧ WkI1 w B A r s b o c k p st N F R G (.slice e0 N p0) (x + 1) (W3.setCell ⟨A + 1 + 1 + 1 + 1, 0, none⟩ (.slice e3 (x + 1) q3))) := ⟨k3, _, _, h3⟩; clear own3 gr3 at3 b3 k3 h3)
        exact HF.out
      case done1 =>
        rintro D1 W6 hD hI hK
        obtain ⟨e1, q1, h1⟩ := hI
        have H6 : Hid (WkS w B A r s b o c k p st N F R G (.slice e0 N p0) (.slice e1 L1 q1) (.slice none 0 0) L1 0 0 0 0 [D1] W6) := h1.mark (by omega) (fun _ h => by cases h) hK.1
        have lD1 : A + 6 ≤ D1 := by omega
        clear h1 hK hD H5 hT' hseq heg hT l5 l4
        have g0 := H6.out.gm.c0; have g1 := H6.out.gm.c1; have g2 := H6.out.gm.c2; have g3 := H6.out.gm.c3; have g4 := H6.out.gm.c4; have g5 := H6.out.bp.1
        go_wp2_with fail
        clear g0 g1 g2 g3 g4 g5
        refine (HPg.out _).mono ?_
        rintro e V7 ⟨v, rfl, bV, gf, lb, T, rfl, heg, hseq, hT⟩
        have H7 : Hid (WkS w B A r s b o c k p st N F R G (.slice e0 N p0) (.slice e1 L1 q1) (.slice none 0 0) L1 0 0 0 0 [D1] V7) := H6.out.next bV
        have l7 : A + 1 + 1 + 1 + 1 + 1 < V7.heap.size := H7.out.bO.lt
        have lW6 : A + 1 + 1 + 1 + 1 + 1 < W6.heap.size := H6.out.bO.lt
        have lD7 : D1 < V7.heap.size := H7.out.ds_lt D1 (by simp)
        have hT' : ∀ b, T b → b < V7.heap.size ∧ ¬ Gr (A + 1 + 1 + 1 + 1 + 1) V7 b := fun b hb => ⟨(hT b hb).2, Gr.not H7.out.bO (by have := (hT b hb).1; omega) (fun e => by cases e)⟩
        clear bV H6
        go_wp2
        refine (wpIn_wide (n := 10)).1 (rangeD rfl heg hseq (fun _ => rfl) (Gr (A + 1 + 1 + 1 + 1 + 1)) hT' (WkI2 w B A r s b o c k p st N F R G (.slice e0 N p0) (.slice e1 L1 q1) L1 [D1]) (fun _ _ _ => False)
          ⟨fun x W h => let ⟨_, _, h⟩ := h; Gr.ok h.bO (fun g hg => (h.o2.lt g hg).2), fun _ _ _ h => h.elim⟩ (fun x X Y h hs => let ⟨e, q, h⟩ := h; ⟨e, q, h.stay hs (by omega) (fun _ h => by simp at h; omega)⟩) (fun _ _ _ _ h _ => h.elim) ⟨_, _, H7.out⟩ ?round2 ?done2 (fun _ _ _ _ _ _ h _ => h.elim))
        case round2 =>
          intro l2 x Wz hx hIz _
          have HIz : Hid (∀ W2, Stay V7.heap.size Wz W2 → WkI2 w B A r s b o c k p st N F R G (.slice e0 N p0) (.slice e1 L1 q1) L1 [D1] x W2) := fun W2 hs => let ⟨e, q, h⟩ := hIz; ⟨e, q, h.stay hs (by omega) (fun _ h => by simp at h; omega)⟩
          have HOz : Hid (Ok (Gr (A + 1 + 1 + 1 + 1 + 1)) Wz) := let ⟨_, _, h⟩ := hIz; Gr.ok h.bO (fun g hg => (h.o2.lt g hg).2)
          clear hIz
          gi_wp2
          refine ⟨KeepD.refl _ _, HOz.out, fun W2 hs2 hz2 hr2 => ?_⟩
          obtain ⟨e9, q9, h1⟩ := HIz.out W2 hs2
          have c4 := h1.bO.1
          have l2 : A + 1 + 1 + 1 + 1 + 1 < W2.heap.size := h1.bO.lt
          have hxN : x < 4096 := by have := HS2.out.1; omega
          have H1 : Hid (WkS w B A r s b o c k p st N F R G (.slice e0 N p0) (.slice e1 L1 q1) (.slice e9 x q9) L1 x 0 0 0 [D1] W2) := h1
          have HO : Hid (∀ ob, (W2.alloc ob).ownsRow (A + 6) 3 1 (.slice e9 x q9) x (lst G x)) := fun ob => H1.out.o2.alloc ob
          clear h1 hs2 hz2 hr2 HIz HOz
          gi_wp2_with (gi_at_builtin; refine wpListIn_append_own_at _ rfl _ _ 39 rfl (A + 6) 3 i3 (.int .i64 0) 1 8 Try.underlying39 hi3 hz0 hz1 hz2 rfl (by decide) _ x (lst G x) rfl (HO.out _) ⟨W2.heap.size, 0, none⟩ 1 1 [.int .i64 (G x : Int)] rfl rfl (one_new7 W2 _ _) (one_one7 _) (by unfold maxLen; omega) (by omega) (by simp; omega) ?_; intro v3 W3 own3 gr3 _ at3; obtain ⟨e3, q3, rfl⟩ := own_form own3; obtain ⟨b3, k3, h3⟩ := WkS.app2 H1.out _ own3 gr3 at3; have c5 := b3.1; have f5 := b3.2; have HF : Hid (KeepD (Gr (A + 1 + 1 + 1 + 1 + 1)) W2 (W3.setCell ⟨A + 1 + 1 + 1 + 1 + 1, 0, none⟩ (.slice e3 (x + 1) q3)) ∧ WkI2 w B A r s b o c k p st N F R G (.slice e0 N p0) (.slice e1 L1 q1) L1 [D1] (x + 1) (W3.setCell ⟨A + 1 + 1 + 1 + 1 + 1, 0, none⟩ (.slice e3 (x + 1) q3))) := ⟨k3, _, _, h3⟩; clear own3 gr3 at3 b3 k3 h3)
          exact HF.out
        case done2 =>
          rintro D2 W8 hD hI hK
          obtain ⟨e2, q2, h2⟩ := hI
          have H8 : Hid (WkS w B A r s b o c k p st N F R G (.slice e0 N p0) (.slice e1 L1 q1) (.slice e2 L2 q2) L1 L2 0 0 0 [D2, D1] W8) := h2.mark (by omega) (fun E h => by simp at h; omega) hK.1
          have lD2 : D1 < D2 := by omega
          clear h2 hK hD H7 hT' hseq heg hT l7 lW6 lD7
          have g0 := H8.out.gm.c0; have g1 := H8.out.gm.c1; have g2 := H8.out.gm.c2; have g3 := H8.out.gm.c3; have g4 := H8.out.gm.c4; have g5 := H8.out.bp.1
          go_wp2_with fail
          clear g0 g1 g2 g3 g4 g5
          refine (HIt.out _).mono ?_
          rintro e V9 ⟨v, rfl, bV, gf, lb, T, rfl, heg, hseq, hT⟩
          have H9 : Hid (WkI3 w B A r s b o c k p st N F R G (.slice e0 N p0) (.slice e1 L1 q1) (.slice e2 L2 q2) L1 L2 a1 a2 [D2, D1] 0 V9) := by unfold WkI3; rw [seg_zero, seg_zero]; exact H8.out.next bV
          have l9 : A + 1 + 1 + 1 + 1 + 1 < W8.heap.size := H8.out.bO.lt
          have lz9 := bV.size
          have lD9 : D2 < V9.heap.size := WkS.ds_lt H9.out D2 (by simp)
          have hT' : ∀ b, T b → b < V9.heap.size ∧ ¬ (b = A + 1 ∨ b = A + 1 + 1 ∨ b = A + 1 + 1 + 1) := fun b hb => ⟨(hT b hb).2, by have := (hT b hb).1; omega⟩
          clear bV H8
          go_wp2
          refine (wpIn_wide (n := 10)).1 (rangeD rfl heg hseq (fun _ => rfl) (fun _ b => b = A + 1 ∨ b = A + 1 + 1 ∨ b = A + 1 + 1 + 1) hT' (WkI3 w B A r s b o c k p st N F R G (.slice e0 N p0) (.slice e1 L1 q1) (.slice e2 L2 q2) L1 L2 a1 a2 [D2, D1]) (fun _ _ _ => False)
            ⟨fun x W h => WkS.m3 h, fun _ _ _ h => h.elim⟩ (fun x X Y h hs => WkS.stay h hs (by omega) (fun D hD => by simp at hD; omega)) (fun _ _ _ _ h _ => h.elim) H9.out ?round3 ?done3 (fun _ _ _ _ _ _ h _ => h.elim))
          case round3 =>
            intro l2 x Wz hx hIz _
            have HIz : Hid (∀ W2, Stay V9.heap.size Wz W2 → WkI3 w B A r s b o c k p st N F R G (.slice e0 N p0) (.slice e1 L1 q1) (.slice e2 L2 q2) L1 L2 a1 a2 [D2, D1] x W2) := fun W2 hs => WkS.stay hIz hs (by omega) (fun D hD => by simp at hD; omega)
            have HOz : Hid (Ok (fun _ b => b = A + 1 ∨ b = A + 1 + 1 ∨ b = A + 1 + 1 + 1) Wz) := WkS.m3 hIz
            clear hIz
            gi_wp2
            refine ⟨KeepD.refl _ _, HOz.out, fun W2 hs2 hz2 hr2 => ?_⟩
            have h : WkS w B A r s b o c k p st N F R G (.slice e0 N p0) (.slice e1 L1 q1) (.slice e2 L2 q2) L1 L2 x (seg a1 L1 x) (seg a2 L2 x) [D2, D1] W2 := HIz.out W2 hs2
            clear hs2 hz2 hr2 HIz HOz
            obtain ⟨g, hg, cg⟩ := h.o0.some hx
            subst hg
            have lg : g < A := h.l0 g rfl
            have lgB : B + 5 ≤ g := (h.o0.lt g rfl).1
            have hFx := hFlt.out x hx
            obtain ⟨i1, r1⟩ := HS1.out.2 x hx
            obtain ⟨i2, r2⟩ := HS2.out.2 x hx
            obtain ⟨y, hy⟩ : ∃ y, seg a1 L1 x = y := ⟨_, rfl⟩
            obtain ⟨z, hz⟩ : ∃ z, seg a2 L2 x = z := ⟨_, rfl⟩
            have ly : y ≤ 4096 := by have := HS1.out.1; unfold seg at hy; omega
            have lz : z ≤ 4096 := by have := HS2.out.1; unfold seg at hz; omega
            rw [hy, hz] at h
            have cn := h.bn.1; have fn := h.bn.2; have ck := h.bk.1; have fk := h.bk.2; have cb := h.bg.1; have fb := h.bg.2; have ca := h.ba.1; have cR := h.bR.1; have cO := h.bO.1; have cr := h.br.1; have cp := h.bp.1
            by_cases h1 : a1 ≤ x ∧ x < a1 + L1
            · by_cases h2 : a2 ≤ x ∧ x < a2 + L2
              · obtain ⟨s1, s2, s3⟩ := seg_in h1.1 h1.2
                have E1 := i1.2 h1
                have r1' := r1 h1.1 h1.2
                rw [← s2] at r1'
                rw [hy] at s1 s3 r1'
                obtain ⟨g1, hg1, c1⟩ := h.o1.some s3
                subst hg1
                rw [r1'] at c1
                have lg1 : A + 6 ≤ g1 := (h.o1.lt g1 rfl).1
                obtain ⟨t1, t2, t3⟩ := seg_in h2.1 h2.2
                have E2 := i2.2 h2
                have r2' := r2 h2.1 h2.2
                rw [← t2] at r2'
                rw [hz] at t1 t3 r2'
                obtain ⟨g2, hg2, c2⟩ := h.o2.some t3
                subst hg2
                rw [r2'] at c2
                have lg2 : A + 6 ≤ g2 := (h.o2.lt g2 rfl).1
                have HF : Hid (KeepD (fun _ b => b = A + 1 ∨ b = A + 1 + 1 ∨ b = A + 1 + 1 + 1) W2 (((W2.setCell ⟨A + 1, 0, none⟩ (.int .i64 ((x : Int) + 1))).setCell ⟨A + 1 + 1, 0, none⟩ (.int .i64 ((y : Int) + 1))).setCell ⟨A + 1 + 1 + 1, 0, none⟩ (.int .i64 ((z : Int) + 1))) ∧ WkI3 w B A r s b o c k p st N F R G (.slice (some ⟨g, 0, none⟩) N p0) (.slice (some ⟨g1, 0, none⟩) L1 q1) (.slice (some ⟨g2, 0, none⟩) L2 q2) L1 L2 a1 a2 [D2, D1] (x + 1) (((W2.setCell ⟨A + 1, 0, none⟩ (.int .i64 ((x : Int) + 1))).setCell ⟨A + 1 + 1, 0, none⟩ (.int .i64 ((y : Int) + 1))).setCell ⟨A + 1 + 1 + 1, 0, none⟩ (.int .i64 ((z : Int) + 1)))) := by
                  refine ⟨keep_set (keep_set (keep_set (KeepD.refl _ _) (.inl rfl) _) (.inr (.inl rfl)) _) (.inr (.inr rfl)) _, ?_⟩
                  unfold WkI3
                  rw [s1, t1]
                  have := ((h.putN (x + 1)).putK (y + 1)).putG (z + 1)
                  simp only [Int.natCast_add, Int.natCast_one] at this
                  exact this
                clear i1 i2 r1 r2 s1 t1 h hy hz s2 r1' t2 r2' HS1 HS2
                gi_wp2
                exact HF.out
              · obtain ⟨s1, s2, s3⟩ := seg_in h1.1 h1.2
                have E1 := i1.2 h1
                have r1' := r1 h1.1 h1.2
                rw [← s2] at r1'
                rw [hy] at s1 s3 r1'
                obtain ⟨g1, hg1, c1⟩ := h.o1.some s3
                subst hg1
                rw [r1'] at c1
                have lg1 : A + 6 ≤ g1 := (h.o1.lt g1 rfl).1
                have t1 := seg_out h2
                rw [hz] at t1
                have E2 : ¬ ((F x : Int) / 64 = p) := fun e => h2 (i2.1 e)
                have HF : Hid (KeepD (fun _ b => b = A + 1 ∨ b = A + 1 + 1 ∨ b = A + 1 + 1 + 1) W2 ((W2.setCell ⟨A + 1, 0, none⟩ (.int .i64 ((x : Int) + 1))).setCell ⟨A + 1 + 1, 0, none⟩ (.int .i64 ((y : Int) + 1))) ∧ WkI3 w B A r s b o c k p st N F R G (.slice (some ⟨g, 0, none⟩) N p0) (.slice (some ⟨g1, 0, none⟩) L1 q1) (.slice e2 L2 q2) L1 L2 a1 a2 [D2, D1] (x + 1) ((W2.setCell ⟨A + 1, 0, none⟩ (.int .i64 ((x : Int) + 1))).setCell ⟨A + 1 + 1, 0, none⟩ (.int .i64 ((y : Int) + 1)))) := by
                  refine ⟨keep_set (keep_set (KeepD.refl _ _) (.inl rfl) _) (.inr (.inl rfl)) _, ?_⟩
                  unfold WkI3
                  rw [s1, t1]
                  have := (h.putN (x + 1)).putK (y + 1)
                  simp only [Int.natCast_add, Int.natCast_one] at this
                  exact this
                clear i1 i2 r1 r2 s1 t1 h hy hz s2 r1'  HS1 HS2
                gi_wp2
                exact HF.out
            · by_cases h2 : a2 ≤ x ∧ x < a2 + L2
              · have s1 := seg_out h1
                rw [hy] at s1
                have E1 : ¬ ((F x : Int) / 1048576 = k) := fun e => h1 (i1.1 e)
                obtain ⟨t1, t2, t3⟩ := seg_in h2.1 h2.2
                have E2 := i2.2 h2
                have r2' := r2 h2.1 h2.2
                rw [← t2] at r2'
                rw [hz] at t1 t3 r2'
                obtain ⟨g2, hg2, c2⟩ := h.o2.some t3
                subst hg2
                rw [r2'] at c2
                have lg2 : A + 6 ≤ g2 := (h.o2.lt g2 rfl).1
                have HF : Hid (KeepD (fun _ b => b = A + 1 ∨ b = A + 1 + 1 ∨ b = A + 1 + 1 + 1) W2 ((W2.setCell ⟨A + 1, 0, none⟩ (.int .i64 ((x : Int) + 1))).setCell ⟨A + 1 + 1 + 1, 0, none⟩ (.int .i64 ((z : Int) + 1))) ∧ WkI3 w B A r s b o c k p st N F R G (.slice (some ⟨g, 0, none⟩) N p0) (.slice e1 L1 q1) (.slice (some ⟨g2, 0, none⟩) L2 q2) L1 L2 a1 a2 [D2, D1] (x + 1) ((W2.setCell ⟨A + 1, 0, none⟩ (.int .i64 ((x : Int) + 1))).setCell ⟨A + 1 + 1 + 1, 0, none⟩ (.int .i64 ((z : Int) + 1)))) := by
                  refine ⟨keep_set (keep_set (KeepD.refl _ _) (.inl rfl) _) (.inr (.inr rfl)) _, ?_⟩
                  unfold WkI3
                  rw [s1, t1]
                  have := (h.putN (x + 1)).putG (z + 1)
                  simp only [Int.natCast_add, Int.natCast_one] at this
                  exact this
                clear i1 i2 r1 r2 s1 t1 h hy hz  t2 r2' HS1 HS2
                gi_wp2
                exact HF.out
              · have s1 := seg_out h1
                rw [hy] at s1
                have E1 : ¬ ((F x : Int) / 1048576 = k) := fun e => h1 (i1.1 e)
                have t1 := seg_out h2
                rw [hz] at t1
                have E2 : ¬ ((F x : Int) / 64 = p) := fun e => h2 (i2.1 e)
                have HF : Hid (KeepD (fun _ b => b = A + 1 ∨ b = A + 1 + 1 ∨ b = A + 1 + 1 + 1) W2 (W2.setCell ⟨A + 1, 0, none⟩ (.int .i64 ((x : Int) + 1))) ∧ WkI3 w B A r s b o c k p st N F R G (.slice (some ⟨g, 0, none⟩) N p0) (.slice e1 L1 q1) (.slice e2 L2 q2) L1 L2 a1 a2 [D2, D1] (x + 1) (W2.setCell ⟨A + 1, 0, none⟩ (.int .i64 ((x : Int) + 1)))) := by
                  refine ⟨keep_set (KeepD.refl _ _) (.inl rfl) _, ?_⟩
                  unfold WkI3
                  rw [s1, t1]
                  have := h.putN (x + 1)
                  simp only [Int.natCast_add, Int.natCast_one] at this
                  exact this
                clear i1 i2 r1 r2 s1 t1 h hy hz   HS1 HS2
                gi_wp2
                exact HF.out
          case done3 =>
            rintro D3 W10 hD hI hK
            have hI' : WkS w B A r s b o c k p st N F R G (.slice e0 N p0) (.slice e1 L1 q1) (.slice e2 L2 q2) L1 L2 N (seg a1 L1 N) (seg a2 L2 N) [D2, D1] W10 := hI
            rw [seg_end HS1.out.1, seg_end HS2.out.1] at hI'
            have H10 : Hid (WkS w B A r s b o c k p st N F R G (.slice e0 N p0) (.slice e1 L1 q1) (.slice e2 L2 q2) L1 L2 N L1 L2 [D3, D2, D1] W10) := hI'.mark (by omega) (fun E h => by simp at h; omega) hK.1
            have lD3 : D2 < D3 := by omega
            clear hI hI' hK hD H9 hT' hseq heg hT l9 lz9 lD9
            go_upto_region 29 with (fail)
            obtain ⟨Sb, hS⟩ : ∃ S, W10.heap.size = S := ⟨_, rfl⟩
            obtain ⟨V11, hV11⟩ : ∃ V, W10.alloc (.cells #[.int .i64 0] 3) = V := ⟨_, rfl⟩
            have H11 : Hid (WkS w B A r s b o c k p st N F R G (.slice e0 N p0) (.slice e1 L1 q1) (.slice e2 L2 q2) L1 L2 N L1 L2 [D3, D2, D1] V11 ∧ Box V11 Sb (.int .i64 0)) := by rw [← hV11, ← hS]; exact ⟨H10.out.next ((Below.refl _ W10).alloc (Nat.le_refl _) _), Box.new _ _ _⟩
            have lS : A + 1 + 1 + 1 + 1 + 1 < Sb := by rw [← hS]; exact H10.out.bO.lt
            have lDS : D3 < Sb := by rw [← hS]; exact H10.out.ds_lt D3 (by simp)
            have n1S : ∀ g, ((.slice e1 L1 q1) : Value).ownBlock = some g → g < Sb := fun g hg => by rw [← hS]; exact (H10.out.o1.lt g hg).2
            have n2S : ∀ g, ((.slice e2 L2 q2) : Value).ownBlock = some g → g < Sb := fun g hg => by rw [← hS]; exact (H10.out.o2.lt g hg).2
            rw [hV11, hS]
            clear hV11 hS H10
            have g0 := H11.out.1.gm.c0; have g1 := H11.out.1.gm.c1; have g2 := H11.out.1.gm.c2; have g3 := H11.out.1.gm.c3; have g4 := H11.out.1.gm.c4
            go_wp2_with fail
            clear g0 g1 g2 g3 g4
            refine (HIt.out _).mono ?_
            rintro e V12 ⟨v, rfl, bV, gf, lb, T, rfl, heg, hseq, hT⟩
            have H12 : Hid (WkI4 w B A r s b o c k p st N F R G (.slice e0 N p0) (.slice e1 L1 q1) (.slice e2 L2 q2) L1 L2 [D3, D2, D1] Sb 0 V12) := ⟨H11.out.1.next bV, H11.out.2.below bV H11.out.2.lt, by omega⟩
            have l12 : Sb < V11.heap.size := H11.out.2.lt
            have lz12 := bV.size
            have hT' : ∀ b, T b → b < V12.heap.size ∧ ¬ (b = Sb) := fun b hb => ⟨(hT b hb).2, by have := (hT b hb).1; omega⟩
            clear bV H11
            go_wp2
            refine (wpIn_wide (n := 10)).1 (rangeD rfl heg hseq (fun _ => rfl) (fun _ b => b = Sb) hT' (WkI4 w B A r s b o c k p st N F R G (.slice e0 N p0) (.slice e1 L1 q1) (.slice e2 L2 q2) L1 L2 [D3, D2, D1] Sb) (WkX4 w B A r s b o c k p st N F R G (.slice e0 N p0) (.slice e1 L1 q1) (.slice e2 L2 q2) L1 L2 [D3, D2, D1] Sb)
              ⟨fun x W h => ok_fix (by rintro b rfl; exact h.bx.lt), fun c x W h => ok_fix (by rintro b rfl; exact h.bx.lt)⟩ (fun x X Y h hs => ⟨h.wk.stay hs (by omega) (fun D hD => by simp at hD; omega), h.bx.stay hs, h.no⟩) (fun c x X Y h hs => ⟨h.ce, h.wk.stay hs (by omega) (fun D hD => by simp at hD; omega), h.bx.stay hs, h.yes⟩) H12.out ?round4 ?done4 ?stop4)
            case round4 =>
              intro l2 x Wz hx hIz _
              have HIz : Hid (∀ W2, Stay V12.heap.size Wz W2 → WkI4 w B A r s b o c k p st N F R G (.slice e0 N p0) (.slice e1 L1 q1) (.slice e2 L2 q2) L1 L2 [D3, D2, D1] Sb x W2) := fun W2 hs => ⟨hIz.wk.stay hs (by omega) (fun D hD => by simp at hD; omega), hIz.bx.stay hs, hIz.no⟩
              have HOz : Hid (Ok (fun _ b => b = Sb) Wz) := ok_fix (by rintro b rfl; exact hIz.bx.lt)
              clear hIz
              gi_wp2
              refine ⟨KeepD.refl _ _, HOz.out, fun W2 hs2 hz2 hr2 => ?_⟩
              have h := HIz.out W2 hs2
              clear hs2 hz2 hr2 HIz HOz
              have cs := h.bx.1; have fs := h.bx.2; have ct := h.wk.bs.1
              have hp : WkS w B A r s b o c k p st N F R G (.slice e0 N p0) (.slice e1 L1 q1) (.slice e2 L2 q2) L1 L2 N L1 L2 [D3, D2, D1] (W2.setCell ⟨Sb, 0, none⟩ (.int .i64 ((x : Int) + 1))) := h.wk.put (by omega) (fun e => by have := n1S Sb e; omega) (fun e => by have := n2S Sb e; omega) (by simp; omega)
              have hb : Box (W2.setCell ⟨Sb, 0, none⟩ (.int .i64 ((x : Int) + 1))) Sb (.int .i64 ((x + 1 : Nat) : Int)) := by rw [show ((x + 1 : Nat) : Int) = (x : Int) + 1 from by omega]; exact h.bx.set _
              have hno := h.no
              by_cases hst : st = (x : Int) + 1
              · have HF : Hid (KeepD (fun _ b => b = Sb) W2 (W2.setCell ⟨Sb, 0, none⟩ (.int .i64 ((x : Int) + 1))) ∧ WkX4 w B A r s b o c k p st N F R G (.slice e0 N p0) (.slice e1 L1 q1) (.slice e2 L2 q2) L1 L2 [D3, D2, D1] Sb (.exit 6) x (W2.setCell ⟨Sb, 0, none⟩ (.int .i64 ((x : Int) + 1)))) := ⟨keep_set (M := fun b => b = Sb) (KeepD.refl _ _) rfl _, rfl, hp, hb, by omega⟩
                clear h hp hb hno n1S n2S
                gi_wp2
                exact HF.out
              · have HF : Hid (KeepD (fun _ b => b = Sb) W2 (W2.setCell ⟨Sb, 0, none⟩ (.int .i64 ((x : Int) + 1))) ∧ WkI4 w B A r s b o c k p st N F R G (.slice e0 N p0) (.slice e1 L1 q1) (.slice e2 L2 q2) L1 L2 [D3, D2, D1] Sb (x + 1) (W2.setCell ⟨Sb, 0, none⟩ (.int .i64 ((x : Int) + 1)))) := ⟨keep_set (M := fun b => b = Sb) (KeepD.refl _ _) rfl _, hp, hb, by omega⟩
                clear h hp hb hno n1S n2S
                gi_wp2
                exact HF.out
            case done4 =>
              rintro D4 W13 hD hI hK
              have H13 : Hid (WkS w B A r s b o c k p st N F R G (.slice e0 N p0) (.slice e1 L1 q1) (.slice e2 L2 q2) L1 L2 N L1 L2 [D4, D3, D2, D1] W13) := hI.wk.mark (by omega) (fun E h => by simp at h; omega) hK.1
              have hno := hI.no
              have cs := hI.bx.1
              have cn := H13.out.bn.1; have ck := H13.out.bk.1; have cb := H13.out.bg.1; have ca := H13.out.ba.1; have cR := H13.out.bR.1; have cO := H13.out.bO.1; have ct := H13.out.bs.1; have cu := H13.out.bt.1; have fu := H13.out.bt.2
              clear hI hK H12 hT' hseq heg hT
              by_cases h1 : 1 ≤ st
              · have hmin := run_min7 (P := Try.prog) (N : Int) st N (by rw [if_neg (by omega)])
                go_wp2
                exact ends7 hB (T := B + 1 + 1 + 1 + 1) (fun W1 h1 => by simp [results, Try.f4, asAddr, go_sem, h1]) [D4, D3, D2, D1] _ H13.out.fin.1 H13.out.fin.2.1 H13.out.fin.2.2.1 H13.out.fin.2.2.2
              · go_wp2
                exact ends7' hB (T := B + 1 + 1 + 1 + 1) (fun W1 h1 => by simp [results, Try.f4, asAddr, go_sem, h1]) [D4, D3, D2, D1] _ H13.out.fin.1 H13.out.fin.2.1 H13.out.fin.2.2.1 H13.out.fin.2.2.2
            case stop4 =>
              rintro D4 cc x W13 hD hx hX hK
              obtain ⟨rfl, hwk, hbx, hyes⟩ := hX
              have H13 : Hid (WkS w B A r s b o c k p st N F R G (.slice e0 N p0) (.slice e1 L1 q1) (.slice e2 L2 q2) L1 L2 N L1 L2 [D4, D3, D2, D1] W13) := hwk.mark (by omega) (fun E h => by simp at h; omega) hK.1
              rw [← hyes] at hbx
              have cs := hbx.1
              have cn := H13.out.bn.1; have ck := H13.out.bk.1; have cb := H13.out.bg.1; have ca := H13.out.ba.1; have cR := H13.out.bR.1; have cO := H13.out.bO.1; have ct := H13.out.bs.1; have cu := H13.out.bt.1; have fu := H13.out.bt.2
              have h1 : 1 ≤ st := by omega
              have hmin := run_min7 (P := Try.prog) (N : Int) st st (by by_cases e : st < (N : Int) <;> simp [e] <;> omega)
              clear hwk hbx hK H12 hT' hseq heg hT hyes
              refine wpIn_wide.2 ?_
              go_wp2
              exact ends7 hB (T := B + 1 + 1 + 1 + 1) (fun W1 h1 => by simp [results, Try.f4, asAddr, go_sem, h1]) [D4, D3, D2, D1] _ H13.out.fin.1 H13.out.fin.2.1 H13.out.fin.2.2.1 H13.out.fin.2.2.2

theorem geomWalks_walk (a0 : Nat → Int) (a1 a2 a3 : Int) (w0 : ∀ i, i < 5 → (Lit.int .i64 (a0 i)).wf = true) (_w1 : (Lit.int .i64 a1).wf = true) (_w2 : (Lit.int .i64 a2).wf = true) (_w3 : (Lit.int .i64 a3).wf = true) (w : World) :
    Calls Try.prog 4 #[.agg (ints .i64 5 a0).toArray, .int .i64 a1, .int .i64 a2, .int .i64 a3] w fun e w' => e = .returned (.bool true) ∧ Below w.heap.size w w' := by
  have hi : ∀ i, i < 5 → I64 (a0 i) := fun i hi => by have := bounds_i64 (w0 i hi); exact ⟨this.1, by omega⟩
  exact geomWalks_core (a0 0) (a0 1) (a0 2) (a0 3) (a0 4) a1 a2 a3 (hi 0 (by omega)) (hi 2 (by omega)) (hi 3 (by omega)) (hi 4 (by omega)) w
end Go.Proofs.Ytjinbhggimbcbaa
