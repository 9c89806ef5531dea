/-
  The checks: what is left of a division by the generator.
-/
import Derived.Test.YtdjknaafefnlcaaDoorRsW9
namespace Go.Proofs.YtdjknaafefnlcaaDoor
open Go.RowKit Go.Shelf
open Gf (gI eI dI lI)
open Po (El mu pwr ev S cf toE cv Low rts)
open Rm (al sy At IsCode)
attribute [local go_sem] Oper.semAt_some

/-- four checks ahead of 32 data -/
def ck (K D : Nat → El) (i : Nat) : El := if i < 4 then K i else D (i - 4)
theorem gen_root (j : Nat) (hj : j < 4) : ev 5 gen (al j) = 0 := by
  refine (Po.ev_rts [8, 4, 2, 1] (al j)).2 ?_
  obtain ⟨h0, h1, h2, h3⟩ := al_nums
  rcases (show j = 0 ∨ j = 1 ∨ j = 2 ∨ j = 3 by omega) with rfl | rfl | rfl | rfl
  · rw [h0]; simp
  · rw [h1]; simp
  · rw [h2]; simp
  · rw [h3]; simp
/-- what is left of the division, as checks, makes a code word -/
theorem left_code (D V : Nat → El) (p : Nat → El) (hp : ∀ i, p i = if i < 39 then wd (ck (fun _ => 0) D) V i else 0) (R : Nat → El) (h : Left p gen 4 R) : IsCode (wd (ck R D) V) := by
  obtain ⟨hR, T, M, hT, he⟩ := h
  have hpl : Low 39 p := fun i hi => by rw [hp, if_neg (by omega)]
  intro j hj
  have e1 : ev 39 (wd (ck R D) V) (al j) = ev 39 (fun i => p i ^^^ R i) (al j) := by
    unfold ev
    refine Po.S_congr _ _ _ fun i hi => ?_
    congr 1
    show _ = p i ^^^ R i
    rw [hp, if_pos hi]
    unfold wd ck
    by_cases h4 : i < 4
    · rw [if_pos h4, if_pos h4, if_pos (show i < 36 by omega), if_pos (show i < 36 by omega)]
      exact (Po.z0 _).symm
    · rw [hR i (by omega), Po.x0, if_neg h4]
  have e2 : ∀ n, 39 ≤ n → ev 39 (fun i => p i ^^^ R i) (al j) = ev n (fun i => p i ^^^ R i) (al j) := fun n hn => (Po.ev_more (hpl.xor (hR.mono (by omega))) hn _).symm
  rw [e1, e2 (39 + (M + 5)) (by omega)]
  have e3 : ev (39 + (M + 5)) (fun i => p i ^^^ R i) (al j) = ev (39 + (M + 5)) (cv T gen) (al j) := by
    unfold ev
    refine Po.S_congr _ _ _ fun i _ => ?_
    congr 1
    show p i ^^^ R i = _
    rw [he i, BitVec.xor_assoc, Po.xor_self', Po.x0]
  rw [e3, Po.ev_more ((Po.cv_low hT gen_low).mono (show M + 5 - 1 ≤ M + 5 by omega)) (by omega), Po.ev_cv hT gen_low, gen_root j hj, Po.mu_zero]
theorem left_congr {p q p' q' R R' : Nat → El} {k : Nat} (h : Left p q k R) (h1 : ∀ i, p i = p' i) (h2 : ∀ i, q i = q' i) (h3 : ∀ i, R i = R' i) : Left p' q' k R' := by
  rw [← funext h1, ← funext h2, ← funext h3]; exact h
theorem zero36 (w : World) : (zeroValue 93).run Tryd.prog w = .ok (.agg (arr 36 fun _ => 0).toArray) w := by kernel_rfl

theorem arr_src' {W : World} {g off n : Nat} {F : Nat → El} (h : ∀ j : Nat, j < n → W.cell? ⟨g, off + j, none⟩ = some (.int .u8 (oe (F j)))) : ∀ j v, (arr n F)[j]? = some v → W.cell? ((⟨g, off, none⟩ : Addr).add j) = some v := fun j v hv => by
  have hj : j < n := by have := (List.getElem?_eq_some_iff.1 hv).1; rw [arr_len] at this; exact this
  rw [arr_at n F j hj] at hv
  cases hv
  rw [Addr.add_mid]; exact h j hj
/-- Mod of the word by the generator -/
theorem modG_any (b c g : Nat) (X : Nat → El) (w : World) (hc : CdAt w c b) (hg : Blk w g 39 X) :
    Calls Tryd.prog 67 #[.pointer (some ⟨b, 0, none⟩), .slice (some ⟨g, 0, none⟩) 39 39, .slice (some ⟨c, 1, none⟩) 5 5] w fun e w' =>
      ∃ a n cp l, e = .returned (.tuple #[.slice a n cp, .int .i64 0]) ∧ Arg w' a n cp l ∧ n ≤ 4 ∧ Left (fun i => if i < 39 then X i else 0) gen 4 (cf l) ∧ Below w.heap.size w w' := by
  have P : Arg w (some ⟨g, 0, none⟩) 39 39 (lst 39 X) := ⟨lst_len _ _, .inr ⟨g, 0, rfl, hg.lt, fun j hj => by
    rw [lst_len] at hj
    rw [lst_get 39 X j hj, Nat.zero_add]; exact hg.arr j hj⟩, lst_byt _ _, Nat.le_refl _, fun e => by cases e⟩
  have Q : Arg w (some ⟨c, 1, none⟩) 5 5 (lst 5 gen) := ⟨lst_len _ _, .inr ⟨c, 1, rfl, hc.lt, fun j hj => by
    rw [lst_len] at hj
    rw [lst_get 5 gen j hj]; exact hc.g j hj⟩, lst_byt _ _, Nat.le_refl _, fun e => by cases e⟩
  have ht : tl (lst 5 gen) = 4 + 1 := tl_of_cf _ (lst_byt _ _) 5 (fun _ => by
    rw [lst_cf 5 gen 4 (by omega), gen_top]; decide) (fun i hi => by rw [lst_low 5 gen gen_low]; exact gen_low i hi)
  refine (mod_any b _ 39 39 (lst 39 X) _ 5 5 (lst 5 gen) 4 w hc.fld P Q (by omega) (by omega) ht).mono ?_
  rintro e w' ⟨a, n, cp, l, rfl, A, _, hn, hL, hB⟩
  refine ⟨a, n, cp, l, rfl, A, hn, left_congr hL (fun i => ?_) (lst_low 5 gen gen_low) (fun _ => rfl), hB⟩
  by_cases hi : i < 39
  · rw [if_pos hi, lst_cf 39 X i hi]
  · rw [if_neg hi]
    exact Po.cf_low _ i (by rw [lst_len]; omega)

set_option maxRecDepth 100000 in
set_option maxHeartbeats 2000000 in
theorem checks_any (c b : Nat) (D G : Nat → El) (w : World) (hc : CdAt w c b) :
    Calls Tryd.prog 36 #[.pointer (some ⟨c, 0, none⟩), .agg (arr 32 D).toArray, .agg (arr 3 G).toArray] w fun e w' => ∃ K, e = .returned (.agg (arr 4 K).toArray) ∧ IsCode (wd (ck K D) G) ∧ Below w.heap.size w w' := by
  have hz4 := zero4
  have hz36 := zero36
  have hz39 := zero39
  have cJ : Hid (∀ w, Calls Tryd.prog 66 #[.agg (arr 36 (ck (fun _ => 0) D)).toArray, .agg (arr 3 G).toArray] w fun e w' => e = .returned (.agg (arr 39 (wd (ck (fun _ => 0) D) G)).toArray) ∧ Below w.heap.size w w') := fun w => join_any _ G w
  obtain ⟨X, HX⟩ : ∃ X, Hid (wd (ck (fun _ => 0) D) G = X) := ⟨_, rfl⟩
  rw [HX.out] at cJ
  obtain ⟨A0, hA0⟩ : ∃ A, arr 32 D = A := ⟨_, rfl⟩
  obtain ⟨A1, hA1⟩ : ∃ A, arr 3 G = A := ⟨_, rfl⟩
  obtain ⟨A2, hA2⟩ : ∃ A, (arr 4 fun _ => 0) = A := ⟨_, rfl⟩
  obtain ⟨A3, hA3⟩ : ∃ A, (arr 39 fun _ => 0) = A := ⟨_, rfl⟩
  obtain ⟨A4, hA4⟩ : ∃ A, arr 39 X = A := ⟨_, rfl⟩
  obtain ⟨A5, hA5⟩ : ∃ A, (arr 36 fun _ => 0) = A := ⟨_, rfl⟩
  obtain ⟨A6, hA6⟩ : ∃ A, arr 36 (ck (fun _ => 0) D) = A := ⟨_, rfl⟩
  have i36 : (Tryd.prog.info? 93).map (·.size) = some A6.length := by rw [← hA6, arr_len]; kernel_rfl
  have i3 : (Tryd.prog.info? 37).map (·.size) = some A1.length := by rw [← hA1, arr_len]; kernel_rfl
  have i39 : (Tryd.prog.info? 123).map (·.size) = some A4.length := by rw [← hA4, arr_len]; kernel_rfl
  have o39 : A4.toArray.all (·.oneCell') = true := by rw [← hA4]; exact arr_one 39 X
  rw [hA2] at hz4
  rw [hA3] at hz39
  rw [hA5] at hz36
  rw [hA0, hA1]
  rw [hA1, hA4, hA6] at cJ
  have hcl : c < w.heap.size := hc.lt
  have hbl : b < w.heap.size := hc.fld.lt
  go_enter Tryd.func36, Tryd.ntmps36
  go_upto_region 2 with (fail)
  obtain ⟨B, hB⟩ : ∃ B, w.heap.size = B := ⟨_, rfl⟩
  obtain ⟨V0, hV0⟩ : ∃ V, (((w.alloc (.cells A0.toArray 72)).alloc (.cells A1.toArray 37)).alloc (.cells A2.toArray 73)).alloc (.cells A5.toArray 93) = V := ⟨_, rfl⟩
  have H0 : Hid (Blk V0 B 32 D ∧ Blk V0 (B + 1) 3 G ∧ Blk V0 (B + 1 + 1) 4 (fun _ => 0) ∧ Blk V0 (B + 1 + 1 + 1) 36 (fun _ => 0) ∧ Below B w V0 ∧ CdAt V0 c b) := by
    have hb : Below B w V0 := by rw [← hV0, ← hB]; exact ((((Below.refl _ w).alloc (Nat.le_refl _) _).alloc (by simp) _).alloc (by simp; omega) _).alloc (by simp; omega) _
    have h0 := Blk.new w 32 D 72
    have h1 := Blk.new (w.alloc (.cells A0.toArray 72)) 3 G 37
    have h2 := Blk.new ((w.alloc (.cells A0.toArray 72)).alloc (.cells A1.toArray 37)) 4 (fun _ => 0) 73
    have h3 := Blk.new (((w.alloc (.cells A0.toArray 72)).alloc (.cells A1.toArray 37)).alloc (.cells A2.toArray 73)) 36 (fun _ => 0) 93
    simp only [World.size_alloc] at h1 h2 h3
    rw [hA0] at h0
    rw [hA1] at h1
    rw [hA2] at h2
    rw [hA5] at h3
    rw [← hB]
    refine ⟨?_, ?_, ?_, ?_, by rw [hB]; exact hb, hc.next (by rw [hB]; exact hb)⟩ <;> rw [← hV0]
    · exact ((h0.alloc _).alloc _).alloc _
    · exact (h1.alloc _).alloc _
    · exact h2.alloc _
    · exact h3
  have sV0 : Hid (V0.heap.size = B + 1 + 1 + 1 + 1) := by show _ = _; rw [← hV0, ← hB]; simp
  rw [hV0, hB]
  rw [hB] at hcl hbl
  clear hV0 hc
  go_region_held3 (fun _ => True) (trivial)
    (first | (refine step_cpy rfl _ _ rfl (B + 1 + 1 + 1) 4 32 32 B 0 32 32 36 32 (fun _ => 0) D rfl rfl H0.out.2.2.2.1.drew rfl (fun j hj => by rw [Nat.zero_add]; exact H0.out.1.arr j hj) (by omega) ?_; intro V1 g1 k1))
  have H1 : Hid (Blk V1 (B + 1) 3 G ∧ Blk V1 (B + 1 + 1) 4 (fun _ => 0) ∧ Blk V1 (B + 1 + 1 + 1) 36 (ck (fun _ => 0) D) ∧ Below B w V1 ∧ CdAt V1 c b) := by
    obtain ⟨_, h1, h2, _, h3, h4⟩ := H0.out
    refine ⟨h1.of (k1.out.block _ (by omega)), h2.of (k1.out.block _ (by omega)), g1.out.congr fun i hi => ?_, k1.out.below _ _ (below_drewN h3 1) (by omega), h4.of (k1.out.block c (by omega)) (k1.out.block b (by omega))⟩
    unfold cpy ck
    by_cases h : i < 4
    · rw [if_neg (by omega), if_pos h]
    · rw [if_pos (by omega), if_neg h]
  have r0 : V1.rangeAt (B + 1 + 1 + 1) 0 A6 := by rw [← hA6]; exact H1.out.2.2.1.range
  have r1 : V1.rangeAt (B + 1) 0 A1 := by rw [← hA1]; exact H1.out.1.range
  have sV1 : B + 1 + 1 + 1 < V1.heap.size := H1.out.2.2.1.lt
  have n39 : Hid (∀ W : World, (W.alloc (.cells A3.toArray 123)).there W.heap.size 0 A4.toArray.size) := fun W => by
    have h := Blk.new W 39 (fun _ => 0) 123
    rw [hA3] at h
    rw [← hA4]; exact h.there
  clear H0 g1 k1 sV0
  go_upto_region 4 with (first | refine wpList_load_mid rfl 93 _ rfl _ 0 rfl A6 _ r0 Tryd.underlying93 rfl i36 ?_ | refine wpList_load_mid rfl 37 _ rfl _ 0 rfl A1 _ r1 Tryd.underlying37 rfl i3 ?_ | (go_at_call 66; refine (cJ.out _).mono ?_; rintro e V2 ⟨rfl, hB2⟩) | refine wpList_store_mid rfl 123 _ _ rfl _ 0 A4.toArray rfl rfl (n39.out _) i39 o39 ?_)
  obtain ⟨J, hJ⟩ : ∃ J, V2.heap.size = J := ⟨_, rfl⟩
  obtain ⟨V3, hV3⟩ : ∃ V, (V2.alloc (.cells A3.toArray 123)).setCells V2.heap.size 0 A4 = V := ⟨_, rfl⟩
  have sJ : B + 1 + 1 + 1 < J := by have := hB2.size; omega
  have H3 : Hid (Blk V3 (B + 1 + 1) 4 (fun _ => 0) ∧ Blk V3 J 39 X ∧ Below B w V3 ∧ CdAt V3 c b) := by
    have b3 : Below V1.heap.size V1 V3 := by rw [← hV3]; exact below_puts (hB2.alloc hB2.size _) hB2.size 0 A4
    obtain ⟨_, h1, _, h2, h3⟩ := H1.out
    refine ⟨h1.next b3, ?_, h2.trans (b3.mono (by omega)), h3.next b3⟩
    have h := Blk.new V2 39 (fun _ => 0) 123
    rw [hA3] at h
    have h2 := h.put X
    rw [hA4, hV3, hJ] at h2; exact h2
  rw [hV3, hJ]
  clear hV3 hJ hB2 H1 r0 r1 sV1 n39 cJ i36 i3 i39 o39
  have q0 := H3.out.2.2.2.f
  have hcV : c < V3.heap.size := H3.out.2.2.2.lt
  go_region_held3 (fun w' => w'.cell? ⟨c, 0, none⟩ = some (.pointer (some ⟨b, 0, none⟩))) (go_keep)
    (first | (go_at_call 67; refine (modG_any b c J X _ (by exact H3.out.2.2.2.drewN 1) (by exact H3.out.2.1.drewN 1)).mono ?_; rintro e V4 ⟨a4, n4, cp4, l4, rfl, hA, hn4, hLf, hB4⟩; have hcQ := (hB4.cell (p := ⟨c, 0, none⟩) hcV).trans q0))
  obtain ⟨R, HR⟩ : ∃ R, Hid (cf l4 = R) := ⟨_, rfl⟩
  have hcode : Hid (IsCode (wd (ck R D) G)) := by
    rw [HR.out] at hLf
    exact left_code D G _ (fun i => by rw [HX.out]) R hLf
  have b4 : Below B w V4 := H3.out.2.2.1.trans (((below_drewN (Below.refl B V3) 1).trans (hB4.mono (by exact Nat.le_of_lt (Nat.lt_trans (show B < J by omega) H3.out.2.1.lt)))))
  have r4 : Blk V4 (B + 1 + 1) 4 (fun _ => 0) := (H3.out.1.drewN 1).next hB4
  obtain ⟨T, hT⟩ : ∃ T, V4.heap.size = T := ⟨_, rfl⟩
  have sT : B + 1 + 1 < T := by rw [← hT]; exact r4.lt
  obtain ⟨V5, hV5⟩ : ∃ V, V4.alloc (.cells A2.toArray 73) = V := ⟨_, rfl⟩
  have g5 : V5.heap[T]? = some (.cells A2.toArray 73 (0, 0)) := by rw [← hV5, ← hT]; exact World.alloc_heap_new V4 _
  have b5 : Hid (Below B w V5) := by rw [← hV5]; exact b4.alloc (by omega) _
  have r5 : Hid (Blk V5 (B + 1 + 1) 4 (fun _ => 0)) := by rw [← hV5]; exact r4.alloc _
  obtain ⟨cs, hcs⟩ : ∃ cs, arr n4 R = cs := ⟨_, rfl⟩
  have lcs : cs.length = n4 := by rw [← hcs, arr_len]
  have ocs : Hid (∀ v ∈ cs, v.oneCell' = true) := by rw [← hcs]; exact arr_one' n4 R
  have src : Hid (0 < cs.length → (some ⟨T, 0, none⟩ : Option Addr) = some ⟨T, 0, none⟩ ∧ ∃ ad, a4 = some ad ∧ ∀ j v, cs[j]? = some v → V5.cell? (ad.add j) = some v) := fun h0 => by
    refine ⟨rfl, ?_⟩
    rcases hA.sl with h | ⟨g, off, rfl, hg, hcell⟩
    · have := hA.len; rw [h] at this; simp at this; omega
    · refine ⟨_, rfl, ?_⟩
      rw [← hcs]
      refine arr_src' fun j hj => ?_
      rw [← hV5]
      refine (World.cell?_of_block (w := V4) (a := ⟨g, off + j, none⟩) (Below.heap_alloc V4 _ g hg)).trans ?_
      rw [hcell j (by rw [hA.len]; exact hj), ← ofE_cf l4 hA.byt j, HR.out]; rfl
  have hsp : Hid (splice A2 0 cs = arr 4 R) := by
    show _ = _
    rw [← hA2, ← hcs, splice_arr 4 (fun _ => 0) 0 n4 R (by omega)]
    refine arr_congr 4 _ _ fun i hi => ?_
    unfold cpy
    by_cases h : i < n4
    · rw [if_pos (by omega), Nat.sub_zero]
    · rw [if_neg (by omega), ← HR.out]
      exact (Po.cf_low l4 i (by rw [hA.len]; omega)).symm
  have lA2 : A2.length = 4 := by rw [← hA2, arr_len]
  have hmin : cs.length = Nat.min n4 4 := by rw [lcs]; exact (Nat.min_eq_left hn4).symm
  clear hA hLf hB4 hcQ b4 r4 hcs H3 q0 hcV HX
  go_upto_region 6 with (fail)
  try rw [hV5]
  try rw [hT]
  go_upto_region 7 with (refine wpList_copy_splice rfl _ _ 52 52 rfl 5 Tryd.underlying52 size_byte (some ⟨T, 0, none⟩) a4 4 4 n4 cp4 rfl rfl T 0 A2 73 g5 cs hmin src.out (by omega) ocs.out T V5 (Below.refl _ _) (Nat.le_refl _) ?_; intro V6 g6 b6)
  have gT : Blk V6 T 4 R := ⟨_, by have h := g6.out; rw [hsp.out] at h; exact h⟩
  have rB : Blk V6 (B + 1 + 1) 4 (fun _ => 0) := r5.out.below b6 sT
  have HB6 : Hid (Below B w V6) := b5.out.trans (b6.mono (by omega))
  have hr := gT.range
  have ht : V6.there (B + 1 + 1) 0 (arr 4 R).toArray.size := rB.there
  have hi4 : (Tryd.prog.info? 73).map (·.size) = some (arr 4 R).length := by rw [arr_len]; exact info4
  have hone := arr_one 4 R
  obtain ⟨L, hL⟩ : ∃ L, arr 4 R = L := ⟨_, rfl⟩
  rw [hL] at hr ht hi4 hone
  have HL : Hid (arr 4 R = L) := hL
  clear g6 b6 gT rB hL g5 b5 r5 src ocs hsp
  go_wp2_with (first | refine wpList_load_mid rfl 73 _ rfl T 0 rfl L _ hr Tryd.underlying73 rfl hi4 ?_ | refine wpList_store_mid rfl 73 _ _ rfl (B + 1 + 1) 0 L.toArray rfl rfl ht hi4 hone ?_)
  have hs : (V6.setCells (B + 1 + 1) 0 L).rangeAt (B + 1 + 1) 0 L := World.rangeAt_setCells_same V6 _ 0 L (by simpa using ht)
  have hld := run_loadVar_mid (P := Tryd.prog) (V6.setCells (B + 1 + 1) 0 L) (B + 1 + 1) 0 73 L _ hs Tryd.underlying73 rfl hi4
  refine bodyPost_ret (v := .agg L.toArray) ?_ rfl ⟨R, by rw [HL.out], hcode.out, by first | exact below_put5 (by omega) L 0 HB6.out | (rw [hB]; exact below_put5 (by omega) L 0 HB6.out)⟩
  simp [results, Tryd.f36, Act.put, asAddr, hld]
end Go.Proofs.YtdjknaafefnlcaaDoor
