/-
  The document's Went, with the block of the faults to come.
-/
import Derived.Test.YtcpjmfemgdgplaaM17
namespace Go.Proofs.Ytcpjmfemgdgplaa
open Go.RowKit Go.Shelf
open Ge (pw rt hd ix)
attribute [local go_sem] Oper.semAt_some

/-- an address in the block of another -/
def SameB (a a' : Option Addr) : Prop := ∀ g o, a' = some ⟨g, o, none⟩ → ∃ o', a = some ⟨g, o', none⟩
set_option maxRecDepth 100000 in
set_option maxHeartbeats 4000000 in
theorem went12_more (r s b o d m : Int) (a : Option Addr) (n cap : Nat) (Z : Nat → Nat → Int) (va vb : Value) (hva : va.oneCell' = true) (hvb : vb.oneCell' = true) (idx : Int) (hb : Z 0 0 ≠ 7 → (0 ≤ Z 0 1 ∧ Z 0 1 < 8) ∧ (0 ≤ Z 0 2 ∧ Z 0 2 < 16) ∧ (0 ≤ Z 0 3 ∧ Z 0 3 < 1024) ∧ (0 ≤ Z 0 4 ∧ Z 0 4 < 64)) (w : World) (hs : Fs w a (n + 1) cap Z) :
    Calls Try.prog 38 #[.agg #[.int .i64 r, .int .i64 s, .int .i64 b, .int .i64 o, .int .i64 d, .int .i64 m, va, vb, .slice a (n + 1) cap], .int .i64 idx] w fun e w' => ∃ a' c', e = .returned (.tuple #[.agg #[.int .i64 r, .int .i64 s, .int .i64 b, .int .i64 o, .int .i64 d, .int .i64 m, va, vb, .slice a' n c'], .int .i64 (if Z 0 0 = 7 then idx else ix (Z 0 1) (Z 0 2) (Z 0 3) (Z 0 4)), .bool (decide (Z 0 0 = 7))]) ∧ Fs w' a' n c' (tlZ Z) ∧ Below w.heap.size w w' ∧ SameB a a' := by
  obtain ⟨pb, po, rfl, hpb, hz⟩ := hs.at_ (by omega)
  have hcap := hs.le
  have hcm := hs.cm
  unfold maxLen at hcm
  have HV : Hid (va.oneCell' = true ∧ vb.oneCell' = true ∧ Fs w (some ⟨pb, po, none⟩) (n + 1) cap Z) := ⟨hva, hvb, hs⟩
  have HQ : Hid (∀ W, Below w.heap.size w W → W.rangeAt pb po [.int .i64 (Z 0 0), .int .i64 (Z 0 1), .int .i64 (Z 0 2), .int .i64 (Z 0 3), .int .i64 (Z 0 4), .int .i64 (Z 0 5), .int .i64 (Z 0 6), .int .i64 (Z 0 7)]) := fun W hW => by
    have := fs_range (W := W) (b := pb) (o := po) (Z := Z) (len := n + 1) (fun i hi j hj => (hW.cell (p := ⟨pb, po + (i * 8 + j), none⟩) hpb).trans (hz i hi j hj)) 0 (by omega)
    simpa using this
  have HI : Hid (Z 0 0 ≠ 7 → ∀ w : World, Calls Try.prog 67 #[.agg #[.int .i64 (Z 0 1), .int .i64 (Z 0 2), .int .i64 (Z 0 3), .int .i64 (Z 0 4)]] w fun e w' => e = .returned (.int .i64 (ix (Z 0 1) (Z 0 2) (Z 0 3) (Z 0 4))) ∧ Below w.heap.size w w') := fun h w => refIndex_any _ _ _ _ (hb h).1 (hb h).2.1 (hb h).2.2.1 (hb h).2.2.2 w
  clear hva hvb hs hz hb
  obtain ⟨z0, hz0⟩ : ∃ y, Z 0 0 = y := ⟨_, rfl⟩
  obtain ⟨z1, hz1⟩ : ∃ y, Z 0 1 = y := ⟨_, rfl⟩
  obtain ⟨z2, hz2⟩ : ∃ y, Z 0 2 = y := ⟨_, rfl⟩
  obtain ⟨z3, hz3⟩ : ∃ y, Z 0 3 = y := ⟨_, rfl⟩
  obtain ⟨z4, hz4⟩ : ∃ y, Z 0 4 = y := ⟨_, rfl⟩
  obtain ⟨z5, hz5⟩ : ∃ y, Z 0 5 = y := ⟨_, rfl⟩
  obtain ⟨z6, hz6⟩ : ∃ y, Z 0 6 = y := ⟨_, rfl⟩
  obtain ⟨z7, hz7⟩ : ∃ y, Z 0 7 = y := ⟨_, rfl⟩
  rw [hz0, hz1, hz2, hz3, hz4] at HI
  rw [hz0, hz1, hz2, hz3, hz4, hz5, hz6, hz7] at HQ
  rw [hz0, hz1, hz2, hz3, hz4]
  clear hz0 hz1 hz2 hz3 hz4 hz5 hz6 hz7
  obtain ⟨vc, hvc⟩ : ∃ vc, Value.slice (some ⟨pb, po, none⟩) (n + 1) cap = vc := ⟨_, rfl⟩
  rw [hvc]
  go_enter Try.func38, Try.ntmps38
  go_upto_region 1 with (fail)
  obtain ⟨B, hB⟩ : ∃ B, w.heap.size = B := ⟨_, rfl⟩
  obtain ⟨R, hR⟩ : ∃ R, B + 1 = R := ⟨_, rfl⟩
  obtain ⟨Q, hQ⟩ : ∃ Q, R + 1 = Q := ⟨_, rfl⟩
  obtain ⟨V, hV⟩ : ∃ V, (w.alloc (.cells #[.int .i64 r, .int .i64 s, .int .i64 b, .int .i64 o, .int .i64 d, .int .i64 m, va, vb, vc] 34)).alloc (.cells #[.int .i64 0, .int .i64 0, .int .i64 0, .int .i64 0, .int .i64 0, .int .i64 0, .slice none 0 0, .slice none 0 0, .slice none 0 0] 34) = V := ⟨_, rfl⟩
  have HS : Hid (Wt12 B R r s b o d m va vb vc w V) := by
    have a2 := Cb.new (w.alloc (.cells #[.int .i64 r, .int .i64 s, .int .i64 b, .int .i64 o, .int .i64 d, .int .i64 m, va, vb, vc] 34)) (dl 0 0 0 0 0 0 (.slice none 0 0) (.slice none 0 0) (.slice none 0 0)) 34
    simp only [World.size_alloc] at a2
    rw [← hV, ← hR, ← hB]
    exact ⟨(Cb.new w (dl r s b o d m va vb vc) _).alloc _, a2, ((Below.refl _ w).alloc (Nat.le_refl _) _).alloc (by simp) _⟩
  have hsz : V.heap.size = Q := by rw [← hV, ← hQ, ← hR, ← hB]; simp
  rw [hV, hB, hR]
  rw [hB] at hpb HQ
  clear hV
  have hc := HS.out.c.cell (i := 8) (v := vc) rfl
  rw [← hvc] at hc
  have HVC : Hid (Value.slice (some ⟨pb, po, none⟩) (n + 1) cap = vc) := hvc
  clear hvc
  have hr := HQ.out V HS.out.n
  go_upto_region 3 with (fail)
  go_upto_region 4 with (first
    | refine wpList_load_mid rfl 51 _ rfl pb po rfl [.int .i64 z0, .int .i64 z1, .int .i64 z2, .int .i64 z3, .int .i64 z4, .int .i64 z5, .int .i64 z6, .int .i64 z7] _ hr Try.underlying51 rfl infoF12t ?_)
  obtain ⟨W1, hW1⟩ : ∃ W1, V.alloc (.cells #[.int .i64 z0, .int .i64 z1, .int .i64 z2, .int .i64 z3, .int .i64 z4, .int .i64 z5, .int .i64 z6, .int .i64 z7] 51) = W1 := ⟨_, rfl⟩
  have HN : Hid (Ft W1 Q z0 z1 z2 z3 z4 z5 z6 z7) := by rw [← hW1, ← hsz]; exact Ft.new V _ _ _ _ _ _ _ _ _
  replace HS : Hid (Wt12 B R r s b o d m va vb vc w W1) := by rw [← hW1]; exact HS.out.next ((Below.refl _ V).alloc (Nat.le_refl _) _)
  rw [hW1]
  clear hr hW1 hc hsz HQ
  have hc := HS.out.c.cell (i := 8) (v := vc) rfl
  have hf := HS.out.c.free 8
  rw [← HVC.out] at hc
  go_upto_region 5 with (fail)
  obtain ⟨a', ha'⟩ : ∃ a' : Option Addr, (if cap = 1 then some ⟨pb, po, none⟩ else some ⟨pb, po + 8, none⟩) = a' := ⟨_, rfl⟩
  have HLO : Hid (SameB (some ⟨pb, po, none⟩) a') := fun g o e => by
    rw [← ha'] at e
    split at e <;> (cases e; exact ⟨_, rfl⟩)
  have HF : Hid (Fs w a' n (cap - 1) (tlZ Z)) := by
    have h0 := HV.out.2.2
    refine ⟨by omega, by unfold maxLen; omega, fun hn => ?_, fun i hi j hj => h0.wf (i + 1) (by omega) j hj, fun e => ?_⟩
    · obtain ⟨b', o', e, hb', hz'⟩ := h0.at_ (by omega)
      cases e
      rw [if_neg (by omega)] at ha'
      refine ⟨pb, po + 8, ha'.symm, hb', fun i hi j hj => ?_⟩
      have := hz' (i + 1) (by omega) j hj
      rwa [show po + ((i + 1) * 8 + j) = po + 8 + (i * 8 + j) by omega] at this
    · split at ha' <;> (rw [e] at ha'; cases ha')
  rw [ha']
  obtain ⟨sv, hsv⟩ : ∃ sv, Value.slice a' n (cap - 1) = sv := ⟨_, rfl⟩
  have HSV : Hid (Value.slice a' n (cap - 1) = sv ∧ sv.oneCell' = true) := ⟨hsv, by rw [← hsv]; rfl⟩
  rw [hsv]
  clear ha' hsv
  obtain ⟨W2, hW2⟩ : ∃ W2, W1.setCell ⟨B, 8, none⟩ sv = W2 := ⟨_, rfl⟩
  replace HS : Hid (Wt12 B R r s b o d m va vb sv w W2) := by
    rw [← hW2]
    exact ⟨HS.out.c.set 8 sv, HS.out.e.other (by omega) 8 sv, below_set12 (Nat.le_refl _) HS.out.n⟩
  replace HN : Hid (Ft W2 Q z0 z1 z2 z3 z4 z5 z6 z7) := by
    rw [← hW2]
    exact Bk.of HN.out (Below.heap_setCell W1 ⟨B, 8, none⟩ sv Q (by show Q ≠ B; omega))
  rw [hW2]
  clear hW2 hc hf
  have h0 := HN.out.c0
  by_cases h7 : z0 = 7
  · go_upto_region 6 with (fail)
    clear h0
    have hr1 := HS.out.c.range
    obtain ⟨A9, hA9⟩ : ∃ A, dl r s b o d m va vb sv = A := ⟨_, rfl⟩
    have i9 : (Try.prog.info? 34).map (·.size) = some A9.length := by rw [← hA9]; exact infoD12
    have j9 : (Try.prog.info? 34).map (·.size) = some A9.toArray.size := by rw [← hA9]; exact infoD12
    have ht2 : W2.there R 0 A9.toArray.size := by rw [← hA9]; exact HS.out.e.thereAt 0 9 (by simp [dl])
    have one1 : A9.toArray.all (·.oneCell') = true := by rw [← hA9]; exact dl_one r s b o d m va vb _ HV.out.1 HV.out.2.1 HSV.out.2
    rw [hA9] at hr1
    go_wp2_with (first
      | refine wpList_load_mid rfl 34 _ rfl B 0 rfl A9 _ hr1 Try.underlying34 rfl i9 ?_
      | refine wpList_store_mid rfl 34 _ _ rfl R 0 A9.toArray rfl rfl ht2 j9 one1 ?_)
    have hs2 : (World.setCells W2 R 0 A9).rangeAt R 0 A9 := World.rangeAt_setCells_same W2 _ 0 A9 (by simpa using ht2)
    have hld := run_loadVar_mid (P := Try.prog) (World.setCells W2 R 0 A9) R 0 34 A9 _ hs2 Try.underlying34 rfl i9
    refine bodyPost_ret (v := .tuple #[.agg A9.toArray, .int .i64 idx, .bool true]) ?_ rfl ⟨a', cap - 1, by rw [← hA9, HSV.out.1]; rfl, HF.out.below (by first | exact belows_put (by omega) _ 0 HS.out.n | (rw [hB]; exact belows_put (by omega) _ 0 HS.out.n)), by first | exact belows_put (by omega) _ 0 HS.out.n | (rw [hB]; exact belows_put (by omega) _ 0 HS.out.n), HLO.out⟩
    simp [results, Try.f38, asAddr, hld]
  · have CI : Hid (∀ w : World, Calls Try.prog 67 #[.agg #[.int .i64 z1, .int .i64 z2, .int .i64 z3, .int .i64 z4]] w fun e w' => e = .returned (.int .i64 (ix z1 z2 z3 z4)) ∧ Below w.heap.size w w') := HI.out h7
    go_upto_region 7 with (fail)
    clear h0
    obtain ⟨A9, hA9⟩ : ∃ A, dl r s b o d m va vb sv = A := ⟨_, rfl⟩
    have i9 : (Try.prog.info? 34).map (·.size) = some A9.length := by rw [← hA9]; exact infoD12
    have j9 : (Try.prog.info? 34).map (·.size) = some A9.toArray.size := by rw [← hA9]; exact infoD12
    have one1 : A9.toArray.all (·.oneCell') = true := by rw [← hA9]; exact dl_one r s b o d m va vb _ HV.out.1 HV.out.2.1 HSV.out.2
    have HC : Hid (∀ W, Below W2.heap.size W2 W → W.rangeAt B 0 A9 ∧ W.there R 0 A9.toArray.size ∧ W.rangeAt Q 1 [.int .i64 z1, .int .i64 z2, .int .i64 z3, .int .i64 z4] ∧ Below B w W) := fun W hW => by
      have h := HS.out.next hW
      rw [← hA9]
      exact ⟨h.c.range, h.e.thereAt 0 9 (by simp [dl]), (HN.out.next hW).place, h.n⟩
    have HA9 : Hid (dl r s b o d m va vb sv = A9) := hA9
    clear hA9
    have hr1 := (HC.out W2.drew (below_drew1 W2)).1
    have hr2 := (HC.out W2.drew (below_drew1 W2)).2.2.1
    refine region_ends (by kernel_rfl) (fun W => W.rangeAt B 0 A9 ∧ W.rangeAt Q 1 [.int .i64 z1, .int .i64 z2, .int .i64 z3, .int .i64 z4]) (fun a2 W' => a2 = ({ tmps := #[.agg #[.int .i64 r, .int .i64 s, .int .i64 b, .int .i64 o, .int .i64 d, .int .i64 m, va, vb, vc], .int .i64 idx, .pointer (some ⟨B, 0, none⟩), undef, .pointer (some ⟨R, 0, none⟩), .int .i64 (ix z1 z2 z3 z4), .bool false, .pointer (some ⟨Q, 0, none⟩), .pointer (some ⟨B, 8, none⟩), .slice (some ⟨pb, po, none⟩) (n + 1) cap, .int .i64 ((n : Int) + 1), .bool false, undef, undef, .pointer (some ⟨B, 8, none⟩), .slice (some ⟨pb, po, none⟩) (n + 1) cap, .pointer (some ⟨pb, po, none⟩), .agg #[.int .i64 z0, .int .i64 z1, .int .i64 z2, .int .i64 z3, .int .i64 z4, .int .i64 z5, .int .i64 z6, .int .i64 z7], .pointer (some ⟨B, 8, none⟩), .slice (some ⟨pb, po, none⟩) (n + 1) cap, sv, .pointer (some ⟨B, 8, none⟩), .pointer (some ⟨Q, 0, none⟩), .int .i64 z0, .bool (z0 == 7), undef, undef, .agg A9.toArray, .pointer (some ⟨Q, 1, none⟩), .agg #[.int .i64 z1, .int .i64 z2, .int .i64 z3, .int .i64 z4], .int .i64 (ix z1 z2 z3 z4)], defers := [] } : Act) ∧ ∃ W3, Below W2.heap.size W2 W3 ∧ W' = W3.setCells R 0 A9) ⟨hr1, hr2⟩ (fun hH => ?reg) (fun a2 V3 hr => ?aft)
    case reg =>
      refine take_if 0 (v := .agg A9.toArray) rfl (by kernel_rfl) (yieldsIf_load_mid (by rfl) _ _ rfl B 0 rfl A9 _ (fun w' hw => hw.1) Try.underlying34 rfl i9) hH ?_
      show wpAnyH _ _ _ _ _ _ _ ({ tmps := #[.agg #[.int .i64 r, .int .i64 s, .int .i64 b, .int .i64 o, .int .i64 d, .int .i64 m, va, vb, vc], .int .i64 idx, .pointer (some ⟨B, 0, none⟩), undef, .pointer (some ⟨R, 0, none⟩), .int .i64 0, .bool false, .pointer (some ⟨Q, 0, none⟩), .pointer (some ⟨B, 8, none⟩), .slice (some ⟨pb, po, none⟩) (n + 1) cap, .int .i64 ((n : Int) + 1), .bool false, undef, undef, .pointer (some ⟨B, 8, none⟩), .slice (some ⟨pb, po, none⟩) (n + 1) cap, .pointer (some ⟨pb, po, none⟩), .agg #[.int .i64 z0, .int .i64 z1, .int .i64 z2, .int .i64 z3, .int .i64 z4, .int .i64 z5, .int .i64 z6, .int .i64 z7], .pointer (some ⟨B, 8, none⟩), .slice (some ⟨pb, po, none⟩) (n + 1) cap, sv, .pointer (some ⟨B, 8, none⟩), .pointer (some ⟨Q, 0, none⟩), .int .i64 z0, .bool (z0 == 7), undef, undef, .agg A9.toArray, undef, undef, undef], defers := [] } : Act) _
      refine take_pure 1 (v := .pointer (some ⟨Q, 1, none⟩)) rfl (by kernel_rfl) rfl (fun w' hw => by simp [execOp, go_sem, Act.eval]) hH ?_
      show wpAnyH _ _ _ _ _ _ _ ({ tmps := #[.agg #[.int .i64 r, .int .i64 s, .int .i64 b, .int .i64 o, .int .i64 d, .int .i64 m, va, vb, vc], .int .i64 idx, .pointer (some ⟨B, 0, none⟩), undef, .pointer (some ⟨R, 0, none⟩), .int .i64 0, .bool false, .pointer (some ⟨Q, 0, none⟩), .pointer (some ⟨B, 8, none⟩), .slice (some ⟨pb, po, none⟩) (n + 1) cap, .int .i64 ((n : Int) + 1), .bool false, undef, undef, .pointer (some ⟨B, 8, none⟩), .slice (some ⟨pb, po, none⟩) (n + 1) cap, .pointer (some ⟨pb, po, none⟩), .agg #[.int .i64 z0, .int .i64 z1, .int .i64 z2, .int .i64 z3, .int .i64 z4, .int .i64 z5, .int .i64 z6, .int .i64 z7], .pointer (some ⟨B, 8, none⟩), .slice (some ⟨pb, po, none⟩) (n + 1) cap, sv, .pointer (some ⟨B, 8, none⟩), .pointer (some ⟨Q, 0, none⟩), .int .i64 z0, .bool (z0 == 7), undef, undef, .agg A9.toArray, .pointer (some ⟨Q, 1, none⟩), undef, undef], defers := [] } : Act) _
      refine take_if 2 (v := .agg #[.int .i64 z1, .int .i64 z2, .int .i64 z3, .int .i64 z4]) rfl (by kernel_rfl) (yieldsIf_load_mid (by rfl) _ _ rfl Q 1 rfl [.int .i64 z1, .int .i64 z2, .int .i64 z3, .int .i64 z4] _ (fun w' hw => hw.2) Try.underlying49 rfl infoP12) hH ?_
      show wpAnyH _ _ _ _ _ _ _ ({ tmps := #[.agg #[.int .i64 r, .int .i64 s, .int .i64 b, .int .i64 o, .int .i64 d, .int .i64 m, va, vb, vc], .int .i64 idx, .pointer (some ⟨B, 0, none⟩), undef, .pointer (some ⟨R, 0, none⟩), .int .i64 0, .bool false, .pointer (some ⟨Q, 0, none⟩), .pointer (some ⟨B, 8, none⟩), .slice (some ⟨pb, po, none⟩) (n + 1) cap, .int .i64 ((n : Int) + 1), .bool false, undef, undef, .pointer (some ⟨B, 8, none⟩), .slice (some ⟨pb, po, none⟩) (n + 1) cap, .pointer (some ⟨pb, po, none⟩), .agg #[.int .i64 z0, .int .i64 z1, .int .i64 z2, .int .i64 z3, .int .i64 z4, .int .i64 z5, .int .i64 z6, .int .i64 z7], .pointer (some ⟨B, 8, none⟩), .slice (some ⟨pb, po, none⟩) (n + 1) cap, sv, .pointer (some ⟨B, 8, none⟩), .pointer (some ⟨Q, 0, none⟩), .int .i64 z0, .bool (z0 == 7), undef, undef, .agg A9.toArray, .pointer (some ⟨Q, 1, none⟩), .agg #[.int .i64 z1, .int .i64 z2, .int .i64 z3, .int .i64 z4], undef], defers := [] } : Act) _
      refine take_one 3 rfl rfl (by kernel_rfl) ?_
      refine wp_contract 67 [.tmp 29] _ rfl (enters_of Try.func67 (by kernel_rfl) rfl) [.agg #[.int .i64 z1, .int .i64 z2, .int .i64 z3, .int .i64 z4]] rfl (CI.out _) ?_
      rintro e W3 ⟨rfl, b3⟩
      have HB3 : Below W2.heap.size W2 W3 := (below_drew1 W2).trans (b3.mono (below_drew1 W2).size)
      obtain ⟨g1, g2, g3, g4⟩ := HC.out W3 HB3
      refine ⟨_, rfl, ⟨g1, g3⟩, fun hH => ?_⟩
      show wpAnyH _ _ _ _ _ _ _ ({ tmps := #[.agg #[.int .i64 r, .int .i64 s, .int .i64 b, .int .i64 o, .int .i64 d, .int .i64 m, va, vb, vc], .int .i64 idx, .pointer (some ⟨B, 0, none⟩), undef, .pointer (some ⟨R, 0, none⟩), .int .i64 0, .bool false, .pointer (some ⟨Q, 0, none⟩), .pointer (some ⟨B, 8, none⟩), .slice (some ⟨pb, po, none⟩) (n + 1) cap, .int .i64 ((n : Int) + 1), .bool false, undef, undef, .pointer (some ⟨B, 8, none⟩), .slice (some ⟨pb, po, none⟩) (n + 1) cap, .pointer (some ⟨pb, po, none⟩), .agg #[.int .i64 z0, .int .i64 z1, .int .i64 z2, .int .i64 z3, .int .i64 z4, .int .i64 z5, .int .i64 z6, .int .i64 z7], .pointer (some ⟨B, 8, none⟩), .slice (some ⟨pb, po, none⟩) (n + 1) cap, sv, .pointer (some ⟨B, 8, none⟩), .pointer (some ⟨Q, 0, none⟩), .int .i64 z0, .bool (z0 == 7), undef, undef, .agg A9.toArray, .pointer (some ⟨Q, 1, none⟩), .agg #[.int .i64 z1, .int .i64 z2, .int .i64 z3, .int .i64 z4], .int .i64 (ix z1 z2 z3 z4)], defers := [] } : Act) _
      refine take_one 4 rfl rfl (by kernel_rfl) ?_
      refine wp_store_mid 34 _ _ rfl R 0 A9.toArray rfl rfl g2 j9 one1 ?_
      have hRB : ∀ (X : Nat) (o : Nat) (L : List Value), X ≠ R → W3.rangeAt X o L → (W3.setCells R 0 A9).rangeAt X o L := fun X o L hX h j v hv => by
        have e := heap_puts R A9 0 W3 X hX
        exact (World.cell?_of_block (w := W3) (a := ⟨X, o + j, none⟩) e).trans (h j v hv)
      refine ⟨⟨hRB B 0 A9 (by omega) g1, hRB Q 1 _ (by omega) g3⟩, fun hH => ?_⟩
      show wpAnyH _ _ _ _ _ _ _ ({ tmps := #[.agg #[.int .i64 r, .int .i64 s, .int .i64 b, .int .i64 o, .int .i64 d, .int .i64 m, va, vb, vc], .int .i64 idx, .pointer (some ⟨B, 0, none⟩), undef, .pointer (some ⟨R, 0, none⟩), .int .i64 0, .bool false, .pointer (some ⟨Q, 0, none⟩), .pointer (some ⟨B, 8, none⟩), .slice (some ⟨pb, po, none⟩) (n + 1) cap, .int .i64 ((n : Int) + 1), .bool false, undef, undef, .pointer (some ⟨B, 8, none⟩), .slice (some ⟨pb, po, none⟩) (n + 1) cap, .pointer (some ⟨pb, po, none⟩), .agg #[.int .i64 z0, .int .i64 z1, .int .i64 z2, .int .i64 z3, .int .i64 z4, .int .i64 z5, .int .i64 z6, .int .i64 z7], .pointer (some ⟨B, 8, none⟩), .slice (some ⟨pb, po, none⟩) (n + 1) cap, sv, .pointer (some ⟨B, 8, none⟩), .pointer (some ⟨Q, 0, none⟩), .int .i64 z0, .bool (z0 == 7), undef, undef, .agg A9.toArray, .pointer (some ⟨Q, 1, none⟩), .agg #[.int .i64 z1, .int .i64 z2, .int .i64 z3, .int .i64 z4], .int .i64 (ix z1 z2 z3 z4)], defers := [] } : Act) _
      refine take_pure 5 (v := .int .i64 (ix z1 z2 z3 z4)) rfl (by kernel_rfl) rfl (fun w' hw => by simp [execOp, go_sem, Act.eval]) hH ?_
      show wpAnyH _ _ _ _ _ _ _ ({ tmps := #[.agg #[.int .i64 r, .int .i64 s, .int .i64 b, .int .i64 o, .int .i64 d, .int .i64 m, va, vb, vc], .int .i64 idx, .pointer (some ⟨B, 0, none⟩), undef, .pointer (some ⟨R, 0, none⟩), .int .i64 (ix z1 z2 z3 z4), .bool false, .pointer (some ⟨Q, 0, none⟩), .pointer (some ⟨B, 8, none⟩), .slice (some ⟨pb, po, none⟩) (n + 1) cap, .int .i64 ((n : Int) + 1), .bool false, undef, undef, .pointer (some ⟨B, 8, none⟩), .slice (some ⟨pb, po, none⟩) (n + 1) cap, .pointer (some ⟨pb, po, none⟩), .agg #[.int .i64 z0, .int .i64 z1, .int .i64 z2, .int .i64 z3, .int .i64 z4, .int .i64 z5, .int .i64 z6, .int .i64 z7], .pointer (some ⟨B, 8, none⟩), .slice (some ⟨pb, po, none⟩) (n + 1) cap, sv, .pointer (some ⟨B, 8, none⟩), .pointer (some ⟨Q, 0, none⟩), .int .i64 z0, .bool (z0 == 7), undef, undef, .agg A9.toArray, .pointer (some ⟨Q, 1, none⟩), .agg #[.int .i64 z1, .int .i64 z2, .int .i64 z3, .int .i64 z4], .int .i64 (ix z1 z2 z3 z4)], defers := [] } : Act) _
      refine take_pure 6 (v := .bool false) rfl (by kernel_rfl) rfl (fun w' hw => by simp [execOp, go_sem, Act.eval]) hH ?_
      show wpAnyH _ _ _ _ _ _ _ ({ tmps := #[.agg #[.int .i64 r, .int .i64 s, .int .i64 b, .int .i64 o, .int .i64 d, .int .i64 m, va, vb, vc], .int .i64 idx, .pointer (some ⟨B, 0, none⟩), undef, .pointer (some ⟨R, 0, none⟩), .int .i64 (ix z1 z2 z3 z4), .bool false, .pointer (some ⟨Q, 0, none⟩), .pointer (some ⟨B, 8, none⟩), .slice (some ⟨pb, po, none⟩) (n + 1) cap, .int .i64 ((n : Int) + 1), .bool false, undef, undef, .pointer (some ⟨B, 8, none⟩), .slice (some ⟨pb, po, none⟩) (n + 1) cap, .pointer (some ⟨pb, po, none⟩), .agg #[.int .i64 z0, .int .i64 z1, .int .i64 z2, .int .i64 z3, .int .i64 z4, .int .i64 z5, .int .i64 z6, .int .i64 z7], .pointer (some ⟨B, 8, none⟩), .slice (some ⟨pb, po, none⟩) (n + 1) cap, sv, .pointer (some ⟨B, 8, none⟩), .pointer (some ⟨Q, 0, none⟩), .int .i64 z0, .bool (z0 == 7), undef, undef, .agg A9.toArray, .pointer (some ⟨Q, 1, none⟩), .agg #[.int .i64 z1, .int .i64 z2, .int .i64 z3, .int .i64 z4], .int .i64 (ix z1 z2 z3 z4)], defers := [] } : Act) _
      exact wpAnyH_done (by kernel_rfl) ⟨rfl, W3, HB3, rfl⟩ _
    case aft =>
      obtain ⟨rfl, W3, h3, rfl⟩ := hr
      obtain ⟨g1, g2, g3, g4⟩ := HC.out W3 h3
      have hs2 : (World.setCells W3 R 0 A9).rangeAt R 0 A9 := World.rangeAt_setCells_same W3 _ 0 A9 (by simpa using g2)
      have hld := run_loadVar_mid (P := Try.prog) (World.setCells W3 R 0 A9) R 0 34 A9 _ hs2 Try.underlying34 rfl i9
      go_wp2
      refine bodyPost_ret (v := .tuple #[.agg A9.toArray, .int .i64 (ix z1 z2 z3 z4), .bool false]) ?_ rfl ⟨a', cap - 1, by rw [← HA9.out, HSV.out.1]; rfl, HF.out.below (by first | exact belows_put (by omega) _ 0 g4 | (rw [hB]; exact belows_put (by omega) _ 0 g4)), by first | exact belows_put (by omega) _ 0 g4 | (rw [hB]; exact belows_put (by omega) _ 0 g4), HLO.out⟩
      simp [results, Try.f38, asAddr, hld]
end Go.Proofs.Ytcpjmfemgdgplaa
