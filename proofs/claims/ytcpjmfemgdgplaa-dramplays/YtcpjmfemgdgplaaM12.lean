/-
  Texts of one family, one behind another: DrR5, DrR6.
-/
import Derived.Test.YtcpjmfemgdgplaaM11

/-
  The document's chips: where an access goes.
-/
namespace Go.Proofs.Ytcpjmfemgdgplaa
open Go.RowKit Go.Shelf
open Ge (pw rt hd ix)
attribute [local go_sem] Oper.semAt_some

theorem infoF12t : (Try.prog.info? 51).map (·.size) = some 8 := by kernel_rfl
theorem infoP12 : (Try.prog.info? 49).map (·.size) = some 4 := by kernel_rfl
/-- at work in Went -/
structure Wt12 (B R : Nat) (r s b o d m : Int) (va vb vc : Value) (w W : World) : Prop where
  c : Cb W B (dl r s b o d m va vb vc)
  e : Cb W R (dl 0 0 0 0 0 0 (.slice none 0 0) (.slice none 0 0) (.slice none 0 0))
  n : Below B w W
theorem Wt12.next {B R : Nat} {r s b o d m : Int} {va vb vc : Value} {w W W' : World} (h : Wt12 B R r s b o d m va vb vc w W) (k : Below W.heap.size W W') : Wt12 B R r s b o d m va vb vc w W' := ⟨h.c.next k, h.e.next k, h.n.trans (k.mono (Nat.le_of_lt h.c.lt))⟩
/-- the faults behind the first -/
def tlZ (Z : Nat → Nat → Int) (i j : Nat) : Int := Z (i + 1) j
set_option maxRecDepth 100000 in
set_option maxHeartbeats 4000000 in
theorem went12_none (r s b o d m : Int) (cap : Nat) (va vb : Value) (a : Option Addr) (hva : va.oneCell' = true) (hvb : vb.oneCell' = true) (idx : Int) (w : World) :
    Calls Try.prog 38 #[.agg #[.int .i64 r, .int .i64 s, .int .i64 b, .int .i64 o, .int .i64 d, .int .i64 m, va, vb, .slice a 0 cap], .int .i64 idx] w fun e w' => e = .returned (.tuple #[.agg #[.int .i64 r, .int .i64 s, .int .i64 b, .int .i64 o, .int .i64 d, .int .i64 m, va, vb, .slice a 0 cap], .int .i64 idx, .bool false]) ∧ Below w.heap.size w w' := by
  have HV : Hid (va.oneCell' = true ∧ vb.oneCell' = true) := ⟨hva, hvb⟩
  clear hva hvb
  go_enter Try.func38, Try.ntmps38
  go_upto_region 1 with (fail)
  obtain ⟨B, hB⟩ : ∃ B, w.heap.size = B := ⟨_, rfl⟩
  obtain ⟨R, hR⟩ : ∃ R, B + 1 = R := ⟨_, rfl⟩
  obtain ⟨V, hV⟩ : ∃ V, (w.alloc (.cells #[.int .i64 r, .int .i64 s, .int .i64 b, .int .i64 o, .int .i64 d, .int .i64 m, va, vb, .slice a 0 cap] 34)).alloc (.cells #[.int .i64 0, .int .i64 0, .int .i64 0, .int .i64 0, .int .i64 0, .int .i64 0, .slice none 0 0, .slice none 0 0, .slice none 0 0] 34) = V := ⟨_, rfl⟩
  have HS : Hid (Wt12 B R r s b o d m va vb (.slice a 0 cap) w V) := by
    have a2 := Cb.new (w.alloc (.cells #[.int .i64 r, .int .i64 s, .int .i64 b, .int .i64 o, .int .i64 d, .int .i64 m, va, vb, .slice a 0 cap] 34)) (dl 0 0 0 0 0 0 (.slice none 0 0) (.slice none 0 0) (.slice none 0 0)) 34
    simp only [World.size_alloc] at a2
    rw [← hV, ← hR, ← hB]
    exact ⟨(Cb.new w (dl r s b o d m va vb (.slice a 0 cap)) _).alloc _, a2, ((Below.refl _ w).alloc (Nat.le_refl _) _).alloc (by simp) _⟩
  rw [hV, hB, hR]
  clear hV
  have hc := HS.out.c.cell (i := 8) (v := .slice a 0 cap) rfl
  go_upto_region 2 with (fail)
  clear hc
  have hr1 := HS.out.c.range
  obtain ⟨A9, hA9⟩ : ∃ A, dl r s b o d m va vb (.slice a 0 cap) = A := ⟨_, rfl⟩
  have i9 : (Try.prog.info? 34).map (·.size) = some A9.length := by rw [← hA9]; exact infoD12
  have j9 : (Try.prog.info? 34).map (·.size) = some A9.toArray.size := by rw [← hA9]; exact infoD12
  have ht2 : V.there R 0 A9.toArray.size := by rw [← hA9]; exact HS.out.e.thereAt 0 9 (by simp [dl])
  have one1 : A9.toArray.all (·.oneCell') = true := by rw [← hA9]; exact dl_one r s b o d m va vb _ HV.out.1 HV.out.2 rfl
  rw [hA9] at hr1
  go_wp2_with (first
    | refine wpList_load_mid rfl 34 _ rfl B 0 rfl A9 _ hr1 Try.underlying34 rfl i9 ?_
    | refine wpList_store_mid rfl 34 _ _ rfl R 0 A9.toArray rfl rfl ht2 j9 one1 ?_)
  have hs2 : (World.setCells V R 0 A9).rangeAt R 0 A9 := World.rangeAt_setCells_same V _ 0 A9 (by simpa using ht2)
  have hld := run_loadVar_mid (P := Try.prog) (World.setCells V R 0 A9) R 0 34 A9 _ hs2 Try.underlying34 rfl i9
  refine bodyPost_ret (v := .tuple #[.agg A9.toArray, .int .i64 idx, .bool false]) ?_ rfl ⟨by rw [← hA9]; rfl, by first | exact belows_put (by omega) _ 0 HS.out.n | (rw [hB]; exact belows_put (by omega) _ 0 HS.out.n)⟩
  simp [results, Try.f38, asAddr, hld]
set_option maxRecDepth 100000 in
set_option maxHeartbeats 4000000 in
theorem went12_some (r s b o d m : Int) (a : Option Addr) (n cap : Nat) (Z : Nat → Nat → Int) (va vb : Value) (hva : va.oneCell' = true) (hvb : vb.oneCell' = true) (idx : Int) (hb : Z 0 0 ≠ 7 → (0 ≤ Z 0 1 ∧ Z 0 1 < 8) ∧ (0 ≤ Z 0 2 ∧ Z 0 2 < 16) ∧ (0 ≤ Z 0 3 ∧ Z 0 3 < 1024) ∧ (0 ≤ Z 0 4 ∧ Z 0 4 < 64)) (w : World) (hs : Fs w a (n + 1) cap Z) :
    Calls Try.prog 38 #[.agg #[.int .i64 r, .int .i64 s, .int .i64 b, .int .i64 o, .int .i64 d, .int .i64 m, va, vb, .slice a (n + 1) cap], .int .i64 idx] w fun e w' => ∃ a' c', e = .returned (.tuple #[.agg #[.int .i64 r, .int .i64 s, .int .i64 b, .int .i64 o, .int .i64 d, .int .i64 m, va, vb, .slice a' n c'], .int .i64 (if Z 0 0 = 7 then idx else ix (Z 0 1) (Z 0 2) (Z 0 3) (Z 0 4)), .bool (decide (Z 0 0 = 7))]) ∧ Fs w' a' n c' (tlZ Z) ∧ Below w.heap.size w w' := by
  obtain ⟨pb, po, rfl, hpb, hz⟩ := hs.at_ (by omega)
  have hcap := hs.le
  have hcm := hs.cm
  unfold maxLen at hcm
  have HV : Hid (va.oneCell' = true ∧ vb.oneCell' = true ∧ Fs w (some ⟨pb, po, none⟩) (n + 1) cap Z) := ⟨hva, hvb, hs⟩
  have HQ : Hid (∀ W, Below w.heap.size w W → W.rangeAt pb po [.int .i64 (Z 0 0), .int .i64 (Z 0 1), .int .i64 (Z 0 2), .int .i64 (Z 0 3), .int .i64 (Z 0 4), .int .i64 (Z 0 5), .int .i64 (Z 0 6), .int .i64 (Z 0 7)]) := fun W hW => by
    have := fs_range (W := W) (b := pb) (o := po) (Z := Z) (len := n + 1) (fun i hi j hj => (hW.cell (p := ⟨pb, po + (i * 8 + j), none⟩) hpb).trans (hz i hi j hj)) 0 (by omega)
    simpa using this
  have HI : Hid (Z 0 0 ≠ 7 → ∀ w : World, Calls Try.prog 67 #[.agg #[.int .i64 (Z 0 1), .int .i64 (Z 0 2), .int .i64 (Z 0 3), .int .i64 (Z 0 4)]] w fun e w' => e = .returned (.int .i64 (ix (Z 0 1) (Z 0 2) (Z 0 3) (Z 0 4))) ∧ Below w.heap.size w w') := fun h w => refIndex_any _ _ _ _ (hb h).1 (hb h).2.1 (hb h).2.2.1 (hb h).2.2.2 w
  clear hva hvb hs hz hb
  obtain ⟨z0, hz0⟩ : ∃ y, Z 0 0 = y := ⟨_, rfl⟩
  obtain ⟨z1, hz1⟩ : ∃ y, Z 0 1 = y := ⟨_, rfl⟩
  obtain ⟨z2, hz2⟩ : ∃ y, Z 0 2 = y := ⟨_, rfl⟩
  obtain ⟨z3, hz3⟩ : ∃ y, Z 0 3 = y := ⟨_, rfl⟩
  obtain ⟨z4, hz4⟩ : ∃ y, Z 0 4 = y := ⟨_, rfl⟩
  obtain ⟨z5, hz5⟩ : ∃ y, Z 0 5 = y := ⟨_, rfl⟩
  obtain ⟨z6, hz6⟩ : ∃ y, Z 0 6 = y := ⟨_, rfl⟩
  obtain ⟨z7, hz7⟩ : ∃ y, Z 0 7 = y := ⟨_, rfl⟩
  rw [hz0, hz1, hz2, hz3, hz4] at HI
  rw [hz0, hz1, hz2, hz3, hz4, hz5, hz6, hz7] at HQ
  rw [hz0, hz1, hz2, hz3, hz4]
  clear hz0 hz1 hz2 hz3 hz4 hz5 hz6 hz7
  obtain ⟨vc, hvc⟩ : ∃ vc, Value.slice (some ⟨pb, po, none⟩) (n + 1) cap = vc := ⟨_, rfl⟩
  rw [hvc]
  go_enter Try.func38, Try.ntmps38
  go_upto_region 1 with (fail)
  obtain ⟨B, hB⟩ : ∃ B, w.heap.size = B := ⟨_, rfl⟩
  obtain ⟨R, hR⟩ : ∃ R, B + 1 = R := ⟨_, rfl⟩
  obtain ⟨Q, hQ⟩ : ∃ Q, R + 1 = Q := ⟨_, rfl⟩
  obtain ⟨V, hV⟩ : ∃ V, (w.alloc (.cells #[.int .i64 r, .int .i64 s, .int .i64 b, .int .i64 o, .int .i64 d, .int .i64 m, va, vb, vc] 34)).alloc (.cells #[.int .i64 0, .int .i64 0, .int .i64 0, .int .i64 0, .int .i64 0, .int .i64 0, .slice none 0 0, .slice none 0 0, .slice none 0 0] 34) = V := ⟨_, rfl⟩
  have HS : Hid (Wt12 B R r s b o d m va vb vc w V) := by
    have a2 := Cb.new (w.alloc (.cells #[.int .i64 r, .int .i64 s, .int .i64 b, .int .i64 o, .int .i64 d, .int .i64 m, va, vb, vc] 34)) (dl 0 0 0 0 0 0 (.slice none 0 0) (.slice none 0 0) (.slice none 0 0)) 34
    simp only [World.size_alloc] at a2
    rw [← hV, ← hR, ← hB]
    exact ⟨(Cb.new w (dl r s b o d m va vb vc) _).alloc _, a2, ((Below.refl _ w).alloc (Nat.le_refl _) _).alloc (by simp) _⟩
  have hsz : V.heap.size = Q := by rw [← hV, ← hQ, ← hR, ← hB]; simp
  rw [hV, hB, hR]
  rw [hB] at hpb HQ
  clear hV
  have hc := HS.out.c.cell (i := 8) (v := vc) rfl
  rw [← hvc] at hc
  have HVC : Hid (Value.slice (some ⟨pb, po, none⟩) (n + 1) cap = vc) := hvc
  clear hvc
  have hr := HQ.out V HS.out.n
  go_upto_region 3 with (fail)
  go_upto_region 4 with (first
    | refine wpList_load_mid rfl 51 _ rfl pb po rfl [.int .i64 z0, .int .i64 z1, .int .i64 z2, .int .i64 z3, .int .i64 z4, .int .i64 z5, .int .i64 z6, .int .i64 z7] _ hr Try.underlying51 rfl infoF12t ?_)
  obtain ⟨W1, hW1⟩ : ∃ W1, V.alloc (.cells #[.int .i64 z0, .int .i64 z1, .int .i64 z2, .int .i64 z3, .int .i64 z4, .int .i64 z5, .int .i64 z6, .int .i64 z7] 51) = W1 := ⟨_, rfl⟩
  have HN : Hid (Ft W1 Q z0 z1 z2 z3 z4 z5 z6 z7) := by rw [← hW1, ← hsz]; exact Ft.new V _ _ _ _ _ _ _ _ _
  replace HS : Hid (Wt12 B R r s b o d m va vb vc w W1) := by rw [← hW1]; exact HS.out.next ((Below.refl _ V).alloc (Nat.le_refl _) _)
  rw [hW1]
  clear hr hW1 hc hsz HQ
  have hc := HS.out.c.cell (i := 8) (v := vc) rfl
  have hf := HS.out.c.free 8
  rw [← HVC.out] at hc
  go_upto_region 5 with (fail)
  obtain ⟨a', ha'⟩ : ∃ a' : Option Addr, (if cap = 1 then some ⟨pb, po, none⟩ else some ⟨pb, po + 8, none⟩) = a' := ⟨_, rfl⟩
  have HF : Hid (Fs w a' n (cap - 1) (tlZ Z)) := by
    have h0 := HV.out.2.2
    refine ⟨by omega, by unfold maxLen; omega, fun hn => ?_, fun i hi j hj => h0.wf (i + 1) (by omega) j hj, fun e => ?_⟩
    · obtain ⟨b', o', e, hb', hz'⟩ := h0.at_ (by omega)
      cases e
      rw [if_neg (by omega)] at ha'
      refine ⟨pb, po + 8, ha'.symm, hb', fun i hi j hj => ?_⟩
      have := hz' (i + 1) (by omega) j hj
      rwa [show po + ((i + 1) * 8 + j) = po + 8 + (i * 8 + j) by omega] at this
    · split at ha' <;> (rw [e] at ha'; cases ha')
  rw [ha']
  obtain ⟨sv, hsv⟩ : ∃ sv, Value.slice a' n (cap - 1) = sv := ⟨_, rfl⟩
  have HSV : Hid (Value.slice a' n (cap - 1) = sv ∧ sv.oneCell' = true) := ⟨hsv, by rw [← hsv]; rfl⟩
  rw [hsv]
  clear ha' hsv
  obtain ⟨W2, hW2⟩ : ∃ W2, W1.setCell ⟨B, 8, none⟩ sv = W2 := ⟨_, rfl⟩
  replace HS : Hid (Wt12 B R r s b o d m va vb sv w W2) := by
    rw [← hW2]
    exact ⟨HS.out.c.set 8 sv, HS.out.e.other (by omega) 8 sv, below_set12 (Nat.le_refl _) HS.out.n⟩
  replace HN : Hid (Ft W2 Q z0 z1 z2 z3 z4 z5 z6 z7) := by
    rw [← hW2]
    exact Bk.of HN.out (Below.heap_setCell W1 ⟨B, 8, none⟩ sv Q (by show Q ≠ B; omega))
  rw [hW2]
  clear hW2 hc hf
  have h0 := HN.out.c0
  by_cases h7 : z0 = 7
  · go_upto_region 6 with (fail)
    clear h0
    have hr1 := HS.out.c.range
    obtain ⟨A9, hA9⟩ : ∃ A, dl r s b o d m va vb sv = A := ⟨_, rfl⟩
    have i9 : (Try.prog.info? 34).map (·.size) = some A9.length := by rw [← hA9]; exact infoD12
    have j9 : (Try.prog.info? 34).map (·.size) = some A9.toArray.size := by rw [← hA9]; exact infoD12
    have ht2 : W2.there R 0 A9.toArray.size := by rw [← hA9]; exact HS.out.e.thereAt 0 9 (by simp [dl])
    have one1 : A9.toArray.all (·.oneCell') = true := by rw [← hA9]; exact dl_one r s b o d m va vb _ HV.out.1 HV.out.2.1 HSV.out.2
    rw [hA9] at hr1
    go_wp2_with (first
      | refine wpList_load_mid rfl 34 _ rfl B 0 rfl A9 _ hr1 Try.underlying34 rfl i9 ?_
      | refine wpList_store_mid rfl 34 _ _ rfl R 0 A9.toArray rfl rfl ht2 j9 one1 ?_)
    have hs2 : (World.setCells W2 R 0 A9).rangeAt R 0 A9 := World.rangeAt_setCells_same W2 _ 0 A9 (by simpa using ht2)
    have hld := run_loadVar_mid (P := Try.prog) (World.setCells W2 R 0 A9) R 0 34 A9 _ hs2 Try.underlying34 rfl i9
    refine bodyPost_ret (v := .tuple #[.agg A9.toArray, .int .i64 idx, .bool true]) ?_ rfl ⟨a', cap - 1, by rw [← hA9, HSV.out.1]; rfl, HF.out.below (by first | exact belows_put (by omega) _ 0 HS.out.n | (rw [hB]; exact belows_put (by omega) _ 0 HS.out.n)), by first | exact belows_put (by omega) _ 0 HS.out.n | (rw [hB]; exact belows_put (by omega) _ 0 HS.out.n)⟩
    simp [results, Try.f38, asAddr, hld]
  · have CI : Hid (∀ w : World, Calls Try.prog 67 #[.agg #[.int .i64 z1, .int .i64 z2, .int .i64 z3, .int .i64 z4]] w fun e w' => e = .returned (.int .i64 (ix z1 z2 z3 z4)) ∧ Below w.heap.size w w') := HI.out h7
    go_upto_region 7 with (fail)
    clear h0
    obtain ⟨A9, hA9⟩ : ∃ A, dl r s b o d m va vb sv = A := ⟨_, rfl⟩
    have i9 : (Try.prog.info? 34).map (·.size) = some A9.length := by rw [← hA9]; exact infoD12
    have j9 : (Try.prog.info? 34).map (·.size) = some A9.toArray.size := by rw [← hA9]; exact infoD12
    have one1 : A9.toArray.all (·.oneCell') = true := by rw [← hA9]; exact dl_one r s b o d m va vb _ HV.out.1 HV.out.2.1 HSV.out.2
    have HC : Hid (∀ W, Below W2.heap.size W2 W → W.rangeAt B 0 A9 ∧ W.there R 0 A9.toArray.size ∧ W.rangeAt Q 1 [.int .i64 z1, .int .i64 z2, .int .i64 z3, .int .i64 z4] ∧ Below B w W) := fun W hW => by
      have h := HS.out.next hW
      rw [← hA9]
      exact ⟨h.c.range, h.e.thereAt 0 9 (by simp [dl]), (HN.out.next hW).place, h.n⟩
    have HA9 : Hid (dl r s b o d m va vb sv = A9) := hA9
    clear hA9
    have hr1 := (HC.out W2.drew (below_drew1 W2)).1
    have hr2 := (HC.out W2.drew (below_drew1 W2)).2.2.1
    refine region_ends (by kernel_rfl) (fun W => W.rangeAt B 0 A9 ∧ W.rangeAt Q 1 [.int .i64 z1, .int .i64 z2, .int .i64 z3, .int .i64 z4]) (fun a2 W' => a2 = ({ tmps := #[.agg #[.int .i64 r, .int .i64 s, .int .i64 b, .int .i64 o, .int .i64 d, .int .i64 m, va, vb, vc], .int .i64 idx, .pointer (some ⟨B, 0, none⟩), undef, .pointer (some ⟨R, 0, none⟩), .int .i64 (ix z1 z2 z3 z4), .bool false, .pointer (some ⟨Q, 0, none⟩), .pointer (some ⟨B, 8, none⟩), .slice (some ⟨pb, po, none⟩) (n + 1) cap, .int .i64 ((n : Int) + 1), .bool false, undef, undef, .pointer (some ⟨B, 8, none⟩), .slice (some ⟨pb, po, none⟩) (n + 1) cap, .pointer (some ⟨pb, po, none⟩), .agg #[.int .i64 z0, .int .i64 z1, .int .i64 z2, .int .i64 z3, .int .i64 z4, .int .i64 z5, .int .i64 z6, .int .i64 z7], .pointer (some ⟨B, 8, none⟩), .slice (some ⟨pb, po, none⟩) (n + 1) cap, sv, .pointer (some ⟨B, 8, none⟩), .pointer (some ⟨Q, 0, none⟩), .int .i64 z0, .bool (z0 == 7), undef, undef, .agg A9.toArray, .pointer (some ⟨Q, 1, none⟩), .agg #[.int .i64 z1, .int .i64 z2, .int .i64 z3, .int .i64 z4], .int .i64 (ix z1 z2 z3 z4)], defers := [] } : Act) ∧ ∃ W3, Below W2.heap.size W2 W3 ∧ W' = W3.setCells R 0 A9) ⟨hr1, hr2⟩ (fun hH => ?reg) (fun a2 V3 hr => ?aft)
    case reg =>
      refine take_if 0 (v := .agg A9.toArray) rfl (by kernel_rfl) (yieldsIf_load_mid (by rfl) _ _ rfl B 0 rfl A9 _ (fun w' hw => hw.1) Try.underlying34 rfl i9) hH ?_
      show wpAnyH _ _ _ _ _ _ _ ({ tmps := #[.agg #[.int .i64 r, .int .i64 s, .int .i64 b, .int .i64 o, .int .i64 d, .int .i64 m, va, vb, vc], .int .i64 idx, .pointer (some ⟨B, 0, none⟩), undef, .pointer (some ⟨R, 0, none⟩), .int .i64 0, .bool false, .pointer (some ⟨Q, 0, none⟩), .pointer (some ⟨B, 8, none⟩), .slice (some ⟨pb, po, none⟩) (n + 1) cap, .int .i64 ((n : Int) + 1), .bool false, undef, undef, .pointer (some ⟨B, 8, none⟩), .slice (some ⟨pb, po, none⟩) (n + 1) cap, .pointer (some ⟨pb, po, none⟩), .agg #[.int .i64 z0, .int .i64 z1, .int .i64 z2, .int .i64 z3, .int .i64 z4, .int .i64 z5, .int .i64 z6, .int .i64 z7], .pointer (some ⟨B, 8, none⟩), .slice (some ⟨pb, po, none⟩) (n + 1) cap, sv, .pointer (some ⟨B, 8, none⟩), .pointer (some ⟨Q, 0, none⟩), .int .i64 z0, .bool (z0 == 7), undef, undef, .agg A9.toArray, undef, undef, undef], defers := [] } : Act) _
      refine take_pure 1 (v := .pointer (some ⟨Q, 1, none⟩)) rfl (by kernel_rfl) rfl (fun w' hw => by simp [execOp, go_sem, Act.eval]) hH ?_
      show wpAnyH _ _ _ _ _ _ _ ({ tmps := #[.agg #[.int .i64 r, .int .i64 s, .int .i64 b, .int .i64 o, .int .i64 d, .int .i64 m, va, vb, vc], .int .i64 idx, .pointer (some ⟨B, 0, none⟩), undef, .pointer (some ⟨R, 0, none⟩), .int .i64 0, .bool false, .pointer (some ⟨Q, 0, none⟩), .pointer (some ⟨B, 8, none⟩), .slice (some ⟨pb, po, none⟩) (n + 1) cap, .int .i64 ((n : Int) + 1), .bool false, undef, undef, .pointer (some ⟨B, 8, none⟩), .slice (some ⟨pb, po, none⟩) (n + 1) cap, .pointer (some ⟨pb, po, none⟩), .agg #[.int .i64 z0, .int .i64 z1, .int .i64 z2, .int .i64 z3, .int .i64 z4, .int .i64 z5, .int .i64 z6, .int .i64 z7], .pointer (some ⟨B, 8, none⟩), .slice (some ⟨pb, po, none⟩) (n + 1) cap, sv, .pointer (some ⟨B, 8, none⟩), .pointer (some ⟨Q, 0, none⟩), .int .i64 z0, .bool (z0 == 7), undef, undef, .agg A9.toArray, .pointer (some ⟨Q, 1, none⟩), undef, undef], defers := [] } : Act) _
      refine take_if 2 (v := .agg #[.int .i64 z1, .int .i64 z2, .int .i64 z3, .int .i64 z4]) rfl (by kernel_rfl) (yieldsIf_load_mid (by rfl) _ _ rfl Q 1 rfl [.int .i64 z1, .int .i64 z2, .int .i64 z3, .int .i64 z4] _ (fun w' hw => hw.2) Try.underlying49 rfl infoP12) hH ?_
      show wpAnyH _ _ _ _ _ _ _ ({ tmps := #[.agg #[.int .i64 r, .int .i64 s, .int .i64 b, .int .i64 o, .int .i64 d, .int .i64 m, va, vb, vc], .int .i64 idx, .pointer (some ⟨B, 0, none⟩), undef, .pointer (some ⟨R, 0, none⟩), .int .i64 0, .bool false, .pointer (some ⟨Q, 0, none⟩), .pointer (some ⟨B, 8, none⟩), .slice (some ⟨pb, po, none⟩) (n + 1) cap, .int .i64 ((n : Int) + 1), .bool false, undef, undef, .pointer (some ⟨B, 8, none⟩), .slice (some ⟨pb, po, none⟩) (n + 1) cap, .pointer (some ⟨pb, po, none⟩), .agg #[.int .i64 z0, .int .i64 z1, .int .i64 z2, .int .i64 z3, .int .i64 z4, .int .i64 z5, .int .i64 z6, .int .i64 z7], .pointer (some ⟨B, 8, none⟩), .slice (some ⟨pb, po, none⟩) (n + 1) cap, sv, .pointer (some ⟨B, 8, none⟩), .pointer (some ⟨Q, 0, none⟩), .int .i64 z0, .bool (z0 == 7), undef, undef, .agg A9.toArray, .pointer (some ⟨Q, 1, none⟩), .agg #[.int .i64 z1, .int .i64 z2, .int .i64 z3, .int .i64 z4], undef], defers := [] } : Act) _
      refine take_one 3 rfl rfl (by kernel_rfl) ?_
      refine wp_contract 67 [.tmp 29] _ rfl (enters_of Try.func67 (by kernel_rfl) rfl) [.agg #[.int .i64 z1, .int .i64 z2, .int .i64 z3, .int .i64 z4]] rfl (CI.out _) ?_
      rintro e W3 ⟨rfl, b3⟩
      have HB3 : Below W2.heap.size W2 W3 := (below_drew1 W2).trans (b3.mono (below_drew1 W2).size)
      obtain ⟨g1, g2, g3, g4⟩ := HC.out W3 HB3
      refine ⟨_, rfl, ⟨g1, g3⟩, fun hH => ?_⟩
      show wpAnyH _ _ _ _ _ _ _ ({ tmps := #[.agg #[.int .i64 r, .int .i64 s, .int .i64 b, .int .i64 o, .int .i64 d, .int .i64 m, va, vb, vc], .int .i64 idx, .pointer (some ⟨B, 0, none⟩), undef, .pointer (some ⟨R, 0, none⟩), .int .i64 0, .bool false, .pointer (some ⟨Q, 0, none⟩), .pointer (some ⟨B, 8, none⟩), .slice (some ⟨pb, po, none⟩) (n + 1) cap, .int .i64 ((n : Int) + 1), .bool false, undef, undef, .pointer (some ⟨B, 8, none⟩), .slice (some ⟨pb, po, none⟩) (n + 1) cap, .pointer (some ⟨pb, po, none⟩), .agg #[.int .i64 z0, .int .i64 z1, .int .i64 z2, .int .i64 z3, .int .i64 z4, .int .i64 z5, .int .i64 z6, .int .i64 z7], .pointer (some ⟨B, 8, none⟩), .slice (some ⟨pb, po, none⟩) (n + 1) cap, sv, .pointer (some ⟨B, 8, none⟩), .pointer (some ⟨Q, 0, none⟩), .int .i64 z0, .bool (z0 == 7), undef, undef, .agg A9.toArray, .pointer (some ⟨Q, 1, none⟩), .agg #[.int .i64 z1, .int .i64 z2, .int .i64 z3, .int .i64 z4], .int .i64 (ix z1 z2 z3 z4)], defers := [] } : Act) _
      refine take_one 4 rfl rfl (by kernel_rfl) ?_
      refine wp_store_mid 34 _ _ rfl R 0 A9.toArray rfl rfl g2 j9 one1 ?_
      have hRB : ∀ (X : Nat) (o : Nat) (L : List Value), X ≠ R → W3.rangeAt X o L → (W3.setCells R 0 A9).rangeAt X o L := fun X o L hX h j v hv => by
        have e := heap_puts R A9 0 W3 X hX
        exact (World.cell?_of_block (w := W3) (a := ⟨X, o + j, none⟩) e).trans (h j v hv)
      refine ⟨⟨hRB B 0 A9 (by omega) g1, hRB Q 1 _ (by omega) g3⟩, fun hH => ?_⟩
      show wpAnyH _ _ _ _ _ _ _ ({ tmps := #[.agg #[.int .i64 r, .int .i64 s, .int .i64 b, .int .i64 o, .int .i64 d, .int .i64 m, va, vb, vc], .int .i64 idx, .pointer (some ⟨B, 0, none⟩), undef, .pointer (some ⟨R, 0, none⟩), .int .i64 0, .bool false, .pointer (some ⟨Q, 0, none⟩), .pointer (some ⟨B, 8, none⟩), .slice (some ⟨pb, po, none⟩) (n + 1) cap, .int .i64 ((n : Int) + 1), .bool false, undef, undef, .pointer (some ⟨B, 8, none⟩), .slice (some ⟨pb, po, none⟩) (n + 1) cap, .pointer (some ⟨pb, po, none⟩), .agg #[.int .i64 z0, .int .i64 z1, .int .i64 z2, .int .i64 z3, .int .i64 z4, .int .i64 z5, .int .i64 z6, .int .i64 z7], .pointer (some ⟨B, 8, none⟩), .slice (some ⟨pb, po, none⟩) (n + 1) cap, sv, .pointer (some ⟨B, 8, none⟩), .pointer (some ⟨Q, 0, none⟩), .int .i64 z0, .bool (z0 == 7), undef, undef, .agg A9.toArray, .pointer (some ⟨Q, 1, none⟩), .agg #[.int .i64 z1, .int .i64 z2, .int .i64 z3, .int .i64 z4], .int .i64 (ix z1 z2 z3 z4)], defers := [] } : Act) _
      refine take_pure 5 (v := .int .i64 (ix z1 z2 z3 z4)) rfl (by kernel_rfl) rfl (fun w' hw => by simp [execOp, go_sem, Act.eval]) hH ?_
      show wpAnyH _ _ _ _ _ _ _ ({ tmps := #[.agg #[.int .i64 r, .int .i64 s, .int .i64 b, .int .i64 o, .int .i64 d, .int .i64 m, va, vb, vc], .int .i64 idx, .pointer (some ⟨B, 0, none⟩), undef, .pointer (some ⟨R, 0, none⟩), .int .i64 (ix z1 z2 z3 z4), .bool false, .pointer (some ⟨Q, 0, none⟩), .pointer (some ⟨B, 8, none⟩), .slice (some ⟨pb, po, none⟩) (n + 1) cap, .int .i64 ((n : Int) + 1), .bool false, undef, undef, .pointer (some ⟨B, 8, none⟩), .slice (some ⟨pb, po, none⟩) (n + 1) cap, .pointer (some ⟨pb, po, none⟩), .agg #[.int .i64 z0, .int .i64 z1, .int .i64 z2, .int .i64 z3, .int .i64 z4, .int .i64 z5, .int .i64 z6, .int .i64 z7], .pointer (some ⟨B, 8, none⟩), .slice (some ⟨pb, po, none⟩) (n + 1) cap, sv, .pointer (some ⟨B, 8, none⟩), .pointer (some ⟨Q, 0, none⟩), .int .i64 z0, .bool (z0 == 7), undef, undef, .agg A9.toArray, .pointer (some ⟨Q, 1, none⟩), .agg #[.int .i64 z1, .int .i64 z2, .int .i64 z3, .int .i64 z4], .int .i64 (ix z1 z2 z3 z4)], defers := [] } : Act) _
      refine take_pure 6 (v := .bool false) rfl (by kernel_rfl) rfl (fun w' hw => by simp [execOp, go_sem, Act.eval]) hH ?_
      show wpAnyH _ _ _ _ _ _ _ ({ tmps := #[.agg #[.int .i64 r, .int .i64 s, .int .i64 b, .int .i64 o, .int .i64 d, .int .i64 m, va, vb, vc], .int .i64 idx, .pointer (some ⟨B, 0, none⟩), undef, .pointer (some ⟨R, 0, none⟩), .int .i64 (ix z1 z2 z3 z4), .bool false, .pointer (some ⟨Q, 0, none⟩), .pointer (some ⟨B, 8, none⟩), .slice (some ⟨pb, po, none⟩) (n + 1) cap, .int .i64 ((n : Int) + 1), .bool false, undef, undef, .pointer (some ⟨B, 8, none⟩), .slice (some ⟨pb, po, none⟩) (n + 1) cap, .pointer (some ⟨pb, po, none⟩), .agg #[.int .i64 z0, .int .i64 z1, .int .i64 z2, .int .i64 z3, .int .i64 z4, .int .i64 z5, .int .i64 z6, .int .i64 z7], .pointer (some ⟨B, 8, none⟩), .slice (some ⟨pb, po, none⟩) (n + 1) cap, sv, .pointer (some ⟨B, 8, none⟩), .pointer (some ⟨Q, 0, none⟩), .int .i64 z0, .bool (z0 == 7), undef, undef, .agg A9.toArray, .pointer (some ⟨Q, 1, none⟩), .agg #[.int .i64 z1, .int .i64 z2, .int .i64 z3, .int .i64 z4], .int .i64 (ix z1 z2 z3 z4)], defers := [] } : Act) _
      exact wpAnyH_done (by kernel_rfl) ⟨rfl, W3, HB3, rfl⟩ _
    case aft =>
      obtain ⟨rfl, W3, h3, rfl⟩ := hr
      obtain ⟨g1, g2, g3, g4⟩ := HC.out W3 h3
      have hs2 : (World.setCells W3 R 0 A9).rangeAt R 0 A9 := World.rangeAt_setCells_same W3 _ 0 A9 (by simpa using g2)
      have hld := run_loadVar_mid (P := Try.prog) (World.setCells W3 R 0 A9) R 0 34 A9 _ hs2 Try.underlying34 rfl i9
      go_wp2
      refine bodyPost_ret (v := .tuple #[.agg A9.toArray, .int .i64 (ix z1 z2 z3 z4), .bool false]) ?_ rfl ⟨a', cap - 1, by rw [← HA9.out, HSV.out.1]; rfl, HF.out.below (by first | exact belows_put (by omega) _ 0 g4 | (rw [hB]; exact belows_put (by omega) _ 0 g4)), by first | exact belows_put (by omega) _ 0 g4 | (rw [hB]; exact belows_put (by omega) _ 0 g4)⟩
      simp [results, Try.f38, asAddr, hld]
end Go.Proofs.Ytcpjmfemgdgplaa

/-
  The document's chips: what would be read at an index.
-/
namespace Go.Proofs.Ytcpjmfemgdgplaa
open Go.RowKit Go.Shelf
attribute [local go_sem] Oper.semAt_some

/-- the document's Apply, as its own text has it (FaR4's refApply_any) -/
def Ap12 (m n : Int) : Prop := ∀ (k p q u v c i x p' q' u' v' : Int) (F : Nat → Int), Byts 72 F → ∀ w : World, Calls Try.prog 46 #[.agg #[.int .i64 k, .int .i64 p, .int .i64 q, .int .i64 u, .int .i64 v, .int .i64 c, .int .i64 i, .int .i64 x], .int .i64 m, .agg #[.int .i64 p', .int .i64 q', .int .i64 u', .int .i64 v'], .agg (ints .u8 72 F).toArray] w fun e w' => e = .returned (.agg (ints .u8 72 (apF n k p q u v c i x p' q' u' v' F)).toArray) ∧ Below w.heap.size w w'
/-- at work in Look -/
structure Lt12 (B R C : Nat) (r s b o d m : Int) (va vb vc : Value) (X : Nat → Int) (w W : World) : Prop where
  c : Cb W B (dl r s b o d m va vb vc)
  e : Bk .u8 W R 72 (fun _ => 0)
  r : Bk .u8 W C 72 X
  n : Below B w W
section
variable {B R C : Nat} {r s b o d m : Int} {va vb vc : Value} {X : Nat → Int} {w W W' : World}
theorem Lt12.next (h : Lt12 B R C r s b o d m va vb vc X w W) (k : Below W.heap.size W W') : Lt12 B R C r s b o d m va vb vc X w W' := ⟨h.c.next k, h.e.next k, h.r.next k, h.n.trans (k.mono (Nat.le_of_lt h.c.lt))⟩
theorem Lt12.put (h : Lt12 B R C r s b o d m va vb vc X w W) (h1 : B < C) (h2 : R < C) (Y : Nat → Int) : Lt12 B R C r s b o d m va vb vc Y w (W.setCells C 0 (ints .u8 72 Y)) :=
  ⟨h.c.putOther (by omega) 0 _, h.e.putOther (by omega) 0 _, h.r.put Y, belows_put (by omega) _ 0 h.n⟩
end
set_option maxRecDepth 100000 in
set_option maxHeartbeats 4000000 in
theorem look12_any (r s b o d m n : Int) (hap : Ap12 m n) (a : Option Addr) (len cap : Nat) (E : List En) (a2 : Option Addr) (len2 cap2 : Nat) (Z : Nat → Nat → Int) (vc : Value) (idx : Int) (h0 : 0 ≤ idx) (h1 : idx < 9223372036854775808) (w : World) (hs : Er w a len cap E) (hs2 : Fs w a2 len2 cap2 Z) :
    Calls Try.prog 19 #[.agg #[.int .i64 r, .int .i64 s, .int .i64 b, .int .i64 o, .int .i64 d, .int .i64 m, .slice a len cap, .slice a2 len2 cap2, vc], .int .i64 idx] w fun e w' => e = .returned (.agg (ints .u8 72 (ovF n Z (idx / 1048576) (idx / 65536 % 16) (idx / 64 % 1024) (idx % 64) (gE E idx) len2)).toArray) ∧ Below w.heap.size w w' := by
  have hF : Byts 72 (gE E idx) := gE_byt E (fun e he => (hs.wf e he).2) idx
  have hlm : len2 ≤ maxLen := Nat.le_trans hs2.le hs2.cm
  unfold maxLen at hlm
  have CG : Hid (∀ W, Below w.heap.size w W → Calls Try.prog 45 #[.agg #[.int .i64 r, .int .i64 s, .int .i64 b, .int .i64 o, .int .i64 d, .int .i64 m, .slice a len cap, .slice a2 len2 cap2, vc], .int .i64 idx] W fun e w' => e = .returned (.agg (ints .u8 72 (gE E idx)).toArray) ∧ Below W.heap.size W w') := fun W hW => get12_any r s b o d m a len cap _ vc E idx W (hs.below hW)
  have CP : Hid (∀ w : World, Calls Try.prog 44 #[.int .i64 idx] w fun e w' => e = .returned (.agg #[.int .i64 (idx / 1048576), .int .i64 (idx / 65536 % 16), .int .i64 (idx / 64 % 1024), .int .i64 (idx % 64)]) ∧ Below w.heap.size w w') := refPlace_any idx h0 h1
  obtain ⟨F, hF2⟩ : ∃ F, gE E idx = F := ⟨_, rfl⟩
  rw [hF2] at CG hF
  rw [hF2]
  clear hF2
  obtain ⟨p0, hp0⟩ : ∃ y, idx / 1048576 = y := ⟨_, rfl⟩
  obtain ⟨p1, hp1⟩ : ∃ y, idx / 65536 % 16 = y := ⟨_, rfl⟩
  obtain ⟨p2, hp2⟩ : ∃ y, idx / 64 % 1024 = y := ⟨_, rfl⟩
  obtain ⟨p3, hp3⟩ : ∃ y, idx % 64 = y := ⟨_, rfl⟩
  rw [hp0, hp1, hp2, hp3] at CP
  rw [hp0, hp1, hp2, hp3]
  clear hp0 hp1 hp2 hp3 h0 h1
  have HA : Hid (∀ s, s < len2 → ∀ w : World, Calls Try.prog 46 #[.agg #[.int .i64 (Z s 0), .int .i64 (Z s 1), .int .i64 (Z s 2), .int .i64 (Z s 3), .int .i64 (Z s 4), .int .i64 (Z s 5), .int .i64 (Z s 6), .int .i64 (Z s 7)], .int .i64 m, .agg #[.int .i64 p0, .int .i64 p1, .int .i64 p2, .int .i64 p3], .agg (ints .u8 72 (ovF n Z p0 p1 p2 p3 F s)).toArray] w fun e w' => e = .returned (.agg (ints .u8 72 (ovF n Z p0 p1 p2 p3 F (s + 1))).toArray) ∧ Below w.heap.size w w') := fun s h w =>
    hap (Z s 0) (Z s 1) (Z s 2) (Z s 3) (Z s 4) (Z s 5) (Z s 6) (Z s 7) p0 p1 p2 p3 _ (ovF_byt n Z p0 p1 p2 p3 F hF s) w
  have HR : Hid (0 < len2 → ∃ b o, a2 = some ⟨b, o, none⟩ ∧ b < w.heap.size ∧ ∀ W, Below w.heap.size w W → ∀ s, s < len2 → W.rangeAt b (o + s * 8) [.int .i64 (Z s 0), .int .i64 (Z s 1), .int .i64 (Z s 2), .int .i64 (Z s 3), .int .i64 (Z s 4), .int .i64 (Z s 5), .int .i64 (Z s 6), .int .i64 (Z s 7)]) := fun h0 => by
    obtain ⟨b, o, h1, h2, h3⟩ := hs2.at_ h0
    refine ⟨b, o, h1, h2, fun W hW s hs => fs_range (fun i hi j hj => ?_) s hs⟩
    exact (hW.cell (p := ⟨b, o + (i * 8 + j), none⟩) h2).trans (h3 i hi j hj)
  clear hs hs2 hap hF
  have hz := zeroA9
  obtain ⟨T, hT⟩ : ∃ Z, (ints .u8 72 fun _ => 0).toArray = Z := ⟨_, rfl⟩
  rw [hT] at hz
  obtain ⟨va, hva⟩ : ∃ va, Value.slice a len cap = va := ⟨_, rfl⟩
  obtain ⟨vb, hvb⟩ : ∃ vb, Value.slice a2 len2 cap2 = vb := ⟨_, rfl⟩
  rw [hva, hvb] at CG
  rw [hva, hvb]
  obtain ⟨L0, hL0⟩ : ∃ L, ints .u8 72 F = L := ⟨_, rfl⟩
  rw [hL0] at CG
  have HVB : Hid (Value.slice a2 len2 cap2 = vb) := hvb
  have HL0 : Hid (ints .u8 72 F = L0) := hL0
  have i0 : (Try.prog.info? 39).map (·.size) = some L0.length := by rw [← hL0, ints_len]; exact infoA9
  have j0 : (Try.prog.info? 39).map (·.size) = some L0.toArray.size := by simpa using i0
  have o0 : L0.toArray.all (·.oneCell') = true := by rw [← hL0]; exact ints_one .u8 72 F
  clear hva hvb hL0
  go_enter Try.func19, Try.ntmps19
  go_upto_region 1 with (fail)
  obtain ⟨B, hB⟩ : ∃ B, w.heap.size = B := ⟨_, rfl⟩
  obtain ⟨R, hR⟩ : ∃ R, B + 1 = R := ⟨_, rfl⟩
  obtain ⟨V, hV⟩ : ∃ V, (w.alloc (.cells #[.int .i64 r, .int .i64 s, .int .i64 b, .int .i64 o, .int .i64 d, .int .i64 m, va, vb, vc] 34)).alloc (.cells T 39) = V := ⟨_, rfl⟩
  have HS : Hid (Gt12 B R r s b o d m va vb vc w V) := by
    have a2 := Bk.new .u8 (w.alloc (.cells #[.int .i64 r, .int .i64 s, .int .i64 b, .int .i64 o, .int .i64 d, .int .i64 m, va, vb, vc] 34)) 72 (fun _ => 0) 39
    rw [hT] at a2
    simp only [World.size_alloc] at a2
    rw [← hV, ← hR, ← hB]
    exact ⟨(Cb.new w (dl r s b o d m va vb vc) _).alloc _, a2, ((Below.refl _ w).alloc (Nat.le_refl _) _).alloc (by simp) _⟩
  rw [hB] at HR CG
  have oR : B < R := by omega
  rw [hV, hB, hR]
  clear hV
  have hr := HS.out.c.range
  go_wp2_with (first
    | refine wpList_load_mid rfl 34 _ rfl B 0 rfl [.int .i64 r, .int .i64 s, .int .i64 b, .int .i64 o, .int .i64 d, .int .i64 m, va, vb, vc] _ hr Try.underlying34 rfl infoD12 ?_)
  refine (CG.out _ HS.out.n).mono ?_
  rintro e W1 ⟨rfl, b1⟩
  replace HS : Hid (Gt12 B R r s b o d m va vb vc w W1) := HS.out.next b1
  obtain ⟨C, hC⟩ : ∃ C, W1.heap.size = C := ⟨_, rfl⟩
  have oB : B < C := by rw [← hC]; exact HS.out.c.lt
  have oC : R < C := by rw [← hC]; exact HS.out.e.lt
  clear hr b1 CG
  have ht : (W1.alloc (.cells T 39)).there C 0 L0.toArray.size := by
    rw [← hT, ← HL0.out, ← hC]
    have := Bk.there (Bk.new .u8 W1 72 (fun _ => 0) 39) .u8 F
    simpa [ints] using this
  go_upto_region 2 with (first | refine wpList_store_mid rfl 39 _ _ rfl C 0 L0.toArray rfl rfl ht j0 o0 ?_)
  obtain ⟨W2, hW2⟩ : ∃ W2, (W1.alloc (.cells T 39)).setCells C 0 L0 = W2 := ⟨_, rfl⟩
  have HJ : Hid (Lt12 B R C r s b o d m va vb vc (ovF n Z p0 p1 p2 p3 F 0) w W2) := by
    rw [← hW2, ← HL0.out, ← hT]
    have a1 := HS.out.next ((Below.refl _ W1).alloc (Nat.le_refl _) (.cells (ints .u8 72 fun _ => 0).toArray 39))
    have a2 := Bk.new .u8 W1 72 (fun _ => 0) 39
    rw [hC] at a2
    exact ⟨a1.c.putOther (by omega) 0 _, a1.e.putOther (by omega) 0 _, a2.put F, belows_put (by omega) _ 0 a1.n⟩
  rw [hW2]
  clear hW2 ht HS hz hT i0 j0 o0 HL0
  go_wp2
  go_loopw [6] (fun i wr => ∃ s' : Nat, s' ≤ len2 ∧ i = .int .i64 (s' : Int) ∧ Hid (Lt12 B R C r s b o d m va vb vc (ovF n Z p0 p1 p2 p3 F s') w wr)) (fun i _ => len2 - (intOf i).toNat)
  case atStart => exact ⟨0, by omega, rfl, HJ⟩
  case round =>
    clear HJ
    obtain ⟨t, ht, rfl, HS⟩ := hrel
    have hc := HS.out.c.cell (i := 7) (v := vb) rfl
    rw [← HVB.out] at hc
    by_cases hlt : t < len2
    · obtain ⟨pb, po, rfl, hpb, HQ⟩ := HR.out (by omega)
      have CA := HA.out t hlt
      have hq : ∀ W, Below w.heap.size w W → W.rangeAt pb (po + t * 8) [.int .i64 (Z t 0), .int .i64 (Z t 1), .int .i64 (Z t 2), .int .i64 (Z t 3), .int .i64 (Z t 4), .int .i64 (Z t 5), .int .i64 (Z t 6), .int .i64 (Z t 7)] := fun W hW => HQ W (by rw [hB] at hW; exact hW) t hlt
      obtain ⟨X, hX⟩ : ∃ X, ovF n Z p0 p1 p2 p3 F t = X := ⟨_, rfl⟩
      obtain ⟨Y, hY⟩ : ∃ Y, ovF n Z p0 p1 p2 p3 F (t + 1) = Y := ⟨_, rfl⟩
      rw [hX] at HS
      rw [hX, hY] at CA
      clear HQ HA hX
      obtain ⟨M, hM⟩ : ∃ M, ints .u8 72 Y = M := ⟨_, rfl⟩
      obtain ⟨L, hL⟩ : ∃ L, ints .u8 72 X = L := ⟨_, rfl⟩
      have i0 : (Try.prog.info? 39).map (·.size) = some L.length := by rw [← hL, ints_len]; exact infoA9
      have i1 : (Try.prog.info? 39).map (·.size) = some M.length := by rw [← hM, ints_len]; exact infoA9
      have j9 : (Try.prog.info? 39).map (·.size) = some M.toArray.size := by simpa using i1
      have one1 : M.toArray.all (·.oneCell') = true := by rw [← hM]; exact ints_one .u8 72 Y
      rw [hL, hM] at CA
      obtain ⟨z0, hz0⟩ : ∃ y, Z t 0 = y := ⟨_, rfl⟩
      obtain ⟨z1, hz1⟩ : ∃ y, Z t 1 = y := ⟨_, rfl⟩
      obtain ⟨z2, hz2⟩ : ∃ y, Z t 2 = y := ⟨_, rfl⟩
      obtain ⟨z3, hz3⟩ : ∃ y, Z t 3 = y := ⟨_, rfl⟩
      obtain ⟨z4, hz4⟩ : ∃ y, Z t 4 = y := ⟨_, rfl⟩
      obtain ⟨z5, hz5⟩ : ∃ y, Z t 5 = y := ⟨_, rfl⟩
      obtain ⟨z6, hz6⟩ : ∃ y, Z t 6 = y := ⟨_, rfl⟩
      obtain ⟨z7, hz7⟩ : ∃ y, Z t 7 = y := ⟨_, rfl⟩
      rw [hz0, hz1, hz2, hz3, hz4, hz5, hz6, hz7] at CA
      simp only [hz0, hz1, hz2, hz3, hz4, hz5, hz6, hz7] at hq
      clear hz0 hz1 hz2 hz3 hz4 hz5 hz6 hz7 HR
      have CB : Hid (∀ w : World, Calls Try.prog 46 #[.agg #[.int .i64 z0, .int .i64 z1, .int .i64 z2, .int .i64 z3, .int .i64 z4, .int .i64 z5, .int .i64 z6, .int .i64 z7], .int .i64 m, .agg #[.int .i64 p0, .int .i64 p1, .int .i64 p2, .int .i64 p3], .agg L.toArray] w fun e w' => e = .returned (.agg M.toArray) ∧ Below w.heap.size w w') := CA
      clear CA
      have HC : Hid (∀ W, Below wr.heap.size wr W → Lt12 B R C r s b o d m va vb vc X w W ∧ W.cell? ⟨B, 7, none⟩ = some (.slice (some ⟨pb, po, none⟩) len2 cap2) ∧ W.cell? ⟨B, 5, none⟩ = some (.int .i64 m) ∧ W.rangeAt C 0 L ∧ W.rangeAt pb (po + t * 8) [.int .i64 z0, .int .i64 z1, .int .i64 z2, .int .i64 z3, .int .i64 z4, .int .i64 z5, .int .i64 z6, .int .i64 z7] ∧ W.there C 0 M.toArray.size ∧ Lt12 B R C r s b o d m va vb vc Y w (W.setCells C 0 M)) := fun W hW => by
        have h := HS.out.next hW
        refine ⟨h, ?_, h.c.cell (i := 5) rfl, ?_, hq W (by rw [hB]; exact h.n), ?_, ?_⟩
        · rw [h.c.cell (i := 7) (v := vb) rfl, ← HVB.out]
        · rw [← hL]; exact h.r.range
        · rw [← hM]; exact Bk.there h.r .u8 Y
        · rw [← hM]; exact h.put oB oC Y
      clear hq
      go_upto_region 5 with (fail)
      clear hc
      refine region_ends (by kernel_rfl) (fun W => W.cell? ⟨B, 7, none⟩ = some (.slice (some ⟨pb, po, none⟩) len2 cap2) ∧ W.cell? ⟨B, 5, none⟩ = some (.int .i64 m) ∧ W.rangeAt pb (po + t * 8) [.int .i64 z0, .int .i64 z1, .int .i64 z2, .int .i64 z3, .int .i64 z4, .int .i64 z5, .int .i64 z6, .int .i64 z7]) (fun a2 W' => a2 = ({ tmps := #[.agg #[.int .i64 r, .int .i64 s, .int .i64 b, .int .i64 o, .int .i64 d, .int .i64 m, va, vb, vc], .int .i64 idx, .pointer (some ⟨B, 0, none⟩), undef, .pointer (some ⟨R, 0, none⟩), .pointer (some ⟨C, 0, none⟩), .int .i64 (t : Int), .agg #[.int .i64 r, .int .i64 s, .int .i64 b, .int .i64 o, .int .i64 d, .int .i64 m, va, vb, vc], .int .i64 idx, .agg L0.toArray, .int .i64 (t : Int), .pointer (some ⟨B, 7, none⟩), .slice (some ⟨pb, po, none⟩) len2 cap2, .int .i64 (len2 : Int), .bool true, u15, u16, .pointer (some ⟨B, 7, none⟩), .slice (some ⟨pb, po, none⟩) len2 cap2, .int .i64 (t : Int), .pointer (some ⟨pb, po + t * 8, none⟩), .agg #[.int .i64 z0, .int .i64 z1, .int .i64 z2, .int .i64 z3, .int .i64 z4, .int .i64 z5, .int .i64 z6, .int .i64 z7], .pointer (some ⟨B, 5, none⟩), .int .i64 m, .int .i64 idx, .agg #[.int .i64 p0, .int .i64 p1, .int .i64 p2, .int .i64 p3], .agg L.toArray, .agg M.toArray, undef], defers := [] } : Act) ∧ ∃ W3, Below wr.heap.size wr W3 ∧ W' = W3.setCells C 0 M) (by obtain ⟨_, g1, g2, g3, g4, _⟩ := HC.out wr.drew (below_drew1 wr); exact ⟨g1, g2, g4⟩) (fun hH => ?reg) (fun a2 V3 hr => ?aft)
      case reg =>
        have hRB : ∀ (W3 : World) (X : Nat) (c : Nat) (v : Value), X ≠ C → W3.cell? ⟨X, c, none⟩ = some v → (W3.setCells C 0 M).cell? ⟨X, c, none⟩ = some v := fun W3 X c v hX h => (World.cell?_of_block (w := W3) (a := ⟨X, c, none⟩) (heap_puts C M 0 W3 X hX)).trans h
        have gr := (HC.out wr.drew (below_drew1 wr)).2.2.2.1
        refine take_pure 0 (v := .pointer (some ⟨B, 7, none⟩)) rfl (by kernel_rfl) rfl (fun w' hw => by simp [execOp, go_sem, Act.eval]) hH ?_
        show wpAnyH _ _ _ _ _ _ _ ({ tmps := #[.agg #[.int .i64 r, .int .i64 s, .int .i64 b, .int .i64 o, .int .i64 d, .int .i64 m, va, vb, vc], .int .i64 idx, .pointer (some ⟨B, 0, none⟩), undef, .pointer (some ⟨R, 0, none⟩), .pointer (some ⟨C, 0, none⟩), .int .i64 (t : Int), .agg #[.int .i64 r, .int .i64 s, .int .i64 b, .int .i64 o, .int .i64 d, .int .i64 m, va, vb, vc], .int .i64 idx, .agg L0.toArray, .int .i64 (t : Int), .pointer (some ⟨B, 7, none⟩), .slice (some ⟨pb, po, none⟩) len2 cap2, .int .i64 (len2 : Int), .bool true, u15, u16, .pointer (some ⟨B, 7, none⟩), u18, u19, u20, u21, u22, u23, u24, u25, u26, u27, undef], defers := [] } : Act) _
        refine take_pure 1 (v := .slice (some ⟨pb, po, none⟩) len2 cap2) rfl (by kernel_rfl) rfl (fun w' hw => by simp [execOp, go_sem, Act.eval, hw.1]) hH ?_
        show wpAnyH _ _ _ _ _ _ _ ({ tmps := #[.agg #[.int .i64 r, .int .i64 s, .int .i64 b, .int .i64 o, .int .i64 d, .int .i64 m, va, vb, vc], .int .i64 idx, .pointer (some ⟨B, 0, none⟩), undef, .pointer (some ⟨R, 0, none⟩), .pointer (some ⟨C, 0, none⟩), .int .i64 (t : Int), .agg #[.int .i64 r, .int .i64 s, .int .i64 b, .int .i64 o, .int .i64 d, .int .i64 m, va, vb, vc], .int .i64 idx, .agg L0.toArray, .int .i64 (t : Int), .pointer (some ⟨B, 7, none⟩), .slice (some ⟨pb, po, none⟩) len2 cap2, .int .i64 (len2 : Int), .bool true, u15, u16, .pointer (some ⟨B, 7, none⟩), .slice (some ⟨pb, po, none⟩) len2 cap2, u19, u20, u21, u22, u23, u24, u25, u26, u27, undef], defers := [] } : Act) _
        refine take_pure 2 (v := .int .i64 (t : Int)) rfl (by kernel_rfl) rfl (fun w' hw => by simp [execOp, go_sem, Act.eval]) hH ?_
        show wpAnyH _ _ _ _ _ _ _ ({ tmps := #[.agg #[.int .i64 r, .int .i64 s, .int .i64 b, .int .i64 o, .int .i64 d, .int .i64 m, va, vb, vc], .int .i64 idx, .pointer (some ⟨B, 0, none⟩), undef, .pointer (some ⟨R, 0, none⟩), .pointer (some ⟨C, 0, none⟩), .int .i64 (t : Int), .agg #[.int .i64 r, .int .i64 s, .int .i64 b, .int .i64 o, .int .i64 d, .int .i64 m, va, vb, vc], .int .i64 idx, .agg L0.toArray, .int .i64 (t : Int), .pointer (some ⟨B, 7, none⟩), .slice (some ⟨pb, po, none⟩) len2 cap2, .int .i64 (len2 : Int), .bool true, u15, u16, .pointer (some ⟨B, 7, none⟩), .slice (some ⟨pb, po, none⟩) len2 cap2, .int .i64 (t : Int), u20, u21, u22, u23, u24, u25, u26, u27, undef], defers := [] } : Act) _
        refine take_pure 3 (v := .pointer (some ⟨pb, po + t * 8, none⟩)) rfl (by kernel_rfl) rfl (fun w' hw => by simp [execOp, go_sem, Act.eval, hlt]) hH ?_
        show wpAnyH _ _ _ _ _ _ _ ({ tmps := #[.agg #[.int .i64 r, .int .i64 s, .int .i64 b, .int .i64 o, .int .i64 d, .int .i64 m, va, vb, vc], .int .i64 idx, .pointer (some ⟨B, 0, none⟩), undef, .pointer (some ⟨R, 0, none⟩), .pointer (some ⟨C, 0, none⟩), .int .i64 (t : Int), .agg #[.int .i64 r, .int .i64 s, .int .i64 b, .int .i64 o, .int .i64 d, .int .i64 m, va, vb, vc], .int .i64 idx, .agg L0.toArray, .int .i64 (t : Int), .pointer (some ⟨B, 7, none⟩), .slice (some ⟨pb, po, none⟩) len2 cap2, .int .i64 (len2 : Int), .bool true, u15, u16, .pointer (some ⟨B, 7, none⟩), .slice (some ⟨pb, po, none⟩) len2 cap2, .int .i64 (t : Int), .pointer (some ⟨pb, po + t * 8, none⟩), u21, u22, u23, u24, u25, u26, u27, undef], defers := [] } : Act) _
        refine take_if 4 (v := .agg #[.int .i64 z0, .int .i64 z1, .int .i64 z2, .int .i64 z3, .int .i64 z4, .int .i64 z5, .int .i64 z6, .int .i64 z7]) rfl (by kernel_rfl) (yieldsIf_load_mid (by rfl) _ _ rfl pb (po + t * 8) rfl [.int .i64 z0, .int .i64 z1, .int .i64 z2, .int .i64 z3, .int .i64 z4, .int .i64 z5, .int .i64 z6, .int .i64 z7] _ (fun w' hw => hw.2.2) Try.underlying51 rfl infoF12t) hH ?_
        show wpAnyH _ _ _ _ _ _ _ ({ tmps := #[.agg #[.int .i64 r, .int .i64 s, .int .i64 b, .int .i64 o, .int .i64 d, .int .i64 m, va, vb, vc], .int .i64 idx, .pointer (some ⟨B, 0, none⟩), undef, .pointer (some ⟨R, 0, none⟩), .pointer (some ⟨C, 0, none⟩), .int .i64 (t : Int), .agg #[.int .i64 r, .int .i64 s, .int .i64 b, .int .i64 o, .int .i64 d, .int .i64 m, va, vb, vc], .int .i64 idx, .agg L0.toArray, .int .i64 (t : Int), .pointer (some ⟨B, 7, none⟩), .slice (some ⟨pb, po, none⟩) len2 cap2, .int .i64 (len2 : Int), .bool true, u15, u16, .pointer (some ⟨B, 7, none⟩), .slice (some ⟨pb, po, none⟩) len2 cap2, .int .i64 (t : Int), .pointer (some ⟨pb, po + t * 8, none⟩), .agg #[.int .i64 z0, .int .i64 z1, .int .i64 z2, .int .i64 z3, .int .i64 z4, .int .i64 z5, .int .i64 z6, .int .i64 z7], u22, u23, u24, u25, u26, u27, undef], defers := [] } : Act) _
        refine take_pure 5 (v := .pointer (some ⟨B, 5, none⟩)) rfl (by kernel_rfl) rfl (fun w' hw => by simp [execOp, go_sem, Act.eval]) hH ?_
        show wpAnyH _ _ _ _ _ _ _ ({ tmps := #[.agg #[.int .i64 r, .int .i64 s, .int .i64 b, .int .i64 o, .int .i64 d, .int .i64 m, va, vb, vc], .int .i64 idx, .pointer (some ⟨B, 0, none⟩), undef, .pointer (some ⟨R, 0, none⟩), .pointer (some ⟨C, 0, none⟩), .int .i64 (t : Int), .agg #[.int .i64 r, .int .i64 s, .int .i64 b, .int .i64 o, .int .i64 d, .int .i64 m, va, vb, vc], .int .i64 idx, .agg L0.toArray, .int .i64 (t : Int), .pointer (some ⟨B, 7, none⟩), .slice (some ⟨pb, po, none⟩) len2 cap2, .int .i64 (len2 : Int), .bool true, u15, u16, .pointer (some ⟨B, 7, none⟩), .slice (some ⟨pb, po, none⟩) len2 cap2, .int .i64 (t : Int), .pointer (some ⟨pb, po + t * 8, none⟩), .agg #[.int .i64 z0, .int .i64 z1, .int .i64 z2, .int .i64 z3, .int .i64 z4, .int .i64 z5, .int .i64 z6, .int .i64 z7], .pointer (some ⟨B, 5, none⟩), u23, u24, u25, u26, u27, undef], defers := [] } : Act) _
        refine take_pure 6 (v := .int .i64 m) rfl (by kernel_rfl) rfl (fun w' hw => by simp [execOp, go_sem, Act.eval, hw.2.1]) hH ?_
        show wpAnyH _ _ _ _ _ _ _ ({ tmps := #[.agg #[.int .i64 r, .int .i64 s, .int .i64 b, .int .i64 o, .int .i64 d, .int .i64 m, va, vb, vc], .int .i64 idx, .pointer (some ⟨B, 0, none⟩), undef, .pointer (some ⟨R, 0, none⟩), .pointer (some ⟨C, 0, none⟩), .int .i64 (t : Int), .agg #[.int .i64 r, .int .i64 s, .int .i64 b, .int .i64 o, .int .i64 d, .int .i64 m, va, vb, vc], .int .i64 idx, .agg L0.toArray, .int .i64 (t : Int), .pointer (some ⟨B, 7, none⟩), .slice (some ⟨pb, po, none⟩) len2 cap2, .int .i64 (len2 : Int), .bool true, u15, u16, .pointer (some ⟨B, 7, none⟩), .slice (some ⟨pb, po, none⟩) len2 cap2, .int .i64 (t : Int), .pointer (some ⟨pb, po + t * 8, none⟩), .agg #[.int .i64 z0, .int .i64 z1, .int .i64 z2, .int .i64 z3, .int .i64 z4, .int .i64 z5, .int .i64 z6, .int .i64 z7], .pointer (some ⟨B, 5, none⟩), .int .i64 m, u24, u25, u26, u27, undef], defers := [] } : Act) _
        refine take_pure 7 (v := .int .i64 idx) rfl (by kernel_rfl) rfl (fun w' hw => by simp [execOp, go_sem, Act.eval]) hH ?_
        show wpAnyH _ _ _ _ _ _ _ ({ tmps := #[.agg #[.int .i64 r, .int .i64 s, .int .i64 b, .int .i64 o, .int .i64 d, .int .i64 m, va, vb, vc], .int .i64 idx, .pointer (some ⟨B, 0, none⟩), undef, .pointer (some ⟨R, 0, none⟩), .pointer (some ⟨C, 0, none⟩), .int .i64 (t : Int), .agg #[.int .i64 r, .int .i64 s, .int .i64 b, .int .i64 o, .int .i64 d, .int .i64 m, va, vb, vc], .int .i64 idx, .agg L0.toArray, .int .i64 (t : Int), .pointer (some ⟨B, 7, none⟩), .slice (some ⟨pb, po, none⟩) len2 cap2, .int .i64 (len2 : Int), .bool true, u15, u16, .pointer (some ⟨B, 7, none⟩), .slice (some ⟨pb, po, none⟩) len2 cap2, .int .i64 (t : Int), .pointer (some ⟨pb, po + t * 8, none⟩), .agg #[.int .i64 z0, .int .i64 z1, .int .i64 z2, .int .i64 z3, .int .i64 z4, .int .i64 z5, .int .i64 z6, .int .i64 z7], .pointer (some ⟨B, 5, none⟩), .int .i64 m, .int .i64 idx, u25, u26, u27, undef], defers := [] } : Act) _
        refine take_two 8 9 rfl rfl rfl rfl (by kernel_rfl) ?_ ?_
        · refine wp_contract 44 [.tmp 24] _ rfl (enters_of Try.func44 (by kernel_rfl) rfl) [.int .i64 idx] rfl (CP.out _) ?_
          rintro e W2 ⟨rfl, b2⟩
          have B2 : Below wr.heap.size wr W2 := (below_drew1 wr).trans (b2.mono (below_drew1 wr).size)
          obtain ⟨_, g1, g2, g3, g4, _⟩ := HC.out W2 B2
          refine ⟨_, rfl, ⟨g1, g2, g4⟩, fun hH => ?_⟩
          show wpAnyH _ _ _ _ _ _ _ ({ tmps := #[.agg #[.int .i64 r, .int .i64 s, .int .i64 b, .int .i64 o, .int .i64 d, .int .i64 m, va, vb, vc], .int .i64 idx, .pointer (some ⟨B, 0, none⟩), undef, .pointer (some ⟨R, 0, none⟩), .pointer (some ⟨C, 0, none⟩), .int .i64 (t : Int), .agg #[.int .i64 r, .int .i64 s, .int .i64 b, .int .i64 o, .int .i64 d, .int .i64 m, va, vb, vc], .int .i64 idx, .agg L0.toArray, .int .i64 (t : Int), .pointer (some ⟨B, 7, none⟩), .slice (some ⟨pb, po, none⟩) len2 cap2, .int .i64 (len2 : Int), .bool true, u15, u16, .pointer (some ⟨B, 7, none⟩), .slice (some ⟨pb, po, none⟩) len2 cap2, .int .i64 (t : Int), .pointer (some ⟨pb, po + t * 8, none⟩), .agg #[.int .i64 z0, .int .i64 z1, .int .i64 z2, .int .i64 z3, .int .i64 z4, .int .i64 z5, .int .i64 z6, .int .i64 z7], .pointer (some ⟨B, 5, none⟩), .int .i64 m, .int .i64 idx, .agg #[.int .i64 p0, .int .i64 p1, .int .i64 p2, .int .i64 p3], u26, u27, undef], defers := [] } : Act) _
          refine take_one 9 rfl rfl (by kernel_rfl) ?_
          refine wp_load_mid 39 _ rfl C 0 rfl L _ g3 Try.underlying39 rfl i0 ?_
          refine ⟨⟨g1, g2, g4⟩, fun hH => ?_⟩
          show wpAnyH _ _ _ _ _ _ _ ({ tmps := #[.agg #[.int .i64 r, .int .i64 s, .int .i64 b, .int .i64 o, .int .i64 d, .int .i64 m, va, vb, vc], .int .i64 idx, .pointer (some ⟨B, 0, none⟩), undef, .pointer (some ⟨R, 0, none⟩), .pointer (some ⟨C, 0, none⟩), .int .i64 (t : Int), .agg #[.int .i64 r, .int .i64 s, .int .i64 b, .int .i64 o, .int .i64 d, .int .i64 m, va, vb, vc], .int .i64 idx, .agg L0.toArray, .int .i64 (t : Int), .pointer (some ⟨B, 7, none⟩), .slice (some ⟨pb, po, none⟩) len2 cap2, .int .i64 (len2 : Int), .bool true, u15, u16, .pointer (some ⟨B, 7, none⟩), .slice (some ⟨pb, po, none⟩) len2 cap2, .int .i64 (t : Int), .pointer (some ⟨pb, po + t * 8, none⟩), .agg #[.int .i64 z0, .int .i64 z1, .int .i64 z2, .int .i64 z3, .int .i64 z4, .int .i64 z5, .int .i64 z6, .int .i64 z7], .pointer (some ⟨B, 5, none⟩), .int .i64 m, .int .i64 idx, .agg #[.int .i64 p0, .int .i64 p1, .int .i64 p2, .int .i64 p3], .agg L.toArray, u27, undef], defers := [] } : Act) _
          refine take_one 10 rfl rfl (by kernel_rfl) ?_
          refine wp_contract 46 [.tmp 21, .tmp 23, .tmp 25, .tmp 26] _ rfl (enters_of Try.func46 (by kernel_rfl) rfl) [.agg #[.int .i64 z0, .int .i64 z1, .int .i64 z2, .int .i64 z3, .int .i64 z4, .int .i64 z5, .int .i64 z6, .int .i64 z7], .int .i64 m, .agg #[.int .i64 p0, .int .i64 p1, .int .i64 p2, .int .i64 p3], .agg L.toArray] rfl (CB.out _) ?_
          rintro e W3 ⟨rfl, b3⟩
          have B3 : Below wr.heap.size wr W3 := B2.trans (b3.mono B2.size)
          obtain ⟨f0, f1, f2, f3, f4, f5, f6⟩ := HC.out W3 B3
          refine ⟨_, rfl, ⟨f1, f2, f4⟩, fun hH => ?_⟩
          show wpAnyH _ _ _ _ _ _ _ ({ tmps := #[.agg #[.int .i64 r, .int .i64 s, .int .i64 b, .int .i64 o, .int .i64 d, .int .i64 m, va, vb, vc], .int .i64 idx, .pointer (some ⟨B, 0, none⟩), undef, .pointer (some ⟨R, 0, none⟩), .pointer (some ⟨C, 0, none⟩), .int .i64 (t : Int), .agg #[.int .i64 r, .int .i64 s, .int .i64 b, .int .i64 o, .int .i64 d, .int .i64 m, va, vb, vc], .int .i64 idx, .agg L0.toArray, .int .i64 (t : Int), .pointer (some ⟨B, 7, none⟩), .slice (some ⟨pb, po, none⟩) len2 cap2, .int .i64 (len2 : Int), .bool true, u15, u16, .pointer (some ⟨B, 7, none⟩), .slice (some ⟨pb, po, none⟩) len2 cap2, .int .i64 (t : Int), .pointer (some ⟨pb, po + t * 8, none⟩), .agg #[.int .i64 z0, .int .i64 z1, .int .i64 z2, .int .i64 z3, .int .i64 z4, .int .i64 z5, .int .i64 z6, .int .i64 z7], .pointer (some ⟨B, 5, none⟩), .int .i64 m, .int .i64 idx, .agg #[.int .i64 p0, .int .i64 p1, .int .i64 p2, .int .i64 p3], .agg L.toArray, .agg M.toArray, undef], defers := [] } : Act) _
          refine take_one 11 rfl rfl (by kernel_rfl) ?_
          refine wp_store_mid 39 _ _ rfl C 0 M.toArray rfl rfl f5 j9 one1 ?_
          refine ⟨?_, fun hH => ?_⟩
          · exact ⟨hRB W3 B 7 _ (by omega) f1, hRB W3 B 5 _ (by omega) f2, fun j v hv => hRB W3 pb _ v (by omega) (f4 j v hv)⟩
          · exact wpAnyH_done (by kernel_rfl) ⟨rfl, W3, B3, rfl⟩ _
        · refine wp_load_mid 39 _ rfl C 0 rfl L _ gr Try.underlying39 rfl i0 ?_
          refine ⟨hH, fun hH => ?_⟩
          show wpAnyH _ _ _ _ _ _ _ ({ tmps := #[.agg #[.int .i64 r, .int .i64 s, .int .i64 b, .int .i64 o, .int .i64 d, .int .i64 m, va, vb, vc], .int .i64 idx, .pointer (some ⟨B, 0, none⟩), undef, .pointer (some ⟨R, 0, none⟩), .pointer (some ⟨C, 0, none⟩), .int .i64 (t : Int), .agg #[.int .i64 r, .int .i64 s, .int .i64 b, .int .i64 o, .int .i64 d, .int .i64 m, va, vb, vc], .int .i64 idx, .agg L0.toArray, .int .i64 (t : Int), .pointer (some ⟨B, 7, none⟩), .slice (some ⟨pb, po, none⟩) len2 cap2, .int .i64 (len2 : Int), .bool true, u15, u16, .pointer (some ⟨B, 7, none⟩), .slice (some ⟨pb, po, none⟩) len2 cap2, .int .i64 (t : Int), .pointer (some ⟨pb, po + t * 8, none⟩), .agg #[.int .i64 z0, .int .i64 z1, .int .i64 z2, .int .i64 z3, .int .i64 z4, .int .i64 z5, .int .i64 z6, .int .i64 z7], .pointer (some ⟨B, 5, none⟩), .int .i64 m, .int .i64 idx, u25, .agg L.toArray, u27, undef], defers := [] } : Act) _
          refine take_one 8 rfl rfl (by kernel_rfl) ?_
          refine wp_contract 44 [.tmp 24] _ rfl (enters_of Try.func44 (by kernel_rfl) rfl) [.int .i64 idx] rfl (CP.out _) ?_
          rintro e W2 ⟨rfl, b2⟩
          have B2 : Below wr.heap.size wr W2 := (below_drew1 wr).trans (b2.mono (below_drew1 wr).size)
          obtain ⟨_, g1, g2, g3, g4, _⟩ := HC.out W2 B2
          refine ⟨_, rfl, ⟨g1, g2, g4⟩, fun hH => ?_⟩
          show wpAnyH _ _ _ _ _ _ _ ({ tmps := #[.agg #[.int .i64 r, .int .i64 s, .int .i64 b, .int .i64 o, .int .i64 d, .int .i64 m, va, vb, vc], .int .i64 idx, .pointer (some ⟨B, 0, none⟩), undef, .pointer (some ⟨R, 0, none⟩), .pointer (some ⟨C, 0, none⟩), .int .i64 (t : Int), .agg #[.int .i64 r, .int .i64 s, .int .i64 b, .int .i64 o, .int .i64 d, .int .i64 m, va, vb, vc], .int .i64 idx, .agg L0.toArray, .int .i64 (t : Int), .pointer (some ⟨B, 7, none⟩), .slice (some ⟨pb, po, none⟩) len2 cap2, .int .i64 (len2 : Int), .bool true, u15, u16, .pointer (some ⟨B, 7, none⟩), .slice (some ⟨pb, po, none⟩) len2 cap2, .int .i64 (t : Int), .pointer (some ⟨pb, po + t * 8, none⟩), .agg #[.int .i64 z0, .int .i64 z1, .int .i64 z2, .int .i64 z3, .int .i64 z4, .int .i64 z5, .int .i64 z6, .int .i64 z7], .pointer (some ⟨B, 5, none⟩), .int .i64 m, .int .i64 idx, .agg #[.int .i64 p0, .int .i64 p1, .int .i64 p2, .int .i64 p3], .agg L.toArray, u27, undef], defers := [] } : Act) _
          refine take_one 10 rfl rfl (by kernel_rfl) ?_
          refine wp_contract 46 [.tmp 21, .tmp 23, .tmp 25, .tmp 26] _ rfl (enters_of Try.func46 (by kernel_rfl) rfl) [.agg #[.int .i64 z0, .int .i64 z1, .int .i64 z2, .int .i64 z3, .int .i64 z4, .int .i64 z5, .int .i64 z6, .int .i64 z7], .int .i64 m, .agg #[.int .i64 p0, .int .i64 p1, .int .i64 p2, .int .i64 p3], .agg L.toArray] rfl (CB.out _) ?_
          rintro e W3 ⟨rfl, b3⟩
          have B3 : Below wr.heap.size wr W3 := B2.trans (b3.mono B2.size)
          obtain ⟨f0, f1, f2, f3, f4, f5, f6⟩ := HC.out W3 B3
          refine ⟨_, rfl, ⟨f1, f2, f4⟩, fun hH => ?_⟩
          show wpAnyH _ _ _ _ _ _ _ ({ tmps := #[.agg #[.int .i64 r, .int .i64 s, .int .i64 b, .int .i64 o, .int .i64 d, .int .i64 m, va, vb, vc], .int .i64 idx, .pointer (some ⟨B, 0, none⟩), undef, .pointer (some ⟨R, 0, none⟩), .pointer (some ⟨C, 0, none⟩), .int .i64 (t : Int), .agg #[.int .i64 r, .int .i64 s, .int .i64 b, .int .i64 o, .int .i64 d, .int .i64 m, va, vb, vc], .int .i64 idx, .agg L0.toArray, .int .i64 (t : Int), .pointer (some ⟨B, 7, none⟩), .slice (some ⟨pb, po, none⟩) len2 cap2, .int .i64 (len2 : Int), .bool true, u15, u16, .pointer (some ⟨B, 7, none⟩), .slice (some ⟨pb, po, none⟩) len2 cap2, .int .i64 (t : Int), .pointer (some ⟨pb, po + t * 8, none⟩), .agg #[.int .i64 z0, .int .i64 z1, .int .i64 z2, .int .i64 z3, .int .i64 z4, .int .i64 z5, .int .i64 z6, .int .i64 z7], .pointer (some ⟨B, 5, none⟩), .int .i64 m, .int .i64 idx, .agg #[.int .i64 p0, .int .i64 p1, .int .i64 p2, .int .i64 p3], .agg L.toArray, .agg M.toArray, undef], defers := [] } : Act) _
          refine take_one 11 rfl rfl (by kernel_rfl) ?_
          refine wp_store_mid 39 _ _ rfl C 0 M.toArray rfl rfl f5 j9 one1 ?_
          refine ⟨?_, fun hH => ?_⟩
          · exact ⟨hRB W3 B 7 _ (by omega) f1, hRB W3 B 5 _ (by omega) f2, fun j v hv => hRB W3 pb _ v (by omega) (f4 j v hv)⟩
          · exact wpAnyH_done (by kernel_rfl) ⟨rfl, W3, B3, rfl⟩ _
      case aft =>
        obtain ⟨rfl, W3, h3, rfl⟩ := hr
        have HT : Hid (Lt12 B R C r s b o d m va vb vc Y w (W3.setCells C 0 M)) := (HC.out W3 h3).2.2.2.2.2.2
        clear HC CB
        go_wp2
        go_roundw
        case rel => exact ⟨t + 1, by omega, by go_num, by rw [hY]; exact HT⟩
        case measure => simp [intOf]; omega
    · obtain rfl : t = len2 := by omega
      obtain ⟨X, hX⟩ : ∃ X, ovF n Z p0 p1 p2 p3 F t = X := ⟨_, rfl⟩
      rw [hX] at HS
      have HX : Hid (ovF n Z p0 p1 p2 p3 F t = X) := hX
      clear hX HA HR
      obtain ⟨L, hL⟩ : ∃ L, ints .u8 72 X = L := ⟨_, rfl⟩
      have hrr := HS.out.r.range
      have ht2 := Bk.there HS.out.e .u8 X
      have i0 : (Try.prog.info? 39).map (·.size) = some L.length := by rw [← hL, ints_len]; exact infoA9
      have j9 : (Try.prog.info? 39).map (·.size) = some L.toArray.size := by simpa using i0
      have one1 : L.toArray.all (·.oneCell') = true := by rw [← hL]; exact ints_one .u8 72 X
      rw [hL] at hrr ht2
      have HLL : Hid (ints .u8 72 X = L) := hL
      clear hL
      go_wp2_with (first | refine wpList_load_mid rfl 39 _ rfl C 0 rfl L _ hrr Try.underlying39 rfl i0 ?_ | refine wpList_store_mid rfl 39 _ _ rfl R 0 L.toArray rfl rfl ht2 j9 one1 ?_)
      have hs2 : (World.setCells wr R 0 L).rangeAt R 0 L := World.rangeAt_setCells_same wr _ 0 L (by simpa using ht2)
      have hld := run_loadVar_mid (P := Try.prog) (World.setCells wr R 0 L) R 0 39 L _ hs2 Try.underlying39 rfl i0
      refine bodyPost_ret (v := .agg L.toArray) ?_ rfl ⟨by rw [HX.out, HLL.out], by first | exact belows_put (by omega) _ 0 HS.out.n | (rw [hB]; exact belows_put (by omega) _ 0 HS.out.n)⟩
      simp [results, Try.f19, Act.put, asAddr, hld]
end Go.Proofs.Ytcpjmfemgdgplaa
