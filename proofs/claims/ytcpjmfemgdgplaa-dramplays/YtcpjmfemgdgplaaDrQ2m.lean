/-
  The document's Inject, with the block of the new faults.
-/
import Derived.Test.YtcpjmfemgdgplaaM17
namespace Go.Proofs.Ytcpjmfemgdgplaa
open Go.RowKit Go.Shelf
open Ge (pw rt hd ix)
attribute [local go_sem] Oper.semAt_some

set_option maxRecDepth 100000 in
set_option maxHeartbeats 4000000 in
theorem inj12_lastL (r s b o d m : Int) (k p q u v c i x : Int) (a : Option Addr) (len cap : Nat) (Z : Nat → Nat → Int) (va vc : Value) (hl9 : len < 256) (hwf : ∀ j, j < 8 → (Lit.int .i64 (ffn k p q u v c i x j)).wf = true) (w : World) (ha : va.oneCell' = true) (hb : vc.oneCell' = true) (hk1 : k ≠ 1) (hk2 : k ≤ 5) (hri : Ri12 r s b o d m k p q u v c i x true) (hs : Fs w a len cap Z) :
    Calls Try.prog 37 #[.agg #[.int .i64 r, .int .i64 s, .int .i64 b, .int .i64 o, .int .i64 d, .int .i64 m, va, .slice a len cap, vc], .agg #[.int .i64 k, .int .i64 p, .int .i64 q, .int .i64 u, .int .i64 v, .int .i64 c, .int .i64 i, .int .i64 x]] w fun e w' => ∃ a' c', e = .returned (.tuple #[.agg #[.int .i64 r, .int .i64 s, .int .i64 b, .int .i64 o, .int .i64 d, .int .i64 m, va, .slice a' (len + 1) c', vc], .int .i64 0]) ∧ Fs w' a' (len + 1) c' (snZ Z len (ffn k p q u v c i x)) ∧ Below w.heap.size w w' ∧ ∀ g o, a' = some ⟨g, o, none⟩ → w.heap.size ≤ g := by
  have CM : Hid (∀ W, Below w.heap.size w W → Calls Try.prog 68 #[.slice a len cap, .agg #[.int .i64 k, .int .i64 p, .int .i64 q, .int .i64 u, .int .i64 v, .int .i64 c, .int .i64 i, .int .i64 x]] W fun e w' => ∃ a' c', e = .returned (.slice a' (len + 1) c') ∧ Fs w' a' (len + 1) c' (snZ Z len (ffn k p q u v c i x)) ∧ Below W.heap.size W w' ∧ ∀ g o, a' = some ⟨g, o, none⟩ → W.heap.size ≤ g) := fun W hW => more12_any a len cap Z (by omega) k p q u v c i x hwf W (hs.below hW)
  clear hwf hs
  obtain ⟨vb, HV1⟩ : ∃ y : Value, Hid (Value.slice a len cap = y ∧ y.oneCell' = true) := ⟨_, rfl, rfl⟩
  have HV : Hid (va.oneCell' = true ∧ vb.oneCell' = true ∧ vc.oneCell' = true) := ⟨ha, HV1.out.2, hb⟩
  have HRI : Hid (Ri12 r s b o d m k p q u v c i x true) := hri
  clear ha hb hri
  rw [HV1.out.1]
  go_enter Try.func37, Try.ntmps37
  go_upto_region 1 with (fail)
  obtain ⟨B, hB⟩ : ∃ B, w.heap.size = B := ⟨_, rfl⟩
  obtain ⟨C, hC⟩ : ∃ C, B + 1 = C := ⟨_, rfl⟩
  obtain ⟨R, hR⟩ : ∃ R, C + 1 = R := ⟨_, rfl⟩
  obtain ⟨V, hV⟩ : ∃ V, ((w.alloc (.cells #[.int .i64 r, .int .i64 s, .int .i64 b, .int .i64 o, .int .i64 d, .int .i64 m, va, vb, vc] 34)).alloc (.cells #[.int .i64 k, .int .i64 p, .int .i64 q, .int .i64 u, .int .i64 v, .int .i64 c, .int .i64 i, .int .i64 x] 51)).alloc (.cells #[.int .i64 0, .int .i64 0, .int .i64 0, .int .i64 0, .int .i64 0, .int .i64 0, .slice none 0 0, .slice none 0 0, .slice none 0 0] 34) = V := ⟨_, rfl⟩
  have HS : Hid (Jt12 B C R r s b o d m va vb vc k p q u v c i x w V) := by
    have a1 := Ft.new (w.alloc (.cells #[.int .i64 r, .int .i64 s, .int .i64 b, .int .i64 o, .int .i64 d, .int .i64 m, va, vb, vc] 34)) k p q u v c i x 51
    have a2 := Cb.new ((w.alloc (.cells #[.int .i64 r, .int .i64 s, .int .i64 b, .int .i64 o, .int .i64 d, .int .i64 m, va, vb, vc] 34)).alloc (.cells #[.int .i64 k, .int .i64 p, .int .i64 q, .int .i64 u, .int .i64 v, .int .i64 c, .int .i64 i, .int .i64 x] 51)) (dl 0 0 0 0 0 0 (.slice none 0 0) (.slice none 0 0) (.slice none 0 0)) 34
    simp only [World.size_alloc] at a1 a2
    rw [← hV, ← hR, ← hC, ← hB]
    exact ⟨((Cb.new w (dl r s b o d m va vb vc) _).alloc _).alloc _, a1.alloc _, a2, (((Below.refl _ w).alloc (Nat.le_refl _) _).alloc (by simp) _).alloc (by simp; omega) _⟩
  rw [hV, hB, hC, hR]
  clear hV
  have hr := HS.out.f.range
  have hg := HS.out.d.rangeAt 0 [.int .i64 r, .int .i64 s, .int .i64 b, .int .i64 o, .int .i64 d] rfl
  have hm := HS.out.d.cell (i := 5) (v := .int .i64 m) rfl
  go_wp2_with (first
    | refine wpList_load_mid rfl 51 _ rfl C 0 rfl [.int .i64 k, .int .i64 p, .int .i64 q, .int .i64 u, .int .i64 v, .int .i64 c, .int .i64 i, .int .i64 x] _ hr Try.underlying51 rfl infoF12t ?_
    | refine wpList_load_mid rfl 30 _ rfl B 0 rfl [.int .i64 r, .int .i64 s, .int .i64 b, .int .i64 o, .int .i64 d] _ hg Try.underlying30 rfl infoG12 ?_)
  refine (HRI.out _).mono ?_
  rintro e W1 ⟨rfl, b1⟩
  replace HS : Hid (Jt12 B C R r s b o d m va vb vc k p q u v c i x w W1) := HS.out.next b1
  have lR : R < W1.heap.size := HS.out.e.lt
  clear hr hg hm b1
  have h0 := HS.out.f.c0
  have hl := HS.out.d.cell (i := 7) (v := vb) rfl
  rw [← HV1.out.1] at hl
  have hr := HS.out.f.range
  have hn1 : Below w.heap.size w W1 := by rw [hB]; exact HS.out.n
  go_upto_region 13 with (fail)
  go_wp2_with (first
    | refine wpList_load_mid rfl 51 _ rfl C 0 rfl [.int .i64 k, .int .i64 p, .int .i64 q, .int .i64 u, .int .i64 v, .int .i64 c, .int .i64 i, .int .i64 x] _ hr Try.underlying51 rfl infoF12t ?_)
  refine (CM.out _ hn1).mono ?_
  rintro e W2 ⟨a', c', rfl, hfs, b2, hlow⟩
  replace HS : Hid (Jt12 B C R r s b o d m va vb vc k p q u v c i x w W2) := HS.out.next b2
  have hlow2 : Hid (∀ g o, a' = some ⟨g, o, none⟩ → R < g) := fun g o e => by
    have h1 := hlow g o e
    have h2 : R < W1.heap.size := lR
    omega
  clear hr h0 hl b2 hlow hn1
  have hf := HS.out.d.free 7
  have hc := HS.out.d.cell (i := 7) (v := vb) rfl
  go_upto_region 14 with (fail)
  obtain ⟨sv, hsv⟩ : ∃ sv, Value.slice a' (len + 1) c' = sv := ⟨_, rfl⟩
  have HSV : Hid (Value.slice a' (len + 1) c' = sv ∧ sv.oneCell' = true) := ⟨hsv, by rw [← hsv]; rfl⟩
  rw [hsv]
  obtain ⟨W3, hW3⟩ : ∃ W3, W2.setCell ⟨B, 7, none⟩ sv = W3 := ⟨_, rfl⟩
  have HF : Hid (Fs W3 a' (len + 1) c' (snZ Z len (ffn k p q u v c i x))) := by
    rw [← hW3]
    refine fs_of12 hfs fun g o e => ?_
    have := hlow2.out g o e
    exact Below.heap_setCell W2 ⟨B, 7, none⟩ sv g (by show g ≠ B; omega)
  replace HS : Hid (Jt12 B C R r s b o d m va sv vc k p q u v c i x w W3) := by
    rw [← hW3]
    exact ⟨HS.out.d.set 7 sv, Bk.of HS.out.f (Below.heap_setCell W2 ⟨B, 7, none⟩ sv C (by show C ≠ B; omega)), HS.out.e.other (by omega) 7 sv, below_set12 (Nat.le_refl _) HS.out.n⟩
  rw [hW3]
  clear hW3 hf hc hsv hfs
  have hr1 := HS.out.d.range
  obtain ⟨A9, hA9⟩ : ∃ A, dl r s b o d m va sv vc = A := ⟨_, rfl⟩
  have i9 : (Try.prog.info? 34).map (·.size) = some A9.length := by rw [← hA9]; exact infoD12
  have j9 : (Try.prog.info? 34).map (·.size) = some A9.toArray.size := by rw [← hA9]; exact infoD12
  have ht2 : W3.there R 0 A9.toArray.size := by rw [← hA9]; exact HS.out.e.thereAt 0 9 (by simp [dl])
  have one1 : A9.toArray.all (·.oneCell') = true := by rw [← hA9]; exact dl_one r s b o d m va sv vc HV.out.1 HSV.out.2 HV.out.2.2
  rw [hA9] at hr1
  go_wp2_with (first
    | refine wpList_load_mid rfl 34 _ rfl B 0 rfl A9 _ hr1 Try.underlying34 rfl i9 ?_
    | refine wpList_store_mid rfl 34 _ _ rfl R 0 A9.toArray rfl rfl ht2 j9 one1 ?_)
  have hs2 : (World.setCells W3 R 0 A9).rangeAt R 0 A9 := World.rangeAt_setCells_same W3 _ 0 A9 (by simpa using ht2)
  have hld := run_loadVar_mid (P := Try.prog) (World.setCells W3 R 0 A9) R 0 34 A9 _ hs2 Try.underlying34 rfl i9
  refine bodyPost_ret (v := .tuple #[.agg A9.toArray, .int .i64 0]) ?_ rfl ⟨a', c', by rw [← hA9, HSV.out.1]; rfl, fs_of12 HF.out fun g o e => heap_puts R A9 0 W3 g (by have := hlow2.out g o e; omega), by first | exact belows_put (by omega) _ 0 HS.out.n | (rw [hB]; exact belows_put (by omega) _ 0 HS.out.n), fun g o e => by have := hlow2.out g o e; omega⟩
  simp [results, Try.f37, asAddr, hld]
set_option maxRecDepth 100000 in
set_option maxHeartbeats 4000000 in
theorem inj12_comeL (r s b o d m : Int) (k p q u v c i x : Int) (a : Option Addr) (len cap : Nat) (Z : Nat → Nat → Int) (va vb : Value) (hl9 : len < 256) (hwf : ∀ j, j < 8 → (Lit.int .i64 (ffn k p q u v c i x j)).wf = true) (w : World) (ha : va.oneCell' = true) (hb : vb.oneCell' = true) (hk2 : ¬ k ≤ 5) (hri : Ri12 r s b o d m k p q u v c i x true) (hs : Fs w a len cap Z) :
    Calls Try.prog 37 #[.agg #[.int .i64 r, .int .i64 s, .int .i64 b, .int .i64 o, .int .i64 d, .int .i64 m, va, vb, .slice a len cap], .agg #[.int .i64 k, .int .i64 p, .int .i64 q, .int .i64 u, .int .i64 v, .int .i64 c, .int .i64 i, .int .i64 x]] w fun e w' => ∃ a' c', e = .returned (.tuple #[.agg #[.int .i64 r, .int .i64 s, .int .i64 b, .int .i64 o, .int .i64 d, .int .i64 m, va, vb, .slice a' (len + 1) c'], .int .i64 0]) ∧ Fs w' a' (len + 1) c' (snZ Z len (ffn k p q u v c i x)) ∧ Below w.heap.size w w' ∧ ∀ g o, a' = some ⟨g, o, none⟩ → w.heap.size ≤ g := by
  have CM : Hid (∀ W, Below w.heap.size w W → Calls Try.prog 68 #[.slice a len cap, .agg #[.int .i64 k, .int .i64 p, .int .i64 q, .int .i64 u, .int .i64 v, .int .i64 c, .int .i64 i, .int .i64 x]] W fun e w' => ∃ a' c', e = .returned (.slice a' (len + 1) c') ∧ Fs w' a' (len + 1) c' (snZ Z len (ffn k p q u v c i x)) ∧ Below W.heap.size W w' ∧ ∀ g o, a' = some ⟨g, o, none⟩ → W.heap.size ≤ g) := fun W hW => more12_any a len cap Z (by omega) k p q u v c i x hwf W (hs.below hW)
  clear hwf hs
  have hk1 : k ≠ 1 := by omega
  obtain ⟨vc, HV1⟩ : ∃ y : Value, Hid (Value.slice a len cap = y ∧ y.oneCell' = true) := ⟨_, rfl, rfl⟩
  have HV : Hid (va.oneCell' = true ∧ vb.oneCell' = true ∧ vc.oneCell' = true) := ⟨ha, hb, HV1.out.2⟩
  have HRI : Hid (Ri12 r s b o d m k p q u v c i x true) := hri
  clear ha hb hri
  rw [HV1.out.1]
  go_enter Try.func37, Try.ntmps37
  go_upto_region 1 with (fail)
  obtain ⟨B, hB⟩ : ∃ B, w.heap.size = B := ⟨_, rfl⟩
  obtain ⟨C, hC⟩ : ∃ C, B + 1 = C := ⟨_, rfl⟩
  obtain ⟨R, hR⟩ : ∃ R, C + 1 = R := ⟨_, rfl⟩
  obtain ⟨V, hV⟩ : ∃ V, ((w.alloc (.cells #[.int .i64 r, .int .i64 s, .int .i64 b, .int .i64 o, .int .i64 d, .int .i64 m, va, vb, vc] 34)).alloc (.cells #[.int .i64 k, .int .i64 p, .int .i64 q, .int .i64 u, .int .i64 v, .int .i64 c, .int .i64 i, .int .i64 x] 51)).alloc (.cells #[.int .i64 0, .int .i64 0, .int .i64 0, .int .i64 0, .int .i64 0, .int .i64 0, .slice none 0 0, .slice none 0 0, .slice none 0 0] 34) = V := ⟨_, rfl⟩
  have HS : Hid (Jt12 B C R r s b o d m va vb vc k p q u v c i x w V) := by
    have a1 := Ft.new (w.alloc (.cells #[.int .i64 r, .int .i64 s, .int .i64 b, .int .i64 o, .int .i64 d, .int .i64 m, va, vb, vc] 34)) k p q u v c i x 51
    have a2 := Cb.new ((w.alloc (.cells #[.int .i64 r, .int .i64 s, .int .i64 b, .int .i64 o, .int .i64 d, .int .i64 m, va, vb, vc] 34)).alloc (.cells #[.int .i64 k, .int .i64 p, .int .i64 q, .int .i64 u, .int .i64 v, .int .i64 c, .int .i64 i, .int .i64 x] 51)) (dl 0 0 0 0 0 0 (.slice none 0 0) (.slice none 0 0) (.slice none 0 0)) 34
    simp only [World.size_alloc] at a1 a2
    rw [← hV, ← hR, ← hC, ← hB]
    exact ⟨((Cb.new w (dl r s b o d m va vb vc) _).alloc _).alloc _, a1.alloc _, a2, (((Below.refl _ w).alloc (Nat.le_refl _) _).alloc (by simp) _).alloc (by simp; omega) _⟩
  rw [hV, hB, hC, hR]
  clear hV
  have hr := HS.out.f.range
  have hg := HS.out.d.rangeAt 0 [.int .i64 r, .int .i64 s, .int .i64 b, .int .i64 o, .int .i64 d] rfl
  have hm := HS.out.d.cell (i := 5) (v := .int .i64 m) rfl
  go_wp2_with (first
    | refine wpList_load_mid rfl 51 _ rfl C 0 rfl [.int .i64 k, .int .i64 p, .int .i64 q, .int .i64 u, .int .i64 v, .int .i64 c, .int .i64 i, .int .i64 x] _ hr Try.underlying51 rfl infoF12t ?_
    | refine wpList_load_mid rfl 30 _ rfl B 0 rfl [.int .i64 r, .int .i64 s, .int .i64 b, .int .i64 o, .int .i64 d] _ hg Try.underlying30 rfl infoG12 ?_)
  refine (HRI.out _).mono ?_
  rintro e W1 ⟨rfl, b1⟩
  replace HS : Hid (Jt12 B C R r s b o d m va vb vc k p q u v c i x w W1) := HS.out.next b1
  have lR : R < W1.heap.size := HS.out.e.lt
  clear hr hg hm b1
  have h0 := HS.out.f.c0
  have hl := HS.out.d.cell (i := 8) (v := vc) rfl
  rw [← HV1.out.1] at hl
  have hr := HS.out.f.range
  have hn1 : Below w.heap.size w W1 := by rw [hB]; exact HS.out.n
  go_upto_region 17 with (fail)
  go_wp2_with (first
    | refine wpList_load_mid rfl 51 _ rfl C 0 rfl [.int .i64 k, .int .i64 p, .int .i64 q, .int .i64 u, .int .i64 v, .int .i64 c, .int .i64 i, .int .i64 x] _ hr Try.underlying51 rfl infoF12t ?_)
  refine (CM.out _ hn1).mono ?_
  rintro e W2 ⟨a', c', rfl, hfs, b2, hlow⟩
  replace HS : Hid (Jt12 B C R r s b o d m va vb vc k p q u v c i x w W2) := HS.out.next b2
  have hlow2 : Hid (∀ g o, a' = some ⟨g, o, none⟩ → R < g) := fun g o e => by
    have h1 := hlow g o e
    have h2 : R < W1.heap.size := lR
    omega
  clear hr h0 hl b2 hlow hn1
  have hf := HS.out.d.free 8
  have hc := HS.out.d.cell (i := 8) (v := vc) rfl
  go_upto_region 18 with (fail)
  obtain ⟨sv, hsv⟩ : ∃ sv, Value.slice a' (len + 1) c' = sv := ⟨_, rfl⟩
  have HSV : Hid (Value.slice a' (len + 1) c' = sv ∧ sv.oneCell' = true) := ⟨hsv, by rw [← hsv]; rfl⟩
  rw [hsv]
  obtain ⟨W3, hW3⟩ : ∃ W3, W2.setCell ⟨B, 8, none⟩ sv = W3 := ⟨_, rfl⟩
  have HF : Hid (Fs W3 a' (len + 1) c' (snZ Z len (ffn k p q u v c i x))) := by
    rw [← hW3]
    refine fs_of12 hfs fun g o e => ?_
    have := hlow2.out g o e
    exact Below.heap_setCell W2 ⟨B, 8, none⟩ sv g (by show g ≠ B; omega)
  replace HS : Hid (Jt12 B C R r s b o d m va vb sv k p q u v c i x w W3) := by
    rw [← hW3]
    exact ⟨HS.out.d.set 8 sv, Bk.of HS.out.f (Below.heap_setCell W2 ⟨B, 8, none⟩ sv C (by show C ≠ B; omega)), HS.out.e.other (by omega) 8 sv, below_set12 (Nat.le_refl _) HS.out.n⟩
  rw [hW3]
  clear hW3 hf hc hsv hfs
  have hr1 := HS.out.d.range
  obtain ⟨A9, hA9⟩ : ∃ A, dl r s b o d m va vb sv = A := ⟨_, rfl⟩
  have i9 : (Try.prog.info? 34).map (·.size) = some A9.length := by rw [← hA9]; exact infoD12
  have j9 : (Try.prog.info? 34).map (·.size) = some A9.toArray.size := by rw [← hA9]; exact infoD12
  have ht2 : W3.there R 0 A9.toArray.size := by rw [← hA9]; exact HS.out.e.thereAt 0 9 (by simp [dl])
  have one1 : A9.toArray.all (·.oneCell') = true := by rw [← hA9]; exact dl_one r s b o d m va vb sv HV.out.1 HV.out.2.1 HSV.out.2
  rw [hA9] at hr1
  go_wp2_with (first
    | refine wpList_load_mid rfl 34 _ rfl B 0 rfl A9 _ hr1 Try.underlying34 rfl i9 ?_
    | refine wpList_store_mid rfl 34 _ _ rfl R 0 A9.toArray rfl rfl ht2 j9 one1 ?_)
  have hs2 : (World.setCells W3 R 0 A9).rangeAt R 0 A9 := World.rangeAt_setCells_same W3 _ 0 A9 (by simpa using ht2)
  have hld := run_loadVar_mid (P := Try.prog) (World.setCells W3 R 0 A9) R 0 34 A9 _ hs2 Try.underlying34 rfl i9
  refine bodyPost_ret (v := .tuple #[.agg A9.toArray, .int .i64 0]) ?_ rfl ⟨a', c', by rw [← hA9, HSV.out.1]; rfl, fs_of12 HF.out fun g o e => heap_puts R A9 0 W3 g (by have := hlow2.out g o e; omega), by first | exact belows_put (by omega) _ 0 HS.out.n | (rw [hB]; exact belows_put (by omega) _ 0 HS.out.n), fun g o e => by have := hlow2.out g o e; omega⟩
  simp [results, Try.f37, asAddr, hld]
end Go.Proofs.Ytcpjmfemgdgplaa
