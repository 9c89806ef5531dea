/-
  The document's Inject of a bit turned, with the block of the new cells.
-/
import Derived.Test.YtcpjmfemgdgplaaM17
namespace Go.Proofs.Ytcpjmfemgdgplaa
open Go.RowKit Go.Shelf
open Ge (pw rt hd ix)
attribute [local go_sem] Oper.semAt_some

set_option maxRecDepth 100000 in
set_option maxHeartbeats 4000000 in
theorem inj12_turnL (r s b o d m : Int) (p q u v c x : Int) (n : Nat) (hn : n < 576) (hp : 0 ≤ p ∧ p < 8) (hq : 0 ≤ q ∧ q < 16) (hu : 0 ≤ u ∧ u < 1024) (hv : 0 ≤ v ∧ v < 64) (hfo : Fo12 n) (a : Option Addr) (len cap : Nat) (E : List En) (vb vc : Value) (hlen : len ≤ 1000000) (hb : vb.oneCell' = true) (hc : vc.oneCell' = true) (hri : Ri12 r s b o d m 1 p q u v c (n : Int) x true) (w : World) (hs : Er w a len cap E) :
    Calls Try.prog 37 #[.agg #[.int .i64 r, .int .i64 s, .int .i64 b, .int .i64 o, .int .i64 d, .int .i64 m, .slice a len cap, vb, vc], .agg #[.int .i64 1, .int .i64 p, .int .i64 q, .int .i64 u, .int .i64 v, .int .i64 c, .int .i64 (n : Int), .int .i64 x]] w fun e w' => ∃ a' c', e = .returned (.tuple #[.agg #[.int .i64 r, .int .i64 s, .int .i64 b, .int .i64 o, .int .i64 d, .int .i64 m, .slice a' (pE E (ix p q u v) (tR (gE E (ix p q u v)) n)).length c', vb, vc], .int .i64 0]) ∧ Er w' a' (pE E (ix p q u v) (tR (gE E (ix p q u v)) n)).length c' (pE E (ix p q u v) (tR (gE E (ix p q u v)) n)) ∧ Below w.heap.size w w' ∧ ∀ g o, a' = some ⟨g, o, none⟩ → w.heap.size ≤ g := by
  have hF : Byts 72 (gE E (ix p q u v)) := gE_byt E (fun e he => (hs.wf e he).2) _
  have hidx : I64 (ix p q u v) := by unfold I64 ix; omega
  have CI : Hid (∀ w : World, Calls Try.prog 67 #[.agg #[.int .i64 p, .int .i64 q, .int .i64 u, .int .i64 v]] w fun e w' => e = .returned (.int .i64 (ix p q u v)) ∧ Below w.heap.size w w') := refIndex_any p q u v hp hq hu hv
  obtain ⟨idx, hix⟩ : ∃ y, ix p q u v = y := ⟨_, rfl⟩
  rw [hix] at CI hF hidx
  rw [hix]
  clear hix hp hq hu hv
  have CG : Hid (∀ W, Below w.heap.size w W → Calls Try.prog 45 #[.agg #[.int .i64 r, .int .i64 s, .int .i64 b, .int .i64 o, .int .i64 d, .int .i64 m, .slice a len cap, vb, vc], .int .i64 idx] W fun e w' => e = .returned (.agg (ints .u8 72 (gE E idx)).toArray) ∧ Below W.heap.size W w') := fun W hW => get12_any r s b o d m a len cap vb vc E idx W (hs.below hW)
  obtain ⟨F, hF2⟩ : ∃ F, gE E idx = F := ⟨_, rfl⟩
  rw [hF2] at CG hF
  rw [hF2]
  clear hF2
  obtain ⟨L0, hL0⟩ : ∃ L, ints .u8 72 F = L := ⟨_, rfl⟩
  rw [hL0] at CG
  have HL0 : Hid (ints .u8 72 F = L0) := hL0
  clear hL0
  have CU : Hid (∀ W, Below w.heap.size w W → Calls Try.prog 39 #[.agg #[.int .i64 r, .int .i64 s, .int .i64 b, .int .i64 o, .int .i64 d, .int .i64 m, .slice a len cap, vb, vc], .int .i64 idx, .agg (ints .u8 72 (tR F n)).toArray] W fun e w' => ∃ a' c', e = .returned (.agg #[.int .i64 r, .int .i64 s, .int .i64 b, .int .i64 o, .int .i64 d, .int .i64 m, .slice a' (pE E idx (tR F n)).length c', vb, vc]) ∧ Er w' a' (pE E idx (tR F n)).length c' (pE E idx (tR F n)) ∧ Below W.heap.size W w' ∧ ∀ g o, a' = some ⟨g, o, none⟩ → W.heap.size ≤ g) := fun W hW => put12_any r s b o d m a len cap vb vc E idx (tR F n) hidx (tR_byt F hF n hn) hlen hb hc W (hs.below hW)
  obtain ⟨P, hP⟩ : ∃ P, pE E idx (tR F n) = P := ⟨_, rfl⟩
  rw [hP] at CU
  rw [hP]
  clear hP hidx hlen hs
  have HFO : Hid (Fo12 n ∧ Byts 72 F ∧ n < 576) := ⟨hfo, hF, hn⟩
  obtain ⟨va, HV1⟩ : ∃ y : Value, Hid (Value.slice a len cap = y ∧ y.oneCell' = true) := ⟨_, rfl, rfl⟩
  have HV : Hid (va.oneCell' = true ∧ vb.oneCell' = true ∧ vc.oneCell' = true) := ⟨HV1.out.2, hb, hc⟩
  have HRI : Hid (Ri12 r s b o d m 1 p q u v c (n : Int) x true) := hri
  rw [HV1.out.1] at CG CU
  rw [HV1.out.1]
  clear hb hc hri hfo hF hn
  have hz := zeroA9
  obtain ⟨T, hT⟩ : ∃ Z, (ints .u8 72 fun _ => 0).toArray = Z := ⟨_, rfl⟩
  rw [hT] at hz
  have HT : Hid ((ints .u8 72 fun _ => 0).toArray = T) := hT
  clear hT
  go_enter Try.func37, Try.ntmps37
  go_upto_region 1 with (fail)
  obtain ⟨B, hB⟩ : ∃ B, w.heap.size = B := ⟨_, rfl⟩
  obtain ⟨C, hC⟩ : ∃ C, B + 1 = C := ⟨_, rfl⟩
  obtain ⟨R, hR⟩ : ∃ R, C + 1 = R := ⟨_, rfl⟩
  obtain ⟨V, hV⟩ : ∃ V, ((w.alloc (.cells #[.int .i64 r, .int .i64 s, .int .i64 b, .int .i64 o, .int .i64 d, .int .i64 m, va, vb, vc] 34)).alloc (.cells #[.int .i64 1, .int .i64 p, .int .i64 q, .int .i64 u, .int .i64 v, .int .i64 c, .int .i64 (n : Int), .int .i64 x] 51)).alloc (.cells #[.int .i64 0, .int .i64 0, .int .i64 0, .int .i64 0, .int .i64 0, .int .i64 0, .slice none 0 0, .slice none 0 0, .slice none 0 0] 34) = V := ⟨_, rfl⟩
  have HS : Hid (Jt12 B C R r s b o d m va vb vc 1 p q u v c (n : Int) x w V) := by
    have a1 := Ft.new (w.alloc (.cells #[.int .i64 r, .int .i64 s, .int .i64 b, .int .i64 o, .int .i64 d, .int .i64 m, va, vb, vc] 34)) 1 p q u v c (n : Int) x 51
    have a2 := Cb.new ((w.alloc (.cells #[.int .i64 r, .int .i64 s, .int .i64 b, .int .i64 o, .int .i64 d, .int .i64 m, va, vb, vc] 34)).alloc (.cells #[.int .i64 1, .int .i64 p, .int .i64 q, .int .i64 u, .int .i64 v, .int .i64 c, .int .i64 (n : Int), .int .i64 x] 51)) (dl 0 0 0 0 0 0 (.slice none 0 0) (.slice none 0 0) (.slice none 0 0)) 34
    simp only [World.size_alloc] at a1 a2
    rw [← hV, ← hR, ← hC, ← hB]
    exact ⟨((Cb.new w (dl r s b o d m va vb vc) _).alloc _).alloc _, a1.alloc _, a2, (((Below.refl _ w).alloc (Nat.le_refl _) _).alloc (by simp) _).alloc (by simp; omega) _⟩
  rw [hV, hB, hC, hR]
  clear hV
  have hr := HS.out.f.range
  have hg := HS.out.d.rangeAt 0 [.int .i64 r, .int .i64 s, .int .i64 b, .int .i64 o, .int .i64 d] rfl
  have hm := HS.out.d.cell (i := 5) (v := .int .i64 m) rfl
  go_wp2_with (first
    | refine wpList_load_mid rfl 51 _ rfl C 0 rfl [.int .i64 1, .int .i64 p, .int .i64 q, .int .i64 u, .int .i64 v, .int .i64 c, .int .i64 (n : Int), .int .i64 x] _ hr Try.underlying51 rfl infoF12t ?_
    | refine wpList_load_mid rfl 30 _ rfl B 0 rfl [.int .i64 r, .int .i64 s, .int .i64 b, .int .i64 o, .int .i64 d] _ hg Try.underlying30 rfl infoG12 ?_)
  refine (HRI.out _).mono ?_
  rintro e W1 ⟨rfl, b1⟩
  replace HS : Hid (Jt12 B C R r s b o d m va vb vc 1 p q u v c (n : Int) x w W1) := HS.out.next b1
  have lR : R < W1.heap.size := HS.out.e.lt
  clear hr hg hm b1
  have h0 := HS.out.f.c0
  have hpl := HS.out.f.place
  go_upto_region 4 with (fail)
  go_wp2_with (first
    | refine wpList_load_mid rfl 49 _ rfl C 1 rfl [.int .i64 p, .int .i64 q, .int .i64 u, .int .i64 v] _ hpl Try.underlying49 rfl infoP12 ?_)
  refine (CI.out _).mono ?_
  rintro e W2 ⟨rfl, b2⟩
  replace HS : Hid (Jt12 B C R r s b o d m va vb vc 1 p q u v c (n : Int) x w W2) := HS.out.next b2
  clear b2 h0 hpl CI
  have hr := HS.out.d.range
  have hn2 : Below w.heap.size w W2 := by rw [hB]; exact HS.out.n
  go_wp2_with (first
    | refine wpList_load_mid rfl 34 _ rfl B 0 rfl [.int .i64 r, .int .i64 s, .int .i64 b, .int .i64 o, .int .i64 d, .int .i64 m, va, vb, vc] _ hr Try.underlying34 rfl infoD12 ?_)
  refine (CG.out _ hn2).mono ?_
  rintro e W3 ⟨rfl, b3⟩
  replace HS : Hid (Jt12 B C R r s b o d m va vb vc 1 p q u v c (n : Int) x w W3) := HS.out.next b3
  clear b3 hr hn2 CG
  obtain ⟨D, hD⟩ : ∃ D, W3.heap.size = D := ⟨_, rfl⟩
  have hL0 := HL0.out
  have i0 : (Try.prog.info? 39).map (·.size) = some L0.length := by rw [← hL0, ints_len]; exact infoA9
  have j0 : (Try.prog.info? 39).map (·.size) = some L0.toArray.size := by simpa using i0
  have o0 : L0.toArray.all (·.oneCell') = true := by rw [← hL0]; exact ints_one .u8 72 F
  have h9 := HS.out.lay F 39
  rw [HT.out, hL0, hD] at h9
  have ht := h9.2.1
  have HK : Hid (Kt12 B C R D r s b o d m va vb vc p q u v c x n F w ((W3.alloc (.cells T 39)).setCells D 0 L0)) := h9.1
  have lD : D < ((W3.alloc (.cells T 39)).setCells D 0 L0).heap.size := HK.out.r.lt
  clear h9 HS hL0
  go_upto_region 6 with (first | refine wpList_store_mid rfl 39 _ _ rfl D 0 L0.toArray rfl rfl ht j0 o0 ?_)
  obtain ⟨W4, hW4⟩ : ∃ W4, (W3.alloc (.cells T 39)).setCells D 0 L0 = W4 := ⟨_, rfl⟩
  rw [hW4] at HK lD ⊢
  clear hW4 ht
  have hrr := HK.out.r.range
  rw [HL0.out] at hrr
  have h6 := HK.out.j.f.c6
  obtain ⟨L1, hL1⟩ : ∃ L, ints .u8 72 (frR F n 1) = L := ⟨_, rfl⟩
  have C1 : Hid (∀ w : World, Calls Try.prog 25 #[.agg L0.toArray, .int .i64 (n : Int), .int .i64 1] w fun e w' => e = .returned (.agg L1.toArray) ∧ Below w.heap.size w w') := fun w => by
    have h := HFO.out.1 F HFO.out.2.1 1 (by omega) w
    rw [HL0.out, hL1] at h
    exact h
  go_wp2_with (first
    | refine wpList_load_mid rfl 39 _ rfl D 0 rfl L0 _ hrr Try.underlying39 rfl i0 ?_)
  refine (C1.out _).mono ?_
  rintro e W5 ⟨rfl, b5⟩
  replace HK : Hid (Kt12 B C R D r s b o d m va vb vc p q u v c x n F w W5) := HK.out.next b5
  replace lD : D < W5.heap.size := HK.out.r.lt
  clear b5 hrr h6 C1
  obtain ⟨G, hG⟩ : ∃ G, W5.heap.size = G := ⟨_, rfl⟩
  have i1 : (Try.prog.info? 39).map (·.size) = some L1.length := by rw [← hL1, ints_len]; exact infoA9
  have j1 : (Try.prog.info? 39).map (·.size) = some L1.toArray.size := by simpa using i1
  have o1 : L1.toArray.all (·.oneCell') = true := by rw [← hL1]; exact ints_one .u8 72 _
  have h9 := HK.out.j.lay (frR F n 1) 39
  rw [HT.out, hL1, hG] at h9
  have ht := h9.2.1
  have HM : Hid (Kt12 B C R G r s b o d m va vb vc p q u v c x n (frR F n 1) w ((W5.alloc (.cells T 39)).setCells G 0 L1) ∧ Bk .u8 ((W5.alloc (.cells T 39)).setCells G 0 L1) D 72 F) := by
    exact ⟨h9.1, Cb.bk (Cb.below (Bk.cb HK.out.r) h9.2.2 (by omega))⟩
  have HL1 : Hid (ints .u8 72 (frR F n 1) = L1) := hL1
  have lDG : D < G := by omega
  have lBG : R < G := by have := HK.out.j.e.lt; omega
  clear h9 HK hL1
  go_upto_region 7 with (first | refine wpList_store_mid rfl 39 _ _ rfl G 0 L1.toArray rfl rfl ht j1 o1 ?_)
  obtain ⟨W6, hW6⟩ : ∃ W6, (W5.alloc (.cells T 39)).setCells G 0 L1 = W6 := ⟨_, rfl⟩
  rw [hW6] at HM ⊢
  clear hW6 ht
  have hr0 := HM.out.2.range
  have hr1 := HM.out.1.r.range
  rw [HL0.out] at hr0
  rw [HL1.out] at hr1
  have hge : Try.prog.eqGuardType Try.prog.depth 39 = false := by kernel_rfl
  rcases gb_le12 F n HFO.out.2.2 with hg | hg
  · have ht9 : frR F n 1 = tR F n := by unfold tR; rw [hg]
    have hq : ∀ w, (binOp .eql 39 (.agg L1.toArray) (.agg L0.toArray)).run Try.prog w = .ok (.bool false) w := fun w => by
      rw [← HL1.out, ← HL0.out, ht9]
      exact eql_ints 39 72 Try.underlying39 _ _ (tR_byt F HFO.out.2.1 n HFO.out.2.2) HFO.out.2.1 false ⟨(fun h => by cases h), fun h => absurd h (tR_ne F HFO.out.2.1 n HFO.out.2.2)⟩ w
    have HJ : Hid (Jt12 B C R r s b o d m va vb vc 1 p q u v c (n : Int) x w W6) := HM.out.1.j
    go_upto_region 9 with (first
      | refine wpList_load_mid rfl 39 _ rfl G 0 rfl L1 _ hr1 Try.underlying39 rfl i1 ?_
      | refine wpList_load_mid rfl 39 _ rfl D 0 rfl L0 _ hr0 Try.underlying39 rfl i0 ?_
      | refine wpList_known rfl _ (exec_eqlA 39 _ _ _ rfl _ _ _ rfl rfl hge hq _) ?_)
    have hrX := hr1
    clear hr0 hr1
    have HX : Hid (ints .u8 72 (tR F n) = L1) := by rw [← ht9]; exact HL1.out
    have CX : Hid (∀ W, Below w.heap.size w W → Calls Try.prog 39 #[.agg #[.int .i64 r, .int .i64 s, .int .i64 b, .int .i64 o, .int .i64 d, .int .i64 m, va, vb, vc], .int .i64 idx, .agg L1.toArray] W fun e w' => ∃ a' c', e = .returned (.agg #[.int .i64 r, .int .i64 s, .int .i64 b, .int .i64 o, .int .i64 d, .int .i64 m, .slice a' P.length c', vb, vc]) ∧ Er w' a' P.length c' P ∧ Below W.heap.size W w' ∧ ∀ g o, a' = some ⟨g, o, none⟩ → W.heap.size ≤ g) := fun W hW => by
      have h := CU.out W hW
      rw [HX.out] at h
      exact h
    have hn9 : Below w.heap.size w W6 := by rw [hB]; exact HJ.out.n
    have lR9 : R < W6.heap.size := HJ.out.e.lt
    have hr := HJ.out.d.range
    go_wp2_with (first
      | refine wpList_load_mid rfl 34 _ rfl B 0 rfl [.int .i64 r, .int .i64 s, .int .i64 b, .int .i64 o, .int .i64 d, .int .i64 m, va, vb, vc] _ hr Try.underlying34 rfl infoD12 ?_
      | refine wpList_load_mid rfl 39 _ rfl G 0 rfl L1 _ hrX Try.underlying39 rfl i1 ?_)
    refine (CX.out _ hn9).mono ?_
    rintro e W9 ⟨a', c', rfl, her, b9, hlow⟩
    replace HJ : Hid (Jt12 B C R r s b o d m va vb vc 1 p q u v c (n : Int) x w W9) := HJ.out.next b9
    have ht2 : W9.there R 0 (dl r s b o d m (.slice a' P.length c') vb vc).toArray.size := HJ.out.e.thereAt 0 9 (by simp [dl])
    have one1 : (dl r s b o d m (.slice a' P.length c') vb vc).toArray.all (·.oneCell') = true := dl_one r s b o d m _ vb vc rfl HV.out.2.1 HV.out.2.2
    have j9 : (Try.prog.info? 34).map (·.size) = some (dl r s b o d m (.slice a' P.length c') vb vc).toArray.size := infoD12
    clear hr hrX b9 hn9
    go_wp2_with (refine wpList_store_mid rfl 34 _ _ rfl R 0 (dl r s b o d m (.slice a' P.length c') vb vc).toArray rfl rfl ht2 j9 one1 ?_)
    have hs2 : (World.setCells W9 R 0 (dl r s b o d m (.slice a' P.length c') vb vc)).rangeAt R 0 (dl r s b o d m (.slice a' P.length c') vb vc) := World.rangeAt_setCells_same W9 _ 0 _ (by simpa using ht2)
    have hld := run_loadVar_mid (P := Try.prog) (World.setCells W9 R 0 (dl r s b o d m (.slice a' P.length c') vb vc)) R 0 34 (dl r s b o d m (.slice a' P.length c') vb vc) _ hs2 Try.underlying34 rfl infoD12
    refine bodyPost_ret (v := .tuple #[.agg (dl r s b o d m (.slice a' P.length c') vb vc).toArray, .int .i64 0]) ?_ rfl ⟨a', c', rfl, her.of fun g o e => heap_puts R _ 0 W9 g (by have := hlow g o e; omega), by first | exact belows_put (by omega) _ 0 HJ.out.n | (rw [hB]; exact belows_put (by omega) _ 0 HJ.out.n), fun g o e => by have := hlow g o e; omega⟩
    simp [results, Try.f37, asAddr, hld]
  · have ht9 : frR F n 0 = tR F n := by unfold tR; rw [hg]
    have hsm : ∀ j, j < 72 → frR F n 1 j = F j := fun j hj => by
      have h := frR_stay F HFO.out.2.1 n HFO.out.2.2 j hj
      rw [hg] at h
      exact h.symm
    have hq : ∀ w, (binOp .eql 39 (.agg L1.toArray) (.agg L0.toArray)).run Try.prog w = .ok (.bool true) w := fun w => by
      rw [← HL1.out, ← HL0.out]
      exact eql_ints 39 72 Try.underlying39 _ _ (fun j hj => by rw [hsm j hj]; exact HFO.out.2.1 j hj) HFO.out.2.1 true ⟨fun _ => hsm, fun _ => rfl⟩ w
    have h6 := HM.out.1.j.f.c6
    obtain ⟨L2, hL2⟩ : ∃ L, ints .u8 72 (frR F n 0) = L := ⟨_, rfl⟩
    have HL2 : Hid (ints .u8 72 (frR F n 0) = L2) := hL2
    have i2 : (Try.prog.info? 39).map (·.size) = some L2.length := by rw [← hL2, ints_len]; exact infoA9
    have j2 : (Try.prog.info? 39).map (·.size) = some L2.toArray.size := by simpa using i2
    have o2 : L2.toArray.all (·.oneCell') = true := by rw [← hL2]; exact ints_one .u8 72 _
    clear hL2
    have C2 : Hid (∀ w : World, Calls Try.prog 25 #[.agg L0.toArray, .int .i64 (n : Int), .int .i64 0] w fun e w' => e = .returned (.agg L2.toArray) ∧ Below w.heap.size w w') := fun w => by
      have h := HFO.out.1 F HFO.out.2.1 0 (by omega) w
      rw [HL0.out, HL2.out] at h
      exact h
    go_upto_region 8 with (first
      | refine wpList_load_mid rfl 39 _ rfl G 0 rfl L1 _ hr1 Try.underlying39 rfl i1 ?_
      | refine wpList_load_mid rfl 39 _ rfl D 0 rfl L0 _ hr0 Try.underlying39 rfl i0 ?_
      | refine wpList_known rfl _ (exec_eqlA 39 _ _ _ rfl _ _ _ rfl rfl hge hq _) ?_)
    go_wp2_with (first
      | refine wpList_load_mid rfl 39 _ rfl D 0 rfl L0 _ hr0 Try.underlying39 rfl i0 ?_)
    refine (C2.out _).mono ?_
    rintro e W7 ⟨rfl, b7⟩
    have HM7 : Hid (Kt12 B C R G r s b o d m va vb vc p q u v c x n (frR F n 1) w W7) := HM.out.1.next b7
    have htG : W7.there G 0 L2.toArray.size := by rw [← HL2.out]; exact Bk.there HM7.out.r .u8 _
    have lD7 : D < G := lDG
    have HJ : Hid (Jt12 B C R r s b o d m va vb vc 1 p q u v c (n : Int) x w (W7.setCells G 0 L2)) := by
      have h := HM7.out.j
      have lB := lBG
      exact ⟨h.d.putOther (by omega) 0 _, Bk.of h.f (heap_puts G _ 0 _ C (by omega)), h.e.putOther (by omega) 0 _, belows_put (by omega) _ 0 h.n⟩
    have hrX : (W7.setCells G 0 L2).rangeAt G 0 L2 := by
      have h := (HM7.out.r.put (frR F n 0)).range
      rw [HL2.out] at h
      exact h
    clear b7 hr0 hr1 h6 HM HM7
    go_upto_region 9 with (first | refine wpList_store_mid rfl 39 _ _ rfl G 0 L2.toArray rfl rfl htG j2 o2 ?_)
    obtain ⟨W8, hW8⟩ : ∃ W8, W7.setCells G 0 L2 = W8 := ⟨_, rfl⟩
    rw [hW8] at HJ hrX ⊢
    clear hW8 htG
    have HX : Hid (ints .u8 72 (tR F n) = L2) := by rw [← ht9]; exact HL2.out
    have CX : Hid (∀ W, Below w.heap.size w W → Calls Try.prog 39 #[.agg #[.int .i64 r, .int .i64 s, .int .i64 b, .int .i64 o, .int .i64 d, .int .i64 m, va, vb, vc], .int .i64 idx, .agg L2.toArray] W fun e w' => ∃ a' c', e = .returned (.agg #[.int .i64 r, .int .i64 s, .int .i64 b, .int .i64 o, .int .i64 d, .int .i64 m, .slice a' P.length c', vb, vc]) ∧ Er w' a' P.length c' P ∧ Below W.heap.size W w' ∧ ∀ g o, a' = some ⟨g, o, none⟩ → W.heap.size ≤ g) := fun W hW => by
      have h := CU.out W hW
      rw [HX.out] at h
      exact h
    have hn9 : Below w.heap.size w W8 := by rw [hB]; exact HJ.out.n
    have lR9 : R < W8.heap.size := HJ.out.e.lt
    have hr := HJ.out.d.range
    go_wp2_with (first
      | refine wpList_load_mid rfl 34 _ rfl B 0 rfl [.int .i64 r, .int .i64 s, .int .i64 b, .int .i64 o, .int .i64 d, .int .i64 m, va, vb, vc] _ hr Try.underlying34 rfl infoD12 ?_
      | refine wpList_load_mid rfl 39 _ rfl G 0 rfl L2 _ hrX Try.underlying39 rfl i2 ?_)
    refine (CX.out _ hn9).mono ?_
    rintro e W9 ⟨a', c', rfl, her, b9, hlow⟩
    replace HJ : Hid (Jt12 B C R r s b o d m va vb vc 1 p q u v c (n : Int) x w W9) := HJ.out.next b9
    have ht2 : W9.there R 0 (dl r s b o d m (.slice a' P.length c') vb vc).toArray.size := HJ.out.e.thereAt 0 9 (by simp [dl])
    have one1 : (dl r s b o d m (.slice a' P.length c') vb vc).toArray.all (·.oneCell') = true := dl_one r s b o d m _ vb vc rfl HV.out.2.1 HV.out.2.2
    have j9 : (Try.prog.info? 34).map (·.size) = some (dl r s b o d m (.slice a' P.length c') vb vc).toArray.size := infoD12
    clear hr hrX b9 hn9
    go_wp2_with (refine wpList_store_mid rfl 34 _ _ rfl R 0 (dl r s b o d m (.slice a' P.length c') vb vc).toArray rfl rfl ht2 j9 one1 ?_)
    have hs2 : (World.setCells W9 R 0 (dl r s b o d m (.slice a' P.length c') vb vc)).rangeAt R 0 (dl r s b o d m (.slice a' P.length c') vb vc) := World.rangeAt_setCells_same W9 _ 0 _ (by simpa using ht2)
    have hld := run_loadVar_mid (P := Try.prog) (World.setCells W9 R 0 (dl r s b o d m (.slice a' P.length c') vb vc)) R 0 34 (dl r s b o d m (.slice a' P.length c') vb vc) _ hs2 Try.underlying34 rfl infoD12
    refine bodyPost_ret (v := .tuple #[.agg (dl r s b o d m (.slice a' P.length c') vb vc).toArray, .int .i64 0]) ?_ rfl ⟨a', c', rfl, her.of fun g o e => heap_puts R _ 0 W9 g (by have := hlow g o e; omega), by first | exact belows_put (by omega) _ 0 HJ.out.n | (rw [hB]; exact belows_put (by omega) _ 0 HJ.out.n), fun g o e => by have := hlow g o e; omega⟩
    simp [results, Try.f37, asAddr, hld]
end Go.Proofs.Ytcpjmfemgdgplaa
