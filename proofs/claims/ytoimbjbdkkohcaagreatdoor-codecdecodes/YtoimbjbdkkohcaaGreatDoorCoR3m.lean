/-
  The document's Decode: a line, a verdict, how many words were mended.
-/
import Derived.Test.YtoimbjbdkkohcaaGreatDoorCoR2m
import Derived.Test.YtoimbjbdkkohcaaGreatDoorM19
namespace Go.Proofs.YtoimbjbdkkohcaaGreatDoor
open Go.RowKit Go.Shelf
open Po (El toE)
attribute [local go_sem] Oper.semAt_some

/-- while the document decodes: raw bytes in B, what is told in B + 1, the line in B + 2, the columns in C -/
structure RdI (B C : Nat) (R Y : Nat → Int) (w W : World) : Prop where
  r : Bk .u8 W B 72 R
  o : Bk .u8 W (B + 1) 64 (fun _ => 0)
  y : Bk .u8 W (B + 1 + 1) 64 Y
  c : At9 W C colsL
  lt : B + 1 + 1 < C
  below : Below B w W
section
variable {B C M : Nat} {R Y Y' X : Nat → Int} {w W W' : World}
theorem RdI.next (H : RdI B C R Y w W) (e : Below W.heap.size W W') : RdI B C R Y w W' := ⟨H.r.next e, H.o.next e, H.y.next e, H.c.next e, H.lt, H.below.trans (e.mono (by have := H.r.lt; omega))⟩
theorem RdI.set (H : RdI B C R Y w W) (i : Nat) (e : Int) : RdI B C R (fun j => if j = i then e else Y j) w (W.setCell ⟨B + 1 + 1, i, none⟩ (.int .u8 e)) := by
  have hl := H.lt
  exact ⟨H.r.other (by omega) i _, H.o.other (by omega) i _, H.y.set i e, H.c.of (Below.heap_setCell W ⟨B + 1 + 1, i, none⟩ _ C (by simp; omega)), hl, H.below.setCell (p := ⟨B + 1 + 1, i, none⟩) (by simp; omega) _⟩
theorem RdI.congr (H : RdI B C R Y w W) (h : ∀ i, i < 64 → Y i = Y' i) : RdI B C R Y' w W := ⟨H.r, H.o, H.y.congr h, H.c, H.lt, H.below⟩
/-- a half's data lie in M -/
structure RdM (B C M : Nat) (R Y X : Nat → Int) (w W : World) : Prop where
  i : RdI B C R Y w W
  x : Bk .u8 W M 32 X
  lt : B + 1 + 1 < M
theorem RdM.set (H : RdM B C M R Y X w W) (i : Nat) (e : Int) : RdM B C M R (fun j => if j = i then e else Y j) X w (W.setCell ⟨B + 1 + 1, i, none⟩ (.int .u8 e)) :=
  ⟨H.i.set i e, H.x.other (by have := H.lt; omega) i _, H.lt⟩
theorem RdM.congr (H : RdM B C M R Y X w W) (h : ∀ i, i < 64 → Y i = Y' i) : RdM B C M R Y' X w W := ⟨H.i.congr h, H.x, H.lt⟩
end
theorem zeroA10 (w : World) : (zeroValue 22).run Tryz.prog w = .ok (.agg (ints .u8 64 fun _ => 0).toArray) w := by kernel_rfl
theorem infoA10 : (Tryz.prog.info? 22).map (·.size) = some 64 := by kernel_rfl
theorem cnt_none (K : Nat → Int) : ∀ k, top K k < 1 → cnt K k = 0
  | 0, _ => rfl
  | k + 1, h => by
    rw [top] at h
    rw [cnt, cnt_none K k (by omega), if_neg (by omega)]
theorem there_cols10 (W : World) : (W.alloc (.cells (stageC 0) 43)).there W.heap.size 0 colsL.toArray.size := fun j hj => by
  have hj' : j < 74 := by simpa [colsL_len] using hj
  have hs : j < (stageC 0).size := by rw [stageC_size]; exact hj'
  constructor
  · rw [show (⟨W.heap.size, 0 + j, none⟩ : Addr) = ⟨W.heap.size, j, none⟩ from by rw [Nat.zero_add]]
    rw [World.cell?_alloc_new]
    simp [hs]
  · simp [go_sem]
theorem cols_laid (W : World) : At9 ((W.alloc (.cells (stageC 0) 43)).setCells W.heap.size 0 colsL) W.heap.size colsL :=
  ⟨World.rangeAt_setCells_same _ _ 0 colsL (by simpa using there_cols10 W), by
    have h : Below W.heap.size W ((W.alloc (.cells (stageC 0) 43)).setCells W.heap.size 0 colsL) := belows_put (Nat.le_refl _) colsL 0 ((Below.refl _ W).alloc (Nat.le_refl _) _)
    have h2 : (W.alloc (.cells (stageC 0) 43)).heap.size ≤ ((W.alloc (.cells (stageC 0) 43)).setCells W.heap.size 0 colsL).heap.size := (belows_put (B := 0) (Nat.zero_le _) colsL 0 (Below.refl 0 _)).size
    simp only [World.size_alloc] at h2
    omega⟩
set_option maxRecDepth 100000 in
set_option maxHeartbeats 2000000 in
theorem refDecode10_1 (R : Nat → Int) (hR : Byts 72 R) (ix : Int) (w : World) :
    Calls Tryz.prog 11 #[.int .i64 1, .agg (ints .u8 72 R).toArray, .int .i64 ix] w fun e w' => e = .returned (.tuple #[.agg (ints .u8 64 (tln (top (vB R (par ix)) 8) (wby (fB R (par ix))))).toArray, .int .i64 (top (vB R (par ix)) 8), .int .i64 (if top (vB R (par ix)) 8 = 1 then (cnt (vB R (par ix)) 8 : Int) else 0)]) ∧ Below w.heap.size w w' := by
  have hz := zeroA10
  have hzc := zero_cols
  have i74 := info_cols
  have o74 := colsL_one
  have ht74 := there_cols10
  have cB : Hid (∀ (n : Nat) (W : World), n < 8 → Calls Tryz.prog 26 #[.agg colsL.toArray, .agg (ints .u8 72 R).toArray, .int .i64 (n : Int), .int .i64 ix] W fun e w' => e = .returned (.tuple #[.int .u64 (fB R (par ix) n : Int), .int .i64 (vB R (par ix) n)]) ∧ Below W.heap.size W w') := fun n W hn => refBits10_any R hR n hn ix W
  have hgl : ∀ n, n < 8 → fB R (par ix) n < 18446744073709551616 := fun n hn => fx_lt _ _ (Co.dw_lt hR n hn)
  have hkb : ∀ n, 0 ≤ vB R (par ix) n ∧ vB R (par ix) n ≤ 3 := fun n => kB_bd _
  obtain ⟨G, hG⟩ : ∃ G, fB R (par ix) = G := ⟨_, rfl⟩
  obtain ⟨K, hK⟩ : ∃ K, vB R (par ix) = K := ⟨_, rfl⟩
  rw [hG] at hgl
  rw [hK] at hkb
  simp only [hG, hK] at cB
  rw [hG, hK]
  obtain ⟨YL, hYL⟩ : ∃ Y, wby G = Y := ⟨_, rfl⟩
  have HYL : Hid (∀ k j, j < 8 → (((G k / 256 ^ j % 256 : Nat) : Int) = YL (8 * k + j))) := fun k j hj => by
    rw [← hYL]; unfold wby
    rw [show (8 * k + j) / 8 = k by omega, show (8 * k + j) % 8 = j by omega]
  rw [hYL]
  clear hG hK hYL
  obtain ⟨tp, ht0, hts⟩ : ∃ tp, Hid (top K = tp ∧ tp 0 = 0) ∧ ∀ n, tp (n + 1) = max (tp n) (K n) := ⟨top K, ⟨rfl, rfl⟩, fun n => rfl⟩
  obtain ⟨ct, hc0, hcs⟩ : ∃ ct, Hid (cnt K = ct ∧ ct 0 = 0) ∧ ∀ n, ct (n + 1) = ct n + if K n = 1 then 1 else 0 := ⟨cnt K, ⟨rfl, rfl⟩, fun n => rfl⟩
  have hcl : ∀ n, ct n ≤ n := fun n => by rw [← hc0.out.1]; exact cnt_le K n
  have HT : Hid ((∀ n, tp (n + 1) = max (tp n) (K n)) ∧ (∀ n, ct (n + 1) = ct n + if K n = 1 then 1 else 0) ∧ (∀ n, ct n ≤ n) ∧ (∀ n, 0 ≤ K n ∧ K n ≤ 3) ∧ (∀ n, 0 ≤ tp n ∧ tp n ≤ 3) ∧ (∀ n, tp n < 1 → ct n = 0)) := ⟨hts, hcs, hcl, hkb, fun n => by
    rw [← ht0.out.1]
    exact top_bd K n (fun j _ => hkb j) n (Nat.le_refl _), fun n => by
    rw [← ht0.out.1, ← hc0.out.1]
    exact cnt_none K n⟩
  rw [ht0.out.1, hc0.out.1]
  obtain ⟨RL, HRL⟩ : ∃ RL, Hid (Value.tuple #[.agg (ints .u8 64 (tln (tp 8) YL)).toArray, .int .i64 (tp 8), .int .i64 (if tp 8 = 1 then (ct 8 : Int) else 0)] = RL) := ⟨_, rfl⟩
  rw [HRL.out]
  obtain ⟨A, hA⟩ : ∃ A, (ints .u8 72 R) = A := ⟨_, rfl⟩
  have iA : (Tryz.prog.info? 26).map (·.size) = some A.length := by rw [← hA, ints_len]; exact infoA9
  obtain ⟨Z, hZ⟩ : ∃ A, (ints .u8 64 fun _ => 0).toArray = A := ⟨_, rfl⟩
  rw [hZ] at hz
  simp only [hA] at cB
  rw [hA]
  have CC : Hid (∀ (n : Nat) (W : World), n < 8 → Calls Tryz.prog 26 #[.agg colsL.toArray, .agg A.toArray, .int .i64 (n : Int), .int .i64 ix] W fun e w' => e = .returned (.tuple #[.int .u64 (G n : Int), .int .i64 (K n)]) ∧ Below W.heap.size W w') := cB
  have HI : Hid (∀ V, V = ((w.alloc (.cells A.toArray 26)).alloc (.cells Z 22)).alloc (.cells Z 22) → Bk .u8 V w.heap.size 72 R ∧ Bk .u8 V (w.heap.size + 1) 64 (fun _ => 0) ∧ Bk .u8 V (w.heap.size + 1 + 1) 64 (fun _ => 0) ∧ Below w.heap.size w V) := fun V hV => by
    subst hV
    rw [← hA, ← hZ]
    have h1 := Bk.new .u8 w 72 R 26
    have h2 := Bk.new .u8 (w.alloc (.cells (ints .u8 72 R).toArray 26)) 64 (fun _ => 0) 22
    have h3 := Bk.new .u8 ((w.alloc (.cells (ints .u8 72 R).toArray 26)).alloc (.cells (ints .u8 64 fun _ => 0).toArray 22)) 64 (fun _ => 0) 22
    simp only [World.size_alloc] at h2 h3
    exact ⟨(h1.alloc _).alloc _, h2.alloc _, h3, (((Below.refl _ w).alloc (Nat.le_refl _) _).alloc (by simp) _).alloc (by simp <;> omega) _⟩
  have HA : Hid ((ints .u8 72 R) = A ∧ (ints .u8 64 fun _ => 0).toArray = Z) := ⟨hA, hZ⟩
  clear hA hZ cB hR hts hcs hcl hkb
  go_enter Tryz.func11, Tryz.ntmps11
  go_wp2_with fail
  obtain ⟨V, hV⟩ : ∃ V, ((w.alloc (.cells A.toArray 26)).alloc (.cells Z 22)).alloc (.cells Z 22) = V := ⟨_, rfl⟩
  have H0 := HI.out V hV.symm
  rw [hV]
  clear hV HI
  obtain ⟨B, hB⟩ : ∃ B, w.heap.size = B := ⟨_, rfl⟩
  rw [hB] at H0 ⊢
  refine (refColumns_any _).mono ?_
  rintro e V1 ⟨rfl, b1⟩
  have ht1 := ht74 V1
  obtain ⟨C, hC⟩ : ∃ C, V1.heap.size = C := ⟨_, rfl⟩
  have H1 : Hid (RdI B C R (fun _ => 0) w ((V1.alloc (.cells (stageC 0) 43)).setCells C 0 colsL)) := by
    obtain ⟨h1, h2, h3, h4⟩ := H0
    have g1 := h1.next b1
    have g2 := h2.next b1
    have g3 := h3.next b1
    have g4 := cols_laid V1
    rw [hC] at g4
    have l3 := g3.lt
    have l0 := h3.lt
    refine ⟨(g1.alloc _).putOther (by omega) 0 _, (g2.alloc _).putOther (by omega) 0 _, (g3.alloc _).putOther (by omega) 0 _, g4, by omega, belows_put (by omega) colsL 0 ((h4.trans (b1.mono (by omega))).alloc (by omega) _)⟩
  rw [hC] at ht1
  try rw [hC]
  clear H0 b1 ht74
  obtain ⟨S0, hS0⟩ : ∃ S0, stageC 0 = S0 := ⟨_, rfl⟩
  rw [hS0] at hzc ht1 H1
  clear hS0
  go_upto_region 5 with (refine wpList_store_mid rfl 43 _ _ rfl _ 0 colsL.toArray rfl rfl ht1 (by simpa using i74) o74 ?_)
  obtain ⟨V2, hV2⟩ : ∃ V2, (V1.alloc (.cells S0 43)).setCells C 0 colsL = V2 := ⟨_, rfl⟩
  rw [hV2] at H1
  rw [hV2]
  clear hV2 ht1 hC V1
  go_wp2
  go_loopw [10, 11, 13] (fun a b i wr => ∃ n : Nat, n ≤ 8 ∧ a = .int .i64 (tp n) ∧ b = .int .i64 (ct n : Int) ∧ i = .int .i64 (n : Int) ∧ Hid (RdI B C R (fun j => if j < 8 * n then YL j else 0) w wr)) (fun _ _ i _ => 8 - (intOf i).toNat)
  case atStart => exact ⟨0, by omega, by rw [ht0.out.2], by rw [hc0.out.2]; rfl, rfl, H1.out.congr fun i _ => by rw [if_neg (by omega)]⟩
  case round =>
    obtain ⟨n, hn, rfl, rfl, rfl, HK⟩ := hrel
    by_cases hlt : n < 8
    · have r0 := HK.out.r.range
      rw [HA.out.1] at r0
      have r1 := HK.out.c.r
      have hgk := hgl n hlt
      have htp := HT.out.1 n
      have hct := HT.out.2.1 n
      have hcl := HT.out.2.2.1 n
      have htb := HT.out.2.2.2.2.1 n
      have hkb := HT.out.2.2.2.1 n
      obtain ⟨kn, hkn⟩ : ∃ kn, K n = kn := ⟨_, rfl⟩
      have HKN : Hid (∀ W : World, Calls Tryz.prog 26 #[.agg colsL.toArray, .agg A.toArray, .int .i64 (n : Int), .int .i64 ix] W fun e w' => e = .returned (.tuple #[.int .u64 (G n : Int), .int .i64 kn]) ∧ Below W.heap.size W w') := fun W => by rw [← hkn]; exact CC.out n W hlt
      rw [hkn] at htp hct hkb
      have HTP : Hid (tp (n + 1) = max (tp n) kn ∧ ct (n + 1) = ct n + if kn = 1 then 1 else 0) := ⟨htp, hct⟩
      have HYN : Hid (∀ j, j < 8 → (((G n / 256 ^ j % 256 : Nat) : Int) = YL (8 * n + j))) := fun j hj => HYL.out n j hj
      obtain ⟨g, hg⟩ : ∃ g, G n = g := ⟨_, rfl⟩
      rw [hg] at hgk HKN HYN
      obtain ⟨tn, htn⟩ : ∃ tn, tp n = tn := ⟨_, rfl⟩
      obtain ⟨cn, hcn⟩ : ∃ cn, ct n = cn := ⟨_, rfl⟩
      rw [htn] at HTP htb
      rw [hcn] at HTP hcl
      try rw [htn]
      try rw [hcn]
      clear htp hct hkn H1 hg htn hcn
      go_wp2_with (first | refine wpList_load_mid rfl 43 _ rfl C 0 rfl colsL _ r1 Tryz.underlying43 rfl i74 ?_ | refine wpList_load_mid rfl 26 _ rfl B 0 rfl A _ r0 Tryz.underlying26 rfl iA ?_)
      refine (HKN.out _).mono ?_
      rintro e W3 ⟨rfl, b3⟩
      replace HK : Hid (RdI B C R (fun j => if j < 8 * n then YL j else 0) w W3) := HK.out.next b3
      clear b3 r0 r1
      go_wp2
      go_loopw [14, 16] (fun d i wr => ∃ j : Nat, j ≤ 8 ∧ d = .int .u64 ((g / 256 ^ j : Nat) : Int) ∧ i = .int .i64 (j : Int) ∧ Hid (RdI B C R (fun i => if i < 8 * n + j then YL i else 0) w wr)) (fun _ i _ => 8 - (intOf i).toNat)
      case atStart => exact ⟨0, by omega, by simp, rfl, HK⟩
      case round =>
        obtain ⟨j, hj, rfl, rfl, HJ⟩ := hrel
        by_cases hjt : j < 8
        · have c1 := HJ.out.y.cell (8 * n + j) (by omega)
          have c2 := HJ.out.y.free (8 * n + j)
          have hy := HYN.out j hjt
          have hdiv : Hid (g / 256 ^ j / 256 = g / 256 ^ (j + 1)) := by show _ = _; rw [Nat.div_div_eq_div_mul, Nat.pow_succ]
          have hdl : g / 256 ^ j < 18446744073709551616 := Nat.lt_of_le_of_lt (Nat.div_le_self _ _) hgk
          obtain ⟨d, hd⟩ : ∃ d, g / 256 ^ j = d := ⟨_, rfl⟩
          rw [hd] at hdl hy hdiv ⊢
          have HN : Hid (RdI B C R (fun i => if i < 8 * n + (j + 1) then YL i else 0) w (wr.setCell ⟨B + 1 + 1, 8 * n + j, none⟩ (.int .u8 ((d % 256 : Nat) : Int)))) := by
            rw [hy]
            exact (HJ.out.set (8 * n + j) (YL (8 * n + j))).congr fun i _ => by
              by_cases h : i = 8 * n + j
              · rw [if_pos h, if_pos (by omega), h]
              · rw [if_neg h]
                by_cases h2 : i < 8 * n + j
                · rw [if_pos h2, if_pos (by omega)]
                · rw [if_neg h2, if_neg (by omega)]
          clear hy hd HJ
          go_wp2
          go_roundw
          case rel => exact ⟨j + 1, by omega, by rw [← hdiv.out]; first | rfl | go_num, by go_num, HN⟩
          case measure => simp [intOf]; omega
        · obtain rfl : j = 8 := by omega
          have HN : Hid (RdI B C R (fun j => if j < 8 * (n + 1) then YL j else 0) w wr) := HJ.out.congr fun i _ => by rw [show 8 * n + 8 = 8 * (n + 1) from by omega]
          clear HJ HK HYN HKN
          by_cases hg : tn < kn
          · by_cases h1 : kn = 1
            · have e1 : Hid (tp (n + 1) = kn ∧ ct (n + 1) = cn + 1) := ⟨by rw [HTP.out.1]; omega, by rw [HTP.out.2, if_pos h1]⟩
              clear HTP
              go_wp2
              go_roundw
              case rel => exact ⟨n + 1, by omega, by rw [e1.out.1], by rw [e1.out.2]; go_num, by go_num, HN⟩
              case measure => simp [intOf]; omega
            · have e1 : Hid (tp (n + 1) = kn ∧ ct (n + 1) = cn) := ⟨by rw [HTP.out.1]; omega, by rw [HTP.out.2, if_neg h1]; rfl⟩
              clear HTP
              go_wp2
              go_roundw
              case rel => exact ⟨n + 1, by omega, by rw [e1.out.1], by rw [e1.out.2], by go_num, HN⟩
              case measure => simp [intOf]; omega
          · by_cases h1 : kn = 1
            · have e1 : Hid (tp (n + 1) = tn ∧ ct (n + 1) = cn + 1) := ⟨by rw [HTP.out.1]; omega, by rw [HTP.out.2, if_pos h1]⟩
              clear HTP
              go_wp2
              go_roundw
              case rel => exact ⟨n + 1, by omega, by rw [e1.out.1], by rw [e1.out.2]; go_num, by go_num, HN⟩
              case measure => simp [intOf]; omega
            · have e1 : Hid (tp (n + 1) = tn ∧ ct (n + 1) = cn) := ⟨by rw [HTP.out.1]; omega, by rw [HTP.out.2, if_neg h1]; rfl⟩
              clear HTP
              go_wp2
              go_roundw
              case rel => exact ⟨n + 1, by omega, by rw [e1.out.1], by rw [e1.out.2], by go_num, HN⟩
              case measure => simp [intOf]; omega
    · obtain rfl : n = 8 := by omega
      have HE : RdI B C R YL w wr := HK.out.congr fun i hi => by rw [if_pos (by omega)]
      have hr := HE.y.range
      have ht := HE.o.there .u8 YL
      have ht0 := HE.o.there .u8 (fun _ => 0)
      have HB : Hid (Below B w wr) := HE.below
      have hkt := HT.out.2.2.2.2.1 8
      have hk0 := HT.out.2.2.2.2.2 8
      obtain ⟨L, hL⟩ : ∃ L, ints .u8 64 YL = L := ⟨_, rfl⟩
      have hi9 : (Tryz.prog.info? 22).map (·.size) = some L.length := by rw [← hL, ints_len]; exact infoA10
      have hj9 : (Tryz.prog.info? 22).map (·.size) = some L.toArray.size := by simpa using hi9
      have hone : L.toArray.all (·.oneCell') = true := by rw [← hL]; exact ints_one .u8 64 _
      rw [hL] at hr ht
      have HL : Hid (ints .u8 64 YL = L) := hL
      obtain ⟨kk, hkk⟩ : ∃ kk, tp 8 = kk := ⟨_, rfl⟩
      obtain ⟨cc, hcc⟩ : ∃ cc : Nat, ct 8 = cc := ⟨_, rfl⟩
      rw [hkk] at hkt hk0
      rw [hcc] at hk0
      have HKK : Hid (tp 8 = kk ∧ ct 8 = cc) := ⟨hkk, hcc⟩
      rw [hkk, hcc]
      clear HK HE hL HT H1 hkk hcc CC HYL hgl
      by_cases hgt : 1 < kk
      · have hdead : tln kk YL = fun _ => 0 := tln_dead kk YL (by omega)
        obtain ⟨LZ, hLZ⟩ : ∃ L, (ints .u8 64 fun _ => 0) = L := ⟨_, rfl⟩
        have hiz : (Tryz.prog.info? 22).map (·.size) = some LZ.length := by rw [← hLZ, ints_len]; exact infoA10
        have hjz : (Tryz.prog.info? 22).map (·.size) = some LZ.toArray.size := by simpa using hiz
        have honez : LZ.toArray.all (·.oneCell') = true := by rw [← hLZ]; exact ints_one .u8 64 _
        rw [hLZ] at ht0
        have hZL : Z = LZ.toArray := by rw [← HA.out.2, hLZ]
        have hn1 : ¬ kk = 1 := by omega
        have HD : Hid (tln kk YL = (fun _ => 0) ∧ ¬ kk = 1 ∧ (ints .u8 64 fun _ => 0) = LZ) := ⟨hdead, hn1, hLZ⟩
        rw [hZL] at hz
        clear hdead hLZ hr ht hi9 hj9 hone HL hZL hn1
        go_wp2
        refine wp_loop_rounds 1 ?_
        rw [rounds_succ]
        go_wp2_with (refine wpList_store_mid rfl 22 _ _ rfl _ 0 LZ.toArray rfl rfl ht0 hjz honez ?_)
        have hs : (wr.setCells (B + 1) 0 LZ).rangeAt (B + 1) 0 LZ := World.rangeAt_setCells_same wr _ 0 LZ (by simpa using ht0)
        have hld := run_loadVar_mid (P := Tryz.prog) (wr.setCells (B + 1) 0 LZ) (B + 1) 0 22 LZ _ hs Tryz.underlying22 rfl hiz
        refine bodyPost_ret (v := .tuple #[.agg LZ.toArray, .int .i64 kk, .int .i64 0]) ?_ rfl ⟨by rw [← HRL.out, HKK.out.1, HKK.out.2, HD.out.1, if_neg HD.out.2.1, HD.out.2.2], by first | exact belows_put (by omega) LZ 0 HB.out | (rw [hB]; exact belows_put (by omega) LZ 0 HB.out)⟩
        simp [results, Tryz.f11, asAddr, hld]
      · have hlive : tln kk YL = YL := tln_live kk YL (by omega)
        have hfx : (if kk = 1 then (cc : Int) else 0) = (cc : Int) := by
          by_cases h : kk = 1
          · rw [if_pos h]
          · rw [if_neg h, hk0 (by omega)]; rfl
        have HD : Hid (tln kk YL = YL ∧ (if kk = 1 then (cc : Int) else 0) = (cc : Int)) := ⟨hlive, hfx⟩
        clear hlive hfx
        go_wp2
        refine wp_loop_rounds 1 ?_
        rw [rounds_succ]
        go_wp2_with (first | refine wpList_load_mid rfl 22 _ rfl _ 0 rfl L _ hr Tryz.underlying22 rfl hi9 ?_ | refine wpList_store_mid rfl 22 _ _ rfl _ 0 L.toArray rfl rfl ht hj9 hone ?_)
        have hs : (wr.setCells (B + 1) 0 L).rangeAt (B + 1) 0 L := World.rangeAt_setCells_same wr _ 0 L (by simpa using ht)
        have hld := run_loadVar_mid (P := Tryz.prog) (wr.setCells (B + 1) 0 L) (B + 1) 0 22 L _ hs Tryz.underlying22 rfl hi9
        refine bodyPost_ret (v := .tuple #[.agg L.toArray, .int .i64 kk, .int .i64 (cc : Int)]) ?_ rfl ⟨by rw [← HRL.out, HKK.out.1, HKK.out.2, HD.out.1, HD.out.2, HL.out], by first | exact belows_put (by omega) L 0 HB.out | (rw [hB]; exact belows_put (by omega) L 0 HB.out)⟩
        simp [results, Tryz.f11, asAddr, hld]
set_option maxRecDepth 100000 in
set_option maxHeartbeats 2000000 in
theorem refDecode10_2 (R : Nat → Int) (hR : Byts 72 R) (ix : Int) (w : World) :
    Calls Tryz.prog 11 #[.int .i64 2, .agg (ints .u8 72 R).toArray, .int .i64 ix] w fun e w' => e = .returned (.tuple #[.agg (ints .u8 64 (tln (top (vC R (vir ix false)) 2) (lC R (vir ix false)))).toArray, .int .i64 (top (vC R (vir ix false)) 2), .int .i64 (if top (vC R (vir ix false)) 2 = 1 then (cnt (vC R (vir ix false)) 2 : Int) else 0)]) ∧ Below w.heap.size w w' := by
  have hz := zeroA10
  have hzc := zero_cols
  have i74 := info_cols
  have o74 := colsL_one
  have ht74 := there_cols10
  have cC : Hid (∀ (n : Nat) (W : World), n < 2 → Calls Tryz.prog 27 #[.agg (ints .u8 72 R).toArray, .int .i64 (n : Int), .int .i64 ix] W fun e w' => e = .returned (.tuple #[.agg (ints .u8 32 (fun i => lC R (vir ix false) (32 * n + i))).toArray, .int .i64 (vC R (vir ix false) n)]) ∧ Below W.heap.size W w') := fun n W hn => refChips10_any R hR n hn ix W
  have hkb : ∀ n, 0 ≤ vC R (vir ix false) n ∧ vC R (vir ix false) n ≤ 3 := fun n => kC_bd _
  obtain ⟨YL, hYL⟩ : ∃ Y, lC R (vir ix false) = Y := ⟨_, rfl⟩
  obtain ⟨K, hK⟩ : ∃ K, vC R (vir ix false) = K := ⟨_, rfl⟩
  rw [hK] at hkb
  simp only [hYL, hK] at cC
  rw [hYL, hK]
  clear hYL hK
  have hz32 := zeroH
  obtain ⟨Z32, hZ32⟩ : ∃ A, (ints .u8 32 fun _ => 0).toArray = A := ⟨_, rfl⟩
  rw [hZ32] at hz32
  have HZ32 : Hid ((ints .u8 32 fun _ => 0).toArray = Z32) := hZ32
  clear hZ32
  obtain ⟨tp, ht0, hts⟩ : ∃ tp, Hid (top K = tp ∧ tp 0 = 0) ∧ ∀ n, tp (n + 1) = max (tp n) (K n) := ⟨top K, ⟨rfl, rfl⟩, fun n => rfl⟩
  obtain ⟨ct, hc0, hcs⟩ : ∃ ct, Hid (cnt K = ct ∧ ct 0 = 0) ∧ ∀ n, ct (n + 1) = ct n + if K n = 1 then 1 else 0 := ⟨cnt K, ⟨rfl, rfl⟩, fun n => rfl⟩
  have hcl : ∀ n, ct n ≤ n := fun n => by rw [← hc0.out.1]; exact cnt_le K n
  have HT : Hid ((∀ n, tp (n + 1) = max (tp n) (K n)) ∧ (∀ n, ct (n + 1) = ct n + if K n = 1 then 1 else 0) ∧ (∀ n, ct n ≤ n) ∧ (∀ n, 0 ≤ K n ∧ K n ≤ 3) ∧ (∀ n, 0 ≤ tp n ∧ tp n ≤ 3) ∧ (∀ n, tp n < 1 → ct n = 0)) := ⟨hts, hcs, hcl, hkb, fun n => by
    rw [← ht0.out.1]
    exact top_bd K n (fun j _ => hkb j) n (Nat.le_refl _), fun n => by
    rw [← ht0.out.1, ← hc0.out.1]
    exact cnt_none K n⟩
  rw [ht0.out.1, hc0.out.1]
  obtain ⟨RL, HRL⟩ : ∃ RL, Hid (Value.tuple #[.agg (ints .u8 64 (tln (tp 2) YL)).toArray, .int .i64 (tp 2), .int .i64 (if tp 2 = 1 then (ct 2 : Int) else 0)] = RL) := ⟨_, rfl⟩
  rw [HRL.out]
  obtain ⟨A, hA⟩ : ∃ A, (ints .u8 72 R) = A := ⟨_, rfl⟩
  have iA : (Tryz.prog.info? 26).map (·.size) = some A.length := by rw [← hA, ints_len]; exact infoA9
  obtain ⟨Z, hZ⟩ : ∃ A, (ints .u8 64 fun _ => 0).toArray = A := ⟨_, rfl⟩
  rw [hZ] at hz
  simp only [hA] at cC
  rw [hA]
  have CC : Hid (∀ (n : Nat) (W : World), n < 2 → Calls Tryz.prog 27 #[.agg A.toArray, .int .i64 (n : Int), .int .i64 ix] W fun e w' => e = .returned (.tuple #[.agg (ints .u8 32 (fun i => YL (32 * n + i))).toArray, .int .i64 (K n)]) ∧ Below W.heap.size W w') := cC
  have HI : Hid (∀ V, V = ((w.alloc (.cells A.toArray 26)).alloc (.cells Z 22)).alloc (.cells Z 22) → Bk .u8 V w.heap.size 72 R ∧ Bk .u8 V (w.heap.size + 1) 64 (fun _ => 0) ∧ Bk .u8 V (w.heap.size + 1 + 1) 64 (fun _ => 0) ∧ Below w.heap.size w V) := fun V hV => by
    subst hV
    rw [← hA, ← hZ]
    have h1 := Bk.new .u8 w 72 R 26
    have h2 := Bk.new .u8 (w.alloc (.cells (ints .u8 72 R).toArray 26)) 64 (fun _ => 0) 22
    have h3 := Bk.new .u8 ((w.alloc (.cells (ints .u8 72 R).toArray 26)).alloc (.cells (ints .u8 64 fun _ => 0).toArray 22)) 64 (fun _ => 0) 22
    simp only [World.size_alloc] at h2 h3
    exact ⟨(h1.alloc _).alloc _, h2.alloc _, h3, (((Below.refl _ w).alloc (Nat.le_refl _) _).alloc (by simp) _).alloc (by simp <;> omega) _⟩
  have HA : Hid ((ints .u8 72 R) = A ∧ (ints .u8 64 fun _ => 0).toArray = Z) := ⟨hA, hZ⟩
  clear hA hZ cC hR hts hcs hcl hkb
  go_enter Tryz.func11, Tryz.ntmps11
  go_wp2_with fail
  obtain ⟨V, hV⟩ : ∃ V, ((w.alloc (.cells A.toArray 26)).alloc (.cells Z 22)).alloc (.cells Z 22) = V := ⟨_, rfl⟩
  have H0 := HI.out V hV.symm
  rw [hV]
  clear hV HI
  obtain ⟨B, hB⟩ : ∃ B, w.heap.size = B := ⟨_, rfl⟩
  rw [hB] at H0 ⊢
  refine (refColumns_any _).mono ?_
  rintro e V1 ⟨rfl, b1⟩
  have ht1 := ht74 V1
  obtain ⟨C, hC⟩ : ∃ C, V1.heap.size = C := ⟨_, rfl⟩
  have H1 : Hid (RdI B C R (fun _ => 0) w ((V1.alloc (.cells (stageC 0) 43)).setCells C 0 colsL)) := by
    obtain ⟨h1, h2, h3, h4⟩ := H0
    have g1 := h1.next b1
    have g2 := h2.next b1
    have g3 := h3.next b1
    have g4 := cols_laid V1
    rw [hC] at g4
    have l3 := g3.lt
    have l0 := h3.lt
    refine ⟨(g1.alloc _).putOther (by omega) 0 _, (g2.alloc _).putOther (by omega) 0 _, (g3.alloc _).putOther (by omega) 0 _, g4, by omega, belows_put (by omega) colsL 0 ((h4.trans (b1.mono (by omega))).alloc (by omega) _)⟩
  rw [hC] at ht1
  try rw [hC]
  clear H0 b1 ht74
  obtain ⟨S0, hS0⟩ : ∃ S0, stageC 0 = S0 := ⟨_, rfl⟩
  rw [hS0] at hzc ht1 H1
  clear hS0
  go_upto_region 5 with (refine wpList_store_mid rfl 43 _ _ rfl _ 0 colsL.toArray rfl rfl ht1 (by simpa using i74) o74 ?_)
  obtain ⟨V2, hV2⟩ : ∃ V2, (V1.alloc (.cells S0 43)).setCells C 0 colsL = V2 := ⟨_, rfl⟩
  rw [hV2] at H1
  rw [hV2]
  clear hV2 ht1 hC V1
  go_wp2
  refine wp_loop_rounds 1 ?_
  rw [rounds_succ]
  go_wp2
  go_loopw [10, 11, 17] (fun a b i wr => ∃ n : Nat, n ≤ 2 ∧ a = .int .i64 (tp n) ∧ b = .int .i64 (ct n : Int) ∧ i = .int .i64 (n : Int) ∧ Hid (RdI B C R (fun j => if j < 32 * n then YL j else 0) w wr)) (fun _ _ i _ => 2 - (intOf i).toNat)
  case atStart => exact ⟨0, by omega, by rw [ht0.out.2], by rw [hc0.out.2]; rfl, rfl, H1.out.congr fun i _ => by rw [if_neg (by omega)]⟩
  case round =>
    obtain ⟨n, hn, rfl, rfl, rfl, HK⟩ := hrel
    by_cases hlt : n < 2
    · have r0 := HK.out.r.range
      rw [HA.out.1] at r0
      have htp := HT.out.1 n
      have hct := HT.out.2.1 n
      have hcl := HT.out.2.2.1 n
      have htb := HT.out.2.2.2.2.1 n
      have hkb := HT.out.2.2.2.1 n
      obtain ⟨kn, hkn⟩ : ∃ kn, K n = kn := ⟨_, rfl⟩
      obtain ⟨LX, hLX⟩ : ∃ L, (ints .u8 32 fun i => YL (32 * n + i)) = L := ⟨_, rfl⟩
      have HKN : Hid (∀ W : World, Calls Tryz.prog 27 #[.agg A.toArray, .int .i64 (n : Int), .int .i64 ix] W fun e w' => e = .returned (.tuple #[.agg LX.toArray, .int .i64 kn]) ∧ Below W.heap.size W w') := fun W => by rw [← hkn, ← hLX]; exact CC.out n W hlt
      have jX : (Tryz.prog.info? 58).map (·.size) = some LX.toArray.size := by rw [← hLX]; simpa [ints_len] using info32
      have oX : LX.toArray.all (·.oneCell') = true := by rw [← hLX]; exact ints_one .u8 32 _
      rw [hkn] at htp hct hkb
      have HTP : Hid (tp (n + 1) = max (tp n) kn ∧ ct (n + 1) = ct n + if kn = 1 then 1 else 0) := ⟨htp, hct⟩
      obtain ⟨tn, htn⟩ : ∃ tn, tp n = tn := ⟨_, rfl⟩
      obtain ⟨cn, hcn⟩ : ∃ cn, ct n = cn := ⟨_, rfl⟩
      rw [htn] at HTP htb
      rw [hcn] at HTP hcl
      try rw [htn]
      try rw [hcn]
      clear htp hct hkn H1 htn hcn
      go_wp2_with (refine wpList_load_mid rfl 26 _ rfl B 0 rfl A _ r0 Tryz.underlying26 rfl iA ?_)
      refine (HKN.out _).mono ?_
      rintro e W3 ⟨rfl, b3⟩
      replace HK : Hid (RdI B C R (fun j => if j < 32 * n then YL j else 0) w W3) := HK.out.next b3
      obtain ⟨M, hM⟩ : ∃ M, W3.heap.size = M := ⟨_, rfl⟩
      have t1 : (W3.alloc (.cells Z32 58)).there M 0 LX.toArray.size := by
        rw [← HZ32.out, ← hLX, ← hM]
        exact (Bk.new .u8 W3 32 (fun _ => 0) 58).there .u8 _
      have HM : Hid (RdM B C M R (fun j => if j < 32 * n then YL j else 0) (fun i => YL (32 * n + i)) w ((W3.alloc (.cells Z32 58)).setCells M 0 LX)) := by
        have h := (Bk.new .u8 W3 32 (fun _ => 0) 58).put (fun i => YL (32 * n + i))
        rw [hLX, HZ32.out, hM] at h
        have hk := HK.out
        have l1 := hk.r.lt
        have l2 := hk.o.lt
        have l3 := hk.y.lt
        have l4 := hk.c.s
        have l5 := hk.lt
        exact ⟨⟨(hk.r.alloc _).putOther (by omega) 0 _, (hk.o.alloc _).putOther (by omega) 0 _, (hk.y.alloc _).putOther (by omega) 0 _, (hk.c.alloc _).of (heap_puts M LX 0 _ C (by omega)), l5, belows_put (by omega) LX 0 (hk.below.alloc (by omega) _)⟩, h, by omega⟩
      clear b3 r0 hLX HK HKN
      go_upto_region 22 with (refine wpList_store_mid rfl 58 _ _ rfl _ 0 LX.toArray rfl rfl t1 jX oX ?_)
      try rw [hM]
      obtain ⟨W4, hW4⟩ : ∃ W, (W3.alloc (.cells Z32 58)).setCells M 0 LX = W := ⟨_, rfl⟩
      rw [hW4] at HM
      rw [hW4]
      clear hW4 t1 hM W3
      go_wp2
      go_loopw [20] (fun i wr => ∃ j : Nat, j ≤ 32 ∧ i = .int .i64 (j : Int) ∧ Hid (RdM B C M R (fun i => if i < 32 * n + j then YL i else 0) (fun i => YL (32 * n + i)) w wr)) (fun i _ => 32 - (intOf i).toNat)
      case atStart => exact ⟨0, by omega, rfl, HM⟩
      case round =>
        obtain ⟨j, hj, rfl, HJ⟩ := hrel
        by_cases hjt : j < 32
        · obtain ⟨x, Hx⟩ : ∃ x, Hid (YL (32 * n + j) = x) := ⟨_, rfl⟩
          have c0 := HJ.out.x.cell j hjt
          rw [Hx.out] at c0
          have c1 := HJ.out.i.y.cell (32 * n + j) (by omega)
          have c2 := HJ.out.i.y.free (32 * n + j)
          have HN : Hid (RdM B C M R (fun i => if i < 32 * n + (j + 1) then YL i else 0) (fun i => YL (32 * n + i)) w (wr.setCell ⟨B + 1 + 1, 32 * n + j, none⟩ (.int .u8 x))) := (HJ.out.set (32 * n + j) x).congr fun i _ => by
            show (if i = 32 * n + j then x else if i < 32 * n + j then YL i else 0) = if i < 32 * n + (j + 1) then YL i else 0
            by_cases h : i = 32 * n + j
            · rw [if_pos h, if_pos (by omega), h, Hx.out]
            · rw [if_neg h]
              by_cases h2 : i < 32 * n + j
              · rw [if_pos h2, if_pos (by omega)]
              · rw [if_neg h2, if_neg (by omega)]
          clear Hx HM HJ
          go_wp2
          go_roundw
          case rel => exact ⟨j + 1, by omega, by go_num, HN⟩
          case measure => simp [intOf]; omega
        · obtain rfl : j = 32 := by omega
          have HN : Hid (RdI B C R (fun j => if j < 32 * (n + 1) then YL j else 0) w wr) := HJ.out.i.congr fun i _ => by rw [show 32 * n + 32 = 32 * (n + 1) from by omega]
          clear HJ HM
          by_cases hg : tn < kn
          · by_cases h1 : kn = 1
            · have e1 : Hid (tp (n + 1) = kn ∧ ct (n + 1) = cn + 1) := ⟨by rw [HTP.out.1]; omega, by rw [HTP.out.2, if_pos h1]⟩
              clear HTP
              go_wp2
              go_roundw
              case rel => exact ⟨n + 1, by omega, by rw [e1.out.1], by rw [e1.out.2]; go_num, by go_num, HN⟩
              case measure => simp [intOf]; omega
            · have e1 : Hid (tp (n + 1) = kn ∧ ct (n + 1) = cn) := ⟨by rw [HTP.out.1]; omega, by rw [HTP.out.2, if_neg h1]; rfl⟩
              clear HTP
              go_wp2
              go_roundw
              case rel => exact ⟨n + 1, by omega, by rw [e1.out.1], by rw [e1.out.2], by go_num, HN⟩
              case measure => simp [intOf]; omega
          · by_cases h1 : kn = 1
            · have e1 : Hid (tp (n + 1) = tn ∧ ct (n + 1) = cn + 1) := ⟨by rw [HTP.out.1]; omega, by rw [HTP.out.2, if_pos h1]⟩
              clear HTP
              go_wp2
              go_roundw
              case rel => exact ⟨n + 1, by omega, by rw [e1.out.1], by rw [e1.out.2]; go_num, by go_num, HN⟩
              case measure => simp [intOf]; omega
            · have e1 : Hid (tp (n + 1) = tn ∧ ct (n + 1) = cn) := ⟨by rw [HTP.out.1]; omega, by rw [HTP.out.2, if_neg h1]; rfl⟩
              clear HTP
              go_wp2
              go_roundw
              case rel => exact ⟨n + 1, by omega, by rw [e1.out.1], by rw [e1.out.2], by go_num, HN⟩
              case measure => simp [intOf]; omega
    · obtain rfl : n = 2 := by omega
      have HE : RdI B C R YL w wr := HK.out.congr fun i hi => by rw [if_pos (by omega)]
      have hr := HE.y.range
      have ht := HE.o.there .u8 YL
      have ht0 := HE.o.there .u8 (fun _ => 0)
      have HB : Hid (Below B w wr) := HE.below
      have hkt := HT.out.2.2.2.2.1 2
      have hk0 := HT.out.2.2.2.2.2 2
      obtain ⟨L, hL⟩ : ∃ L, ints .u8 64 YL = L := ⟨_, rfl⟩
      have hi9 : (Tryz.prog.info? 22).map (·.size) = some L.length := by rw [← hL, ints_len]; exact infoA10
      have hj9 : (Tryz.prog.info? 22).map (·.size) = some L.toArray.size := by simpa using hi9
      have hone : L.toArray.all (·.oneCell') = true := by rw [← hL]; exact ints_one .u8 64 _
      rw [hL] at hr ht
      have HL : Hid (ints .u8 64 YL = L) := hL
      obtain ⟨kk, hkk⟩ : ∃ kk, tp 2 = kk := ⟨_, rfl⟩
      obtain ⟨cc, hcc⟩ : ∃ cc : Nat, ct 2 = cc := ⟨_, rfl⟩
      rw [hkk] at hkt hk0
      rw [hcc] at hk0
      have HKK : Hid (tp 2 = kk ∧ ct 2 = cc) := ⟨hkk, hcc⟩
      rw [hkk, hcc]
      clear HK HE hL HT H1 hkk hcc CC 
      by_cases hgt : 1 < kk
      · have hdead : tln kk YL = fun _ => 0 := tln_dead kk YL (by omega)
        obtain ⟨LZ, hLZ⟩ : ∃ L, (ints .u8 64 fun _ => 0) = L := ⟨_, rfl⟩
        have hiz : (Tryz.prog.info? 22).map (·.size) = some LZ.length := by rw [← hLZ, ints_len]; exact infoA10
        have hjz : (Tryz.prog.info? 22).map (·.size) = some LZ.toArray.size := by simpa using hiz
        have honez : LZ.toArray.all (·.oneCell') = true := by rw [← hLZ]; exact ints_one .u8 64 _
        rw [hLZ] at ht0
        have hZL : Z = LZ.toArray := by rw [← HA.out.2, hLZ]
        have hn1 : ¬ kk = 1 := by omega
        have HD : Hid (tln kk YL = (fun _ => 0) ∧ ¬ kk = 1 ∧ (ints .u8 64 fun _ => 0) = LZ) := ⟨hdead, hn1, hLZ⟩
        rw [hZL] at hz
        clear hdead hLZ hr ht hi9 hj9 hone HL hZL hn1
        go_wp2_with (refine wpList_store_mid rfl 22 _ _ rfl _ 0 LZ.toArray rfl rfl ht0 hjz honez ?_)
        have hs : (wr.setCells (B + 1) 0 LZ).rangeAt (B + 1) 0 LZ := World.rangeAt_setCells_same wr _ 0 LZ (by simpa using ht0)
        have hld := run_loadVar_mid (P := Tryz.prog) (wr.setCells (B + 1) 0 LZ) (B + 1) 0 22 LZ _ hs Tryz.underlying22 rfl hiz
        refine bodyPost_ret (v := .tuple #[.agg LZ.toArray, .int .i64 kk, .int .i64 0]) ?_ rfl ⟨by rw [← HRL.out, HKK.out.1, HKK.out.2, HD.out.1, if_neg HD.out.2.1, HD.out.2.2], by first | exact belows_put (by omega) LZ 0 HB.out | (rw [hB]; exact belows_put (by omega) LZ 0 HB.out)⟩
        simp [results, Tryz.f11, asAddr, hld]
      · have hlive : tln kk YL = YL := tln_live kk YL (by omega)
        have hfx : (if kk = 1 then (cc : Int) else 0) = (cc : Int) := by
          by_cases h : kk = 1
          · rw [if_pos h]
          · rw [if_neg h, hk0 (by omega)]; rfl
        have HD : Hid (tln kk YL = YL ∧ (if kk = 1 then (cc : Int) else 0) = (cc : Int)) := ⟨hlive, hfx⟩
        clear hlive hfx
        go_wp2_with (first | refine wpList_load_mid rfl 22 _ rfl _ 0 rfl L _ hr Tryz.underlying22 rfl hi9 ?_ | refine wpList_store_mid rfl 22 _ _ rfl _ 0 L.toArray rfl rfl ht hj9 hone ?_)
        have hs : (wr.setCells (B + 1) 0 L).rangeAt (B + 1) 0 L := World.rangeAt_setCells_same wr _ 0 L (by simpa using ht)
        have hld := run_loadVar_mid (P := Tryz.prog) (wr.setCells (B + 1) 0 L) (B + 1) 0 22 L _ hs Tryz.underlying22 rfl hi9
        refine bodyPost_ret (v := .tuple #[.agg L.toArray, .int .i64 kk, .int .i64 (cc : Int)]) ?_ rfl ⟨by rw [← HRL.out, HKK.out.1, HKK.out.2, HD.out.1, HD.out.2, HL.out], by first | exact belows_put (by omega) L 0 HB.out | (rw [hB]; exact belows_put (by omega) L 0 HB.out)⟩
        simp [results, Tryz.f11, asAddr, hld]
theorem refDecode10_any (m : Int) (hm : m = 1 ∨ m = 2) (R : Nat → Int) (hR : Byts 72 R) (ix : Int) (w : World) :
    Calls Tryz.prog 11 #[.int .i64 m, .agg (ints .u8 72 R).toArray, .int .i64 ix] w fun e w' => e = .returned (.tuple #[.agg (ints .u8 64 (Dl m R ix)).toArray, .int .i64 (Dk m R ix), .int .i64 (Df m R ix)]) ∧ Below w.heap.size w w' := by
  rcases hm with rfl | rfl
  · exact refDecode10_1 R hR ix w
  · exact refDecode10_2 R hR ix w
end Go.Proofs.YtoimbjbdkkohcaaGreatDoor
