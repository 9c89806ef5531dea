/-
  Encode and Decode, in any mode.
-/
import Derived.Test.YtdjknaafefnlcaaDoorCoW8
namespace Go.Proofs.YtdjknaafefnlcaaDoor
open Go.RowKit Go.Shelf
open Po (El toE)
attribute [local go_sem] Oper.semAt_some

/-- raw bytes are a line's -/
def Enc (m : Int) (F : Nat → Int) (ix : Int) (p : Bool) (R : Nat → Int) : Prop :=
  Byts 72 R ∧ ((m = 1 ∧ Co.Enc1 F (par ix) (bt p) R) ∨ (m = 2 ∧ Co.Enc2 F (vir ix p) R) ∨ (m ≠ 1 ∧ m ≠ 2 ∧ ∀ i, i < 72 → R i = 0))
/-- what is decoded: the line, the verdict's kind, how many words were mended -/
def Dk (m : Int) (R : Nat → Int) (ix : Int) : Int := if m = 1 then top (vB R (par ix)) 8 else if m = 2 then top (vC R (vir ix false)) 2 else 3
def Df (m : Int) (R : Nat → Int) (ix : Int) : Int := if m = 1 then (if top (vB R (par ix)) 8 = 1 then (cnt (vB R (par ix)) 8 : Int) else 0) else if m = 2 then (if top (vC R (vir ix false)) 2 = 1 then (cnt (vC R (vir ix false)) 2 : Int) else 0) else 0
def Dl (m : Int) (R : Nat → Int) (ix : Int) : Nat → Int := if m = 1 then tln (top (vB R (par ix)) 8) (wby (fB R (par ix))) else if m = 2 then tln (top (vC R (vir ix false)) 2) (lC R (vir ix false)) else fun _ => 0
theorem tln_byts (k : Int) (L : Nat → Int) (h : Byts 64 L) : Byts 64 (tln k L) := fun i hi => by
  unfold tln
  split
  · exact ⟨Int.le_refl _, show (0 : Int) < 256 by decide⟩
  · exact h i hi
theorem dl_byts (m : Int) (R : Nat → Int) (ix : Int) : Byts 64 (Dl m R ix) := by
  unfold Dl
  split
  · exact tln_byts _ _ fun i _ => by unfold wby; omega
  · split
    · exact tln_byts _ _ fun i _ => oe_bd _
    · exact fun _ _ => ⟨Int.le_refl _, show (0 : Int) < 256 by decide⟩

set_option maxRecDepth 100000 in
set_option maxHeartbeats 1000000 in
theorem encode10_any (c h r f : Nat) (m : Int) (F : Nat → Int) (hF : Byts 64 F) (ix : Int) (p : Bool) (w : World) (hc : CcAt w c h r f) (hT : TabW w) :
    Calls Tryd.prog 11 #[.pointer (some ⟨c, 0, none⟩), .int .i64 m, .agg (ints .u8 64 F).toArray, .int .i64 ix, .bool p] w fun e w' => ∃ R, e = .returned (.agg (ints .u8 72 R).toArray) ∧ Enc m F ix p R ∧ Below w.heap.size w w' := by
  have hz := zeroR
  have c1 : Hid (∀ W : World, CcAt W c h r f → TabW W → Calls Tryd.prog 18 #[.pointer (some ⟨c, 0, none⟩), .agg (ints .u8 64 F).toArray, .int .i64 ix, .bool p] W fun e w' => e = .returned (.agg (ints .u8 72 (enB F (par ix) (bt p))).toArray) ∧ Below W.heap.size W w') := fun W H HT => encodeBits_any c h r f F hF ix p W H HT
  have c2 : Hid (∀ W : World, CcAt W c h r f → TabW W → Calls Tryd.prog 19 #[.pointer (some ⟨c, 0, none⟩), .agg (ints .u8 64 F).toArray, .int .i64 ix, .bool p] W fun e w' => ∃ R, e = .returned (.agg (ints .u8 72 R).toArray) ∧ Co.Enc2 F (vir ix p) R ∧ Below W.heap.size W w') := fun W H HT => encodeChips_any c h r f F hF ix p W H HT
  obtain ⟨A0, hA0⟩ : ∃ A, ints .u8 64 F = A := ⟨_, rfl⟩
  obtain ⟨Z, hZ⟩ : ∃ A, (ints .u8 72 fun _ => 0) = A := ⟨_, rfl⟩
  have i0 : (Tryd.prog.info? 23).map (·.size) = some A0.length := by rw [← hA0, ints_len]; exact infoL
  have HEb : Hid (Enc 1 F ix p (enB F (par ix) (bt p))) := ⟨(enB_enc F _ _).byt hF, .inl ⟨rfl, enB_enc F _ _⟩⟩
  rw [hZ] at hz
  rw [hA0] at c1 c2 ⊢
  go_enter Tryd.func11, Tryd.ntmps11
  go_upto_region 1 with (fail)
  obtain ⟨B, hB⟩ : ∃ B, w.heap.size = B := ⟨_, rfl⟩
  obtain ⟨V, hV⟩ : ∃ V, (w.alloc (.cells A0.toArray 23)).alloc (.cells Z.toArray 25) = V := ⟨_, rfl⟩
  have st : Below w.heap.size w V := by rw [← hV]; exact ((Below.refl _ w).alloc (Nat.le_refl _) _).alloc (by simp) _
  have HV : Hid (Bk .u8 V B 64 F ∧ Bk .u8 V (B + 1) 72 (fun _ => 0) ∧ CcAt V c h r f ∧ TabW V ∧ Below B w V) := by
    have h0 := Bk.new .u8 w 64 F 23
    have h1 := Bk.new .u8 (w.alloc (.cells A0.toArray 23)) 72 (fun _ => 0) 25
    simp only [World.size_alloc] at h1
    rw [hA0] at h0
    rw [hZ] at h1
    rw [hV] at h1
    have h2 := h0.alloc (.cells Z.toArray 25)
    rw [hV] at h2
    rw [hB] at h1 h2
    exact ⟨h2, h1, hc.next st, hT.next st, by rw [← hB]; exact st⟩
  have hr := HV.out.1.range
  rw [hA0] at hr
  have HZ : Hid (ints .u8 64 F = A0 ∧ (ints .u8 72 fun _ => 0) = Z) := ⟨hA0, hZ⟩
  rw [hV, hB]
  clear hV st hc hT hA0 hZ
  by_cases h1 : m = 1
  · subst h1
    go_wp2_with (refine wpList_load_mid rfl 23 _ rfl B 0 rfl A0 _ hr Tryd.underlying23 rfl i0 ?_)
    refine (c1.out _ HV.out.2.2.1 HV.out.2.2.2.1).mono ?_
    rintro e V1 ⟨rfl, b1⟩
    obtain ⟨T, hT'⟩ : ∃ T, B + 1 = T := ⟨_, rfl⟩
    have HW : Hid (Bk .u8 V1 T 72 (fun _ => 0) ∧ Below B w V1) := by rw [← hT']; exact ⟨HV.out.2.1.next b1, HV.out.2.2.2.2.trans (b1.mono (by have := HV.out.1.lt; omega))⟩
    have ht := HW.out.1.there .u8 (enB F (par ix) (bt p))
    have hi9 : (Tryd.prog.info? 25).map (·.size) = some (ints .u8 72 (enB F (par ix) (bt p))).length := by rw [ints_len]; exact infoR
    have hone := ints_one .u8 72 (enB F (par ix) (bt p))
    obtain ⟨L, hL⟩ : ∃ L, ints .u8 72 (enB F (par ix) (bt p)) = L := ⟨_, rfl⟩
    rw [hL] at ht hi9 hone
    rw [hT']
    try simp only [hL]
    have HL : Hid (ints .u8 72 (enB F (par ix) (bt p)) = L) := hL
    have j9 : (Tryd.prog.info? 25).map (·.size) = some L.toArray.size := by simpa using hi9
    have HE2 : Hid (Enc 1 F ix p (enB F (par ix) (bt p))) := HEb.out
    clear hL hr b1
    go_wp2_with (refine wpList_store_mid rfl 25 _ _ rfl _ 0 L.toArray rfl rfl ht j9 hone ?_)
    have hs : (World.setCells V1 T 0 L).rangeAt T 0 L := World.rangeAt_setCells_same V1 _ 0 L (by simpa using ht)
    have hld := run_loadVar_mid (P := Tryd.prog) (World.setCells V1 T 0 L) T 0 25 L _ hs Tryd.underlying25 rfl hi9
    refine bodyPost_ret (v := .agg L.toArray) ?_ rfl ⟨enB F (par ix) (bt p), by rw [HL.out], HE2.out, by first | exact belows_put (by omega) L 0 HW.out.2 | (rw [hB]; exact belows_put (by omega) L 0 HW.out.2)⟩
    simp [results, Tryd.f11, Act.put, asAddr, hld]
  · have d1 : (m == 1) = false := by simpa using h1
    by_cases h2 : m = 2
    · subst h2
      go_wp2_with (refine wpList_load_mid rfl 23 _ rfl B 0 rfl A0 _ hr Tryd.underlying23 rfl i0 ?_)
      refine (c2.out _ HV.out.2.2.1 HV.out.2.2.2.1).mono ?_
      rintro e V1 ⟨R, rfl, hE, b1⟩
      obtain ⟨T, hT'⟩ : ∃ T, B + 1 = T := ⟨_, rfl⟩
      have HW : Hid (Bk .u8 V1 T 72 (fun _ => 0) ∧ Below B w V1) := by rw [← hT']; exact ⟨HV.out.2.1.next b1, HV.out.2.2.2.2.trans (b1.mono (by have := HV.out.1.lt; omega))⟩
      have ht := HW.out.1.there .u8 (R)
      have hi9 : (Tryd.prog.info? 25).map (·.size) = some (ints .u8 72 (R)).length := by rw [ints_len]; exact infoR
      have hone := ints_one .u8 72 (R)
      obtain ⟨L, hL⟩ : ∃ L, ints .u8 72 (R) = L := ⟨_, rfl⟩
      rw [hL] at ht hi9 hone
      rw [hT']
      try simp only [hL]
      have HL : Hid (ints .u8 72 (R) = L) := hL
      have j9 : (Tryd.prog.info? 25).map (·.size) = some L.toArray.size := by simpa using hi9
      have HE2 : Hid (Enc 2 F ix p (R)) := ⟨hE.b, .inr (.inl ⟨rfl, hE⟩)⟩
      clear hL hr b1 hE
      go_wp2_with (refine wpList_store_mid rfl 25 _ _ rfl _ 0 L.toArray rfl rfl ht j9 hone ?_)
      have hs : (World.setCells V1 T 0 L).rangeAt T 0 L := World.rangeAt_setCells_same V1 _ 0 L (by simpa using ht)
      have hld := run_loadVar_mid (P := Tryd.prog) (World.setCells V1 T 0 L) T 0 25 L _ hs Tryd.underlying25 rfl hi9
      refine bodyPost_ret (v := .agg L.toArray) ?_ rfl ⟨R, by rw [HL.out], HE2.out, by first | exact belows_put (by omega) L 0 HW.out.2 | (rw [hB]; exact belows_put (by omega) L 0 HW.out.2)⟩
      simp [results, Tryd.f11, Act.put, asAddr, hld]
    · have d2 : (m == 2) = false := by simpa using h2
      rw [← HZ.out.2] at hz
      obtain ⟨T, hT'⟩ : ∃ T, B + 1 = T := ⟨_, rfl⟩
      have HW : Hid (Bk .u8 V T 72 (fun _ => 0) ∧ Below B w V) := by rw [← hT']; exact ⟨HV.out.2.1, HV.out.2.2.2.2⟩
      have ht := HW.out.1.there .u8 (fun _ => 0)
      have hi9 : (Tryd.prog.info? 25).map (·.size) = some (ints .u8 72 (fun _ => 0)).length := by rw [ints_len]; exact infoR
      have hone := ints_one .u8 72 (fun _ => 0)
      obtain ⟨L, hL⟩ : ∃ L, ints .u8 72 (fun _ => 0) = L := ⟨_, rfl⟩
      rw [hL] at ht hi9 hone hz
      rw [hT']
      try simp only [hL]
      have HL : Hid (ints .u8 72 (fun _ => 0) = L) := hL
      have j9 : (Tryd.prog.info? 25).map (·.size) = some L.toArray.size := by simpa using hi9
      have HE2 : Hid (Enc m F ix p (fun _ => 0)) := ⟨fun _ _ => ⟨Int.le_refl _, show (0 : Int) < 256 by decide⟩, .inr (.inr ⟨h1, h2, fun _ _ => rfl⟩)⟩
      clear hL hr h1 h2
      go_wp2_with (refine wpList_store_mid rfl 25 _ _ rfl _ 0 L.toArray rfl rfl ht j9 hone ?_)
      have hs : (World.setCells V T 0 L).rangeAt T 0 L := World.rangeAt_setCells_same V _ 0 L (by simpa using ht)
      have hld := run_loadVar_mid (P := Tryd.prog) (World.setCells V T 0 L) T 0 25 L _ hs Tryd.underlying25 rfl hi9
      refine bodyPost_ret (v := .agg L.toArray) ?_ rfl ⟨fun _ => 0, by rw [HL.out], HE2.out, by first | exact belows_put (by omega) L 0 HW.out.2 | (rw [hB]; exact belows_put (by omega) L 0 HW.out.2)⟩
      simp [results, Tryd.f11, Act.put, asAddr, hld]


set_option maxRecDepth 100000 in
set_option maxHeartbeats 1000000 in
theorem decode10_any (c h r f : Nat) (m : Int) (R : Nat → Int) (hR : Byts 72 R) (ix : Int) (w : World) (hc : CcAt w c h r f) (hT : TabW w) :
    Calls Tryd.prog 13 #[.pointer (some ⟨c, 0, none⟩), .int .i64 m, .agg (ints .u8 72 R).toArray, .int .i64 ix] w fun e w' => e = .returned (.tuple #[.agg (ints .u8 64 (Dl m R ix)).toArray, .agg (vd2 (Dk m R ix) (Df m R ix)).toArray]) ∧ Below w.heap.size w w' := by
  have hz := zeroL10
  have hz2 := zero10
  have c1 := fun W H HT => decodeBits_any c h r f R hR ix W H HT
  have c2 := fun W H HT => decodeChips_any c h r f R hR ix W H HT
  obtain ⟨x1, hx1⟩ : ∃ x, top (vB R (par ix)) 8 = x := ⟨_, rfl⟩
  obtain ⟨y1, hy1⟩ : ∃ x, (if x1 = 1 then (cnt (vB R (par ix)) 8 : Int) else 0) = x := ⟨_, rfl⟩
  obtain ⟨o1, ho1⟩ : ∃ x, tln x1 (wby (fB R (par ix))) = x := ⟨_, rfl⟩
  obtain ⟨x2, hx2⟩ : ∃ x, top (vC R (vir ix false)) 2 = x := ⟨_, rfl⟩
  obtain ⟨y2, hy2⟩ : ∃ x, (if x2 = 1 then (cnt (vC R (vir ix false)) 2 : Int) else 0) = x := ⟨_, rfl⟩
  obtain ⟨o2, ho2⟩ : ∃ x, tln x2 (lC R (vir ix false)) = x := ⟨_, rfl⟩
  have e1 : Dl 1 R ix = o1 ∧ Dk 1 R ix = x1 ∧ Df 1 R ix = y1 := by unfold Dl Dk Df; simp only [if_pos]; rw [hx1, hy1, ho1]; exact ⟨rfl, rfl, rfl⟩
  have e2 : Dl 2 R ix = o2 ∧ Dk 2 R ix = x2 ∧ Df 2 R ix = y2 := by
    unfold Dl Dk Df
    rw [if_neg (show ¬ (2 : Int) = 1 by decide), if_neg (show ¬ (2 : Int) = 1 by decide), if_neg (show ¬ (2 : Int) = 1 by decide), if_pos rfl, if_pos rfl, if_pos rfl, hx2, hy2, ho2]; exact ⟨rfl, rfl, rfl⟩
  have e3 : m ≠ 1 → m ≠ 2 → Dl m R ix = (fun _ => 0) ∧ Dk m R ix = 3 ∧ Df m R ix = 0 := fun a b => by
    unfold Dl Dk Df
    rw [if_neg a, if_neg a, if_neg a, if_neg b, if_neg b, if_neg b]; exact ⟨rfl, rfl, rfl⟩
  simp only [hx1, hy1, ho1] at c1
  simp only [hx2, hy2, ho2] at c2
  obtain ⟨A0, hA0⟩ : ∃ A, ints .u8 72 R = A := ⟨_, rfl⟩
  obtain ⟨Z, hZ⟩ : ∃ A, (ints .u8 64 fun _ => 0) = A := ⟨_, rfl⟩
  have i0 : (Tryd.prog.info? 25).map (·.size) = some A0.length := by rw [← hA0, ints_len]; exact infoR
  rw [hZ] at hz
  rw [hA0] at c1 c2 ⊢
  have C1 : Hid (∀ W : World, CcAt W c h r f → TabW W → Calls Tryd.prog 22 #[.pointer (some ⟨c, 0, none⟩), .agg A0.toArray, .int .i64 ix] W fun e w' => e = .returned (.tuple #[.agg (ints .u8 64 o1).toArray, .agg (vd2 x1 y1).toArray]) ∧ Below W.heap.size W w') := c1
  have C2 : Hid (∀ W : World, CcAt W c h r f → TabW W → Calls Tryd.prog 23 #[.pointer (some ⟨c, 0, none⟩), .agg A0.toArray, .int .i64 ix] W fun e w' => e = .returned (.tuple #[.agg (ints .u8 64 o2).toArray, .agg (vd2 x2 y2).toArray]) ∧ Below W.heap.size W w') := c2
  have E1 : Hid (Dl 1 R ix = o1 ∧ Dk 1 R ix = x1 ∧ Df 1 R ix = y1) := e1
  have E2 : Hid (Dl 2 R ix = o2 ∧ Dk 2 R ix = x2 ∧ Df 2 R ix = y2) := e2
  have E3 : Hid (m ≠ 1 → m ≠ 2 → Dl m R ix = (fun _ => 0) ∧ Dk m R ix = 3 ∧ Df m R ix = 0) := e3
  obtain ⟨rl, Hrl⟩ : ∃ rl, Hid (Value.tuple #[.agg (ints .u8 64 (Dl m R ix)).toArray, .agg (vd2 (Dk m R ix) (Df m R ix)).toArray] = rl) := ⟨_, rfl⟩
  rw [Hrl.out]
  clear c1 c2 e1 e2 e3 hx1 hy1 ho1 hx2 hy2 ho2
  go_enter Tryd.func13, Tryd.ntmps13
  go_upto_region 1 with (fail)
  obtain ⟨B, hB⟩ : ∃ B, w.heap.size = B := ⟨_, rfl⟩
  obtain ⟨V, hV⟩ : ∃ V, ((w.alloc (.cells A0.toArray 25)).alloc (.cells Z.toArray 23)).alloc (.cells #[.int .i64 0, .int .i64 0] 32) = V := ⟨_, rfl⟩
  have st : Below w.heap.size w V := by rw [← hV]; exact (((Below.refl _ w).alloc (Nat.le_refl _) _).alloc (by simp) _).alloc (by simp; omega) _
  have HV : Hid (Bk .u8 V B 72 R ∧ Out2 B (B + 1) (B + 1 + 1) w V ∧ CcAt V c h r f ∧ TabW V) := by
    have h0 := Bk.new .u8 w 72 R 25
    have h1 := Bk.new .u8 (w.alloc (.cells A0.toArray 25)) 64 (fun _ => 0) 23
    have h2 := Bk.new2 ((w.alloc (.cells A0.toArray 25)).alloc (.cells Z.toArray 23)) 0 0 32
    simp only [World.size_alloc] at h1 h2
    rw [hA0] at h0
    rw [hZ] at h1
    rw [hV] at h2
    have h1' := h1.alloc (.cells #[.int .i64 0, .int .i64 0] 32)
    have h0' := (h0.alloc (.cells Z.toArray 23)).alloc (.cells #[.int .i64 0, .int .i64 0] 32)
    rw [hV] at h0' h1'
    rw [hB] at h0' h1' h2
    exact ⟨h0', ⟨⟨_, h1'⟩, ⟨_, h2⟩, by rw [← hB]; exact st⟩, hc.next st, hT.next st⟩
  have hr := HV.out.1.range
  rw [hA0] at hr
  have HZ : Hid (ints .u8 72 R = A0 ∧ (ints .u8 64 fun _ => 0) = Z) := ⟨hA0, hZ⟩
  rw [hV, hB]
  clear hV st hc hT hA0 hZ hz2
  obtain ⟨T, hT'⟩ : ∃ T, B + 1 = T := ⟨_, rfl⟩
  obtain ⟨U, hU⟩ : ∃ U, T + 1 = U := ⟨_, rfl⟩
  rw [hT', hU] at HV
  rw [hT']
  try rw [hU]
  have lTU : B ≤ T ∧ B ≤ U ∧ T ≠ U := by omega
  clear hT' hU
  by_cases h1 : m = 1
  · subst h1
    go_wp2_with (refine wpList_load_mid rfl 25 _ rfl B 0 rfl A0 _ hr Tryd.underlying25 rfl i0 ?_)
    refine (C1.out _ HV.out.2.2.1 HV.out.2.2.2).mono ?_
    rintro e V1 ⟨rfl, b1⟩
    have HO : Hid (Out2 B T U w V1) := HV.out.2.1.next lTU.1 b1
    have HR : Hid (rl = Value.tuple #[.agg (ints .u8 64 o1).toArray, .agg (vd2 x1 y1).toArray]) := by
      show _ = _
      have e := E1.out
      rw [← Hrl.out, e.1, e.2.1, e.2.2]
    have tO : Hid ((V1).there T 0 (ints .u8 64 o1).toArray.size) := by obtain ⟨X, hX⟩ := HO.out.a; exact hX.there .u8 _
    have jO : (Tryd.prog.info? 23).map (·.size) = some (ints .u8 64 o1).toArray.size := by simpa [ints_len] using infoL
    have oO := ints_one .u8 64 o1
    have jV : (Tryd.prog.info? 32).map (·.size) = some (vd2 x1 y1).toArray.size := by simpa using info10v x1 y1
    have oV : (vd2 x1 y1).toArray.all (·.oneCell') = true := ints_one .i64 2 _
    have hP := HO.out.put1 lTU.1 lTU.2.2 o1
    have tV : Hid (((V1).setCells T 0 (ints .u8 64 o1)).there U 0 (vd2 x1 y1).toArray.size) := by obtain ⟨X, hX⟩ := hP.c; exact hX.there .i64 _
    have hQ := HO.out.put lTU.1 lTU.2.1 lTU.2.2 o1 x1 y1
    obtain ⟨LO, hLO⟩ : ∃ L, ints .u8 64 o1 = L := ⟨_, rfl⟩
    obtain ⟨LV, hLV⟩ : ∃ L, vd2 x1 y1 = L := ⟨_, rfl⟩
    rw [hLO] at tO jO oO tV
    rw [hLV] at tV jV oV
    have HQ : Hid (Bk .u8 (((V1).setCells T 0 LO).setCells U 0 LV) T 64 o1 ∧ Bk .i64 (((V1).setCells T 0 LO).setCells U 0 LV) U 2 (two x1 y1) ∧ Below B w (((V1).setCells T 0 LO).setCells U 0 LV)) := by
      rw [hLO, hLV] at hQ
      exact hQ
    try simp only [hLO, hLV]
    clear hP hQ hLO hLV hr b1
    go_wp2_with (first | refine wpList_store_mid rfl 23 _ _ rfl T 0 LO.toArray rfl rfl tO.out jO oO ?_ | refine wpList_store_mid rfl 32 _ _ rfl U 0 LV.toArray rfl rfl tV.out jV oV ?_)
    obtain ⟨W9, hW9⟩ : ∃ W9, ((V1).setCells T 0 LO).setCells U 0 LV = W9 := ⟨_, rfl⟩
    rw [hW9] at HQ ⊢
    obtain ⟨q1, q2⟩ := out2_results HQ.out.1 HQ.out.2.1
    refine bodyPost_ret (v := .tuple #[.agg (ints .u8 64 o1).toArray, .agg (vd2 x1 y1).toArray]) ?_ rfl ⟨by rw [HR.out], by first | exact HQ.out.2.2 | (rw [hB]; exact HQ.out.2.2)⟩
    simp [results, Tryd.f13, Act.put, asAddr, q1, q2]
  · have d1 : (m == 1) = false := by simpa using h1
    by_cases h2 : m = 2
    · subst h2
      go_wp2_with (refine wpList_load_mid rfl 25 _ rfl B 0 rfl A0 _ hr Tryd.underlying25 rfl i0 ?_)
      refine (C2.out _ HV.out.2.2.1 HV.out.2.2.2).mono ?_
      rintro e V1 ⟨rfl, b1⟩
      have HO : Hid (Out2 B T U w V1) := HV.out.2.1.next lTU.1 b1
      have HR : Hid (rl = Value.tuple #[.agg (ints .u8 64 o2).toArray, .agg (vd2 x2 y2).toArray]) := by
        show _ = _
        have e := E2.out
        rw [← Hrl.out, e.1, e.2.1, e.2.2]
      have tO : Hid ((V1).there T 0 (ints .u8 64 o2).toArray.size) := by obtain ⟨X, hX⟩ := HO.out.a; exact hX.there .u8 _
      have jO : (Tryd.prog.info? 23).map (·.size) = some (ints .u8 64 o2).toArray.size := by simpa [ints_len] using infoL
      have oO := ints_one .u8 64 o2
      have jV : (Tryd.prog.info? 32).map (·.size) = some (vd2 x2 y2).toArray.size := by simpa using info10v x2 y2
      have oV : (vd2 x2 y2).toArray.all (·.oneCell') = true := ints_one .i64 2 _
      have hP := HO.out.put1 lTU.1 lTU.2.2 o2
      have tV : Hid (((V1).setCells T 0 (ints .u8 64 o2)).there U 0 (vd2 x2 y2).toArray.size) := by obtain ⟨X, hX⟩ := hP.c; exact hX.there .i64 _
      have hQ := HO.out.put lTU.1 lTU.2.1 lTU.2.2 o2 x2 y2
      obtain ⟨LO, hLO⟩ : ∃ L, ints .u8 64 o2 = L := ⟨_, rfl⟩
      obtain ⟨LV, hLV⟩ : ∃ L, vd2 x2 y2 = L := ⟨_, rfl⟩
      rw [hLO] at tO jO oO tV
      rw [hLV] at tV jV oV
      have HQ : Hid (Bk .u8 (((V1).setCells T 0 LO).setCells U 0 LV) T 64 o2 ∧ Bk .i64 (((V1).setCells T 0 LO).setCells U 0 LV) U 2 (two x2 y2) ∧ Below B w (((V1).setCells T 0 LO).setCells U 0 LV)) := by
        rw [hLO, hLV] at hQ
        exact hQ
      try simp only [hLO, hLV]
      clear hP hQ hLO hLV hr b1
      go_wp2_with (first | refine wpList_store_mid rfl 23 _ _ rfl T 0 LO.toArray rfl rfl tO.out jO oO ?_ | refine wpList_store_mid rfl 32 _ _ rfl U 0 LV.toArray rfl rfl tV.out jV oV ?_)
      obtain ⟨W9, hW9⟩ : ∃ W9, ((V1).setCells T 0 LO).setCells U 0 LV = W9 := ⟨_, rfl⟩
      rw [hW9] at HQ ⊢
      obtain ⟨q1, q2⟩ := out2_results HQ.out.1 HQ.out.2.1
      refine bodyPost_ret (v := .tuple #[.agg (ints .u8 64 o2).toArray, .agg (vd2 x2 y2).toArray]) ?_ rfl ⟨by rw [HR.out], by first | exact HQ.out.2.2 | (rw [hB]; exact HQ.out.2.2)⟩
      simp [results, Tryd.f13, Act.put, asAddr, q1, q2]
    · have d2 : (m == 2) = false := by simpa using h2
      have HO : Hid (Out2 B T U w V) := HV.out.2.1
      have HR : Hid (rl = Value.tuple #[.agg (ints .u8 64 (fun _ => 0)).toArray, .agg (vd2 3 0).toArray]) := by
        show _ = _
        have e := E3.out h1 h2
        rw [← Hrl.out, e.1, e.2.1, e.2.2]
      have tO : Hid ((V).there T 0 (ints .u8 64 (fun _ => 0)).toArray.size) := by obtain ⟨X, hX⟩ := HO.out.a; exact hX.there .u8 _
      have jO : (Tryd.prog.info? 23).map (·.size) = some (ints .u8 64 (fun _ => 0)).toArray.size := by simpa [ints_len] using infoL
      have oO := ints_one .u8 64 (fun _ => 0)
      have jV : (Tryd.prog.info? 32).map (·.size) = some (vd2 3 0).toArray.size := by simpa using info10v 3 0
      have oV : (vd2 3 0).toArray.all (·.oneCell') = true := ints_one .i64 2 _
      have hP := HO.out.put1 lTU.1 lTU.2.2 (fun _ => 0)
      have tV : Hid (((V).setCells T 0 (ints .u8 64 (fun _ => 0))).there U 0 (vd2 3 0).toArray.size) := by obtain ⟨X, hX⟩ := hP.c; exact hX.there .i64 _
      have hQ := HO.out.put lTU.1 lTU.2.1 lTU.2.2 (fun _ => 0) 3 0
      obtain ⟨LO, hLO⟩ : ∃ L, ints .u8 64 (fun _ => 0) = L := ⟨_, rfl⟩
      obtain ⟨LV, hLV⟩ : ∃ L, vd2 3 0 = L := ⟨_, rfl⟩
      rw [hLO] at tO jO oO tV
      rw [hLV] at tV jV oV
      have HQ : Hid (Bk .u8 (((V).setCells T 0 LO).setCells U 0 LV) T 64 (fun _ => 0) ∧ Bk .i64 (((V).setCells T 0 LO).setCells U 0 LV) U 2 (two 3 0) ∧ Below B w (((V).setCells T 0 LO).setCells U 0 LV)) := by
        rw [hLO, hLV] at hQ
        exact hQ
      try simp only [hLO, hLV]
      rw [HZ.out.2] at hLO
      subst hLO
      clear hP hQ hr h1 h2
      go_wp2_with (first | refine wpList_store_mid rfl 23 _ _ rfl T 0 Z.toArray rfl rfl tO.out jO oO ?_ | refine wpList_store_mid rfl 32 _ _ rfl U 0 LV.toArray rfl (by rw [← hLV]; rfl) tV.out jV oV ?_)
      obtain ⟨W9, hW9⟩ : ∃ W9, ((V).setCells T 0 Z).setCells U 0 LV = W9 := ⟨_, rfl⟩
      rw [hW9] at HQ ⊢
      obtain ⟨q1, q2⟩ := out2_results HQ.out.1 HQ.out.2.1
      refine bodyPost_ret (v := .tuple #[.agg (ints .u8 64 (fun _ => 0)).toArray, .agg (vd2 3 0).toArray]) ?_ rfl ⟨by rw [HR.out], by first | exact HQ.out.2.2 | (rw [hB]; exact HQ.out.2.2)⟩
      simp [results, Tryd.f13, Act.put, asAddr, q1, q2]
end Go.Proofs.YtdjknaafefnlcaaDoor
