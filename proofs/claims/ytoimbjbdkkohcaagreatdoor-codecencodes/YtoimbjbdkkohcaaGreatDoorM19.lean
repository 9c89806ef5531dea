/-
  Texts of one family, one behind another: CoW9, CoM4, RwW3, RwW4, CoM5, RwW10, RwW11, CoW10, CoW12.
-/
import Derived.Test.YtoimbjbdkkohcaaGreatDoorM18
import Derived.Test.YtoimbjbdkkohcaaGreatDoorM11
import Derived.Deep.DeepCutAuto
import Derived.Test.YtoimbjbdkkohcaaGreatDoorM10
import Derived.Test.YtoimbjbdkkohcaaGreatDoorM12

/-
  Encode and Decode, in any mode.
-/
namespace Go.Proofs.YtoimbjbdkkohcaaGreatDoor
open Go.RowKit Go.Shelf
open Po (El toE)
attribute [local go_sem] Oper.semAt_some

/-- raw bytes are a line's -/
def Enc (m : Int) (F : Nat → Int) (ix : Int) (p : Bool) (R : Nat → Int) : Prop :=
  Byts 72 R ∧ ((m = 1 ∧ Co.Enc1 F (par ix) (bt p) R) ∨ (m = 2 ∧ Co.Enc2 F (vir ix p) R) ∨ (m ≠ 1 ∧ m ≠ 2 ∧ ∀ i, i < 72 → R i = 0))
/-- what is decoded: the line, the verdict's kind, how many words were mended -/
def Dk (m : Int) (R : Nat → Int) (ix : Int) : Int := if m = 1 then top (vB R (par ix)) 8 else if m = 2 then top (vC R (vir ix false)) 2 else 3
def Df (m : Int) (R : Nat → Int) (ix : Int) : Int := if m = 1 then (if top (vB R (par ix)) 8 = 1 then (cnt (vB R (par ix)) 8 : Int) else 0) else if m = 2 then (if top (vC R (vir ix false)) 2 = 1 then (cnt (vC R (vir ix false)) 2 : Int) else 0) else 0
def Dl (m : Int) (R : Nat → Int) (ix : Int) : Nat → Int := if m = 1 then tln (top (vB R (par ix)) 8) (wby (fB R (par ix))) else if m = 2 then tln (top (vC R (vir ix false)) 2) (lC R (vir ix false)) else fun _ => 0
theorem tln_byts (k : Int) (L : Nat → Int) (h : Byts 64 L) : Byts 64 (tln k L) := fun i hi => by
  unfold tln
  split
  · exact ⟨Int.le_refl _, show (0 : Int) < 256 by decide⟩
  · exact h i hi
theorem dl_byts (m : Int) (R : Nat → Int) (ix : Int) : Byts 64 (Dl m R ix) := by
  unfold Dl
  split
  · exact tln_byts _ _ fun i _ => by unfold wby; omega
  · split
    · exact tln_byts _ _ fun i _ => oe_bd _
    · exact fun _ _ => ⟨Int.le_refl _, show (0 : Int) < 256 by decide⟩

set_option maxRecDepth 100000 in
set_option maxHeartbeats 1000000 in
theorem encode10_any (c h r f : Nat) (m : Int) (F : Nat → Int) (hF : Byts 64 F) (ix : Int) (p : Bool) (w : World) (hc : CcAt w c h r f) (hT : TabW w) :
    Calls Tryz.prog 6 #[.pointer (some ⟨c, 0, none⟩), .int .i64 m, .agg (ints .u8 64 F).toArray, .int .i64 ix, .bool p] w fun e w' => ∃ R, e = .returned (.agg (ints .u8 72 R).toArray) ∧ Enc m F ix p R ∧ Below w.heap.size w w' := by
  have hz := zeroR
  have c1 : Hid (∀ W : World, CcAt W c h r f → TabW W → Calls Tryz.prog 14 #[.pointer (some ⟨c, 0, none⟩), .agg (ints .u8 64 F).toArray, .int .i64 ix, .bool p] W fun e w' => e = .returned (.agg (ints .u8 72 (enB F (par ix) (bt p))).toArray) ∧ Below W.heap.size W w') := fun W H HT => encodeBits_any c h r f F hF ix p W H HT
  have c2 : Hid (∀ W : World, CcAt W c h r f → TabW W → Calls Tryz.prog 15 #[.pointer (some ⟨c, 0, none⟩), .agg (ints .u8 64 F).toArray, .int .i64 ix, .bool p] W fun e w' => ∃ R, e = .returned (.agg (ints .u8 72 R).toArray) ∧ Co.Enc2 F (vir ix p) R ∧ Below W.heap.size W w') := fun W H HT => encodeChips_any c h r f F hF ix p W H HT
  obtain ⟨A0, hA0⟩ : ∃ A, ints .u8 64 F = A := ⟨_, rfl⟩
  obtain ⟨Z, hZ⟩ : ∃ A, (ints .u8 72 fun _ => 0) = A := ⟨_, rfl⟩
  have i0 : (Tryz.prog.info? 23).map (·.size) = some A0.length := by rw [← hA0, ints_len]; exact infoL
  have HEb : Hid (Enc 1 F ix p (enB F (par ix) (bt p))) := ⟨(enB_enc F _ _).byt hF, .inl ⟨rfl, enB_enc F _ _⟩⟩
  rw [hZ] at hz
  rw [hA0] at c1 c2 ⊢
  go_enter Tryz.func6, Tryz.ntmps6
  go_upto_region 1 with (fail)
  obtain ⟨B, hB⟩ : ∃ B, w.heap.size = B := ⟨_, rfl⟩
  obtain ⟨V, hV⟩ : ∃ V, (w.alloc (.cells A0.toArray 23)).alloc (.cells Z.toArray 27) = V := ⟨_, rfl⟩
  have st : Below w.heap.size w V := by rw [← hV]; exact ((Below.refl _ w).alloc (Nat.le_refl _) _).alloc (by simp) _
  have HV : Hid (Bk .u8 V B 64 F ∧ Bk .u8 V (B + 1) 72 (fun _ => 0) ∧ CcAt V c h r f ∧ TabW V ∧ Below B w V) := by
    have h0 := Bk.new .u8 w 64 F 23
    have h1 := Bk.new .u8 (w.alloc (.cells A0.toArray 23)) 72 (fun _ => 0) 27
    simp only [World.size_alloc] at h1
    rw [hA0] at h0
    rw [hZ] at h1
    rw [hV] at h1
    have h2 := h0.alloc (.cells Z.toArray 27)
    rw [hV] at h2
    rw [hB] at h1 h2
    exact ⟨h2, h1, hc.next st, hT.next st, by rw [← hB]; exact st⟩
  have hr := HV.out.1.range
  rw [hA0] at hr
  have HZ : Hid (ints .u8 64 F = A0 ∧ (ints .u8 72 fun _ => 0) = Z) := ⟨hA0, hZ⟩
  rw [hV, hB]
  clear hV st hc hT hA0 hZ
  by_cases h1 : m = 1
  · subst h1
    go_wp2_with (refine wpList_load_mid rfl 23 _ rfl B 0 rfl A0 _ hr Tryz.underlying23 rfl i0 ?_)
    refine (c1.out _ HV.out.2.2.1 HV.out.2.2.2.1).mono ?_
    rintro e V1 ⟨rfl, b1⟩
    obtain ⟨T, hT'⟩ : ∃ T, B + 1 = T := ⟨_, rfl⟩
    have HW : Hid (Bk .u8 V1 T 72 (fun _ => 0) ∧ Below B w V1) := by rw [← hT']; exact ⟨HV.out.2.1.next b1, HV.out.2.2.2.2.trans (b1.mono (by have := HV.out.1.lt; omega))⟩
    have ht := HW.out.1.there .u8 (enB F (par ix) (bt p))
    have hi9 : (Tryz.prog.info? 27).map (·.size) = some (ints .u8 72 (enB F (par ix) (bt p))).length := by rw [ints_len]; exact infoR
    have hone := ints_one .u8 72 (enB F (par ix) (bt p))
    obtain ⟨L, hL⟩ : ∃ L, ints .u8 72 (enB F (par ix) (bt p)) = L := ⟨_, rfl⟩
    rw [hL] at ht hi9 hone
    rw [hT']
    try simp only [hL]
    have HL : Hid (ints .u8 72 (enB F (par ix) (bt p)) = L) := hL
    have j9 : (Tryz.prog.info? 27).map (·.size) = some L.toArray.size := by simpa using hi9
    have HE2 : Hid (Enc 1 F ix p (enB F (par ix) (bt p))) := HEb.out
    clear hL hr b1
    go_wp2_with (refine wpList_store_mid rfl 27 _ _ rfl _ 0 L.toArray rfl rfl ht j9 hone ?_)
    have hs : (World.setCells V1 T 0 L).rangeAt T 0 L := World.rangeAt_setCells_same V1 _ 0 L (by simpa using ht)
    have hld := run_loadVar_mid (P := Tryz.prog) (World.setCells V1 T 0 L) T 0 27 L _ hs Tryz.underlying27 rfl hi9
    refine bodyPost_ret (v := .agg L.toArray) ?_ rfl ⟨enB F (par ix) (bt p), by rw [HL.out], HE2.out, by first | exact belows_put (by omega) L 0 HW.out.2 | (rw [hB]; exact belows_put (by omega) L 0 HW.out.2)⟩
    simp [results, Tryz.f6, Act.put, asAddr, hld]
  · have d1 : (m == 1) = false := by simpa using h1
    by_cases h2 : m = 2
    · subst h2
      go_wp2_with (refine wpList_load_mid rfl 23 _ rfl B 0 rfl A0 _ hr Tryz.underlying23 rfl i0 ?_)
      refine (c2.out _ HV.out.2.2.1 HV.out.2.2.2.1).mono ?_
      rintro e V1 ⟨R, rfl, hE, b1⟩
      obtain ⟨T, hT'⟩ : ∃ T, B + 1 = T := ⟨_, rfl⟩
      have HW : Hid (Bk .u8 V1 T 72 (fun _ => 0) ∧ Below B w V1) := by rw [← hT']; exact ⟨HV.out.2.1.next b1, HV.out.2.2.2.2.trans (b1.mono (by have := HV.out.1.lt; omega))⟩
      have ht := HW.out.1.there .u8 (R)
      have hi9 : (Tryz.prog.info? 27).map (·.size) = some (ints .u8 72 (R)).length := by rw [ints_len]; exact infoR
      have hone := ints_one .u8 72 (R)
      obtain ⟨L, hL⟩ : ∃ L, ints .u8 72 (R) = L := ⟨_, rfl⟩
      rw [hL] at ht hi9 hone
      rw [hT']
      try simp only [hL]
      have HL : Hid (ints .u8 72 (R) = L) := hL
      have j9 : (Tryz.prog.info? 27).map (·.size) = some L.toArray.size := by simpa using hi9
      have HE2 : Hid (Enc 2 F ix p (R)) := ⟨hE.b, .inr (.inl ⟨rfl, hE⟩)⟩
      clear hL hr b1 hE
      go_wp2_with (refine wpList_store_mid rfl 27 _ _ rfl _ 0 L.toArray rfl rfl ht j9 hone ?_)
      have hs : (World.setCells V1 T 0 L).rangeAt T 0 L := World.rangeAt_setCells_same V1 _ 0 L (by simpa using ht)
      have hld := run_loadVar_mid (P := Tryz.prog) (World.setCells V1 T 0 L) T 0 27 L _ hs Tryz.underlying27 rfl hi9
      refine bodyPost_ret (v := .agg L.toArray) ?_ rfl ⟨R, by rw [HL.out], HE2.out, by first | exact belows_put (by omega) L 0 HW.out.2 | (rw [hB]; exact belows_put (by omega) L 0 HW.out.2)⟩
      simp [results, Tryz.f6, Act.put, asAddr, hld]
    · have d2 : (m == 2) = false := by simpa using h2
      rw [← HZ.out.2] at hz
      obtain ⟨T, hT'⟩ : ∃ T, B + 1 = T := ⟨_, rfl⟩
      have HW : Hid (Bk .u8 V T 72 (fun _ => 0) ∧ Below B w V) := by rw [← hT']; exact ⟨HV.out.2.1, HV.out.2.2.2.2⟩
      have ht := HW.out.1.there .u8 (fun _ => 0)
      have hi9 : (Tryz.prog.info? 27).map (·.size) = some (ints .u8 72 (fun _ => 0)).length := by rw [ints_len]; exact infoR
      have hone := ints_one .u8 72 (fun _ => 0)
      obtain ⟨L, hL⟩ : ∃ L, ints .u8 72 (fun _ => 0) = L := ⟨_, rfl⟩
      rw [hL] at ht hi9 hone hz
      rw [hT']
      try simp only [hL]
      have HL : Hid (ints .u8 72 (fun _ => 0) = L) := hL
      have j9 : (Tryz.prog.info? 27).map (·.size) = some L.toArray.size := by simpa using hi9
      have HE2 : Hid (Enc m F ix p (fun _ => 0)) := ⟨fun _ _ => ⟨Int.le_refl _, show (0 : Int) < 256 by decide⟩, .inr (.inr ⟨h1, h2, fun _ _ => rfl⟩)⟩
      clear hL hr h1 h2
      go_wp2_with (refine wpList_store_mid rfl 27 _ _ rfl _ 0 L.toArray rfl rfl ht j9 hone ?_)
      have hs : (World.setCells V T 0 L).rangeAt T 0 L := World.rangeAt_setCells_same V _ 0 L (by simpa using ht)
      have hld := run_loadVar_mid (P := Tryz.prog) (World.setCells V T 0 L) T 0 27 L _ hs Tryz.underlying27 rfl hi9
      refine bodyPost_ret (v := .agg L.toArray) ?_ rfl ⟨fun _ => 0, by rw [HL.out], HE2.out, by first | exact belows_put (by omega) L 0 HW.out.2 | (rw [hB]; exact belows_put (by omega) L 0 HW.out.2)⟩
      simp [results, Tryz.f6, Act.put, asAddr, hld]


set_option maxRecDepth 100000 in
set_option maxHeartbeats 1000000 in
theorem decode10_any (c h r f : Nat) (m : Int) (R : Nat → Int) (hR : Byts 72 R) (ix : Int) (w : World) (hc : CcAt w c h r f) (hT : TabW w) :
    Calls Tryz.prog 7 #[.pointer (some ⟨c, 0, none⟩), .int .i64 m, .agg (ints .u8 72 R).toArray, .int .i64 ix] w fun e w' => e = .returned (.tuple #[.agg (ints .u8 64 (Dl m R ix)).toArray, .agg (vd2 (Dk m R ix) (Df m R ix)).toArray]) ∧ Below w.heap.size w w' := by
  have hz := zeroL10
  have hz2 := zero10
  have c1 := fun W H HT => decodeBits_any c h r f R hR ix W H HT
  have c2 := fun W H HT => decodeChips_any c h r f R hR ix W H HT
  obtain ⟨x1, hx1⟩ : ∃ x, top (vB R (par ix)) 8 = x := ⟨_, rfl⟩
  obtain ⟨y1, hy1⟩ : ∃ x, (if x1 = 1 then (cnt (vB R (par ix)) 8 : Int) else 0) = x := ⟨_, rfl⟩
  obtain ⟨o1, ho1⟩ : ∃ x, tln x1 (wby (fB R (par ix))) = x := ⟨_, rfl⟩
  obtain ⟨x2, hx2⟩ : ∃ x, top (vC R (vir ix false)) 2 = x := ⟨_, rfl⟩
  obtain ⟨y2, hy2⟩ : ∃ x, (if x2 = 1 then (cnt (vC R (vir ix false)) 2 : Int) else 0) = x := ⟨_, rfl⟩
  obtain ⟨o2, ho2⟩ : ∃ x, tln x2 (lC R (vir ix false)) = x := ⟨_, rfl⟩
  have e1 : Dl 1 R ix = o1 ∧ Dk 1 R ix = x1 ∧ Df 1 R ix = y1 := by unfold Dl Dk Df; simp only [if_pos]; rw [hx1, hy1, ho1]; exact ⟨rfl, rfl, rfl⟩
  have e2 : Dl 2 R ix = o2 ∧ Dk 2 R ix = x2 ∧ Df 2 R ix = y2 := by
    unfold Dl Dk Df
    rw [if_neg (show ¬ (2 : Int) = 1 by decide), if_neg (show ¬ (2 : Int) = 1 by decide), if_neg (show ¬ (2 : Int) = 1 by decide), if_pos rfl, if_pos rfl, if_pos rfl, hx2, hy2, ho2]; exact ⟨rfl, rfl, rfl⟩
  have e3 : m ≠ 1 → m ≠ 2 → Dl m R ix = (fun _ => 0) ∧ Dk m R ix = 3 ∧ Df m R ix = 0 := fun a b => by
    unfold Dl Dk Df
    rw [if_neg a, if_neg a, if_neg a, if_neg b, if_neg b, if_neg b]; exact ⟨rfl, rfl, rfl⟩
  simp only [hx1, hy1, ho1] at c1
  simp only [hx2, hy2, ho2] at c2
  obtain ⟨A0, hA0⟩ : ∃ A, ints .u8 72 R = A := ⟨_, rfl⟩
  obtain ⟨Z, hZ⟩ : ∃ A, (ints .u8 64 fun _ => 0) = A := ⟨_, rfl⟩
  have i0 : (Tryz.prog.info? 27).map (·.size) = some A0.length := by rw [← hA0, ints_len]; exact infoR
  rw [hZ] at hz
  rw [hA0] at c1 c2 ⊢
  have C1 : Hid (∀ W : World, CcAt W c h r f → TabW W → Calls Tryz.prog 16 #[.pointer (some ⟨c, 0, none⟩), .agg A0.toArray, .int .i64 ix] W fun e w' => e = .returned (.tuple #[.agg (ints .u8 64 o1).toArray, .agg (vd2 x1 y1).toArray]) ∧ Below W.heap.size W w') := c1
  have C2 : Hid (∀ W : World, CcAt W c h r f → TabW W → Calls Tryz.prog 17 #[.pointer (some ⟨c, 0, none⟩), .agg A0.toArray, .int .i64 ix] W fun e w' => e = .returned (.tuple #[.agg (ints .u8 64 o2).toArray, .agg (vd2 x2 y2).toArray]) ∧ Below W.heap.size W w') := c2
  have E1 : Hid (Dl 1 R ix = o1 ∧ Dk 1 R ix = x1 ∧ Df 1 R ix = y1) := e1
  have E2 : Hid (Dl 2 R ix = o2 ∧ Dk 2 R ix = x2 ∧ Df 2 R ix = y2) := e2
  have E3 : Hid (m ≠ 1 → m ≠ 2 → Dl m R ix = (fun _ => 0) ∧ Dk m R ix = 3 ∧ Df m R ix = 0) := e3
  obtain ⟨rl, Hrl⟩ : ∃ rl, Hid (Value.tuple #[.agg (ints .u8 64 (Dl m R ix)).toArray, .agg (vd2 (Dk m R ix) (Df m R ix)).toArray] = rl) := ⟨_, rfl⟩
  rw [Hrl.out]
  clear c1 c2 e1 e2 e3 hx1 hy1 ho1 hx2 hy2 ho2
  go_enter Tryz.func7, Tryz.ntmps7
  go_upto_region 1 with (fail)
  obtain ⟨B, hB⟩ : ∃ B, w.heap.size = B := ⟨_, rfl⟩
  obtain ⟨V, hV⟩ : ∃ V, ((w.alloc (.cells A0.toArray 27)).alloc (.cells Z.toArray 23)).alloc (.cells #[.int .i64 0, .int .i64 0] 30) = V := ⟨_, rfl⟩
  have st : Below w.heap.size w V := by rw [← hV]; exact (((Below.refl _ w).alloc (Nat.le_refl _) _).alloc (by simp) _).alloc (by simp; omega) _
  have HV : Hid (Bk .u8 V B 72 R ∧ Out2 B (B + 1) (B + 1 + 1) w V ∧ CcAt V c h r f ∧ TabW V) := by
    have h0 := Bk.new .u8 w 72 R 27
    have h1 := Bk.new .u8 (w.alloc (.cells A0.toArray 27)) 64 (fun _ => 0) 23
    have h2 := Bk.new2 ((w.alloc (.cells A0.toArray 27)).alloc (.cells Z.toArray 23)) 0 0 30
    simp only [World.size_alloc] at h1 h2
    rw [hA0] at h0
    rw [hZ] at h1
    rw [hV] at h2
    have h1' := h1.alloc (.cells #[.int .i64 0, .int .i64 0] 30)
    have h0' := (h0.alloc (.cells Z.toArray 23)).alloc (.cells #[.int .i64 0, .int .i64 0] 30)
    rw [hV] at h0' h1'
    rw [hB] at h0' h1' h2
    exact ⟨h0', ⟨⟨_, h1'⟩, ⟨_, h2⟩, by rw [← hB]; exact st⟩, hc.next st, hT.next st⟩
  have hr := HV.out.1.range
  rw [hA0] at hr
  have HZ : Hid (ints .u8 72 R = A0 ∧ (ints .u8 64 fun _ => 0) = Z) := ⟨hA0, hZ⟩
  rw [hV, hB]
  clear hV st hc hT hA0 hZ hz2
  obtain ⟨T, hT'⟩ : ∃ T, B + 1 = T := ⟨_, rfl⟩
  obtain ⟨U, hU⟩ : ∃ U, T + 1 = U := ⟨_, rfl⟩
  rw [hT', hU] at HV
  rw [hT']
  try rw [hU]
  have lTU : B ≤ T ∧ B ≤ U ∧ T ≠ U := by omega
  clear hT' hU
  by_cases h1 : m = 1
  · subst h1
    go_wp2_with (refine wpList_load_mid rfl 27 _ rfl B 0 rfl A0 _ hr Tryz.underlying27 rfl i0 ?_)
    refine (C1.out _ HV.out.2.2.1 HV.out.2.2.2).mono ?_
    rintro e V1 ⟨rfl, b1⟩
    have HO : Hid (Out2 B T U w V1) := HV.out.2.1.next lTU.1 b1
    have HR : Hid (rl = Value.tuple #[.agg (ints .u8 64 o1).toArray, .agg (vd2 x1 y1).toArray]) := by
      show _ = _
      have e := E1.out
      rw [← Hrl.out, e.1, e.2.1, e.2.2]
    have tO : Hid ((V1).there T 0 (ints .u8 64 o1).toArray.size) := by obtain ⟨X, hX⟩ := HO.out.a; exact hX.there .u8 _
    have jO : (Tryz.prog.info? 23).map (·.size) = some (ints .u8 64 o1).toArray.size := by simpa [ints_len] using infoL
    have oO := ints_one .u8 64 o1
    have jV : (Tryz.prog.info? 30).map (·.size) = some (vd2 x1 y1).toArray.size := by simpa using info10v x1 y1
    have oV : (vd2 x1 y1).toArray.all (·.oneCell') = true := ints_one .i64 2 _
    have hP := HO.out.put1 lTU.1 lTU.2.2 o1
    have tV : Hid (((V1).setCells T 0 (ints .u8 64 o1)).there U 0 (vd2 x1 y1).toArray.size) := by obtain ⟨X, hX⟩ := hP.c; exact hX.there .i64 _
    have hQ := HO.out.put lTU.1 lTU.2.1 lTU.2.2 o1 x1 y1
    obtain ⟨LO, hLO⟩ : ∃ L, ints .u8 64 o1 = L := ⟨_, rfl⟩
    obtain ⟨LV, hLV⟩ : ∃ L, vd2 x1 y1 = L := ⟨_, rfl⟩
    rw [hLO] at tO jO oO tV
    rw [hLV] at tV jV oV
    have HQ : Hid (Bk .u8 (((V1).setCells T 0 LO).setCells U 0 LV) T 64 o1 ∧ Bk .i64 (((V1).setCells T 0 LO).setCells U 0 LV) U 2 (two x1 y1) ∧ Below B w (((V1).setCells T 0 LO).setCells U 0 LV)) := by
      rw [hLO, hLV] at hQ
      exact hQ
    try simp only [hLO, hLV]
    clear hP hQ hLO hLV hr b1
    go_wp2_with (first | refine wpList_store_mid rfl 23 _ _ rfl T 0 LO.toArray rfl rfl tO.out jO oO ?_ | refine wpList_store_mid rfl 30 _ _ rfl U 0 LV.toArray rfl rfl tV.out jV oV ?_)
    obtain ⟨W9, hW9⟩ : ∃ W9, ((V1).setCells T 0 LO).setCells U 0 LV = W9 := ⟨_, rfl⟩
    rw [hW9] at HQ ⊢
    obtain ⟨q1, q2⟩ := out2_results HQ.out.1 HQ.out.2.1
    refine bodyPost_ret (v := .tuple #[.agg (ints .u8 64 o1).toArray, .agg (vd2 x1 y1).toArray]) ?_ rfl ⟨by rw [HR.out], by first | exact HQ.out.2.2 | (rw [hB]; exact HQ.out.2.2)⟩
    simp [results, Tryz.f7, Act.put, asAddr, q1, q2]
  · have d1 : (m == 1) = false := by simpa using h1
    by_cases h2 : m = 2
    · subst h2
      go_wp2_with (refine wpList_load_mid rfl 27 _ rfl B 0 rfl A0 _ hr Tryz.underlying27 rfl i0 ?_)
      refine (C2.out _ HV.out.2.2.1 HV.out.2.2.2).mono ?_
      rintro e V1 ⟨rfl, b1⟩
      have HO : Hid (Out2 B T U w V1) := HV.out.2.1.next lTU.1 b1
      have HR : Hid (rl = Value.tuple #[.agg (ints .u8 64 o2).toArray, .agg (vd2 x2 y2).toArray]) := by
        show _ = _
        have e := E2.out
        rw [← Hrl.out, e.1, e.2.1, e.2.2]
      have tO : Hid ((V1).there T 0 (ints .u8 64 o2).toArray.size) := by obtain ⟨X, hX⟩ := HO.out.a; exact hX.there .u8 _
      have jO : (Tryz.prog.info? 23).map (·.size) = some (ints .u8 64 o2).toArray.size := by simpa [ints_len] using infoL
      have oO := ints_one .u8 64 o2
      have jV : (Tryz.prog.info? 30).map (·.size) = some (vd2 x2 y2).toArray.size := by simpa using info10v x2 y2
      have oV : (vd2 x2 y2).toArray.all (·.oneCell') = true := ints_one .i64 2 _
      have hP := HO.out.put1 lTU.1 lTU.2.2 o2
      have tV : Hid (((V1).setCells T 0 (ints .u8 64 o2)).there U 0 (vd2 x2 y2).toArray.size) := by obtain ⟨X, hX⟩ := hP.c; exact hX.there .i64 _
      have hQ := HO.out.put lTU.1 lTU.2.1 lTU.2.2 o2 x2 y2
      obtain ⟨LO, hLO⟩ : ∃ L, ints .u8 64 o2 = L := ⟨_, rfl⟩
      obtain ⟨LV, hLV⟩ : ∃ L, vd2 x2 y2 = L := ⟨_, rfl⟩
      rw [hLO] at tO jO oO tV
      rw [hLV] at tV jV oV
      have HQ : Hid (Bk .u8 (((V1).setCells T 0 LO).setCells U 0 LV) T 64 o2 ∧ Bk .i64 (((V1).setCells T 0 LO).setCells U 0 LV) U 2 (two x2 y2) ∧ Below B w (((V1).setCells T 0 LO).setCells U 0 LV)) := by
        rw [hLO, hLV] at hQ
        exact hQ
      try simp only [hLO, hLV]
      clear hP hQ hLO hLV hr b1
      go_wp2_with (first | refine wpList_store_mid rfl 23 _ _ rfl T 0 LO.toArray rfl rfl tO.out jO oO ?_ | refine wpList_store_mid rfl 30 _ _ rfl U 0 LV.toArray rfl rfl tV.out jV oV ?_)
      obtain ⟨W9, hW9⟩ : ∃ W9, ((V1).setCells T 0 LO).setCells U 0 LV = W9 := ⟨_, rfl⟩
      rw [hW9] at HQ ⊢
      obtain ⟨q1, q2⟩ := out2_results HQ.out.1 HQ.out.2.1
      refine bodyPost_ret (v := .tuple #[.agg (ints .u8 64 o2).toArray, .agg (vd2 x2 y2).toArray]) ?_ rfl ⟨by rw [HR.out], by first | exact HQ.out.2.2 | (rw [hB]; exact HQ.out.2.2)⟩
      simp [results, Tryz.f7, Act.put, asAddr, q1, q2]
    · have d2 : (m == 2) = false := by simpa using h2
      have HO : Hid (Out2 B T U w V) := HV.out.2.1
      have HR : Hid (rl = Value.tuple #[.agg (ints .u8 64 (fun _ => 0)).toArray, .agg (vd2 3 0).toArray]) := by
        show _ = _
        have e := E3.out h1 h2
        rw [← Hrl.out, e.1, e.2.1, e.2.2]
      have tO : Hid ((V).there T 0 (ints .u8 64 (fun _ => 0)).toArray.size) := by obtain ⟨X, hX⟩ := HO.out.a; exact hX.there .u8 _
      have jO : (Tryz.prog.info? 23).map (·.size) = some (ints .u8 64 (fun _ => 0)).toArray.size := by simpa [ints_len] using infoL
      have oO := ints_one .u8 64 (fun _ => 0)
      have jV : (Tryz.prog.info? 30).map (·.size) = some (vd2 3 0).toArray.size := by simpa using info10v 3 0
      have oV : (vd2 3 0).toArray.all (·.oneCell') = true := ints_one .i64 2 _
      have hP := HO.out.put1 lTU.1 lTU.2.2 (fun _ => 0)
      have tV : Hid (((V).setCells T 0 (ints .u8 64 (fun _ => 0))).there U 0 (vd2 3 0).toArray.size) := by obtain ⟨X, hX⟩ := hP.c; exact hX.there .i64 _
      have hQ := HO.out.put lTU.1 lTU.2.1 lTU.2.2 (fun _ => 0) 3 0
      obtain ⟨LO, hLO⟩ : ∃ L, ints .u8 64 (fun _ => 0) = L := ⟨_, rfl⟩
      obtain ⟨LV, hLV⟩ : ∃ L, vd2 3 0 = L := ⟨_, rfl⟩
      rw [hLO] at tO jO oO tV
      rw [hLV] at tV jV oV
      have HQ : Hid (Bk .u8 (((V).setCells T 0 LO).setCells U 0 LV) T 64 (fun _ => 0) ∧ Bk .i64 (((V).setCells T 0 LO).setCells U 0 LV) U 2 (two 3 0) ∧ Below B w (((V).setCells T 0 LO).setCells U 0 LV)) := by
        rw [hLO, hLV] at hQ
        exact hQ
      try simp only [hLO, hLV]
      rw [HZ.out.2] at hLO
      subst hLO
      clear hP hQ hr h1 h2
      go_wp2_with (first | refine wpList_store_mid rfl 23 _ _ rfl T 0 Z.toArray rfl rfl tO.out jO oO ?_ | refine wpList_store_mid rfl 30 _ _ rfl U 0 LV.toArray rfl (by rw [← hLV]; rfl) tV.out jV oV ?_)
      obtain ⟨W9, hW9⟩ : ∃ W9, ((V).setCells T 0 Z).setCells U 0 LV = W9 := ⟨_, rfl⟩
      rw [hW9] at HQ ⊢
      obtain ⟨q1, q2⟩ := out2_results HQ.out.1 HQ.out.2.1
      refine bodyPost_ret (v := .tuple #[.agg (ints .u8 64 (fun _ => 0)).toArray, .agg (vd2 3 0).toArray]) ?_ rfl ⟨by rw [HR.out], by first | exact HQ.out.2.2 | (rw [hB]; exact HQ.out.2.2)⟩
      simp [results, Tryz.f7, Act.put, asAddr, q1, q2]
end Go.Proofs.YtoimbjbdkkohcaaGreatDoor

/-
  What is told of a line of noughts, and of one whose bit 3 is turned; top verdicts.
-/
namespace Go.Proofs.YtoimbjbdkkohcaaGreatDoor
open Go.RowKit Go.Shelf
open Bm (wt wtK)
open Po (El toE)
open Ln (val wrd)

theorem val_zero (n k : Nat) : val (fun _ => 0) n k = 0 := by
  induction n generalizing k with
  | zero => rfl
  | succ n ih =>
    show 0 + 256 * val (fun _ => 0) n (k + 1) = 0
    rw [ih]
theorem par_zero : par 0 = 0 := by decide +kernel
theorem bt_false : bt false = 0 := rfl
/-- the noughts of the mode 1 -/
theorem enc1_noughts {F R : Nat → Int} (hF : ∀ i, i < 64 → F i = 0) (h : Co.Enc1 F 0 0 R) : ∀ i, i < 72 → R i = 0 := by
  refine Co.Enc1.same h ⟨fun k hk j hj => (hF _ (by omega)).symm, fun k hk => ?_⟩
  have hw : wrd F k = 0 := by
    unfold wrd
    rw [Ln.val_congr _ (fun _ => 0) 8 (8 * k) fun j h1 h2 => by rw [hF j (by omega)]; rfl]
    exact val_zero 8 _
  rw [hw, show Hm.syn 0 0 0 0 = 0 from by decide +kernel]; rfl
/-- the noughts of the mode 2 -/
theorem enc2_noughts {F R : Nat → Int} {G : Nat → El} (hF : ∀ i, i < 64 → F i = 0) (hG : ∀ i, i < 3 → G i = 0) (h : Co.Enc2 F G R) : ∀ i, i < 72 → R i = 0 := by
  refine Co.Enc2.same h ⟨fun _ _ => ⟨Int.le_refl _, show (0 : Int) < 256 by decide⟩, fun k hk i hi => (hF _ (by omega)).symm, fun k hk j hj => ?_⟩
  have e : ∀ i, i < 39 → wd (Co.rw (fun _ => 0) k) G i = (fun _ => (0 : El)) i := fun i hi => by
    unfold wd
    by_cases h36 : i < 36
    · rw [if_pos h36]; rfl
    · rw [if_neg h36]; exact hG _ (by omega)
  have := congrFun (sy_congr e) j
  refine this.trans ?_
  obtain ⟨a0, a1, a2, a3⟩ := sy_zero
  rcases (show j = 0 ∨ j = 1 ∨ j = 2 ∨ j = 3 by omega) with rfl | rfl | rfl | rfl
  · exact a0
  · exact a1
  · exact a2
  · exact a3
theorem vir_zero : ∀ i, i < 3 → vir 0 false i = 0 := by
  intro i hi
  rcases (show i = 0 ∨ i = 1 ∨ i = 2 by omega) with rfl | rfl | rfl <;> decide +kernel
theorem enc_noughts {m : Int} {F R : Nat → Int} (hF : ∀ i, i < 64 → F i = 0) (h : Enc m F 0 false R) : ∀ i, i < 72 → R i = 0 := by
  rcases h.2 with ⟨_, h⟩ | ⟨_, h⟩ | ⟨_, _, h⟩
  · rw [par_zero, bt_false] at h
    exact enc1_noughts hF h
  · exact enc2_noughts hF vir_zero h
  · exact h
/-- a line of noughts with its bit 3 turned -/
theorem three_told {R : Nat → Int} (hR : ∀ i, i < 72 → R i = if i = 0 then 8 else 0) : Dk 1 R 0 = 1 ∧ Df 1 R 0 = 1 := by
  have hd0 : Co.dw R 0 = 8 := by
    unfold Co.dw
    rw [Ln.val_congr _ (fun i => if i = 0 then 8 else 0) 8 (9 * 0) fun j h1 h2 => by rw [hR j (by omega)]; split <;> rfl]
    decide +kernel
  have hd : ∀ k, 0 < k → k < 8 → Co.dw R k = 0 := fun k h0 hk => by
    unfold Co.dw
    rw [Ln.val_congr _ (fun _ => 0) 8 (9 * k) fun j h1 h2 => by rw [hR j (by omega), if_neg (by omega)]; rfl]
    exact val_zero 8 _
  have hc : ∀ k, k < 8 → Co.cw R k = 0 := fun k hk => by
    unfold Co.cw
    rw [hR _ (by omega), if_neg (by omega)]; rfl
  have hv0 : vB R 0 0 = 1 := by
    unfold vB Co.sB
    rw [hd0, hc 0 (by omega)]
    decide +kernel
  have hv : ∀ k, 0 < k → k < 8 → vB R 0 k = 0 := fun k h0 hk => by
    unfold vB Co.sB
    rw [hd k h0 hk, hc k hk]
    decide +kernel
  unfold Dk Df
  rw [if_pos rfl, if_pos rfl, par_zero]
  have ht : top (vB R 0) 8 = 1 := by
    simp only [top, hv0, hv 1 (by omega) (by omega), hv 2 (by omega) (by omega), hv 3 (by omega) (by omega), hv 4 (by omega) (by omega), hv 5 (by omega) (by omega), hv 6 (by omega) (by omega), hv 7 (by omega) (by omega)]
    decide
  have hn : cnt (vB R 0) 8 = 1 := by
    simp only [cnt, hv0, hv 1 (by omega) (by omega), hv 2 (by omega) (by omega), hv 3 (by omega) (by omega), hv 4 (by omega) (by omega), hv 5 (by omega) (by omega), hv 6 (by omega) (by omega), hv 7 (by omega) (by omega)]
    decide
  rw [ht, hn, if_pos rfl]
  exact ⟨rfl, rfl⟩
end Go.Proofs.YtoimbjbdkkohcaaGreatDoor

/-
  How much two lines' raw bytes are exposed to one another, by the program.
-/
namespace Go.Proofs.YtoimbjbdkkohcaaGreatDoor
open Go.RowKit
open Bm (wt wtK)
attribute [local go_sem] Oper.semAt_some

/-- the exposure -/
def ex (m n k : Int) (F G : Nat → Int) : Nat := Rw.mx m F G n.toNat k.toNat
theorem cut9 (b i : Nat) (hi : i < 8) (w : World) : (Instr.sliceAt 27 (.pointer (some ⟨b, 0, none⟩)) (some (.int .i64 ((i : Int) * 9))) (some (.int .i64 (((i : Int) + 1) * 9))) none).run Tryz.prog w = .ok (.slice (some ⟨b, 9 * i, none⟩) 9 (72 - 9 * i)) w := by
  obtain rfl | rfl | rfl | rfl | rfl | rfl | rfl | rfl : i = 0 ∨ i = 1 ∨ i = 2 ∨ i = 3 ∨ i = 4 ∨ i = 5 ∨ i = 6 ∨ i = 7 := by omega
  all_goals simp [Instr.sliceAt, go_sem]
theorem cut36 (b i : Nat) (hi : i < 2) (w : World) : (Instr.sliceAt 27 (.pointer (some ⟨b, 0, none⟩)) (some (.int .i64 ((i : Int) * 36))) (some (.int .i64 (((i : Int) + 1) * 36))) none).run Tryz.prog w = .ok (.slice (some ⟨b, 36 * i, none⟩) 36 (72 - 36 * i)) w := by
  obtain rfl | rfl : i = 0 ∨ i = 1 := by omega
  all_goals simp [Instr.sliceAt, go_sem]

end Go.Proofs.YtoimbjbdkkohcaaGreatDoor

/-
  How much two lines' raw bytes are exposed to one another, by the document.
-/
namespace Go.Proofs.YtoimbjbdkkohcaaGreatDoor
open Go.RowKit
open Bm (wt wtK)
attribute [local go_sem] Oper.semAt_some

end Go.Proofs.YtoimbjbdkkohcaaGreatDoor

/-
  What is told of raw bytes that are unlike a line's in some words, of another address, or poisoned.
-/
namespace Go.Proofs.YtoimbjbdkkohcaaGreatDoor
open Go.RowKit Go.Shelf
open Bm (wt wtK)
open Po (El toE)
open Ln (val wrd)
open Rm (IsCode supp sy)

/-- a mode, its chips, its words -/
def Mw (m : Int) (n k : Nat) : Prop := (m = 1 ∧ n = 9 ∧ k = 8) ∨ (m = 2 ∧ n = 36 ∧ k = 2)
theorem mw_any (m : Int) (h : m = 1 ∨ m = 2) : ∃ n k, Mw m n k := by
  rcases h with rfl | rfl
  · exact ⟨9, 8, .inl ⟨rfl, rfl, rfl⟩⟩
  · exact ⟨36, 2, .inr ⟨rfl, rfl, rfl⟩⟩
theorem Mw.md {m : Int} {n k : Nat} (h : Mw m n k) : Md m (n : Int) (k : Int) := by
  rcases h with ⟨rfl, rfl, rfl⟩ | ⟨rfl, rfl, rfl⟩
  · exact .bits
  · exact .chips
theorem Mw.pos {m : Int} {n k : Nat} (h : Mw m n k) : 0 < n ∧ 0 < k ∧ n * k = 72 := by
  rcases h with ⟨rfl, rfl, rfl⟩ | ⟨rfl, rfl, rfl⟩ <;> omega
/-- a word's verdict; are its data the line's? -/
def vm (m : Int) (R : Nat → Int) (jx : Int) (w : Nat) : Int := if m = 1 then vB R (par jx) w else vC R (vir jx false) w
def Rightly (m : Int) (R : Nat → Int) (jx : Int) (F : Nat → Int) (w : Nat) : Prop := if m = 1 then fB R (par jx) w = wrd F w else ∀ i, i < 32 → lC R (vir jx false) (32 * w + i) = F (32 * w + i)
/-- how many of the address and the poison are unlike -/
def un (m ix : Int) (p : Bool) (jx : Int) : Nat := if m = 1 then (if par ix = par jx then 0 else 1) + (bt p).toNat else (if vir ix p 0 ^^^ vir jx false 0 = 0 then 0 else 1) + (if vir ix p 1 ^^^ vir jx false 1 = 0 then 0 else 1) + (if vir ix p 2 ^^^ vir jx false 2 = 0 then 0 else 1)
theorem kB_of {s : Nat} : (Hm.kd s = 0 → kB s = 0) ∧ (Hm.kd s = 1 → kB s = 1) ∧ (Hm.kd s = 2 → kB s = 2) ∧ (Hm.kd s = 3 → kB s = 3) ∧ (Hm.kd s = 4 → kB s = 3) := by
  unfold kB
  refine ⟨fun h => by rw [h]; rfl, fun h => by rw [h]; rfl, fun h => by rw [h]; rfl, fun h => by rw [h]; rfl, fun h => by rw [h]; rfl⟩
theorem bt_bd (p : Bool) : bt p = 0 ∨ bt p = 1 := by cases p <;> simp [bt]
theorem tellB {F own R : Nat → Int} {ix jx : Int} {p : Bool} (hF : Byts 64 F) (hE : Co.Enc1 F (par ix) (bt p) own) (hR : Byts 72 R) (w : Nat) (hw : w < 8) :
    (Rw.sm 1 own R (9 * w) 9 + un 1 ix p jx = 0 → vm 1 R jx w = 0 ∧ Rightly 1 R jx F w) ∧
    (Rw.sm 1 own R (9 * w) 9 + un 1 ix p jx = 1 → (un 1 ix p jx = 0 → vm 1 R jx w = 1 ∧ Rightly 1 R jx F w) ∧ (un 1 ix p jx ≠ 0 → 2 ≤ vm 1 R jx w)) ∧
    (Rw.sm 1 own R (9 * w) 9 + un 1 ix p jx = 2 → vm 1 R jx w = 3) := by
  have hO := hE.byt hF
  have hd := hE.dw w hw
  have hc := hE.cw w hw
  have h1 := Co.dw_lt hO w hw
  have h2 := Co.dw_lt hR w hw
  have h3 := Co.cw_lt hR w hw
  have hs := Co.sm_word hO hR w hw
  obtain ⟨da, hda⟩ : ∃ da : Nat, da = if par ix = par jx then 0 else 1 := ⟨_, rfl⟩
  have hda2 : da < 2 := by rw [hda]; split <;> decide
  have hu : un 1 ix p jx = da + (bt p).toNat := by unfold un; rw [if_pos rfl, hda]
  obtain ⟨t, ht⟩ : ∃ t, t = wt (Co.dw own w ^^^ Co.dw R w) + wt (Co.cw own w ^^^ Co.cw R w) + da + (bt p).toNat := ⟨_, rfl⟩
  have W1 := Co.word1 (par_bd ix) (par_bd jx) (bt_bd p) h1 h2 h3 (by rw [hc, hd]) da hda t ht
  have hv : vm 1 R jx w = kB (Co.sB R (par jx) w) := by unfold vm; rw [if_pos rfl]; rfl
  have hr : Rightly 1 R jx F w ↔ fx (Co.dw R w) (Co.sB R (par jx) w) = Co.dw own w := by unfold Rightly; rw [if_pos rfl, hd]; exact Iff.rfl
  have hsB : Hm.syn (Co.dw R w) (Co.cw R w) (par jx) 0 = Co.sB R (par jx) w := rfl
  rw [hsB] at W1
  obtain ⟨s, hsx⟩ : ∃ s, Co.sB R (par jx) w = s := ⟨_, rfl⟩
  rw [hsx] at W1 hv hr
  obtain ⟨k0, k1, k2, k3, k4⟩ := @kB_of s
  obtain ⟨a0, a1, a2⟩ := W1
  rw [hs, hu, hv, hr]
  have hp := bt_bd p
  clear hs hu hv hr hsx hsB hd hc h1 h2 h3 hda hO hE hF hR
  obtain ⟨z, hz⟩ : ∃ z, wt (Co.dw own w ^^^ Co.dw R w) + wt (Co.cw own w ^^^ Co.cw R w) = z := ⟨_, rfl⟩
  rw [hz] at ht ⊢
  clear hz
  refine ⟨fun h => ?_, fun h => ⟨fun h0 => ?_, fun h0 => ?_⟩, fun h => ?_⟩
  · obtain ⟨x, y⟩ := a0 (by omega)
    exact ⟨k0 x, y⟩
  · obtain ⟨x, y⟩ := (a1 (by omega)).1 (by omega) (by omega)
    exact ⟨k1 x, y⟩
  · obtain ⟨_, b1, b2⟩ := a1 (by omega)
    by_cases hd1 : da = 1
    · rw [k3 (b1 hd1)]; decide
    · rw [k2 (b2 (by omega))]; decide
  · exact k4 (a2 (by omega))
theorem tellC {F own R : Nat → Int} {ix jx : Int} {p : Bool} (hE : Co.Enc2 F (vir ix p) own) (hR : Byts 72 R) (w : Nat) (hw : w < 2) :
    (Rw.sm 2 own R (36 * w) 36 + un 2 ix p jx = 0 → vm 2 R jx w = 0 ∧ Rightly 2 R jx F w) ∧
    (Rw.sm 2 own R (36 * w) 36 + un 2 ix p jx = 1 → (un 2 ix p jx = 0 → vm 2 R jx w = 1 ∧ Rightly 2 R jx F w) ∧ (un 2 ix p jx ≠ 0 → 2 ≤ vm 2 R jx w)) ∧
    (2 ≤ Rw.sm 2 own R (36 * w) 36 + un 2 ix p jx → Rw.sm 2 own R (36 * w) 36 + un 2 ix p jx ≤ 3 → vm 2 R jx w = 3) := by
  have hl := Co.er_len hE.b hR w hw (vir ix p) (vir jx false)
  have hu : un 2 ix p jx = (if vir ix p 0 ^^^ vir jx false 0 = 0 then 0 else 1) + (if vir ix p 1 ^^^ vir jx false 1 = 0 then 0 else 1) + (if vir ix p 2 ^^^ vir jx false 2 = 0 then 0 else 1) := by unfold un; rw [if_neg (by decide)]
  have hle : (supp 39 (Co.er (Co.rw own w) (Co.rw R w) (vir ix p) (vir jx false))).length = Rw.sm 2 own R (36 * w) 36 + un 2 ix p jx := by rw [hl, hu]; omega
  obtain ⟨a0, a1, a2⟩ := Co.word2 (Y := Co.rw R w) (H := vir jx false) (hE.c w hw)
  rw [hle] at a0 a1 a2
  have hv : vm 2 R jx w = Co.kC (sy (wd (Co.rw R w) (vir jx false))) := by unfold vm; rw [if_neg (by decide)]; rfl
  have hr : (∀ i, i < 36 → mnd (Co.rw R w) (sy (wd (Co.rw R w) (vir jx false))) i = Co.rw own w i) → Rightly 2 R jx F w := fun h => by
    unfold Rightly
    rw [if_neg (by decide)]
    intro i hi
    rw [lC_at R _ w i hi]
    have e := h (4 + i) (by omega)
    unfold Co.sC
    rw [e, ← hE.d w hw i hi]
    have hb := hE.b (36 * w + (4 + i)) (by omega)
    exact ofE_toE _ hb.1 hb.2
  rw [hv]
  refine ⟨fun h => ?_, fun h => ⟨fun h0 => ?_, fun h0 => ?_⟩, a2⟩
  · exact ⟨(a0 h).1, hr (a0 h).2⟩
  · have hGH : ∀ i, i < 3 → vir ix p i = vir jx false i := fun i hi => by
      rw [hu] at h0
      refine Po.xor_eq_zero ?_
      rcases (show i = 0 ∨ i = 1 ∨ i = 2 by omega) with rfl | rfl | rfl
      · by_cases e : vir ix p 0 ^^^ vir jx false 0 = 0
        · exact e
        · rw [if_neg e] at h0; omega
      · by_cases e : vir ix p 1 ^^^ vir jx false 1 = 0
        · exact e
        · rw [if_neg e] at h0; omega
      · by_cases e : vir ix p 2 ^^^ vir jx false 2 = 0
        · exact e
        · rw [if_neg e] at h0; omega
    obtain ⟨x, y⟩ := (a1 h).1 hGH
    exact ⟨x, hr y⟩
  · have hGH : ∃ i, i < 3 ∧ vir ix p i ≠ vir jx false i := by
      by_cases e0 : vir ix p 0 = vir jx false 0
      · by_cases e1 : vir ix p 1 = vir jx false 1
        · by_cases e2 : vir ix p 2 = vir jx false 2
          · exfalso
            apply h0
            rw [hu, e0, e1, e2, Po.xor_self', Po.xor_self', Po.xor_self']
            rfl
          · exact ⟨2, by omega, e2⟩
        · exact ⟨1, by omega, e1⟩
      · exact ⟨0, by omega, e0⟩
    rcases ((a1 h).2 hGH).1 with e | e <;> rw [e] <;> decide
theorem tell {m : Int} {n k : Nat} (hm : Mw m n k) {F own R : Nat → Int} {ix jx : Int} {p : Bool} (hF : Byts 64 F) (hE : Enc m F ix p own) (hR : Byts 72 R) (w : Nat) (hw : w < k) :
    (Rw.sm m own R (n * w) n + un m ix p jx = 0 → vm m R jx w = 0 ∧ Rightly m R jx F w) ∧
    (Rw.sm m own R (n * w) n + un m ix p jx = 1 → (un m ix p jx = 0 → vm m R jx w = 1 ∧ Rightly m R jx F w) ∧ (un m ix p jx ≠ 0 → 2 ≤ vm m R jx w)) ∧
    (Rw.sm m own R (n * w) n + un m ix p jx = 2 ∨ (m = 2 ∧ Rw.sm m own R (n * w) n + un m ix p jx = 3) → vm m R jx w = 3) := by
  rcases hm with ⟨rfl, rfl, rfl⟩ | ⟨rfl, rfl, rfl⟩
  · rcases hE.2 with ⟨_, h⟩ | ⟨h, _⟩ | ⟨h, _⟩
    · obtain ⟨a, b, c⟩ := tellB (jx := jx) hF h hR w hw
      exact ⟨a, b, fun e => c (by omega)⟩
    · omega
    · exact absurd rfl h
  · rcases hE.2 with ⟨h, _⟩ | ⟨_, h⟩ | ⟨_, h, _⟩
    · omega
    · obtain ⟨a, b, c⟩ := tellC (jx := jx) h hR w hw
      exact ⟨a, b, fun e => c (by omega) (by omega)⟩
    · exact absurd rfl h
theorem dk_top {m : Int} {n k : Nat} (hm : Mw m n k) (R : Nat → Int) (jx : Int) : Dk m R jx = top (vm m R jx) k ∧ Df m R jx = (if top (vm m R jx) k = 1 then (cnt (vm m R jx) k : Int) else 0) := by
  rcases hm with ⟨rfl, rfl, rfl⟩ | ⟨rfl, rfl, rfl⟩
  · have e : vm 1 R jx = vB R (par jx) := by funext w; unfold vm; rw [if_pos rfl]
    rw [e]
    unfold Dk Df
    rw [if_pos rfl, if_pos rfl]; exact ⟨rfl, rfl⟩
  · have e : vm 2 R jx = vC R (vir jx false) := by funext w; unfold vm; rw [if_neg (by decide)]
    rw [e]
    refine ⟨?_, ?_⟩
    · unfold Dk
      rw [if_neg (show ¬ (2 : Int) = 1 by decide), if_pos rfl]
    · unfold Df
      rw [if_neg (show ¬ (2 : Int) = 1 by decide), if_pos (rfl : (2 : Int) = 2)]
theorem vm_bd (m : Int) (R : Nat → Int) (jx : Int) (w : Nat) : 0 ≤ vm m R jx w ∧ vm m R jx w ≤ 3 := by
  unfold vm
  split
  · exact kB_bd _
  · exact kC_bd _
theorem top_ge (K : Nat → Int) (k w : Nat) (h : w < k) : K w ≤ top K k := by
  induction k with
  | zero => omega
  | succ k ih =>
    rw [top]
    by_cases e : w = k
    · subst e; omega
    · have := ih (by omega); omega
theorem top_le (K : Nat → Int) (k : Nat) (c : Int) (hc : 0 ≤ c) (h : ∀ w, w < k → K w ≤ c) : top K k ≤ c := by
  induction k with
  | zero => exact hc
  | succ k ih =>
    have h1 := ih fun w hw => h w (by omega)
    have h2 := h k (by omega)
    rw [top]; omega
/-- a word that is Lost, or Poisoned: so is the line -/
theorem line_dead {m : Int} {n k : Nat} (hm : Mw m n k) (R : Nat → Int) (jx : Int) (w : Nat) (hw : w < k) (h : 2 ≤ vm m R jx w) : 2 ≤ Dk m R jx ∧ Dk m R jx ≤ 3 ∧ (vm m R jx w = 3 → Dk m R jx = 3) ∧ ∀ i, Dl m R jx i = 0 := by
  have h1 := top_ge (vm m R jx) k w hw
  have h2 := top_le (vm m R jx) k 3 (by decide) fun w _ => (vm_bd m R jx w).2
  have hk := (dk_top hm R jx).1
  refine ⟨by omega, by omega, fun h => by omega, fun i => ?_⟩
  have hd : Dk m R jx = 3 ∨ Dk m R jx = 2 := by omega
  rcases hm with ⟨rfl, rfl, rfl⟩ | ⟨rfl, rfl, rfl⟩
  · unfold Dk at hd
    rw [if_pos rfl] at hd
    unfold Dl
    rw [if_pos rfl, tln_dead _ _ hd]
  · unfold Dk at hd
    rw [if_neg (by decide), if_pos rfl] at hd
    unfold Dl
    rw [if_neg (by decide), if_pos rfl, tln_dead _ _ hd]
/-- all words are told rightly: so is the line -/
theorem line_right {m : Int} {n k : Nat} (hm : Mw m n k) {F : Nat → Int} (hF : Byts 64 F) (R : Nat → Int) (jx : Int) (h : ∀ w, w < k → vm m R jx w ≤ 1 ∧ Rightly m R jx F w) : ∀ i, i < 64 → Dl m R jx i = F i := by
  have h2 := top_le (vm m R jx) k 1 (by decide) fun w hw => (h w hw).1
  have hk := (dk_top hm R jx).1
  have hd : ¬ (Dk m R jx = 3 ∨ Dk m R jx = 2) := by omega
  intro i hi
  rcases hm with ⟨rfl, rfl, rfl⟩ | ⟨rfl, rfl, rfl⟩
  · unfold Dk at hd
    rw [if_pos rfl] at hd
    unfold Dl
    rw [if_pos rfl, tln_live _ _ hd]
    have e := (h (i / 8) (by omega)).2
    unfold Rightly at e
    rw [if_pos rfl] at e
    have := wby_wrd F hF i hi
    unfold wby at this ⊢
    rw [e]; exact this
  · unfold Dk at hd
    rw [if_neg (by decide), if_pos rfl] at hd
    unfold Dl
    rw [if_neg (by decide), if_pos rfl, tln_live _ _ hd]
    have e := (h (i / 32) (by omega)).2
    unfold Rightly at e
    rw [if_neg (by decide)] at e
    have := e (i % 32) (by omega)
    rwa [show 32 * (i / 32) + i % 32 = i by omega] at this
/-- some word is as unlike as the most unlike -/
theorem mx_att (m : Int) (F G : Nat → Int) (n k : Nat) : Rw.mx m F G n k = 0 ∨ ∃ w, w < k ∧ Rw.sm m F G (n * w) n = Rw.mx m F G n k := by
  induction k with
  | zero => exact .inl rfl
  | succ k ih =>
    rw [Rw.mx]
    rcases Nat.le_total (Rw.mx m F G n k) (Rw.sm m F G (n * k) n) with h | h
    · rw [Nat.max_eq_right h]
      exact .inr ⟨k, by omega, rfl⟩
    · rw [Nat.max_eq_left h]
      rcases ih with ih | ⟨w, hw, e⟩
      · exact .inl ih
      · exact .inr ⟨w, by omega, e⟩
theorem cnt_pos (K : Nat → Int) (k w : Nat) (hw : w < k) (h : K w = 1) : 0 < cnt K k := by
  induction k with
  | zero => omega
  | succ k ih =>
    rw [cnt]
    by_cases e : w = k
    · subst e; rw [if_pos h]; omega
    · have := ih (by omega); omega
/-- what exposes by 1 at most is mended -/
theorem corrects {m : Int} {n k : Nat} (hm : Mw m n k) {F own R : Nat → Int} {ix : Int} (hF : Byts 64 F) (hE : Enc m F ix false own) (hR : Byts 72 R) (hx : Rw.mx m own R n k ≤ 1) (hu : un m ix false ix = 0) :
    (∀ i, i < 64 → Dl m R ix i = F i) ∧ Dk m R ix = (Rw.mx m own R n k : Int) ∧ ((0 < Df m R ix) ↔ Rw.mx m own R n k = 1) := by
  have hw : ∀ w, w < k → vm m R ix w = (Rw.sm m own R (n * w) n : Int) ∧ vm m R ix w ≤ 1 ∧ Rightly m R ix F w := fun w hwk => by
    obtain ⟨a, b, _⟩ := tell (jx := ix) hm hF hE hR w hwk
    have hs := Rw.mx_ge m own R n k w hwk
    rw [hu] at a b
    rcases (show Rw.sm m own R (n * w) n = 0 ∨ Rw.sm m own R (n * w) n = 1 by omega) with e | e
    · obtain ⟨x, y⟩ := a (by omega)
      exact ⟨by rw [x, e]; rfl, by rw [x]; decide, y⟩
    · obtain ⟨x, y⟩ := (b (by omega)).1 rfl
      exact ⟨by rw [x, e]; rfl, by rw [x]; decide, y⟩
  have hd := dk_top hm R ix
  have htop : ∀ j, j ≤ k → top (vm m R ix) j = (Rw.mx m own R n j : Int) := by
    intro j
    induction j with
    | zero => intro _; rfl
    | succ j ih =>
      intro hj
      rw [top, Rw.mx, ih (by omega), (hw j (by omega)).1]
      omega
  rw [htop k (Nat.le_refl _)] at hd
  refine ⟨line_right hm hF R ix fun w hwk => (hw w hwk).2, hd.1, ?_⟩
  rw [hd.2]
  constructor
  · intro h
    by_cases e : (Rw.mx m own R n k : Int) = 1
    · omega
    · rw [if_neg e] at h; omega
  · intro h
    rw [if_pos (by omega)]
    rcases mx_att m own R n k with e | ⟨w, hwk, e⟩
    · omega
    · have := cnt_pos (vm m R ix) k w hwk (by rw [(hw w hwk).1, e, h]; rfl)
      omega
theorem un_same (m ix : Int) : un m ix false ix = 0 := by
  unfold un
  split
  · rw [if_pos rfl]; rfl
  · rw [Po.xor_self', Po.xor_self', Po.xor_self']; rfl
theorem un_poison (m ix : Int) : un m ix true ix = 1 := by
  unfold un
  split
  · rw [if_pos rfl]; rfl
  · have e0 : vir ix true 0 = vir ix false 0 := rfl
    have e1 : vir ix true 1 = vir ix false 1 := rfl
    have e2 : vir ix true 2 ≠ vir ix false 2 := fun e => by
      have := congrArg oe e
      rw [oe_vir, oe_vir] at this
      unfold vb at this
      simp at this
      omega
    rw [e0, e1, Po.xor_self', Po.xor_self', if_neg (fun e => e2 (Po.xor_eq_zero e))]; rfl
/-- what exposes by two, or three, is never told as right; nor what was poisoned -/
theorem detects {m : Int} {n k : Nat} (hm : Mw m n k) {F own R : Nat → Int} {ix : Int} {p : Bool} (hF : Byts 64 F) (hE : Enc m F ix p own) (hR : Byts 72 R)
    (hx : (p = false ∧ 2 ≤ Rw.mx m own R n k ∧ (Rw.mx m own R n k : Int) ≤ 1 + m) ∨ (p = true ∧ (Rw.mx m own R n k : Int) ≤ m)) : 2 ≤ Dk m R ix ∧ (p = false → Dk m R ix = 3) ∧ ∀ i, Dl m R ix i = 0 := by
  have hm12 : m = 1 ∨ m = 2 := by rcases hm with ⟨h, _⟩ | ⟨h, _⟩ <;> omega
  rcases hx with ⟨rfl, h2, h3⟩ | ⟨rfl, h3⟩
  · rcases mx_att m own R n k with e | ⟨w, hwk, e⟩
    · omega
    · obtain ⟨_, _, c⟩ := tell (jx := ix) hm hF hE hR w hwk
      rw [un_same, e] at c
      have hv := c (by omega)
      obtain ⟨x, _, z, y⟩ := line_dead hm R ix w hwk (by omega)
      exact ⟨x, fun _ => z hv, y⟩
  · have hk := hm.pos.2.1
    obtain ⟨_, b, c⟩ := tell (jx := ix) hm hF hE hR 0 hk
    have hs := Rw.mx_ge m own R n k 0 hk
    rw [un_poison] at b c
    have hv : 2 ≤ vm m R ix 0 := by
      rcases (show Rw.sm m own R (n * 0) n = 0 ∨ Rw.sm m own R (n * 0) n = 1 ∨ (m = 2 ∧ Rw.sm m own R (n * 0) n = 2) by omega) with e | e | ⟨e1, e⟩
      · exact (b (by omega)).2 (by decide)
      · rw [c (by omega)]; decide
      · rw [c (by omega)]; decide
    obtain ⟨x, _, _, y⟩ := line_dead hm R ix 0 hk hv
    exact ⟨x, (fun e => by cases e), y⟩
end Go.Proofs.YtoimbjbdkkohcaaGreatDoor

/-
  Bits forced, by the program and by the document.
-/
namespace Go.Proofs.YtoimbjbdkkohcaaGreatDoor
open Go.RowKit Go.Shelf
attribute [local go_sem] Oper.semAt_some

theorem i64_and1r (n : Int) : bits .and .i64 n 1 = n % 2 := by
  have h1 : (BitVec.ofInt 64 1).toNat = 2 ^ 1 - 1 := by decide
  have key : (BitVec.ofInt 64 n &&& BitVec.ofInt 64 1).toNat = (n % ((2 ^ 64 : Nat) : Int)).toNat % 2 ^ 1 := by
    rw [BitVec.toNat_and, BitVec.toNat_ofInt, h1, Nat.and_two_pow_sub_one_eq_mod]
  show IntKind.i64.wrap ((BitVec.ofInt 64 n &&& BitVec.ofInt 64 1).toNat : Nat) = n % 2
  rw [key, IntKind.wrap_i64]
  omega
/-- F with the bit i as v -/
def frR (F : Nat → Int) (i v : Nat) : Nat → Int := fun j => if j = i / 8 then ((Rw.fc (F j).toNat (i % 8) v : Nat) : Int) else F j
theorem gb_pc (F : Nat → Int) (i : Nat) (hi : i < 576) : gb (pc F 0 72) i = (F (i / 8)).toNat / 2 ^ (i % 8) % 2 := by
  unfold gb pc
  rw [if_pos (by omega), Nat.zero_add]
theorem frR_stay (F : Nat → Int) (hF : Byts 72 F) (i : Nat) (hi : i < 576) (j : Nat) (hj : j < 72) : F j = frR F i (gb (pc F 0 72) i) j := by
  unfold frR
  by_cases e : j = i / 8
  · have := hF j hj
    rw [if_pos e, gb_pc F i hi, ← e, ← Rw.fc_stay (F j).toNat (by omega) (i % 8) (by omega)]; omega
  · rw [if_neg e]
theorem frR_flip (F : Nat → Int) (hF : Byts 72 F) (i : Nat) (hi : i < 576) (j : Nat) (hj : j < 72) : flR F i j = frR F i (1 - gb (pc F 0 72) i) j := by
  rw [flR_at F hF i j hj]
  unfold frR
  by_cases e : j = i / 8
  · have := hF j hj
    rw [if_pos e, if_pos e, gb_pc F i hi, ← e, ← Rw.fc_flip (F j).toNat (by omega) (i % 8) (by omega)]
  · rw [if_neg e, if_neg e]

end Go.Proofs.YtoimbjbdkkohcaaGreatDoor

/-
  A chip's bytes set, by the program.
-/
namespace Go.Proofs.YtoimbjbdkkohcaaGreatDoor
open Go.RowKit Go.Shelf
attribute [local go_sem] Oper.semAt_some

/-- of the first x words the chip's bytes are set -/
def chK (n : Nat) (c : Nat) (F : Nat → Int) (v : Int) (x j : Nat) : Int := if j % n = c ∧ j / n < x then v else F j
theorem chK_zero (n c : Nat) (F : Nat → Int) (v : Int) (j : Nat) : chK n c F v 0 j = F j := by unfold chK; rw [if_neg (fun h => Nat.not_lt_zero _ h.2)]
theorem chK_step (n c : Nat) (hn : 0 < n) (hc : c < n) (F : Nat → Int) (v : Int) (x j : Nat) : (if j = x * n + c then v else chK n c F v x j) = chK n c F v (x + 1) j := by
  unfold chK
  by_cases e : j = x * n + c
  · subst e
    have h1 : (x * n + c) % n = c := by rw [Nat.mul_comm, Nat.mul_add_mod, Nat.mod_eq_of_lt hc]
    have h2 : (x * n + c) / n = x := by rw [Nat.mul_comm, Nat.mul_add_div hn, Nat.div_eq_of_lt hc]; rfl
    rw [if_pos rfl, if_pos ⟨h1, by omega⟩]
  · rw [if_neg e]
    by_cases h : j % n = c ∧ j / n < x
    · rw [if_pos h, if_pos ⟨h.1, by omega⟩]
    · rw [if_neg h, if_neg]
      rintro ⟨h1, h2⟩
      have h3 : j / n = x := by
        by_cases h4 : j / n < x
        · exact absurd ⟨h1, h4⟩ h
        · omega
      exact e (by rw [← Nat.div_add_mod j n, h3, h1, Nat.mul_comm])
theorem chK_all (n c k : Nat) (F : Nat → Int) (v : Int) (j : Nat) (hn : 0 < n) (hj : j < n * k) : chK n c F v k j = Rw.chp n c F v j := by
  have := Nat.div_lt_of_lt_mul hj
  unfold chK Rw.chp
  by_cases h : j % n = c
  · rw [if_pos ⟨h, this⟩, if_pos ⟨hn, by omega⟩]
  · rw [if_neg (fun e => h e.1), if_neg (fun e => h (by omega))]

/-- between two rounds of Chip -/
structure Ch (B n c : Nat) (F : Nat → Int) (v : Int) (w : World) (x : Nat) (W : World) : Prop where
  r : Bk .u8 W B 72 (chK n c F v x)
  v : Box W (B + 1) (.int .u8 v)
  o : Bk .u8 W (B + 1 + 1) 72 (fun _ => 0)
  below : Below B w W
section
variable {B C n c x : Nat} {F : Nat → Int} {v : Int} {w W W' : World}
theorem Ch.stay (h : Ch B n c F v w x W) (k : Stay C W W') (hC : B ≤ C) : Ch B n c F v w x W' := ⟨h.r.stay k, h.v.stay k, h.o.stay k, below_stay h.below k hC⟩
theorem Ch.step (h : Ch B n c F v w x W) (hn : 0 < n) (hc : c < n) : Ch B n c F v w (x + 1) (W.setCell ⟨B, x * n + c, none⟩ (.int .u8 v)) :=
  ⟨(h.r.set (x * n + c) v).congr fun j _ => chK_step n c hn hc F v x j, h.v.of (Below.heap_setCell W ⟨B, x * n + c, none⟩ _ _ (by simp)), h.o.other (by omega) _ _, h.below.setCell (p := ⟨B, x * n + c, none⟩) (Nat.le_refl _) _⟩
end
theorem chip_boxes (F : Nat → Int) (v : Int) (w V : World) (A0 Z : Array Value) (h0 : (ints .u8 72 F).toArray = A0) (hZ : (ints .u8 72 fun _ => 0).toArray = Z)
    (hV : ((w.alloc (.cells A0 27)).alloc (.cells #[.int .u8 v] 5)).alloc (.cells Z 27) = V) (n c : Nat) :
    Ch w.heap.size n c F v w 0 V ∧ V.heap.size = w.heap.size + 3 := by
  subst h0 hZ hV
  have h1 := Box.new (w.alloc (.cells (ints .u8 72 F).toArray 27)) 5 (.int .u8 v)
  have h2 := Bk.new .u8 ((w.alloc (.cells (ints .u8 72 F).toArray 27)).alloc (.cells #[.int .u8 v] 5)) 72 (fun _ => 0) 27
  simp only [World.size_alloc] at h1 h2
  exact ⟨⟨(((Bk.new .u8 w 72 F _).alloc _).alloc _).congr fun j _ => (chK_zero n c F v j).symm, h1.alloc _, h2, (((Below.refl _ w).alloc (Nat.le_refl _) _).alloc (by simp) _).alloc (by simp; omega) _⟩, by simp⟩
end Go.Proofs.YtoimbjbdkkohcaaGreatDoor

/-
  The example; what a law holds.
-/
namespace Go.Proofs.YtoimbjbdkkohcaaGreatDoor
open Go.RowKit Go.Shelf
open Po (El toE)
attribute [local go_sem] Oper.semAt_some

theorem eqlL2 (F G : Nat → Int) (hF : Byts 64 F) (hG : Byts 64 G) (b : Bool) (hb : b = true ↔ ∀ i, i < 64 → F i = G i) (w : World) : (binOp .eql 23 (.agg (ints .u8 64 F).toArray) (.agg (ints .u8 64 G).toArray)).run Tryz.prog w = .ok (.bool b) w :=
  eql_ints 23 64 Tryz.underlying23 F G hF hG b hb w
theorem gdL10 : Tryz.prog.eqGuardType Tryz.prog.depth 23 = false := by kernel_rfl
/-- while a law works: a codec; what lies in its variables -/
structure LwS (c h r f : Nat) (L : List (Nat × List Value)) (w W : World) : Prop where
  cc : CcAt W c h r f
  tab : TabW W
  rs : ∀ p ∈ L, At9 W p.1 p.2
  below : Below w.heap.size w W
section
variable {c h r f : Nat} {L : List (Nat × List Value)} {w W W' : World}
theorem LwS.next (H : LwS c h r f L w W) (k : Below W.heap.size W W') : LwS c h r f L w W' :=
  ⟨H.cc.next k, H.tab.next k, fun p hp => (H.rs p hp).next k, H.below.trans (k.mono H.below.size)⟩
/-- two blocks' law: what is laid from a world's end on -/
theorem LwS.over (H : LwS c h r f L w W) (k : ∀ b, b < W.heap.size → W'.heap[b]? = W.heap[b]?) (b : Below w.heap.size w W') : LwS c h r f L w W' :=
  ⟨H.cc.of (k _ H.cc.lt.1) (k _ H.cc.lt.2.1) (k _ H.cc.lt.2.2.1) (k _ H.cc.lt.2.2.2), H.tab.of (k _ H.tab.lt), fun p hp => (H.rs p hp).of (k _ (H.rs p hp).s), b⟩
theorem LwS.cons (H : LwS c h r f L w W) {b : Nat} {A : List Value} (h0 : At9 W b A) : LwS c h r f ((b, A) :: L) w W :=
  ⟨H.cc, H.tab, fun p hp => by
    rcases List.mem_cons.1 hp with rfl | hp
    · exact h0
    · exact H.rs p hp, H.below⟩
theorem LwS.begin {V : World} (H : LwS c h r f [] V W) (hb : Below w.heap.size w V) (hr : ∀ p ∈ L, At9 V p.1 p.2) : LwS c h r f L w W :=
  ⟨H.cc, H.tab, fun p hp => (hr p hp).of (H.below.block _ (hr p hp).s), hb.trans (H.below.mono hb.size)⟩
/-- an array is laid -/
theorem LwS.lay (H : LwS c h r f L w W) (k : IntKind) (n : Nat) (G : Nat → Int) (t : TypeId) {Z : Array Value} (hZ : (ints k n fun _ => 0).toArray = Z) {A : List Value} (hA : ints k n G = A) :
    (W.alloc (.cells Z t)).there W.heap.size 0 A.toArray.size ∧ LwS c h r f ((W.heap.size, A) :: L) w ((W.alloc (.cells Z t)).setCells W.heap.size 0 A) := by
  subst hZ
  subst hA
  have h0 := Bk.new k W n (fun _ => 0) t
  have ha : Below W.heap.size W (W.alloc (.cells (ints k n fun _ => 0).toArray t)) := (Below.refl _ W).alloc (Nat.le_refl _) _
  have hp : Below w.heap.size w ((W.alloc (.cells (ints k n fun _ => 0).toArray t)).setCells W.heap.size 0 (ints k n G)) := belows_put H.below.size _ 0 (H.below.trans (ha.mono H.below.size))
  exact ⟨h0.there k G, LwS.cons (H.over (fun b hb => (heap_puts _ _ 0 _ b (by omega)).trans (ha.block b hb)) hp) (h0.put G).at9⟩
/-- a line and a verdict are laid -/
theorem LwS.lay2 (H : LwS c h r f L w W) (F : Nat → Int) (x y : Int) (t t' : TypeId) {Z : Array Value} (hZ : (ints .u8 64 fun _ => 0).toArray = Z) {A A' : List Value} (hA : ints .u8 64 F = A) (hA' : vd2 x y = A') :
    ((W.alloc (.cells Z t)).alloc (.cells #[.int .i64 0, .int .i64 0] t')).there W.heap.size 0 A.toArray.size ∧ (((W.alloc (.cells Z t)).alloc (.cells #[.int .i64 0, .int .i64 0] t')).setCells W.heap.size 0 A).there (W.heap.size + 1) 0 A'.toArray.size ∧
    LwS c h r f ((W.heap.size + 1, A') :: (W.heap.size, A) :: L) w ((((W.alloc (.cells Z t)).alloc (.cells #[.int .i64 0, .int .i64 0] t')).setCells W.heap.size 0 A).setCells (W.heap.size + 1) 0 A') ∧
    Bk .i64 ((((W.alloc (.cells Z t)).alloc (.cells #[.int .i64 0, .int .i64 0] t')).setCells W.heap.size 0 A).setCells (W.heap.size + 1) 0 A') (W.heap.size + 1) 2 (two x y) := by
  subst hZ
  subst hA
  subst hA'
  have h0 := Bk.new .u8 W 64 (fun _ => 0) t
  have h1 := Bk.new2 (W.alloc (.cells (ints .u8 64 fun _ => 0).toArray t)) 0 0 t'
  simp only [World.size_alloc] at h1
  have h0' := h0.alloc (.cells #[.int .i64 0, .int .i64 0] t')
  obtain ⟨V, hV⟩ : ∃ V, (W.alloc (.cells (ints .u8 64 fun _ => 0).toArray t)).alloc (.cells #[.int .i64 0, .int .i64 0] t') = V := ⟨_, rfl⟩
  have ha : Below W.heap.size W V := by rw [← hV]; exact ((Below.refl _ W).alloc (Nat.le_refl _) _).alloc (by simp) _
  rw [hV] at h1 h0' ⊢
  have h2 := h0'.put F
  have h3 := h1.putOther (c := W.heap.size) (by omega) 0 (ints .u8 64 F)
  have h4 := h3.put (two x y)
  have h5 := h2.putOther (c := W.heap.size + 1) (by omega) 0 (vd2 x y)
  have hp : Below w.heap.size w ((V.setCells W.heap.size 0 (ints .u8 64 F)).setCells (W.heap.size + 1) 0 (vd2 x y)) := belows_put (by have := H.below.size; omega) _ 0 (belows_put H.below.size _ 0 (H.below.trans (ha.mono H.below.size)))
  exact ⟨h0'.there .u8 F, h3.there .i64 _, LwS.cons (LwS.cons (H.over (fun b hb => (heap_puts _ _ 0 _ b (by omega)).trans ((heap_puts _ _ 0 _ b (by omega)).trans (ha.block b hb))) hp) h5.at9) h4.at9, h4⟩
end

set_option maxRecDepth 100000 in
set_option maxHeartbeats 2000000 in
theorem coder_any (w : World) (hT : TabW w) :
    Calls Tryz.prog 5 #[] w fun e w' => ∃ c h r f, e = .returned (.pointer (some ⟨c, 0, none⟩)) ∧ LwS c h r f [] w w' := by
  have hz := zeroR
  have hz2 := zeroL10
  have hz3 := zero10
  have gd := gdR
  have ne : ∀ w, (binOp .neq 27 (.agg (ints .u8 72 fun _ => 0).toArray) (.agg (ints .u8 72 fun _ => 0).toArray)).run Tryz.prog w = .ok (.bool false) w := neqR _ _ (fun _ _ => ⟨Int.le_refl _, show (0 : Int) < 256 by decide⟩) (fun _ _ => ⟨Int.le_refl _, show (0 : Int) < 256 by decide⟩) true ⟨fun _ _ _ => rfl, fun _ => rfl⟩
  have Z64 : Byts 64 (fun _ => 0) := fun _ _ => ⟨Int.le_refl _, show (0 : Int) < 256 by decide⟩
  have Z72 : Byts 72 (fun _ => 0) := fun _ _ => ⟨Int.le_refl _, show (0 : Int) < 256 by decide⟩
  have cE : ∀ (m : Int) (c h r f : Nat) (W : World), CcAt W c h r f → TabW W → Calls Tryz.prog 6 #[.pointer (some ⟨c, 0, none⟩), .int .i64 m, .agg (ints .u8 64 fun _ => 0).toArray, .int .i64 0, .bool false] W fun e w' => e = .returned (.agg (ints .u8 72 fun _ => 0).toArray) ∧ Below W.heap.size W w' := fun m c h r f W H HT => by
    refine (encode10_any c h r f m _ Z64 0 false W H HT).mono ?_
    rintro e w' ⟨R, rfl, hE, hb⟩
    exact ⟨by rw [ints_congr .u8 72 R (fun _ => 0) fun i hi => enc_noughts (fun _ _ => rfl) hE i hi], hb⟩
  have hfl : ∀ i, i < 72 → flR (fun _ => 0) 3 i = if i = 0 then 8 else 0 := fun i hi => by
    rw [flR_at _ Z72 3 i hi]
    by_cases e : i = 0
    · rw [if_pos e, if_pos (by omega)]; rfl
    · rw [if_neg e, if_neg (by omega)]
  have hflb : Byts 72 (flR (fun _ => 0) 3) := fun i hi => by rw [hfl i hi]; split <;> decide
  have cF : Hid (∀ W : World, Calls Tryz.prog 13 #[.agg (ints .u8 72 fun _ => 0).toArray, .int .i64 3] W fun e w' => e = .returned (.agg (ints .u8 72 (flR (fun _ => 0) 3)).toArray) ∧ Below W.heap.size W w') := fun W => flipR_yes _ Z72 3 (by omega) W
  have hd := three_told hfl
  have cD : ∀ (c h r f : Nat) (W : World), CcAt W c h r f → TabW W → Calls Tryz.prog 7 #[.pointer (some ⟨c, 0, none⟩), .int .i64 1, .agg (ints .u8 72 (flR (fun _ => 0) 3)).toArray, .int .i64 0] W fun e w' => e = .returned (.tuple #[.agg (ints .u8 64 (Dl 1 (flR (fun _ => 0) 3) 0)).toArray, .agg (vd2 1 1).toArray]) ∧ Below W.heap.size W w' := fun c h r f W H HT => by
    have := decode10_any c h r f 1 (flR (fun _ => 0) 3) hflb 0 W H HT
    rw [hd.1, hd.2] at this; exact this
  obtain ⟨G, hG⟩ : ∃ G, flR (fun _ => 0) 3 = G := ⟨_, rfl⟩
  rw [hG] at cF
  simp only [hG] at cD
  obtain ⟨DL, hDL⟩ : ∃ D, Dl 1 G 0 = D := ⟨_, rfl⟩
  simp only [hDL] at cD
  obtain ⟨ZR, hZR⟩ : ∃ A, (ints .u8 72 fun _ => 0) = A := ⟨_, rfl⟩
  obtain ⟨ZL, hZL⟩ : ∃ A, (ints .u8 64 fun _ => 0) = A := ⟨_, rfl⟩
  obtain ⟨AG, hAG⟩ : ∃ A, ints .u8 72 G = A := ⟨_, rfl⟩
  obtain ⟨AD, hAD⟩ : ∃ A, ints .u8 64 DL = A := ⟨_, rfl⟩
  obtain ⟨AV, hAV⟩ : ∃ A, vd2 1 1 = A := ⟨_, rfl⟩
  have jD : (Tryz.prog.info? 23).map (·.size) = some AD.toArray.size := by rw [← hAD]; simpa [ints_len] using infoL
  have oD : AD.toArray.all (·.oneCell') = true := by rw [← hAD]; exact ints_one .u8 64 _
  have iV : (Tryz.prog.info? 30).map (·.size) = some AV.length := by rw [← hAV]; exact info10v 1 1
  have jV : (Tryz.prog.info? 30).map (·.size) = some AV.toArray.size := by simpa using iV
  have oV : AV.toArray.all (·.oneCell') = true := by rw [← hAV]; exact ints_one .i64 2 _
  rw [hZR] at hz ne
  rw [hZL] at hz2
  simp only [hZR, hZL] at cE
  rw [hZR, hAG] at cF
  simp only [hAG, hAD, hAV] at cD
  have CE : Hid (∀ (m : Int) (c h r f : Nat) (W : World), CcAt W c h r f → TabW W → Calls Tryz.prog 6 #[.pointer (some ⟨c, 0, none⟩), .int .i64 m, .agg ZL.toArray, .int .i64 0, .bool false] W fun e w' => e = .returned (.agg ZR.toArray) ∧ Below W.heap.size W w') := cE
  have CD : Hid (∀ (c h r f : Nat) (W : World), CcAt W c h r f → TabW W → Calls Tryz.prog 7 #[.pointer (some ⟨c, 0, none⟩), .int .i64 1, .agg AG.toArray, .int .i64 0] W fun e w' => e = .returned (.tuple #[.agg AD.toArray, .agg AV.toArray]) ∧ Below W.heap.size W w') := cD
  have HA : Hid ((ints .u8 64 fun _ => 0).toArray = ZL.toArray ∧ ints .u8 64 DL = AD ∧ vd2 1 1 = AV) := ⟨by rw [hZL], hAD, hAV⟩
  have HT : Hid (TabW w) := hT
  clear cE cD hfl hflb hd hG hDL hZR hZL hAG hAD Z64 Z72 hT
  go_enter Tryz.func5, Tryz.ntmps5
  go_wp2_with fail
  refine (new10_any _).mono ?_
  rintro e V1 ⟨c, h, r, f, rfl, hC, b1, _⟩
  have HS : Hid (LwS c h r f [] w V1) := ⟨hC, HT.out.below b1 HT.out.lt, fun p hp => (by cases hp), b1⟩
  clear hC b1
  go_upto_region 4 with (first
    | (go_at_call 6; refine (CE.out _ c h r f _ HS.out.cc HS.out.tab).mono ?_; rintro e V2 ⟨rfl, b2⟩; replace HS : Hid (LwS c h r f [] w V2) := HS.out.next b2; clear b2))
  clear CE ne gd
  go_wp2_with fail
  refine (cF.out _).mono ?_
  rintro e V3 ⟨rfl, b3⟩
  replace HS : Hid (LwS c h r f [] w V3) := HS.out.next b3
  clear b3 cF
  go_wp2_with fail
  refine (CD.out c h r f _ HS.out.cc HS.out.tab).mono ?_
  rintro e V4 ⟨rfl, b4⟩
  replace HS : Hid (LwS c h r f [] w V4) := HS.out.next b4
  clear b4 CD
  have L2 := HS.out.lay2 DL 1 1 23 30 HA.out.1 HA.out.2.1 HA.out.2.2
  have t1 := L2.1
  have t2 := L2.2.1
  have HL : Hid (LwS c h r f ((V4.heap.size + 1, AV) :: (V4.heap.size, AD) :: []) w ((((V4.alloc (.cells ZL.toArray 23)).alloc (.cells #[.int .i64 0, .int .i64 0] 30)).setCells V4.heap.size 0 AD).setCells (V4.heap.size + 1) 0 AV)) := L2.2.2.1
  clear L2
  go_upto_region 5 with (first | refine wpList_store_mid rfl 23 _ _ rfl V4.heap.size 0 AD.toArray rfl rfl t1 jD oD ?_ | refine wpList_store_mid rfl 30 _ _ rfl (V4.heap.size + 1) 0 AV.toArray rfl rfl t2 jV oV ?_)
  obtain ⟨N, hN⟩ : ∃ N, V4.heap.size + 1 = N := ⟨_, rfl⟩
  obtain ⟨V5, hV5⟩ : ∃ V5, (((V4.alloc (.cells ZL.toArray 23)).alloc (.cells #[.int .i64 0, .int .i64 0] 30)).setCells V4.heap.size 0 AD).setCells (V4.heap.size + 1) 0 AV = V5 := ⟨_, rfl⟩
  rw [hV5, hN] at HL
  rw [hV5, hN]
  have hr : V5.rangeAt N 0 [.int .i64 1, .int .i64 1] := by
    have := (HL.out.rs (N, AV) (by simp)).r
    rw [← HA.out.2.2] at this
    exact this
  have iV2 := info10
  have HE : Hid (LwS c h r f [] w V5) := ⟨HL.out.cc, HL.out.tab, fun p hp => (by cases hp), HL.out.below⟩
  clear hV5 hN HL HS t1 t2
  go_wp2_with (refine wpList_load_mid rfl 30 _ rfl _ 0 rfl _ _ hr Tryz.underlying30 rfl iV2 ?_)
  go_ret
  exact ⟨c, h, r, f, rfl, HE.out⟩
end Go.Proofs.YtoimbjbdkkohcaaGreatDoor

/-
  Encode's answer as a function; just the 23 lowest bits of an index count.
-/
namespace Go.Proofs.YtoimbjbdkkohcaaGreatDoor
open Go.RowKit Go.Shelf
open Po (El toE)
attribute [local go_sem] Oper.semAt_some
theorem Enc.same {m : Int} {F : Nat → Int} {ix : Int} {p : Bool} {R R' : Nat → Int} (h : Enc m F ix p R) (h' : Enc m F ix p R') : ∀ i, i < 72 → R i = R' i := by
  rcases h.2 with ⟨e, a⟩ | ⟨e, a⟩ | ⟨e, e2, a⟩
  · rcases h'.2 with ⟨f, b⟩ | ⟨f, b⟩ | ⟨f, f2, b⟩
    · exact Co.Enc1.same a b
    · omega
    · omega
  · rcases h'.2 with ⟨f, b⟩ | ⟨f, b⟩ | ⟨f, f2, b⟩
    · omega
    · exact Co.Enc2.same a b
    · omega
  · rcases h'.2 with ⟨f, b⟩ | ⟨f, b⟩ | ⟨f, f2, b⟩
    · omega
    · omega
    · exact fun i hi => (a i hi).trans (b i hi).symm
open Classical in
/-- what is encoded -/
noncomputable def E10 (m : Int) (F : Nat → Int) (ix : Int) (p : Bool) : Nat → Int := if h : ∃ R, Enc m F ix p R then Classical.choose h else fun _ => 0
theorem E10_of {m : Int} {F : Nat → Int} {ix : Int} {p : Bool} {R : Nat → Int} (h : Enc m F ix p R) : Enc m F ix p (E10 m F ix p) := by
  unfold E10
  rw [dif_pos ⟨R, h⟩]
  exact Classical.choose_spec (⟨R, h⟩ : ∃ R, Enc m F ix p R)
theorem e10_byts (m : Int) (F : Nat → Int) (ix : Int) (p : Bool) : Byts 72 (E10 m F ix p) := by
  unfold E10
  split
  · rename_i h
    exact (Classical.choose_spec h).1
  · exact fun _ _ => ⟨Int.le_refl _, show (0 : Int) < 256 by decide⟩
theorem encode10_is (c h r f : Nat) (m : Int) (F : Nat → Int) (hF : Byts 64 F) (ix : Int) (p : Bool) (w : World) (hc : CcAt w c h r f) (hT : TabW w) :
    Calls Tryz.prog 6 #[.pointer (some ⟨c, 0, none⟩), .int .i64 m, .agg (ints .u8 64 F).toArray, .int .i64 ix, .bool p] w fun e w' => e = .returned (.agg (ints .u8 72 (E10 m F ix p)).toArray) ∧ Below w.heap.size w w' :=
  (encode10_any c h r f m F hF ix p w hc hT).mono fun e w' ⟨R, he, hE, hb⟩ => ⟨by rw [he, ints_congr .u8 72 R (E10 m F ix p) (Enc.same hE (E10_of hE))], hb⟩
theorem low_ix (ix : Int) : bits .and .i64 ix 8388607 = ix % 8388608 := i64_mask ix 23 8388608 (by omega) (by decide)
theorem par_low (ix : Int) : par (ix % 8388608) = par ix := by
  unfold par
  rw [Int.emod_emod_of_dvd _ (Int.dvd_refl _)]
theorem vir_low (ix : Int) (p : Bool) : vir (ix % 8388608) p = vir ix p := by
  funext j
  unfold vir vb
  rw [Int.emod_emod_of_dvd _ (Int.dvd_refl _)]
theorem dk_low (m : Int) (R : Nat → Int) (ix : Int) : Dk m R (ix % 8388608) = Dk m R ix ∧ Df m R (ix % 8388608) = Df m R ix ∧ Dl m R (ix % 8388608) = Dl m R ix := by
  unfold Dk Df Dl
  rw [par_low, vir_low]
  exact ⟨rfl, rfl, rfl⟩
theorem e10_low (m : Int) (F : Nat → Int) (ix : Int) (p : Bool) : E10 m F (ix % 8388608) p = E10 m F ix p := by
  have : Enc m F (ix % 8388608) p = Enc m F ix p := by
    funext R
    unfold Enc
    rw [par_low, vir_low]
  unfold E10
  rw [this]
theorem gdV10 : Tryz.prog.eqGuardType Tryz.prog.depth 30 = false := by kernel_rfl
theorem eqlV10 (x y : Int) (w : World) : (binOp .eql 30 (.agg (vd2 x y).toArray) (.agg (vd2 x y).toArray)).run Tryz.prog w = .ok (.bool true) w := by
  have hs : ∀ d, (Op.equalIn (d + 1 + 1) 30 (.agg #[.int .i64 x, .int .i64 y]) (.agg #[.int .i64 x, .int .i64 y])).run Tryz.prog w = .ok true w := by
    intro d
    simp [Op.equalIn, go_sem, run_underlying Tryz.underlying30, run_underlying Tryz.underlying3]
  rw [vd2_eq]
  simp [binOp, go_sem, Op.equal, Op.maxDepth, hs 9998]
end Go.Proofs.YtoimbjbdkkohcaaGreatDoor
