/-
  Texts of one family, one behind another: CoW9, CoM4, RwW3, RwW4, CoM5, RwW10.
-/
import Derived.Test.YtdjknaafefnlcaaDoorM17
import Derived.Test.YtdjknaafefnlcaaDoorM10
import Derived.Deep.DeepCutAuto
import Derived.Test.YtdjknaafefnlcaaDoorM09
import Derived.Test.YtdjknaafefnlcaaDoorM11

/-
  Encode and Decode, in any mode.
-/
namespace Go.Proofs.YtdjknaafefnlcaaDoor
open Go.RowKit Go.Shelf
open Po (El toE)
attribute [local go_sem] Oper.semAt_some

/-- raw bytes are a line's -/
def Enc (m : Int) (F : Nat → Int) (ix : Int) (p : Bool) (R : Nat → Int) : Prop :=
  Byts 72 R ∧ ((m = 1 ∧ Co.Enc1 F (par ix) (bt p) R) ∨ (m = 2 ∧ Co.Enc2 F (vir ix p) R) ∨ (m ≠ 1 ∧ m ≠ 2 ∧ ∀ i, i < 72 → R i = 0))
/-- what is decoded: the line, the verdict's kind, how many words were mended -/
def Dk (m : Int) (R : Nat → Int) (ix : Int) : Int := if m = 1 then top (vB R (par ix)) 8 else if m = 2 then top (vC R (vir ix false)) 2 else 3
def Df (m : Int) (R : Nat → Int) (ix : Int) : Int := if m = 1 then (if top (vB R (par ix)) 8 = 1 then (cnt (vB R (par ix)) 8 : Int) else 0) else if m = 2 then (if top (vC R (vir ix false)) 2 = 1 then (cnt (vC R (vir ix false)) 2 : Int) else 0) else 0
def Dl (m : Int) (R : Nat → Int) (ix : Int) : Nat → Int := if m = 1 then tln (top (vB R (par ix)) 8) (wby (fB R (par ix))) else if m = 2 then tln (top (vC R (vir ix false)) 2) (lC R (vir ix false)) else fun _ => 0
theorem tln_byts (k : Int) (L : Nat → Int) (h : Byts 64 L) : Byts 64 (tln k L) := fun i hi => by
  unfold tln
  split
  · exact ⟨Int.le_refl _, show (0 : Int) < 256 by decide⟩
  · exact h i hi
theorem dl_byts (m : Int) (R : Nat → Int) (ix : Int) : Byts 64 (Dl m R ix) := by
  unfold Dl
  split
  · exact tln_byts _ _ fun i _ => by unfold wby; omega
  · split
    · exact tln_byts _ _ fun i _ => oe_bd _
    · exact fun _ _ => ⟨Int.le_refl _, show (0 : Int) < 256 by decide⟩

set_option maxRecDepth 100000 in
set_option maxHeartbeats 1000000 in
theorem encode10_any (c h r f : Nat) (m : Int) (F : Nat → Int) (hF : Byts 64 F) (ix : Int) (p : Bool) (w : World) (hc : CcAt w c h r f) (hT : TabW w) :
    Calls Tryd.prog 11 #[.pointer (some ⟨c, 0, none⟩), .int .i64 m, .agg (ints .u8 64 F).toArray, .int .i64 ix, .bool p] w fun e w' => ∃ R, e = .returned (.agg (ints .u8 72 R).toArray) ∧ Enc m F ix p R ∧ Below w.heap.size w w' := by
  have hz := zeroR
  have c1 : Hid (∀ W : World, CcAt W c h r f → TabW W → Calls Tryd.prog 18 #[.pointer (some ⟨c, 0, none⟩), .agg (ints .u8 64 F).toArray, .int .i64 ix, .bool p] W fun e w' => e = .returned (.agg (ints .u8 72 (enB F (par ix) (bt p))).toArray) ∧ Below W.heap.size W w') := fun W H HT => encodeBits_any c h r f F hF ix p W H HT
  have c2 : Hid (∀ W : World, CcAt W c h r f → TabW W → Calls Tryd.prog 19 #[.pointer (some ⟨c, 0, none⟩), .agg (ints .u8 64 F).toArray, .int .i64 ix, .bool p] W fun e w' => ∃ R, e = .returned (.agg (ints .u8 72 R).toArray) ∧ Co.Enc2 F (vir ix p) R ∧ Below W.heap.size W w') := fun W H HT => encodeChips_any c h r f F hF ix p W H HT
  obtain ⟨A0, hA0⟩ : ∃ A, ints .u8 64 F = A := ⟨_, rfl⟩
  obtain ⟨Z, hZ⟩ : ∃ A, (ints .u8 72 fun _ => 0) = A := ⟨_, rfl⟩
  have i0 : (Tryd.prog.info? 23).map (·.size) = some A0.length := by rw [← hA0, ints_len]; exact infoL
  have HEb : Hid (Enc 1 F ix p (enB F (par ix) (bt p))) := ⟨(enB_enc F _ _).byt hF, .inl ⟨rfl, enB_enc F _ _⟩⟩
  rw [hZ] at hz
  rw [hA0] at c1 c2 ⊢
  go_enter Tryd.func11, Tryd.ntmps11
  go_upto_region 1 with (fail)
  obtain ⟨B, hB⟩ : ∃ B, w.heap.size = B := ⟨_, rfl⟩
  obtain ⟨V, hV⟩ : ∃ V, (w.alloc (.cells A0.toArray 23)).alloc (.cells Z.toArray 25) = V := ⟨_, rfl⟩
  have st : Below w.heap.size w V := by rw [← hV]; exact ((Below.refl _ w).alloc (Nat.le_refl _) _).alloc (by simp) _
  have HV : Hid (Bk .u8 V B 64 F ∧ Bk .u8 V (B + 1) 72 (fun _ => 0) ∧ CcAt V c h r f ∧ TabW V ∧ Below B w V) := by
    have h0 := Bk.new .u8 w 64 F 23
    have h1 := Bk.new .u8 (w.alloc (.cells A0.toArray 23)) 72 (fun _ => 0) 25
    simp only [World.size_alloc] at h1
    rw [hA0] at h0
    rw [hZ] at h1
    rw [hV] at h1
    have h2 := h0.alloc (.cells Z.toArray 25)
    rw [hV] at h2
    rw [hB] at h1 h2
    exact ⟨h2, h1, hc.next st, hT.next st, by rw [← hB]; exact st⟩
  have hr := HV.out.1.range
  rw [hA0] at hr
  have HZ : Hid (ints .u8 64 F = A0 ∧ (ints .u8 72 fun _ => 0) = Z) := ⟨hA0, hZ⟩
  rw [hV, hB]
  clear hV st hc hT hA0 hZ
  by_cases h1 : m = 1
  · subst h1
    go_wp2_with (refine wpList_load_mid rfl 23 _ rfl B 0 rfl A0 _ hr Tryd.underlying23 rfl i0 ?_)
    refine (c1.out _ HV.out.2.2.1 HV.out.2.2.2.1).mono ?_
    rintro e V1 ⟨rfl, b1⟩
    obtain ⟨T, hT'⟩ : ∃ T, B + 1 = T := ⟨_, rfl⟩
    have HW : Hid (Bk .u8 V1 T 72 (fun _ => 0) ∧ Below B w V1) := by rw [← hT']; exact ⟨HV.out.2.1.next b1, HV.out.2.2.2.2.trans (b1.mono (by have := HV.out.1.lt; omega))⟩
    have ht := HW.out.1.there .u8 (enB F (par ix) (bt p))
    have hi9 : (Tryd.prog.info? 25).map (·.size) = some (ints .u8 72 (enB F (par ix) (bt p))).length := by rw [ints_len]; exact infoR
    have hone := ints_one .u8 72 (enB F (par ix) (bt p))
    obtain ⟨L, hL⟩ : ∃ L, ints .u8 72 (enB F (par ix) (bt p)) = L := ⟨_, rfl⟩
    rw [hL] at ht hi9 hone
    rw [hT']
    try simp only [hL]
    have HL : Hid (ints .u8 72 (enB F (par ix) (bt p)) = L) := hL
    have j9 : (Tryd.prog.info? 25).map (·.size) = some L.toArray.size := by simpa using hi9
    have HE2 : Hid (Enc 1 F ix p (enB F (par ix) (bt p))) := HEb.out
    clear hL hr b1
    go_wp2_with (refine wpList_store_mid rfl 25 _ _ rfl _ 0 L.toArray rfl rfl ht j9 hone ?_)
    have hs : (World.setCells V1 T 0 L).rangeAt T 0 L := World.rangeAt_setCells_same V1 _ 0 L (by simpa using ht)
    have hld := run_loadVar_mid (P := Tryd.prog) (World.setCells V1 T 0 L) T 0 25 L _ hs Tryd.underlying25 rfl hi9
    refine bodyPost_ret (v := .agg L.toArray) ?_ rfl ⟨enB F (par ix) (bt p), by rw [HL.out], HE2.out, by first | exact belows_put (by omega) L 0 HW.out.2 | (rw [hB]; exact belows_put (by omega) L 0 HW.out.2)⟩
    simp [results, Tryd.f11, Act.put, asAddr, hld]
  · have d1 : (m == 1) = false := by simpa using h1
    by_cases h2 : m = 2
    · subst h2
      go_wp2_with (refine wpList_load_mid rfl 23 _ rfl B 0 rfl A0 _ hr Tryd.underlying23 rfl i0 ?_)
      refine (c2.out _ HV.out.2.2.1 HV.out.2.2.2.1).mono ?_
      rintro e V1 ⟨R, rfl, hE, b1⟩
      obtain ⟨T, hT'⟩ : ∃ T, B + 1 = T := ⟨_, rfl⟩
      have HW : Hid (Bk .u8 V1 T 72 (fun _ => 0) ∧ Below B w V1) := by rw [← hT']; exact ⟨HV.out.2.1.next b1, HV.out.2.2.2.2.trans (b1.mono (by have := HV.out.1.lt; omega))⟩
      have ht := HW.out.1.there .u8 (R)
      have hi9 : (Tryd.prog.info? 25).map (·.size) = some (ints .u8 72 (R)).length := by rw [ints_len]; exact infoR
      have hone := ints_one .u8 72 (R)
      obtain ⟨L, hL⟩ : ∃ L, ints .u8 72 (R) = L := ⟨_, rfl⟩
      rw [hL] at ht hi9 hone
      rw [hT']
      try simp only [hL]
      have HL : Hid (ints .u8 72 (R) = L) := hL
      have j9 : (Tryd.prog.info? 25).map (·.size) = some L.toArray.size := by simpa using hi9
      have HE2 : Hid (Enc 2 F ix p (R)) := ⟨hE.b, .inr (.inl ⟨rfl, hE⟩)⟩
      clear hL hr b1 hE
      go_wp2_with (refine wpList_store_mid rfl 25 _ _ rfl _ 0 L.toArray rfl rfl ht j9 hone ?_)
      have hs : (World.setCells V1 T 0 L).rangeAt T 0 L := World.rangeAt_setCells_same V1 _ 0 L (by simpa using ht)
      have hld := run_loadVar_mid (P := Tryd.prog) (World.setCells V1 T 0 L) T 0 25 L _ hs Tryd.underlying25 rfl hi9
      refine bodyPost_ret (v := .agg L.toArray) ?_ rfl ⟨R, by rw [HL.out], HE2.out, by first | exact belows_put (by omega) L 0 HW.out.2 | (rw [hB]; exact belows_put (by omega) L 0 HW.out.2)⟩
      simp [results, Tryd.f11, Act.put, asAddr, hld]
    · have d2 : (m == 2) = false := by simpa using h2
      rw [← HZ.out.2] at hz
      obtain ⟨T, hT'⟩ : ∃ T, B + 1 = T := ⟨_, rfl⟩
      have HW : Hid (Bk .u8 V T 72 (fun _ => 0) ∧ Below B w V) := by rw [← hT']; exact ⟨HV.out.2.1, HV.out.2.2.2.2⟩
      have ht := HW.out.1.there .u8 (fun _ => 0)
      have hi9 : (Tryd.prog.info? 25).map (·.size) = some (ints .u8 72 (fun _ => 0)).length := by rw [ints_len]; exact infoR
      have hone := ints_one .u8 72 (fun _ => 0)
      obtain ⟨L, hL⟩ : ∃ L, ints .u8 72 (fun _ => 0) = L := ⟨_, rfl⟩
      rw [hL] at ht hi9 hone hz
      rw [hT']
      try simp only [hL]
      have HL : Hid (ints .u8 72 (fun _ => 0) = L) := hL
      have j9 : (Tryd.prog.info? 25).map (·.size) = some L.toArray.size := by simpa using hi9
      have HE2 : Hid (Enc m F ix p (fun _ => 0)) := ⟨fun _ _ => ⟨Int.le_refl _, show (0 : Int) < 256 by decide⟩, .inr (.inr ⟨h1, h2, fun _ _ => rfl⟩)⟩
      clear hL hr h1 h2
      go_wp2_with (refine wpList_store_mid rfl 25 _ _ rfl _ 0 L.toArray rfl rfl ht j9 hone ?_)
      have hs : (World.setCells V T 0 L).rangeAt T 0 L := World.rangeAt_setCells_same V _ 0 L (by simpa using ht)
      have hld := run_loadVar_mid (P := Tryd.prog) (World.setCells V T 0 L) T 0 25 L _ hs Tryd.underlying25 rfl hi9
      refine bodyPost_ret (v := .agg L.toArray) ?_ rfl ⟨fun _ => 0, by rw [HL.out], HE2.out, by first | exact belows_put (by omega) L 0 HW.out.2 | (rw [hB]; exact belows_put (by omega) L 0 HW.out.2)⟩
      simp [results, Tryd.f11, Act.put, asAddr, hld]


set_option maxRecDepth 100000 in
set_option maxHeartbeats 1000000 in
theorem decode10_any (c h r f : Nat) (m : Int) (R : Nat → Int) (hR : Byts 72 R) (ix : Int) (w : World) (hc : CcAt w c h r f) (hT : TabW w) :
    Calls Tryd.prog 13 #[.pointer (some ⟨c, 0, none⟩), .int .i64 m, .agg (ints .u8 72 R).toArray, .int .i64 ix] w fun e w' => e = .returned (.tuple #[.agg (ints .u8 64 (Dl m R ix)).toArray, .agg (vd2 (Dk m R ix) (Df m R ix)).toArray]) ∧ Below w.heap.size w w' := by
  have hz := zeroL10
  have hz2 := zero10
  have c1 := fun W H HT => decodeBits_any c h r f R hR ix W H HT
  have c2 := fun W H HT => decodeChips_any c h r f R hR ix W H HT
  obtain ⟨x1, hx1⟩ : ∃ x, top (vB R (par ix)) 8 = x := ⟨_, rfl⟩
  obtain ⟨y1, hy1⟩ : ∃ x, (if x1 = 1 then (cnt (vB R (par ix)) 8 : Int) else 0) = x := ⟨_, rfl⟩
  obtain ⟨o1, ho1⟩ : ∃ x, tln x1 (wby (fB R (par ix))) = x := ⟨_, rfl⟩
  obtain ⟨x2, hx2⟩ : ∃ x, top (vC R (vir ix false)) 2 = x := ⟨_, rfl⟩
  obtain ⟨y2, hy2⟩ : ∃ x, (if x2 = 1 then (cnt (vC R (vir ix false)) 2 : Int) else 0) = x := ⟨_, rfl⟩
  obtain ⟨o2, ho2⟩ : ∃ x, tln x2 (lC R (vir ix false)) = x := ⟨_, rfl⟩
  have e1 : Dl 1 R ix = o1 ∧ Dk 1 R ix = x1 ∧ Df 1 R ix = y1 := by unfold Dl Dk Df; simp only [if_pos]; rw [hx1, hy1, ho1]; exact ⟨rfl, rfl, rfl⟩
  have e2 : Dl 2 R ix = o2 ∧ Dk 2 R ix = x2 ∧ Df 2 R ix = y2 := by
    unfold Dl Dk Df
    rw [if_neg (show ¬ (2 : Int) = 1 by decide), if_neg (show ¬ (2 : Int) = 1 by decide), if_neg (show ¬ (2 : Int) = 1 by decide), if_pos rfl, if_pos rfl, if_pos rfl, hx2, hy2, ho2]; exact ⟨rfl, rfl, rfl⟩
  have e3 : m ≠ 1 → m ≠ 2 → Dl m R ix = (fun _ => 0) ∧ Dk m R ix = 3 ∧ Df m R ix = 0 := fun a b => by
    unfold Dl Dk Df
    rw [if_neg a, if_neg a, if_neg a, if_neg b, if_neg b, if_neg b]; exact ⟨rfl, rfl, rfl⟩
  simp only [hx1, hy1, ho1] at c1
  simp only [hx2, hy2, ho2] at c2
  obtain ⟨A0, hA0⟩ : ∃ A, ints .u8 72 R = A := ⟨_, rfl⟩
  obtain ⟨Z, hZ⟩ : ∃ A, (ints .u8 64 fun _ => 0) = A := ⟨_, rfl⟩
  have i0 : (Tryd.prog.info? 25).map (·.size) = some A0.length := by rw [← hA0, ints_len]; exact infoR
  rw [hZ] at hz
  rw [hA0] at c1 c2 ⊢
  have C1 : Hid (∀ W : World, CcAt W c h r f → TabW W → Calls Tryd.prog 22 #[.pointer (some ⟨c, 0, none⟩), .agg A0.toArray, .int .i64 ix] W fun e w' => e = .returned (.tuple #[.agg (ints .u8 64 o1).toArray, .agg (vd2 x1 y1).toArray]) ∧ Below W.heap.size W w') := c1
  have C2 : Hid (∀ W : World, CcAt W c h r f → TabW W → Calls Tryd.prog 23 #[.pointer (some ⟨c, 0, none⟩), .agg A0.toArray, .int .i64 ix] W fun e w' => e = .returned (.tuple #[.agg (ints .u8 64 o2).toArray, .agg (vd2 x2 y2).toArray]) ∧ Below W.heap.size W w') := c2
  have E1 : Hid (Dl 1 R ix = o1 ∧ Dk 1 R ix = x1 ∧ Df 1 R ix = y1) := e1
  have E2 : Hid (Dl 2 R ix = o2 ∧ Dk 2 R ix = x2 ∧ Df 2 R ix = y2) := e2
  have E3 : Hid (m ≠ 1 → m ≠ 2 → Dl m R ix = (fun _ => 0) ∧ Dk m R ix = 3 ∧ Df m R ix = 0) := e3
  obtain ⟨rl, Hrl⟩ : ∃ rl, Hid (Value.tuple #[.agg (ints .u8 64 (Dl m R ix)).toArray, .agg (vd2 (Dk m R ix) (Df m R ix)).toArray] = rl) := ⟨_, rfl⟩
  rw [Hrl.out]
  clear c1 c2 e1 e2 e3 hx1 hy1 ho1 hx2 hy2 ho2
  go_enter Tryd.func13, Tryd.ntmps13
  go_upto_region 1 with (fail)
  obtain ⟨B, hB⟩ : ∃ B, w.heap.size = B := ⟨_, rfl⟩
  obtain ⟨V, hV⟩ : ∃ V, ((w.alloc (.cells A0.toArray 25)).alloc (.cells Z.toArray 23)).alloc (.cells #[.int .i64 0, .int .i64 0] 32) = V := ⟨_, rfl⟩
  have st : Below w.heap.size w V := by rw [← hV]; exact (((Below.refl _ w).alloc (Nat.le_refl _) _).alloc (by simp) _).alloc (by simp; omega) _
  have HV : Hid (Bk .u8 V B 72 R ∧ Out2 B (B + 1) (B + 1 + 1) w V ∧ CcAt V c h r f ∧ TabW V) := by
    have h0 := Bk.new .u8 w 72 R 25
    have h1 := Bk.new .u8 (w.alloc (.cells A0.toArray 25)) 64 (fun _ => 0) 23
    have h2 := Bk.new2 ((w.alloc (.cells A0.toArray 25)).alloc (.cells Z.toArray 23)) 0 0 32
    simp only [World.size_alloc] at h1 h2
    rw [hA0] at h0
    rw [hZ] at h1
    rw [hV] at h2
    have h1' := h1.alloc (.cells #[.int .i64 0, .int .i64 0] 32)
    have h0' := (h0.alloc (.cells Z.toArray 23)).alloc (.cells #[.int .i64 0, .int .i64 0] 32)
    rw [hV] at h0' h1'
    rw [hB] at h0' h1' h2
    exact ⟨h0', ⟨⟨_, h1'⟩, ⟨_, h2⟩, by rw [← hB]; exact st⟩, hc.next st, hT.next st⟩
  have hr := HV.out.1.range
  rw [hA0] at hr
  have HZ : Hid (ints .u8 72 R = A0 ∧ (ints .u8 64 fun _ => 0) = Z) := ⟨hA0, hZ⟩
  rw [hV, hB]
  clear hV st hc hT hA0 hZ hz2
  obtain ⟨T, hT'⟩ : ∃ T, B + 1 = T := ⟨_, rfl⟩
  obtain ⟨U, hU⟩ : ∃ U, T + 1 = U := ⟨_, rfl⟩
  rw [hT', hU] at HV
  rw [hT']
  try rw [hU]
  have lTU : B ≤ T ∧ B ≤ U ∧ T ≠ U := by omega
  clear hT' hU
  by_cases h1 : m = 1
  · subst h1
    go_wp2_with (refine wpList_load_mid rfl 25 _ rfl B 0 rfl A0 _ hr Tryd.underlying25 rfl i0 ?_)
    refine (C1.out _ HV.out.2.2.1 HV.out.2.2.2).mono ?_
    rintro e V1 ⟨rfl, b1⟩
    have HO : Hid (Out2 B T U w V1) := HV.out.2.1.next lTU.1 b1
    have HR : Hid (rl = Value.tuple #[.agg (ints .u8 64 o1).toArray, .agg (vd2 x1 y1).toArray]) := by
      show _ = _
      have e := E1.out
      rw [← Hrl.out, e.1, e.2.1, e.2.2]
    have tO : Hid ((V1).there T 0 (ints .u8 64 o1).toArray.size) := by obtain ⟨X, hX⟩ := HO.out.a; exact hX.there .u8 _
    have jO : (Tryd.prog.info? 23).map (·.size) = some (ints .u8 64 o1).toArray.size := by simpa [ints_len] using infoL
    have oO := ints_one .u8 64 o1
    have jV : (Tryd.prog.info? 32).map (·.size) = some (vd2 x1 y1).toArray.size := by simpa using info10v x1 y1
    have oV : (vd2 x1 y1).toArray.all (·.oneCell') = true := ints_one .i64 2 _
    have hP := HO.out.put1 lTU.1 lTU.2.2 o1
    have tV : Hid (((V1).setCells T 0 (ints .u8 64 o1)).there U 0 (vd2 x1 y1).toArray.size) := by obtain ⟨X, hX⟩ := hP.c; exact hX.there .i64 _
    have hQ := HO.out.put lTU.1 lTU.2.1 lTU.2.2 o1 x1 y1
    obtain ⟨LO, hLO⟩ : ∃ L, ints .u8 64 o1 = L := ⟨_, rfl⟩
    obtain ⟨LV, hLV⟩ : ∃ L, vd2 x1 y1 = L := ⟨_, rfl⟩
    rw [hLO] at tO jO oO tV
    rw [hLV] at tV jV oV
    have HQ : Hid (Bk .u8 (((V1).setCells T 0 LO).setCells U 0 LV) T 64 o1 ∧ Bk .i64 (((V1).setCells T 0 LO).setCells U 0 LV) U 2 (two x1 y1) ∧ Below B w (((V1).setCells T 0 LO).setCells U 0 LV)) := by
      rw [hLO, hLV] at hQ
      exact hQ
    try simp only [hLO, hLV]
    clear hP hQ hLO hLV hr b1
    go_wp2_with (first | refine wpList_store_mid rfl 23 _ _ rfl T 0 LO.toArray rfl rfl tO.out jO oO ?_ | refine wpList_store_mid rfl 32 _ _ rfl U 0 LV.toArray rfl rfl tV.out jV oV ?_)
    obtain ⟨W9, hW9⟩ : ∃ W9, ((V1).setCells T 0 LO).setCells U 0 LV = W9 := ⟨_, rfl⟩
    rw [hW9] at HQ ⊢
    obtain ⟨q1, q2⟩ := out2_results HQ.out.1 HQ.out.2.1
    refine bodyPost_ret (v := .tuple #[.agg (ints .u8 64 o1).toArray, .agg (vd2 x1 y1).toArray]) ?_ rfl ⟨by rw [HR.out], by first | exact HQ.out.2.2 | (rw [hB]; exact HQ.out.2.2)⟩
    simp [results, Tryd.f13, Act.put, asAddr, q1, q2]
  · have d1 : (m == 1) = false := by simpa using h1
    by_cases h2 : m = 2
    · subst h2
      go_wp2_with (refine wpList_load_mid rfl 25 _ rfl B 0 rfl A0 _ hr Tryd.underlying25 rfl i0 ?_)
      refine (C2.out _ HV.out.2.2.1 HV.out.2.2.2).mono ?_
      rintro e V1 ⟨rfl, b1⟩
      have HO : Hid (Out2 B T U w V1) := HV.out.2.1.next lTU.1 b1
      have HR : Hid (rl = Value.tuple #[.agg (ints .u8 64 o2).toArray, .agg (vd2 x2 y2).toArray]) := by
        show _ = _
        have e := E2.out
        rw [← Hrl.out, e.1, e.2.1, e.2.2]
      have tO : Hid ((V1).there T 0 (ints .u8 64 o2).toArray.size) := by obtain ⟨X, hX⟩ := HO.out.a; exact hX.there .u8 _
      have jO : (Tryd.prog.info? 23).map (·.size) = some (ints .u8 64 o2).toArray.size := by simpa [ints_len] using infoL
      have oO := ints_one .u8 64 o2
      have jV : (Tryd.prog.info? 32).map (·.size) = some (vd2 x2 y2).toArray.size := by simpa using info10v x2 y2
      have oV : (vd2 x2 y2).toArray.all (·.oneCell') = true := ints_one .i64 2 _
      have hP := HO.out.put1 lTU.1 lTU.2.2 o2
      have tV : Hid (((V1).setCells T 0 (ints .u8 64 o2)).there U 0 (vd2 x2 y2).toArray.size) := by obtain ⟨X, hX⟩ := hP.c; exact hX.there .i64 _
      have hQ := HO.out.put lTU.1 lTU.2.1 lTU.2.2 o2 x2 y2
      obtain ⟨LO, hLO⟩ : ∃ L, ints .u8 64 o2 = L := ⟨_, rfl⟩
      obtain ⟨LV, hLV⟩ : ∃ L, vd2 x2 y2 = L := ⟨_, rfl⟩
      rw [hLO] at tO jO oO tV
      rw [hLV] at tV jV oV
      have HQ : Hid (Bk .u8 (((V1).setCells T 0 LO).setCells U 0 LV) T 64 o2 ∧ Bk .i64 (((V1).setCells T 0 LO).setCells U 0 LV) U 2 (two x2 y2) ∧ Below B w (((V1).setCells T 0 LO).setCells U 0 LV)) := by
        rw [hLO, hLV] at hQ
        exact hQ
      try simp only [hLO, hLV]
      clear hP hQ hLO hLV hr b1
      go_wp2_with (first | refine wpList_store_mid rfl 23 _ _ rfl T 0 LO.toArray rfl rfl tO.out jO oO ?_ | refine wpList_store_mid rfl 32 _ _ rfl U 0 LV.toArray rfl rfl tV.out jV oV ?_)
      obtain ⟨W9, hW9⟩ : ∃ W9, ((V1).setCells T 0 LO).setCells U 0 LV = W9 := ⟨_, rfl⟩
      rw [hW9] at HQ ⊢
      obtain ⟨q1, q2⟩ := out2_results HQ.out.1 HQ.out.2.1
      refine bodyPost_ret (v := .tuple #[.agg (ints .u8 64 o2).toArray, .agg (vd2 x2 y2).toArray]) ?_ rfl ⟨by rw [HR.out], by first | exact HQ.out.2.2 | (rw [hB]; exact HQ.out.2.2)⟩
      simp [results, Tryd.f13, Act.put, asAddr, q1, q2]
    · have d2 : (m == 2) = false := by simpa using h2
      have HO : Hid (Out2 B T U w V) := HV.out.2.1
      have HR : Hid (rl = Value.tuple #[.agg (ints .u8 64 (fun _ => 0)).toArray, .agg (vd2 3 0).toArray]) := by
        show _ = _
        have e := E3.out h1 h2
        rw [← Hrl.out, e.1, e.2.1, e.2.2]
      have tO : Hid ((V).there T 0 (ints .u8 64 (fun _ => 0)).toArray.size) := by obtain ⟨X, hX⟩ := HO.out.a; exact hX.there .u8 _
      have jO : (Tryd.prog.info? 23).map (·.size) = some (ints .u8 64 (fun _ => 0)).toArray.size := by simpa [ints_len] using infoL
      have oO := ints_one .u8 64 (fun _ => 0)
      have jV : (Tryd.prog.info? 32).map (·.size) = some (vd2 3 0).toArray.size := by simpa using info10v 3 0
      have oV : (vd2 3 0).toArray.all (·.oneCell') = true := ints_one .i64 2 _
      have hP := HO.out.put1 lTU.1 lTU.2.2 (fun _ => 0)
      have tV : Hid (((V).setCells T 0 (ints .u8 64 (fun _ => 0))).there U 0 (vd2 3 0).toArray.size) := by obtain ⟨X, hX⟩ := hP.c; exact hX.there .i64 _
      have hQ := HO.out.put lTU.1 lTU.2.1 lTU.2.2 (fun _ => 0) 3 0
      obtain ⟨LO, hLO⟩ : ∃ L, ints .u8 64 (fun _ => 0) = L := ⟨_, rfl⟩
      obtain ⟨LV, hLV⟩ : ∃ L, vd2 3 0 = L := ⟨_, rfl⟩
      rw [hLO] at tO jO oO tV
      rw [hLV] at tV jV oV
      have HQ : Hid (Bk .u8 (((V).setCells T 0 LO).setCells U 0 LV) T 64 (fun _ => 0) ∧ Bk .i64 (((V).setCells T 0 LO).setCells U 0 LV) U 2 (two 3 0) ∧ Below B w (((V).setCells T 0 LO).setCells U 0 LV)) := by
        rw [hLO, hLV] at hQ
        exact hQ
      try simp only [hLO, hLV]
      rw [HZ.out.2] at hLO
      subst hLO
      clear hP hQ hr h1 h2
      go_wp2_with (first | refine wpList_store_mid rfl 23 _ _ rfl T 0 Z.toArray rfl rfl tO.out jO oO ?_ | refine wpList_store_mid rfl 32 _ _ rfl U 0 LV.toArray rfl (by rw [← hLV]; rfl) tV.out jV oV ?_)
      obtain ⟨W9, hW9⟩ : ∃ W9, ((V).setCells T 0 Z).setCells U 0 LV = W9 := ⟨_, rfl⟩
      rw [hW9] at HQ ⊢
      obtain ⟨q1, q2⟩ := out2_results HQ.out.1 HQ.out.2.1
      refine bodyPost_ret (v := .tuple #[.agg (ints .u8 64 (fun _ => 0)).toArray, .agg (vd2 3 0).toArray]) ?_ rfl ⟨by rw [HR.out], by first | exact HQ.out.2.2 | (rw [hB]; exact HQ.out.2.2)⟩
      simp [results, Tryd.f13, Act.put, asAddr, q1, q2]
end Go.Proofs.YtdjknaafefnlcaaDoor

/-
  What is told of a line of noughts, and of one whose bit 3 is turned; top verdicts.
-/
namespace Go.Proofs.YtdjknaafefnlcaaDoor
open Go.RowKit Go.Shelf
open Bm (wt wtK)
open Po (El toE)
open Ln (val wrd)

theorem val_zero (n k : Nat) : val (fun _ => 0) n k = 0 := by
  induction n generalizing k with
  | zero => rfl
  | succ n ih =>
    show 0 + 256 * val (fun _ => 0) n (k + 1) = 0
    rw [ih]
theorem par_zero : par 0 = 0 := by decide +kernel
theorem bt_false : bt false = 0 := rfl
/-- the noughts of the mode 1 -/
theorem enc1_noughts {F R : Nat → Int} (hF : ∀ i, i < 64 → F i = 0) (h : Co.Enc1 F 0 0 R) : ∀ i, i < 72 → R i = 0 := by
  refine Co.Enc1.same h ⟨fun k hk j hj => (hF _ (by omega)).symm, fun k hk => ?_⟩
  have hw : wrd F k = 0 := by
    unfold wrd
    rw [Ln.val_congr _ (fun _ => 0) 8 (8 * k) fun j h1 h2 => by rw [hF j (by omega)]; rfl]
    exact val_zero 8 _
  rw [hw, show Hm.syn 0 0 0 0 = 0 from by decide +kernel]; rfl
/-- the noughts of the mode 2 -/
theorem enc2_noughts {F R : Nat → Int} {G : Nat → El} (hF : ∀ i, i < 64 → F i = 0) (hG : ∀ i, i < 3 → G i = 0) (h : Co.Enc2 F G R) : ∀ i, i < 72 → R i = 0 := by
  refine Co.Enc2.same h ⟨fun _ _ => ⟨Int.le_refl _, show (0 : Int) < 256 by decide⟩, fun k hk i hi => (hF _ (by omega)).symm, fun k hk j hj => ?_⟩
  have e : ∀ i, i < 39 → wd (Co.rw (fun _ => 0) k) G i = (fun _ => (0 : El)) i := fun i hi => by
    unfold wd
    by_cases h36 : i < 36
    · rw [if_pos h36]; rfl
    · rw [if_neg h36]; exact hG _ (by omega)
  have := congrFun (sy_congr e) j
  refine this.trans ?_
  obtain ⟨a0, a1, a2, a3⟩ := sy_zero
  rcases (show j = 0 ∨ j = 1 ∨ j = 2 ∨ j = 3 by omega) with rfl | rfl | rfl | rfl
  · exact a0
  · exact a1
  · exact a2
  · exact a3
theorem vir_zero : ∀ i, i < 3 → vir 0 false i = 0 := by
  intro i hi
  rcases (show i = 0 ∨ i = 1 ∨ i = 2 by omega) with rfl | rfl | rfl <;> decide +kernel
theorem enc_noughts {m : Int} {F R : Nat → Int} (hF : ∀ i, i < 64 → F i = 0) (h : Enc m F 0 false R) : ∀ i, i < 72 → R i = 0 := by
  rcases h.2 with ⟨_, h⟩ | ⟨_, h⟩ | ⟨_, _, h⟩
  · rw [par_zero, bt_false] at h
    exact enc1_noughts hF h
  · exact enc2_noughts hF vir_zero h
  · exact h
/-- a line of noughts with its bit 3 turned -/
theorem three_told {R : Nat → Int} (hR : ∀ i, i < 72 → R i = if i = 0 then 8 else 0) : Dk 1 R 0 = 1 ∧ Df 1 R 0 = 1 := by
  have hd0 : Co.dw R 0 = 8 := by
    unfold Co.dw
    rw [Ln.val_congr _ (fun i => if i = 0 then 8 else 0) 8 (9 * 0) fun j h1 h2 => by rw [hR j (by omega)]; split <;> rfl]
    decide +kernel
  have hd : ∀ k, 0 < k → k < 8 → Co.dw R k = 0 := fun k h0 hk => by
    unfold Co.dw
    rw [Ln.val_congr _ (fun _ => 0) 8 (9 * k) fun j h1 h2 => by rw [hR j (by omega), if_neg (by omega)]; rfl]
    exact val_zero 8 _
  have hc : ∀ k, k < 8 → Co.cw R k = 0 := fun k hk => by
    unfold Co.cw
    rw [hR _ (by omega), if_neg (by omega)]; rfl
  have hv0 : vB R 0 0 = 1 := by
    unfold vB Co.sB
    rw [hd0, hc 0 (by omega)]
    decide +kernel
  have hv : ∀ k, 0 < k → k < 8 → vB R 0 k = 0 := fun k h0 hk => by
    unfold vB Co.sB
    rw [hd k h0 hk, hc k hk]
    decide +kernel
  unfold Dk Df
  rw [if_pos rfl, if_pos rfl, par_zero]
  have ht : top (vB R 0) 8 = 1 := by
    simp only [top, hv0, hv 1 (by omega) (by omega), hv 2 (by omega) (by omega), hv 3 (by omega) (by omega), hv 4 (by omega) (by omega), hv 5 (by omega) (by omega), hv 6 (by omega) (by omega), hv 7 (by omega) (by omega)]
    decide
  have hn : cnt (vB R 0) 8 = 1 := by
    simp only [cnt, hv0, hv 1 (by omega) (by omega), hv 2 (by omega) (by omega), hv 3 (by omega) (by omega), hv 4 (by omega) (by omega), hv 5 (by omega) (by omega), hv 6 (by omega) (by omega), hv 7 (by omega) (by omega)]
    decide
  rw [ht, hn, if_pos rfl]
  exact ⟨rfl, rfl⟩
end Go.Proofs.YtdjknaafefnlcaaDoor

/-
  How much two lines' raw bytes are exposed to one another, by the program.
-/
namespace Go.Proofs.YtdjknaafefnlcaaDoor
open Go.RowKit
open Bm (wt wtK)
attribute [local go_sem] Oper.semAt_some

/-- the exposure -/
def ex (m n k : Int) (F G : Nat → Int) : Nat := Rw.mx m F G n.toNat k.toNat
theorem cut9 (b i : Nat) (hi : i < 8) (w : World) : (Instr.sliceAt 25 (.pointer (some ⟨b, 0, none⟩)) (some (.int .i64 ((i : Int) * 9))) (some (.int .i64 (((i : Int) + 1) * 9))) none).run Tryd.prog w = .ok (.slice (some ⟨b, 9 * i, none⟩) 9 (72 - 9 * i)) w := by
  obtain rfl | rfl | rfl | rfl | rfl | rfl | rfl | rfl : i = 0 ∨ i = 1 ∨ i = 2 ∨ i = 3 ∨ i = 4 ∨ i = 5 ∨ i = 6 ∨ i = 7 := by omega
  all_goals simp [Instr.sliceAt, go_sem]
theorem cut36 (b i : Nat) (hi : i < 2) (w : World) : (Instr.sliceAt 25 (.pointer (some ⟨b, 0, none⟩)) (some (.int .i64 ((i : Int) * 36))) (some (.int .i64 (((i : Int) + 1) * 36))) none).run Tryd.prog w = .ok (.slice (some ⟨b, 36 * i, none⟩) 36 (72 - 36 * i)) w := by
  obtain rfl | rfl : i = 0 ∨ i = 1 := by omega
  all_goals simp [Instr.sliceAt, go_sem]

end Go.Proofs.YtdjknaafefnlcaaDoor

/-
  How much two lines' raw bytes are exposed to one another, by the document.
-/
namespace Go.Proofs.YtdjknaafefnlcaaDoor
open Go.RowKit
open Bm (wt wtK)
attribute [local go_sem] Oper.semAt_some

set_option maxRecDepth 100000 in
set_option maxHeartbeats 400000 in
theorem refExposure1 (F G : Nat → Int) (hF : Byts 72 F) (hG : Byts 72 G) (w : World) :
    Calls Tryd.prog 12 #[.int .i64 1, .agg (ints .u8 72 F).toArray, .agg (ints .u8 72 G).toArray] w fun e w' => e = .returned (.int .i64 (Rw.mx 1 F G 9 8 : Int)) ∧ Below w.heap.size w w' := by
  obtain ⟨f, h, Hf, HS, HL, HZ, HQ⟩ : ∃ (f : Nat → Nat) (h : Nat → Nat → Nat), Hid (Rw.mx 1 F G 9 = f) ∧ Hid (∀ i, f (i + 1) = max (f i) (h i 9)) ∧ Hid (∀ i j, i < 8 → j ≤ 9 → h i j ≤ 8 * j) ∧ Hid (∀ i, h i 0 = 0) ∧ Hid (∀ i j, h i (j + 1) = h i j + Rw.dl 1 (F (9 * i + j)) (G (9 * i + j))) :=
    ⟨_, fun i => Rw.sm 1 F G (9 * i), rfl, fun i => rfl, fun i j hi hj => Rw.sm_le 1 F G (9 * i) j (fun j hj => hF _ (by omega)) (fun j hj => hG _ (by omega)), fun i => rfl, fun i j => rfl⟩
  have H0 : Hid (f 0 = 0) := by rw [← Hf.out]; rfl
  rw [show Rw.mx 1 F G 9 8 = f 8 by rw [Hf.out]]
  have hw : Hid (∀ w : World, Calls Tryd.prog 20 #[.int .i64 1] w fun e w' => e = .returned (.int .i64 9) ∧ w' = w) := refChips_any .bits
  clear Hf
  have HF : Hid (Byts 72 F ∧ Byts 72 G) := ⟨hF, hG⟩
  obtain ⟨A0, hA0⟩ : ∃ A, (ints .u8 72 F).toArray = A := ⟨_, rfl⟩
  obtain ⟨A1, hA1⟩ : ∃ A, (ints .u8 72 G).toArray = A := ⟨_, rfl⟩
  rw [hA0, hA1]
  go_enter Tryd.func12, Tryd.ntmps12
  go_wp2_with (go_at_call 20; refine (hw.out _).mono ?_; rintro e w' ⟨rfl, rfl⟩)
  obtain ⟨V, hV⟩ : ∃ V, (w.alloc (.cells A0 24)).alloc (.cells A1 24) = V := ⟨_, rfl⟩
  have HI : Hid (Bk .u8 V w.heap.size 72 F ∧ Bk .u8 V (w.heap.size + 1) 72 G ∧ Below w.heap.size w V) := by
    rw [← hV, ← hA0, ← hA1]
    have h1 := Bk.new .u8 (w.alloc (.cells (ints .u8 72 F).toArray 24)) 72 G 24
    simp only [World.size_alloc] at h1
    exact ⟨(Bk.new .u8 w 72 F _).alloc _, h1, ((Below.refl _ w).alloc (Nat.le_refl _) _).alloc (by simp) _⟩
  obtain ⟨B, hB⟩ : ∃ B, w.heap.size = B := ⟨_, rfl⟩
  obtain ⟨C, hC⟩ : ∃ C, B + 1 = C := ⟨_, rfl⟩
  rw [hV]
  rw [hB, hC] at HI ⊢
  clear hV hA0 hA1 hC hF hG hw
  go_loopw [8, 9] (fun cv iv wr => ∃ i t : Nat, i ≤ 8 ∧ t ≤ 72 ∧ Hid (f i = t) ∧ cv = .int .i64 (t : Int) ∧ iv = .int .i64 (i : Int) ∧ Hid (∃ q, wr = V.drewN q)) (fun _ iv _ => 8 - (intOf iv).toNat)
  case atStart => exact ⟨0, 0, by omega, by omega, H0, rfl, rfl, ⟨0, rfl⟩⟩
  case round =>
    obtain ⟨i, t, hi, ht, Ht, rfl, rfl, Hq⟩ := hrel
    by_cases hlt : i < 8
    · have hst := HS.out i
      rw [Ht.out] at hst
      have Hst : Hid (f (i + 1) = max t (h i 9)) := hst
      have HQi : Hid (∀ j, h i (j + 1) = h i j + Rw.dl 1 (F (9 * i + j)) (G (9 * i + j))) := HQ.out i
      have HLi : Hid (∀ j, j ≤ 9 → h i j ≤ 8 * j) := fun j hj => HL.out i j hlt hj
      have HZi : Hid (h i 0 = 0) := HZ.out i
      obtain ⟨g, Hg⟩ : ∃ g, Hid (h i = g) := ⟨_, rfl⟩
      rw [Hg.out] at Hst HQi HLi HZi
      clear hst HS HQ HL HZ Hg
      go_wp2
      go_loopw [10, 11] (fun cv iv wr => ∃ j c : Nat, j ≤ 9 ∧ c ≤ 8 * j ∧ Hid (g j = c) ∧ cv = .int .i64 (c : Int) ∧ iv = .int .i64 (9 * (i : Int) + (j : Int)) ∧ Hid (∃ q, wr = V.drewN q)) (fun _ iv _ => (9 * (i : Int) + 9 - intOf iv).toNat)
      case atStart => exact ⟨0, 0, by omega, by omega, HZi, rfl, by first | rfl | go_num, Hq⟩
      case round =>
        obtain ⟨j, c, hj, hc, Hc, rfl, rfl, Hq⟩ := hrel
        by_cases hjt : j < 9
        · have hs2 := HQi.out j
          have hl2 := HLi.out (j + 1) (by omega)
          rw [Hc.out] at hs2
          have hbF := HF.out.1 (9 * i + j) (by omega)
          have hbG := HF.out.2 (9 * i + j) (by omega)
          obtain ⟨x, hx, Hx⟩ : ∃ x : Nat, x < 256 ∧ Hid (F (9 * i + j) = (x : Int)) := ⟨(F (9 * i + j)).toNat, by omega, by show _ = _; omega⟩
          obtain ⟨y, hy, Hy⟩ : ∃ y : Nat, y < 256 ∧ Hid (G (9 * i + j) = (y : Int)) := ⟨(G (9 * i + j)).toNat, by omega, by show _ = _; omega⟩
          have ca : wr.cell? ⟨B, 9 * i + j, none⟩ = some (.int .u8 (x : Int)) := by obtain ⟨q, rfl⟩ := Hq.out; rw [← Hx.out]; exact HI.out.1.cell (9 * i + j) (by omega)
          have cb : wr.cell? ⟨C, 9 * i + j, none⟩ = some (.int .u8 (y : Int)) := by obtain ⟨q, rfl⟩ := Hq.out; rw [← Hy.out]; exact HI.out.2.1.cell (9 * i + j) (by omega)
          rw [Hx.out, Hy.out, show Rw.dl 1 (x : Int) (y : Int) = wt (x ^^^ y) from rfl] at hs2
          obtain ⟨z, hz, rz, Hz⟩ : ∃ z : Nat, bits .xor .u8 (x : Int) (y : Int) = (z : Int) ∧ z < 256 ∧ Hid (x ^^^ y = z) := ⟨_, u8_xor_nat x y hx hy, Nat.xor_lt_two_pow (n := 8) hx hy, rfl⟩
          rw [Hz.out] at hs2
          obtain ⟨u, ru, Hu⟩ : ∃ u, u ≤ 64 ∧ Hid (wt z = u) := ⟨_, Bm.wt_le z, rfl⟩
          rw [Hu.out] at hs2
          have hW : Hid (∀ w, Calls Tryd.prog 21 #[.int .u64 (z : Int)] w fun e w' => e = .returned (.int .i64 (u : Int)) ∧ w' = w) := fun w => by
            have := refWeight_any z (by omega) w
            rw [Hu.out] at this; exact this
          have Hs2 : Hid (g (j + 1) = c + u) := hs2
          rw [hs2] at hl2
          clear hs2 hbF hbG HQi HLi HZi Hu Hz Hx Hy hx hy
          go_wp2
          go_quiet ((go_at_call 21; exact Calls.quiet_of_same (hW.out _)))
          go_wp2
          go_roundw
          case rel => exact ⟨j + 1, c + u, by omega, hl2, Hs2, by go_num, by go_num, by obtain ⟨q, rfl⟩ := Hq.out; exact ⟨_, World.drewN_drewN _ _ _⟩⟩
          case measure => simp [intOf]; omega
        · obtain rfl : j = 9 := by omega
          rw [Hc.out] at Hst
          by_cases hgt : t < c
          · rw [show max t c = c by omega] at Hst
            go_wp2
            go_roundw
            case rel => exact ⟨i + 1, c, by omega, by omega, Hst, by first | rfl | go_num, by first | rfl | go_num, Hq⟩
            case measure => simp [intOf]; omega
          · rw [show max t c = t by omega] at Hst
            go_wp2
            go_roundw
            case rel => exact ⟨i + 1, t, by omega, by omega, Hst, by first | rfl | go_num, by first | rfl | go_num, Hq⟩
            case measure => simp [intOf]; omega
    · obtain rfl : i = 8 := by omega
      have HE : Hid (f 8 = t) := Ht
      clear HS HQ HL HZ
      go_wp2
      go_ret
      exact ⟨by rw [HE.out]; rfl, by rw [hB]; obtain ⟨q, rfl⟩ := Hq.out; exact below_stay HI.out.2.2 (Stay.drewN _ V q) (Nat.le_refl _)⟩
set_option maxRecDepth 100000 in
set_option maxHeartbeats 400000 in
theorem refExposure2 (F G : Nat → Int) (hF : Byts 72 F) (hG : Byts 72 G) (w : World) :
    Calls Tryd.prog 12 #[.int .i64 2, .agg (ints .u8 72 F).toArray, .agg (ints .u8 72 G).toArray] w fun e w' => e = .returned (.int .i64 (Rw.mx 2 F G 36 2 : Int)) ∧ Below w.heap.size w w' := by
  obtain ⟨f, h, Hf, HS, HL, HZ, HQ⟩ : ∃ (f : Nat → Nat) (h : Nat → Nat → Nat), Hid (Rw.mx 2 F G 36 = f) ∧ Hid (∀ i, f (i + 1) = max (f i) (h i 36)) ∧ Hid (∀ i j, i < 2 → j ≤ 36 → h i j ≤ 8 * j) ∧ Hid (∀ i, h i 0 = 0) ∧ Hid (∀ i j, h i (j + 1) = h i j + Rw.dl 2 (F (36 * i + j)) (G (36 * i + j))) :=
    ⟨_, fun i => Rw.sm 2 F G (36 * i), rfl, fun i => rfl, fun i j hi hj => Rw.sm_le 2 F G (36 * i) j (fun j hj => hF _ (by omega)) (fun j hj => hG _ (by omega)), fun i => rfl, fun i j => rfl⟩
  have H0 : Hid (f 0 = 0) := by rw [← Hf.out]; rfl
  rw [show Rw.mx 2 F G 36 2 = f 2 by rw [Hf.out]]
  have hw : Hid (∀ w : World, Calls Tryd.prog 20 #[.int .i64 2] w fun e w' => e = .returned (.int .i64 36) ∧ w' = w) := refChips_any .chips
  clear Hf
  have HF : Hid (Byts 72 F ∧ Byts 72 G) := ⟨hF, hG⟩
  obtain ⟨A0, hA0⟩ : ∃ A, (ints .u8 72 F).toArray = A := ⟨_, rfl⟩
  obtain ⟨A1, hA1⟩ : ∃ A, (ints .u8 72 G).toArray = A := ⟨_, rfl⟩
  rw [hA0, hA1]
  go_enter Tryd.func12, Tryd.ntmps12
  go_wp2_with (go_at_call 20; refine (hw.out _).mono ?_; rintro e w' ⟨rfl, rfl⟩)
  obtain ⟨V, hV⟩ : ∃ V, (w.alloc (.cells A0 24)).alloc (.cells A1 24) = V := ⟨_, rfl⟩
  have HI : Hid (Bk .u8 V w.heap.size 72 F ∧ Bk .u8 V (w.heap.size + 1) 72 G ∧ Below w.heap.size w V) := by
    rw [← hV, ← hA0, ← hA1]
    have h1 := Bk.new .u8 (w.alloc (.cells (ints .u8 72 F).toArray 24)) 72 G 24
    simp only [World.size_alloc] at h1
    exact ⟨(Bk.new .u8 w 72 F _).alloc _, h1, ((Below.refl _ w).alloc (Nat.le_refl _) _).alloc (by simp) _⟩
  obtain ⟨B, hB⟩ : ∃ B, w.heap.size = B := ⟨_, rfl⟩
  obtain ⟨C, hC⟩ : ∃ C, B + 1 = C := ⟨_, rfl⟩
  rw [hV]
  rw [hB, hC] at HI ⊢
  clear hV hA0 hA1 hC hF hG hw
  go_loopw [8, 9] (fun cv iv wr => ∃ i t : Nat, i ≤ 2 ∧ t ≤ 288 ∧ Hid (f i = t) ∧ cv = .int .i64 (t : Int) ∧ iv = .int .i64 (i : Int) ∧ Hid (∃ q, wr = V.drewN q)) (fun _ iv _ => 2 - (intOf iv).toNat)
  case atStart => exact ⟨0, 0, by omega, by omega, H0, rfl, rfl, ⟨0, rfl⟩⟩
  case round =>
    obtain ⟨i, t, hi, ht, Ht, rfl, rfl, Hq⟩ := hrel
    by_cases hlt : i < 2
    · have hst := HS.out i
      rw [Ht.out] at hst
      have Hst : Hid (f (i + 1) = max t (h i 36)) := hst
      have HQi : Hid (∀ j, h i (j + 1) = h i j + Rw.dl 2 (F (36 * i + j)) (G (36 * i + j))) := HQ.out i
      have HLi : Hid (∀ j, j ≤ 36 → h i j ≤ 8 * j) := fun j hj => HL.out i j hlt hj
      have HZi : Hid (h i 0 = 0) := HZ.out i
      obtain ⟨g, Hg⟩ : ∃ g, Hid (h i = g) := ⟨_, rfl⟩
      rw [Hg.out] at Hst HQi HLi HZi
      clear hst HS HQ HL HZ Hg
      go_wp2
      go_loopw [10, 11] (fun cv iv wr => ∃ j c : Nat, j ≤ 36 ∧ c ≤ 8 * j ∧ Hid (g j = c) ∧ cv = .int .i64 (c : Int) ∧ iv = .int .i64 (36 * (i : Int) + (j : Int)) ∧ Hid (∃ q, wr = V.drewN q)) (fun _ iv _ => (36 * (i : Int) + 36 - intOf iv).toNat)
      case atStart => exact ⟨0, 0, by omega, by omega, HZi, rfl, by first | rfl | go_num, Hq⟩
      case round =>
        obtain ⟨j, c, hj, hc, Hc, rfl, rfl, Hq⟩ := hrel
        by_cases hjt : j < 36
        · have hs2 := HQi.out j
          have hl2 := HLi.out (j + 1) (by omega)
          rw [Hc.out] at hs2
          have ca : wr.cell? ⟨B, 36 * i + j, none⟩ = some (.int .u8 (F (36 * i + j))) := by obtain ⟨q, rfl⟩ := Hq.out; exact HI.out.1.cell (36 * i + j) (by omega)
          have cb : wr.cell? ⟨C, 36 * i + j, none⟩ = some (.int .u8 (G (36 * i + j))) := by obtain ⟨q, rfl⟩ := Hq.out; exact HI.out.2.1.cell (36 * i + j) (by omega)
          obtain ⟨x, Hx⟩ : ∃ x, Hid (F (36 * i + j) = x) := ⟨_, rfl⟩
          obtain ⟨y, Hy⟩ : ∃ y, Hid (G (36 * i + j) = y) := ⟨_, rfl⟩
          rw [Hx.out, Hy.out, show Rw.dl 2 x y = if x = y then 0 else 1 from rfl] at hs2
          rw [Hx.out] at ca
          rw [Hy.out] at cb
          by_cases hxy : x = y
          · have hne : (x != y) = false := by simp [hxy]
            rw [if_pos hxy] at hs2
            have Hs2 : Hid (g (j + 1) = c) := hs2
            clear hs2 hxy HQi HLi HZi
            go_wp2
            go_quiet (fail)
            go_wp2
            go_roundw
            case rel => exact ⟨j + 1, c, by omega, by omega, Hs2, rfl, by go_num, by obtain ⟨q, rfl⟩ := Hq.out; exact ⟨_, World.drewN_drewN _ _ _⟩⟩
            case measure => simp [intOf]; omega
          · have hne : (x != y) = true := by simp [hxy]
            rw [if_neg hxy] at hs2
            have Hs2 : Hid (g (j + 1) = c + 1) := hs2
            clear hs2 hxy HQi HLi HZi
            go_wp2
            go_quiet (fail)
            go_wp2
            go_roundw
            case rel => exact ⟨j + 1, c + 1, by omega, by omega, Hs2, by go_num, by go_num, by obtain ⟨q, rfl⟩ := Hq.out; exact ⟨_, World.drewN_drewN _ _ _⟩⟩
            case measure => simp [intOf]; omega
        · obtain rfl : j = 36 := by omega
          rw [Hc.out] at Hst
          by_cases hgt : t < c
          · rw [show max t c = c by omega] at Hst
            go_wp2
            go_roundw
            case rel => exact ⟨i + 1, c, by omega, by omega, Hst, by first | rfl | go_num, by first | rfl | go_num, Hq⟩
            case measure => simp [intOf]; omega
          · rw [show max t c = t by omega] at Hst
            go_wp2
            go_roundw
            case rel => exact ⟨i + 1, t, by omega, by omega, Hst, by first | rfl | go_num, by first | rfl | go_num, Hq⟩
            case measure => simp [intOf]; omega
    · obtain rfl : i = 2 := by omega
      have HE : Hid (f 2 = t) := Ht
      clear HS HQ HL HZ
      go_wp2
      go_ret
      exact ⟨by rw [HE.out]; rfl, by rw [hB]; obtain ⟨q, rfl⟩ := Hq.out; exact below_stay HI.out.2.2 (Stay.drewN _ V q) (Nat.le_refl _)⟩
set_option maxRecDepth 100000 in
set_option maxHeartbeats 400000 in
theorem refExposure0 (m : Int) (h1 : m ≠ 1) (h2 : m ≠ 2) (F G : Nat → Int) (w : World) :
    Calls Tryd.prog 12 #[.int .i64 m, .agg (ints .u8 72 F).toArray, .agg (ints .u8 72 G).toArray] w fun e w' => e = .returned (.int .i64 0) ∧ Below w.heap.size w w' := by
  have hw : Hid (∀ w : World, Calls Tryd.prog 20 #[.int .i64 m] w fun e w' => e = .returned (.int .i64 0) ∧ w' = w) := refChips_any (.none m h1 h2)
  clear h1 h2
  obtain ⟨A0, hA0⟩ : ∃ A, (ints .u8 72 F).toArray = A := ⟨_, rfl⟩
  obtain ⟨A1, hA1⟩ : ∃ A, (ints .u8 72 G).toArray = A := ⟨_, rfl⟩
  rw [hA0, hA1]
  clear hA0 hA1
  go_enter Tryd.func12, Tryd.ntmps12
  go_wp2_with (go_at_call 20; refine (hw.out _).mono ?_; rintro e w' ⟨rfl, rfl⟩)
  go_loopw [8, 9] (fun tv iv wr => tv = .int .i64 0 ∧ iv = .int .i64 0 ∧ wr = (w.alloc (.cells A0 24)).alloc (.cells A1 24)) (fun _ _ _ => 0)
  case atStart => exact ⟨rfl, rfl, rfl⟩
  case round =>
    obtain ⟨rfl, rfl, rfl⟩ := hrel
    go_wp2
    go_ret
    exact ⟨rfl, ((Below.refl _ w).alloc (Nat.le_refl _) _).alloc (by simp) _⟩
theorem refExposure_any {m n k : Int} (h : Md m n k) (F G : Nat → Int) (hF : Byts 72 F) (hG : Byts 72 G) (w : World) :
    Calls Tryd.prog 12 #[.int .i64 m, .agg (ints .u8 72 F).toArray, .agg (ints .u8 72 G).toArray] w fun e w' => e = .returned (.int .i64 (ex m n k F G : Int)) ∧ Below w.heap.size w w' := by
  rcases h with ⟨rfl, rfl, rfl⟩ | ⟨rfl, rfl, rfl⟩ | ⟨h1, h2, rfl, rfl⟩
  · exact refExposure1 F G hF hG w
  · exact refExposure2 F G hF hG w
  · exact refExposure0 m h1 h2 F G w
end Go.Proofs.YtdjknaafefnlcaaDoor

/-
  What is told of raw bytes that are unlike a line's in some words, of another address, or poisoned.
-/
namespace Go.Proofs.YtdjknaafefnlcaaDoor
open Go.RowKit Go.Shelf
open Bm (wt wtK)
open Po (El toE)
open Ln (val wrd)
open Rm (IsCode supp sy)

/-- a mode, its chips, its words -/
def Mw (m : Int) (n k : Nat) : Prop := (m = 1 ∧ n = 9 ∧ k = 8) ∨ (m = 2 ∧ n = 36 ∧ k = 2)
theorem mw_any (m : Int) (h : m = 1 ∨ m = 2) : ∃ n k, Mw m n k := by
  rcases h with rfl | rfl
  · exact ⟨9, 8, .inl ⟨rfl, rfl, rfl⟩⟩
  · exact ⟨36, 2, .inr ⟨rfl, rfl, rfl⟩⟩
theorem Mw.md {m : Int} {n k : Nat} (h : Mw m n k) : Md m (n : Int) (k : Int) := by
  rcases h with ⟨rfl, rfl, rfl⟩ | ⟨rfl, rfl, rfl⟩
  · exact .bits
  · exact .chips
theorem Mw.pos {m : Int} {n k : Nat} (h : Mw m n k) : 0 < n ∧ 0 < k ∧ n * k = 72 := by
  rcases h with ⟨rfl, rfl, rfl⟩ | ⟨rfl, rfl, rfl⟩ <;> omega
/-- a word's verdict; are its data the line's? -/
def vm (m : Int) (R : Nat → Int) (jx : Int) (w : Nat) : Int := if m = 1 then vB R (par jx) w else vC R (vir jx false) w
def Rightly (m : Int) (R : Nat → Int) (jx : Int) (F : Nat → Int) (w : Nat) : Prop := if m = 1 then fB R (par jx) w = wrd F w else ∀ i, i < 32 → lC R (vir jx false) (32 * w + i) = F (32 * w + i)
/-- how many of the address and the poison are unlike -/
def un (m ix : Int) (p : Bool) (jx : Int) : Nat := if m = 1 then (if par ix = par jx then 0 else 1) + (bt p).toNat else (if vir ix p 0 ^^^ vir jx false 0 = 0 then 0 else 1) + (if vir ix p 1 ^^^ vir jx false 1 = 0 then 0 else 1) + (if vir ix p 2 ^^^ vir jx false 2 = 0 then 0 else 1)
theorem kB_of {s : Nat} : (Hm.kd s = 0 → kB s = 0) ∧ (Hm.kd s = 1 → kB s = 1) ∧ (Hm.kd s = 2 → kB s = 2) ∧ (Hm.kd s = 3 → kB s = 3) ∧ (Hm.kd s = 4 → kB s = 3) := by
  unfold kB
  refine ⟨fun h => by rw [h]; rfl, fun h => by rw [h]; rfl, fun h => by rw [h]; rfl, fun h => by rw [h]; rfl, fun h => by rw [h]; rfl⟩
theorem bt_bd (p : Bool) : bt p = 0 ∨ bt p = 1 := by cases p <;> simp [bt]
theorem tellB {F own R : Nat → Int} {ix jx : Int} {p : Bool} (hF : Byts 64 F) (hE : Co.Enc1 F (par ix) (bt p) own) (hR : Byts 72 R) (w : Nat) (hw : w < 8) :
    (Rw.sm 1 own R (9 * w) 9 + un 1 ix p jx = 0 → vm 1 R jx w = 0 ∧ Rightly 1 R jx F w) ∧
    (Rw.sm 1 own R (9 * w) 9 + un 1 ix p jx = 1 → (un 1 ix p jx = 0 → vm 1 R jx w = 1 ∧ Rightly 1 R jx F w) ∧ (un 1 ix p jx ≠ 0 → 2 ≤ vm 1 R jx w)) ∧
    (Rw.sm 1 own R (9 * w) 9 + un 1 ix p jx = 2 → vm 1 R jx w = 3) := by
  have hO := hE.byt hF
  have hd := hE.dw w hw
  have hc := hE.cw w hw
  have h1 := Co.dw_lt hO w hw
  have h2 := Co.dw_lt hR w hw
  have h3 := Co.cw_lt hR w hw
  have hs := Co.sm_word hO hR w hw
  obtain ⟨da, hda⟩ : ∃ da : Nat, da = if par ix = par jx then 0 else 1 := ⟨_, rfl⟩
  have hda2 : da < 2 := by rw [hda]; split <;> decide
  have hu : un 1 ix p jx = da + (bt p).toNat := by unfold un; rw [if_pos rfl, hda]
  obtain ⟨t, ht⟩ : ∃ t, t = wt (Co.dw own w ^^^ Co.dw R w) + wt (Co.cw own w ^^^ Co.cw R w) + da + (bt p).toNat := ⟨_, rfl⟩
  have W1 := Co.word1 (par_bd ix) (par_bd jx) (bt_bd p) h1 h2 h3 (by rw [hc, hd]) da hda t ht
  have hv : vm 1 R jx w = kB (Co.sB R (par jx) w) := by unfold vm; rw [if_pos rfl]; rfl
  have hr : Rightly 1 R jx F w ↔ fx (Co.dw R w) (Co.sB R (par jx) w) = Co.dw own w := by unfold Rightly; rw [if_pos rfl, hd]; exact Iff.rfl
  have hsB : Hm.syn (Co.dw R w) (Co.cw R w) (par jx) 0 = Co.sB R (par jx) w := rfl
  rw [hsB] at W1
  obtain ⟨s, hsx⟩ : ∃ s, Co.sB R (par jx) w = s := ⟨_, rfl⟩
  rw [hsx] at W1 hv hr
  obtain ⟨k0, k1, k2, k3, k4⟩ := @kB_of s
  obtain ⟨a0, a1, a2⟩ := W1
  rw [hs, hu, hv, hr]
  have hp := bt_bd p
  clear hs hu hv hr hsx hsB hd hc h1 h2 h3 hda hO hE hF hR
  obtain ⟨z, hz⟩ : ∃ z, wt (Co.dw own w ^^^ Co.dw R w) + wt (Co.cw own w ^^^ Co.cw R w) = z := ⟨_, rfl⟩
  rw [hz] at ht ⊢
  clear hz
  refine ⟨fun h => ?_, fun h => ⟨fun h0 => ?_, fun h0 => ?_⟩, fun h => ?_⟩
  · obtain ⟨x, y⟩ := a0 (by omega)
    exact ⟨k0 x, y⟩
  · obtain ⟨x, y⟩ := (a1 (by omega)).1 (by omega) (by omega)
    exact ⟨k1 x, y⟩
  · obtain ⟨_, b1, b2⟩ := a1 (by omega)
    by_cases hd1 : da = 1
    · rw [k3 (b1 hd1)]; decide
    · rw [k2 (b2 (by omega))]; decide
  · exact k4 (a2 (by omega))
theorem tellC {F own R : Nat → Int} {ix jx : Int} {p : Bool} (hE : Co.Enc2 F (vir ix p) own) (hR : Byts 72 R) (w : Nat) (hw : w < 2) :
    (Rw.sm 2 own R (36 * w) 36 + un 2 ix p jx = 0 → vm 2 R jx w = 0 ∧ Rightly 2 R jx F w) ∧
    (Rw.sm 2 own R (36 * w) 36 + un 2 ix p jx = 1 → (un 2 ix p jx = 0 → vm 2 R jx w = 1 ∧ Rightly 2 R jx F w) ∧ (un 2 ix p jx ≠ 0 → 2 ≤ vm 2 R jx w)) ∧
    (2 ≤ Rw.sm 2 own R (36 * w) 36 + un 2 ix p jx → Rw.sm 2 own R (36 * w) 36 + un 2 ix p jx ≤ 3 → vm 2 R jx w = 3) := by
  have hl := Co.er_len hE.b hR w hw (vir ix p) (vir jx false)
  have hu : un 2 ix p jx = (if vir ix p 0 ^^^ vir jx false 0 = 0 then 0 else 1) + (if vir ix p 1 ^^^ vir jx false 1 = 0 then 0 else 1) + (if vir ix p 2 ^^^ vir jx false 2 = 0 then 0 else 1) := by unfold un; rw [if_neg (by decide)]
  have hle : (supp 39 (Co.er (Co.rw own w) (Co.rw R w) (vir ix p) (vir jx false))).length = Rw.sm 2 own R (36 * w) 36 + un 2 ix p jx := by rw [hl, hu]; omega
  obtain ⟨a0, a1, a2⟩ := Co.word2 (Y := Co.rw R w) (H := vir jx false) (hE.c w hw)
  rw [hle] at a0 a1 a2
  have hv : vm 2 R jx w = Co.kC (sy (wd (Co.rw R w) (vir jx false))) := by unfold vm; rw [if_neg (by decide)]; rfl
  have hr : (∀ i, i < 36 → mnd (Co.rw R w) (sy (wd (Co.rw R w) (vir jx false))) i = Co.rw own w i) → Rightly 2 R jx F w := fun h => by
    unfold Rightly
    rw [if_neg (by decide)]
    intro i hi
    rw [lC_at R _ w i hi]
    have e := h (4 + i) (by omega)
    unfold Co.sC
    rw [e, ← hE.d w hw i hi]
    have hb := hE.b (36 * w + (4 + i)) (by omega)
    exact ofE_toE _ hb.1 hb.2
  rw [hv]
  refine ⟨fun h => ?_, fun h => ⟨fun h0 => ?_, fun h0 => ?_⟩, a2⟩
  · exact ⟨(a0 h).1, hr (a0 h).2⟩
  · have hGH : ∀ i, i < 3 → vir ix p i = vir jx false i := fun i hi => by
      rw [hu] at h0
      refine Po.xor_eq_zero ?_
      rcases (show i = 0 ∨ i = 1 ∨ i = 2 by omega) with rfl | rfl | rfl
      · by_cases e : vir ix p 0 ^^^ vir jx false 0 = 0
        · exact e
        · rw [if_neg e] at h0; omega
      · by_cases e : vir ix p 1 ^^^ vir jx false 1 = 0
        · exact e
        · rw [if_neg e] at h0; omega
      · by_cases e : vir ix p 2 ^^^ vir jx false 2 = 0
        · exact e
        · rw [if_neg e] at h0; omega
    obtain ⟨x, y⟩ := (a1 h).1 hGH
    exact ⟨x, hr y⟩
  · have hGH : ∃ i, i < 3 ∧ vir ix p i ≠ vir jx false i := by
      by_cases e0 : vir ix p 0 = vir jx false 0
      · by_cases e1 : vir ix p 1 = vir jx false 1
        · by_cases e2 : vir ix p 2 = vir jx false 2
          · exfalso
            apply h0
            rw [hu, e0, e1, e2, Po.xor_self', Po.xor_self', Po.xor_self']
            rfl
          · exact ⟨2, by omega, e2⟩
        · exact ⟨1, by omega, e1⟩
      · exact ⟨0, by omega, e0⟩
    rcases ((a1 h).2 hGH).1 with e | e <;> rw [e] <;> decide
theorem tell {m : Int} {n k : Nat} (hm : Mw m n k) {F own R : Nat → Int} {ix jx : Int} {p : Bool} (hF : Byts 64 F) (hE : Enc m F ix p own) (hR : Byts 72 R) (w : Nat) (hw : w < k) :
    (Rw.sm m own R (n * w) n + un m ix p jx = 0 → vm m R jx w = 0 ∧ Rightly m R jx F w) ∧
    (Rw.sm m own R (n * w) n + un m ix p jx = 1 → (un m ix p jx = 0 → vm m R jx w = 1 ∧ Rightly m R jx F w) ∧ (un m ix p jx ≠ 0 → 2 ≤ vm m R jx w)) ∧
    (Rw.sm m own R (n * w) n + un m ix p jx = 2 ∨ (m = 2 ∧ Rw.sm m own R (n * w) n + un m ix p jx = 3) → vm m R jx w = 3) := by
  rcases hm with ⟨rfl, rfl, rfl⟩ | ⟨rfl, rfl, rfl⟩
  · rcases hE.2 with ⟨_, h⟩ | ⟨h, _⟩ | ⟨h, _⟩
    · obtain ⟨a, b, c⟩ := tellB (jx := jx) hF h hR w hw
      exact ⟨a, b, fun e => c (by omega)⟩
    · omega
    · exact absurd rfl h
  · rcases hE.2 with ⟨h, _⟩ | ⟨_, h⟩ | ⟨_, h, _⟩
    · omega
    · obtain ⟨a, b, c⟩ := tellC (jx := jx) h hR w hw
      exact ⟨a, b, fun e => c (by omega) (by omega)⟩
    · exact absurd rfl h
theorem dk_top {m : Int} {n k : Nat} (hm : Mw m n k) (R : Nat → Int) (jx : Int) : Dk m R jx = top (vm m R jx) k ∧ Df m R jx = (if top (vm m R jx) k = 1 then (cnt (vm m R jx) k : Int) else 0) := by
  rcases hm with ⟨rfl, rfl, rfl⟩ | ⟨rfl, rfl, rfl⟩
  · have e : vm 1 R jx = vB R (par jx) := by funext w; unfold vm; rw [if_pos rfl]
    rw [e]
    unfold Dk Df
    rw [if_pos rfl, if_pos rfl]; exact ⟨rfl, rfl⟩
  · have e : vm 2 R jx = vC R (vir jx false) := by funext w; unfold vm; rw [if_neg (by decide)]
    rw [e]
    refine ⟨?_, ?_⟩
    · unfold Dk
      rw [if_neg (show ¬ (2 : Int) = 1 by decide), if_pos rfl]
    · unfold Df
      rw [if_neg (show ¬ (2 : Int) = 1 by decide), if_pos (rfl : (2 : Int) = 2)]
theorem vm_bd (m : Int) (R : Nat → Int) (jx : Int) (w : Nat) : 0 ≤ vm m R jx w ∧ vm m R jx w ≤ 3 := by
  unfold vm
  split
  · exact kB_bd _
  · exact kC_bd _
theorem top_ge (K : Nat → Int) (k w : Nat) (h : w < k) : K w ≤ top K k := by
  induction k with
  | zero => omega
  | succ k ih =>
    rw [top]
    by_cases e : w = k
    · subst e; omega
    · have := ih (by omega); omega
theorem top_le (K : Nat → Int) (k : Nat) (c : Int) (hc : 0 ≤ c) (h : ∀ w, w < k → K w ≤ c) : top K k ≤ c := by
  induction k with
  | zero => exact hc
  | succ k ih =>
    have h1 := ih fun w hw => h w (by omega)
    have h2 := h k (by omega)
    rw [top]; omega
/-- a word that is Lost, or Poisoned: so is the line -/
theorem line_dead {m : Int} {n k : Nat} (hm : Mw m n k) (R : Nat → Int) (jx : Int) (w : Nat) (hw : w < k) (h : 2 ≤ vm m R jx w) : 2 ≤ Dk m R jx ∧ Dk m R jx ≤ 3 ∧ (vm m R jx w = 3 → Dk m R jx = 3) ∧ ∀ i, Dl m R jx i = 0 := by
  have h1 := top_ge (vm m R jx) k w hw
  have h2 := top_le (vm m R jx) k 3 (by decide) fun w _ => (vm_bd m R jx w).2
  have hk := (dk_top hm R jx).1
  refine ⟨by omega, by omega, fun h => by omega, fun i => ?_⟩
  have hd : Dk m R jx = 3 ∨ Dk m R jx = 2 := by omega
  rcases hm with ⟨rfl, rfl, rfl⟩ | ⟨rfl, rfl, rfl⟩
  · unfold Dk at hd
    rw [if_pos rfl] at hd
    unfold Dl
    rw [if_pos rfl, tln_dead _ _ hd]
  · unfold Dk at hd
    rw [if_neg (by decide), if_pos rfl] at hd
    unfold Dl
    rw [if_neg (by decide), if_pos rfl, tln_dead _ _ hd]
/-- all words are told rightly: so is the line -/
theorem line_right {m : Int} {n k : Nat} (hm : Mw m n k) {F : Nat → Int} (hF : Byts 64 F) (R : Nat → Int) (jx : Int) (h : ∀ w, w < k → vm m R jx w ≤ 1 ∧ Rightly m R jx F w) : ∀ i, i < 64 → Dl m R jx i = F i := by
  have h2 := top_le (vm m R jx) k 1 (by decide) fun w hw => (h w hw).1
  have hk := (dk_top hm R jx).1
  have hd : ¬ (Dk m R jx = 3 ∨ Dk m R jx = 2) := by omega
  intro i hi
  rcases hm with ⟨rfl, rfl, rfl⟩ | ⟨rfl, rfl, rfl⟩
  · unfold Dk at hd
    rw [if_pos rfl] at hd
    unfold Dl
    rw [if_pos rfl, tln_live _ _ hd]
    have e := (h (i / 8) (by omega)).2
    unfold Rightly at e
    rw [if_pos rfl] at e
    have := wby_wrd F hF i hi
    unfold wby at this ⊢
    rw [e]; exact this
  · unfold Dk at hd
    rw [if_neg (by decide), if_pos rfl] at hd
    unfold Dl
    rw [if_neg (by decide), if_pos rfl, tln_live _ _ hd]
    have e := (h (i / 32) (by omega)).2
    unfold Rightly at e
    rw [if_neg (by decide)] at e
    have := e (i % 32) (by omega)
    rwa [show 32 * (i / 32) + i % 32 = i by omega] at this
/-- some word is as unlike as the most unlike -/
theorem mx_att (m : Int) (F G : Nat → Int) (n k : Nat) : Rw.mx m F G n k = 0 ∨ ∃ w, w < k ∧ Rw.sm m F G (n * w) n = Rw.mx m F G n k := by
  induction k with
  | zero => exact .inl rfl
  | succ k ih =>
    rw [Rw.mx]
    rcases Nat.le_total (Rw.mx m F G n k) (Rw.sm m F G (n * k) n) with h | h
    · rw [Nat.max_eq_right h]
      exact .inr ⟨k, by omega, rfl⟩
    · rw [Nat.max_eq_left h]
      rcases ih with ih | ⟨w, hw, e⟩
      · exact .inl ih
      · exact .inr ⟨w, by omega, e⟩
theorem cnt_pos (K : Nat → Int) (k w : Nat) (hw : w < k) (h : K w = 1) : 0 < cnt K k := by
  induction k with
  | zero => omega
  | succ k ih =>
    rw [cnt]
    by_cases e : w = k
    · subst e; rw [if_pos h]; omega
    · have := ih (by omega); omega
/-- what exposes by 1 at most is mended -/
theorem corrects {m : Int} {n k : Nat} (hm : Mw m n k) {F own R : Nat → Int} {ix : Int} (hF : Byts 64 F) (hE : Enc m F ix false own) (hR : Byts 72 R) (hx : Rw.mx m own R n k ≤ 1) (hu : un m ix false ix = 0) :
    (∀ i, i < 64 → Dl m R ix i = F i) ∧ Dk m R ix = (Rw.mx m own R n k : Int) ∧ ((0 < Df m R ix) ↔ Rw.mx m own R n k = 1) := by
  have hw : ∀ w, w < k → vm m R ix w = (Rw.sm m own R (n * w) n : Int) ∧ vm m R ix w ≤ 1 ∧ Rightly m R ix F w := fun w hwk => by
    obtain ⟨a, b, _⟩ := tell (jx := ix) hm hF hE hR w hwk
    have hs := Rw.mx_ge m own R n k w hwk
    rw [hu] at a b
    rcases (show Rw.sm m own R (n * w) n = 0 ∨ Rw.sm m own R (n * w) n = 1 by omega) with e | e
    · obtain ⟨x, y⟩ := a (by omega)
      exact ⟨by rw [x, e]; rfl, by rw [x]; decide, y⟩
    · obtain ⟨x, y⟩ := (b (by omega)).1 rfl
      exact ⟨by rw [x, e]; rfl, by rw [x]; decide, y⟩
  have hd := dk_top hm R ix
  have htop : ∀ j, j ≤ k → top (vm m R ix) j = (Rw.mx m own R n j : Int) := by
    intro j
    induction j with
    | zero => intro _; rfl
    | succ j ih =>
      intro hj
      rw [top, Rw.mx, ih (by omega), (hw j (by omega)).1]
      omega
  rw [htop k (Nat.le_refl _)] at hd
  refine ⟨line_right hm hF R ix fun w hwk => (hw w hwk).2, hd.1, ?_⟩
  rw [hd.2]
  constructor
  · intro h
    by_cases e : (Rw.mx m own R n k : Int) = 1
    · omega
    · rw [if_neg e] at h; omega
  · intro h
    rw [if_pos (by omega)]
    rcases mx_att m own R n k with e | ⟨w, hwk, e⟩
    · omega
    · have := cnt_pos (vm m R ix) k w hwk (by rw [(hw w hwk).1, e, h]; rfl)
      omega
theorem un_same (m ix : Int) : un m ix false ix = 0 := by
  unfold un
  split
  · rw [if_pos rfl]; rfl
  · rw [Po.xor_self', Po.xor_self', Po.xor_self']; rfl
theorem un_poison (m ix : Int) : un m ix true ix = 1 := by
  unfold un
  split
  · rw [if_pos rfl]; rfl
  · have e0 : vir ix true 0 = vir ix false 0 := rfl
    have e1 : vir ix true 1 = vir ix false 1 := rfl
    have e2 : vir ix true 2 ≠ vir ix false 2 := fun e => by
      have := congrArg oe e
      rw [oe_vir, oe_vir] at this
      unfold vb at this
      simp at this
      omega
    rw [e0, e1, Po.xor_self', Po.xor_self', if_neg (fun e => e2 (Po.xor_eq_zero e))]; rfl
/-- what exposes by two, or three, is never told as right; nor what was poisoned -/
theorem detects {m : Int} {n k : Nat} (hm : Mw m n k) {F own R : Nat → Int} {ix : Int} {p : Bool} (hF : Byts 64 F) (hE : Enc m F ix p own) (hR : Byts 72 R)
    (hx : (p = false ∧ 2 ≤ Rw.mx m own R n k ∧ (Rw.mx m own R n k : Int) ≤ 1 + m) ∨ (p = true ∧ (Rw.mx m own R n k : Int) ≤ m)) : 2 ≤ Dk m R ix ∧ (p = false → Dk m R ix = 3) ∧ ∀ i, Dl m R ix i = 0 := by
  have hm12 : m = 1 ∨ m = 2 := by rcases hm with ⟨h, _⟩ | ⟨h, _⟩ <;> omega
  rcases hx with ⟨rfl, h2, h3⟩ | ⟨rfl, h3⟩
  · rcases mx_att m own R n k with e | ⟨w, hwk, e⟩
    · omega
    · obtain ⟨_, _, c⟩ := tell (jx := ix) hm hF hE hR w hwk
      rw [un_same, e] at c
      have hv := c (by omega)
      obtain ⟨x, _, z, y⟩ := line_dead hm R ix w hwk (by omega)
      exact ⟨x, fun _ => z hv, y⟩
  · have hk := hm.pos.2.1
    obtain ⟨_, b, c⟩ := tell (jx := ix) hm hF hE hR 0 hk
    have hs := Rw.mx_ge m own R n k 0 hk
    rw [un_poison] at b c
    have hv : 2 ≤ vm m R ix 0 := by
      rcases (show Rw.sm m own R (n * 0) n = 0 ∨ Rw.sm m own R (n * 0) n = 1 ∨ (m = 2 ∧ Rw.sm m own R (n * 0) n = 2) by omega) with e | e | ⟨e1, e⟩
      · exact (b (by omega)).2 (by decide)
      · rw [c (by omega)]; decide
      · rw [c (by omega)]; decide
    obtain ⟨x, _, _, y⟩ := line_dead hm R ix 0 hk hv
    exact ⟨x, (fun e => by cases e), y⟩
end Go.Proofs.YtdjknaafefnlcaaDoor

/-
  Bits forced, by the program and by the document.
-/
namespace Go.Proofs.YtdjknaafefnlcaaDoor
open Go.RowKit Go.Shelf
attribute [local go_sem] Oper.semAt_some

theorem i64_and1r (n : Int) : bits .and .i64 n 1 = n % 2 := by
  have h1 : (BitVec.ofInt 64 1).toNat = 2 ^ 1 - 1 := by decide
  have key : (BitVec.ofInt 64 n &&& BitVec.ofInt 64 1).toNat = (n % ((2 ^ 64 : Nat) : Int)).toNat % 2 ^ 1 := by
    rw [BitVec.toNat_and, BitVec.toNat_ofInt, h1, Nat.and_two_pow_sub_one_eq_mod]
  show IntKind.i64.wrap ((BitVec.ofInt 64 n &&& BitVec.ofInt 64 1).toNat : Nat) = n % 2
  rw [key, IntKind.wrap_i64]
  omega
/-- F with the bit i as v -/
def frR (F : Nat → Int) (i v : Nat) : Nat → Int := fun j => if j = i / 8 then ((Rw.fc (F j).toNat (i % 8) v : Nat) : Int) else F j
theorem gb_pc (F : Nat → Int) (i : Nat) (hi : i < 576) : gb (pc F 0 72) i = (F (i / 8)).toNat / 2 ^ (i % 8) % 2 := by
  unfold gb pc
  rw [if_pos (by omega), Nat.zero_add]
theorem frR_stay (F : Nat → Int) (hF : Byts 72 F) (i : Nat) (hi : i < 576) (j : Nat) (hj : j < 72) : F j = frR F i (gb (pc F 0 72) i) j := by
  unfold frR
  by_cases e : j = i / 8
  · have := hF j hj
    rw [if_pos e, gb_pc F i hi, ← e, ← Rw.fc_stay (F j).toNat (by omega) (i % 8) (by omega)]; omega
  · rw [if_neg e]
theorem frR_flip (F : Nat → Int) (hF : Byts 72 F) (i : Nat) (hi : i < 576) (j : Nat) (hj : j < 72) : flR F i j = frR F i (1 - gb (pc F 0 72) i) j := by
  rw [flR_at F hF i j hj]
  unfold frR
  by_cases e : j = i / 8
  · have := hF j hj
    rw [if_pos e, if_pos e, gb_pc F i hi, ← e, ← Rw.fc_flip (F j).toNat (by omega) (i % 8) (by omega)]
  · rw [if_neg e, if_neg e]

end Go.Proofs.YtdjknaafefnlcaaDoor
