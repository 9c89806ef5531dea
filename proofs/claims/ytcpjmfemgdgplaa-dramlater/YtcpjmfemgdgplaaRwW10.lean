/-
  Bits forced, by the program and by the document.
-/
import Derived.Test.YtcpjmfemgdgplaaRwW9
namespace Go.Proofs.Ytcpjmfemgdgplaa
open Go.RowKit Go.Shelf
attribute [local go_sem] Oper.semAt_some

theorem i64_and1r (n : Int) : bits .and .i64 n 1 = n % 2 := by
  have h1 : (BitVec.ofInt 64 1).toNat = 2 ^ 1 - 1 := by decide
  have key : (BitVec.ofInt 64 n &&& BitVec.ofInt 64 1).toNat = (n % ((2 ^ 64 : Nat) : Int)).toNat % 2 ^ 1 := by
    rw [BitVec.toNat_and, BitVec.toNat_ofInt, h1, Nat.and_two_pow_sub_one_eq_mod]
  show IntKind.i64.wrap ((BitVec.ofInt 64 n &&& BitVec.ofInt 64 1).toNat : Nat) = n % 2
  rw [key, IntKind.wrap_i64]
  omega
/-- F with the bit i as v -/
def frR (F : Nat → Int) (i v : Nat) : Nat → Int := fun j => if j = i / 8 then ((Rw.fc (F j).toNat (i % 8) v : Nat) : Int) else F j
theorem gb_pc (F : Nat → Int) (i : Nat) (hi : i < 576) : gb (pc F 0 72) i = (F (i / 8)).toNat / 2 ^ (i % 8) % 2 := by
  unfold gb pc
  rw [if_pos (by omega), Nat.zero_add]
theorem frR_stay (F : Nat → Int) (hF : Byts 72 F) (i : Nat) (hi : i < 576) (j : Nat) (hj : j < 72) : F j = frR F i (gb (pc F 0 72) i) j := by
  unfold frR
  by_cases e : j = i / 8
  · have := hF j hj
    rw [if_pos e, gb_pc F i hi, ← e, ← Rw.fc_stay (F j).toNat (by omega) (i % 8) (by omega)]; omega
  · rw [if_neg e]
theorem frR_flip (F : Nat → Int) (hF : Byts 72 F) (i : Nat) (hi : i < 576) (j : Nat) (hj : j < 72) : flR F i j = frR F i (1 - gb (pc F 0 72) i) j := by
  rw [flR_at F hF i j hj]
  unfold frR
  by_cases e : j = i / 8
  · have := hF j hj
    rw [if_pos e, if_pos e, gb_pc F i hi, ← e, ← Rw.fc_flip (F j).toNat (by omega) (i % 8) (by omega)]
  · rw [if_neg e, if_neg e]

theorem getR_yes (F : Nat → Int) (hF : Byts 72 F) (i : Nat) (hi : i < 576) (B : Nat) (W : World) (h : Bk .u8 W B 72 F) :
    Calls Try.prog 77 #[.slice (some ⟨B, 0, none⟩) 72 72, .int .i64 (i : Int)] W fun e w' => e = .returned (.int .i64 (gb (pc F 0 72) i : Int)) ∧ w' = W :=
  get_yes _ 72 72 (pc F 0 72) i (by omega) (by omega) W (all_sl F W B hF h)
set_option maxRecDepth 100000 in
set_option maxHeartbeats 1000000 in
theorem forceR_same (F : Nat → Int) (b value : Int) (g : Int) (hget : ∀ (B : Nat) (W : World), Bk .u8 W B 72 F → Calls Try.prog 77 #[.slice (some ⟨B, 0, none⟩) 72 72, .int .i64 b] W fun e w' => e = .returned (.int .i64 g) ∧ w' = W) (hv : bits .and .i64 value 1 = g) (w : World) :
    Calls Try.prog 61 #[.agg (ints .u8 72 F).toArray, .int .i64 b, .int .i64 value] w fun e w' => e = .returned (.agg (ints .u8 72 F).toArray) ∧ Below w.heap.size w w' := by
  have hz := zeroR
  obtain ⟨A0, hA0⟩ : ∃ A, (ints .u8 72 F).toArray = A := ⟨_, rfl⟩
  obtain ⟨Z, hZ⟩ : ∃ A, (ints .u8 72 fun _ => 0).toArray = A := ⟨_, rfl⟩
  obtain ⟨X, hX⟩ : ∃ X, F = X := ⟨_, rfl⟩
  rw [hA0]
  rw [hZ] at hz
  have HG : Hid (∀ (B : Nat) (W : World), Bk .u8 W B 72 F → Calls Try.prog 77 #[.slice (some ⟨B, 0, none⟩) 72 72, .int .i64 b] W fun e w' => e = .returned (.int .i64 g) ∧ w' = W) := hget
  clear hget
  go_enter Try.func61, Try.ntmps61
  go_upto_region 1 with (fail)
  obtain ⟨V, hV⟩ : ∃ V, (w.alloc (.cells A0 40)).alloc (.cells Z 40) = V := ⟨_, rfl⟩
  have HI : Hid (Bk .u8 V w.heap.size 72 F ∧ Bk .u8 V (w.heap.size + 1) 72 (fun _ => 0) ∧ Below w.heap.size w V) := by
    rw [← hV, ← hA0, ← hZ]
    have h1 := Bk.new .u8 (w.alloc (.cells (ints .u8 72 F).toArray 40)) 72 (fun _ => 0) 40
    simp only [World.size_alloc] at h1
    exact ⟨(Bk.new .u8 w 72 F _).alloc _, h1, ((Below.refl _ w).alloc (Nat.le_refl _) _).alloc (by simp) _⟩
  obtain ⟨B, hB⟩ : ∃ B, w.heap.size = B := ⟨_, rfl⟩
  obtain ⟨D, hD⟩ : ∃ D, B + 1 = D := ⟨_, rfl⟩
  rw [hV]
  rw [hB, hD] at HI ⊢
  have lD : B ≤ D := by omega
  have HF : Hid (A0 = (ints .u8 72 F).toArray) := hA0.symm
  clear hV hZ hA0 hz
  have hct := cut0R B
  go_upto_region 2 with (go_at_call 77; refine (HG.out B _ HI.out.1).mono ?_; rintro e w' ⟨rfl, hw2⟩; rw [hw2]; clear hw2 w')
  have HE : Hid (Bk .u8 V B 72 X ∧ Bk .u8 V D 72 (fun _ => 0) ∧ Below B w V) := by rw [← hX]; exact HI
  clear HI HG
  have hr := HE.out.1.range
  have ht := HE.out.2.1.there .u8 X
  have hi9 : (Try.prog.info? 40).map (·.size) = some (ints .u8 72 X).length := by rw [ints_len]; exact infoR
  have hone := ints_one .u8 72 X
  have HBl := HE.out.2.2
  obtain ⟨L, hL⟩ : ∃ L, ints .u8 72 X = L := ⟨_, rfl⟩
  rw [hL] at hr ht hi9 hone
  have HL : Hid (ints .u8 72 X = L) := hL
  have HB9 : Hid (Below B w V) := HBl
  clear hL HBl HE
  go_wp2_with (first | refine wpList_load_mid rfl 40 _ rfl _ 0 rfl L _ hr Try.underlying40 rfl hi9 ?_ | refine wpList_store_mid rfl 40 _ _ rfl _ 0 L.toArray rfl rfl ht hi9 hone ?_)
  have hs : (V.setCells D 0 L).rangeAt D 0 L := World.rangeAt_setCells_same V _ 0 L (by simpa using ht)
  have hld := run_loadVar_mid (P := Try.prog) (V.setCells D 0 L) D 0 40 L _ hs Try.underlying40 rfl hi9
  refine bodyPost_ret (v := .agg L.toArray) ?_ rfl ⟨by rw [HF.out, hX, HL.out], by rw [hB]; exact belows_put lD L 0 HB9.out⟩
  simp [results, Try.f61, Act.put, asAddr, hld]
set_option maxRecDepth 100000 in
set_option maxHeartbeats 1000000 in
theorem forceR_turn (F : Nat → Int) (b value : Int) (g : Int) (hget : ∀ (B : Nat) (W : World), Bk .u8 W B 72 F → Calls Try.prog 77 #[.slice (some ⟨B, 0, none⟩) 72 72, .int .i64 b] W fun e w' => e = .returned (.int .i64 g) ∧ w' = W) (z : Int) (hv : bits .and .i64 value 1 = z) (hne : g ≠ z)
    (Y : Nat → Int) (hflip : ∀ W : World, Calls Try.prog 33 #[.agg (ints .u8 72 F).toArray, .int .i64 b] W fun e w' => e = .returned (.agg (ints .u8 72 Y).toArray) ∧ Below W.heap.size W w') (w : World) :
    Calls Try.prog 61 #[.agg (ints .u8 72 F).toArray, .int .i64 b, .int .i64 value] w fun e w' => e = .returned (.agg (ints .u8 72 Y).toArray) ∧ Below w.heap.size w w' := by
  have hne2 : (g == z) = false := by simpa using hne
  have hz := zeroR
  obtain ⟨A0, hA0⟩ : ∃ A, (ints .u8 72 F).toArray = A := ⟨_, rfl⟩
  obtain ⟨Z, hZ⟩ : ∃ A, (ints .u8 72 fun _ => 0).toArray = A := ⟨_, rfl⟩
  obtain ⟨X, hX⟩ : ∃ X, F = X := ⟨_, rfl⟩
  rw [hA0]
  rw [hZ] at hz
  have HG : Hid (∀ (B : Nat) (W : World), Bk .u8 W B 72 F → Calls Try.prog 77 #[.slice (some ⟨B, 0, none⟩) 72 72, .int .i64 b] W fun e w' => e = .returned (.int .i64 g) ∧ w' = W) := hget
  clear hget
  go_enter Try.func61, Try.ntmps61
  go_upto_region 1 with (fail)
  obtain ⟨V, hV⟩ : ∃ V, (w.alloc (.cells A0 40)).alloc (.cells Z 40) = V := ⟨_, rfl⟩
  have HI : Hid (Bk .u8 V w.heap.size 72 F ∧ Bk .u8 V (w.heap.size + 1) 72 (fun _ => 0) ∧ Below w.heap.size w V) := by
    rw [← hV, ← hA0, ← hZ]
    have h1 := Bk.new .u8 (w.alloc (.cells (ints .u8 72 F).toArray 40)) 72 (fun _ => 0) 40
    simp only [World.size_alloc] at h1
    exact ⟨(Bk.new .u8 w 72 F _).alloc _, h1, ((Below.refl _ w).alloc (Nat.le_refl _) _).alloc (by simp) _⟩
  obtain ⟨B, hB⟩ : ∃ B, w.heap.size = B := ⟨_, rfl⟩
  obtain ⟨D, hD⟩ : ∃ D, B + 1 = D := ⟨_, rfl⟩
  rw [hV]
  rw [hB, hD] at HI ⊢
  have lD : B ≤ D := by omega
  have HF : Hid (A0 = (ints .u8 72 F).toArray) := hA0.symm
  clear hV hZ hA0 hz
  have hct := cut0R B
  go_upto_region 3 with (go_at_call 77; refine (HG.out B _ HI.out.1).mono ?_; rintro e w' ⟨rfl, hw2⟩; rw [hw2]; clear hw2 w')
  obtain ⟨L0, hL0⟩ : ∃ L, ints .u8 72 F = L := ⟨_, rfl⟩
  obtain ⟨L, hL⟩ : ∃ L, ints .u8 72 Y = L := ⟨_, rfl⟩
  have hr := HI.out.1.range
  have hi0 : (Try.prog.info? 40).map (·.size) = some L0.length := by rw [← hL0, ints_len]; exact infoR
  have hi9 : (Try.prog.info? 40).map (·.size) = some L.length := by rw [← hL, ints_len]; exact infoR
  have hone : L.toArray.all (·.oneCell') = true := by rw [← hL]; exact ints_one .u8 72 _
  have HFl : Hid (∀ W : World, Calls Try.prog 33 #[.agg L0.toArray, .int .i64 b] W fun e w' => e = .returned (.agg L.toArray) ∧ Below W.heap.size W w') := by rw [← hL0, ← hL]; exact hflip
  rw [hL0] at hr
  have HL : Hid (ints .u8 72 Y = L) := hL
  have HT : Hid (∀ W, Below V.heap.size V W → W.there D 0 L.toArray.size ∧ Below B w W) := fun W hb => by
    rw [← hL]
    exact ⟨(HI.out.2.1.next hb).there .u8 Y, HI.out.2.2.trans (hb.mono (Nat.le_of_lt HI.out.1.lt))⟩
  clear hL0 hL hflip HI HG
  go_wp2_with (first | refine wpList_load_mid rfl 40 _ rfl B 0 rfl L0 _ hr Try.underlying40 rfl hi0 ?_ | (go_at_call 33; refine (HFl.out _).mono ?_; rintro e W4 ⟨rfl, b4⟩; have ht := (HT.out W4 b4).1; have HB9 : Hid (Below B w W4) := (HT.out W4 b4).2; clear b4) | refine wpList_store_mid rfl 40 _ _ rfl _ 0 L.toArray rfl rfl ht hi9 hone ?_)
  have hs : (W4.setCells D 0 L).rangeAt D 0 L := World.rangeAt_setCells_same W4 _ 0 L (by simpa using ht)
  have hld := run_loadVar_mid (P := Try.prog) (W4.setCells D 0 L) D 0 40 L _ hs Try.underlying40 rfl hi9
  refine bodyPost_ret (v := .agg L.toArray) ?_ rfl ⟨by rw [HL.out], by rw [hB]; exact belows_put lD L 0 HB9.out⟩
  simp [results, Try.f61, Act.put, asAddr, hld]
theorem forceR_yes (F : Nat → Int) (hF : Byts 72 F) (i : Nat) (hi : i < 576) (value : Int) (v : Nat) (hv : bits .and .i64 value 1 = (v : Int)) (hv1 : v ≤ 1) (w : World) :
    Calls Try.prog 61 #[.agg (ints .u8 72 F).toArray, .int .i64 (i : Int), .int .i64 value] w fun e w' => e = .returned (.agg (ints .u8 72 (frR F i v)).toArray) ∧ Below w.heap.size w w' := by
  have hg := gb_le (pc F 0 72) i
  by_cases e : gb (pc F 0 72) i = v
  · rw [← ints_congr .u8 72 F (frR F i v) (fun j hj => by rw [← e]; exact frR_stay F hF i hi j hj)]
    exact forceR_same F i value (gb (pc F 0 72) i : Int) (fun B W h => getR_yes F hF i hi B W h) (by rw [hv, e]) w
  · rw [← ints_congr .u8 72 (flR F i) (frR F i v) (fun j hj => by rw [frR_flip F hF i hi j hj, show 1 - gb (pc F 0 72) i = v by omega])]
    exact forceR_turn F i value (gb (pc F 0 72) i : Int) (fun B W h => getR_yes F hF i hi B W h) v hv (by omega) (flR F i) (fun W => flipR_yes F hF i hi W) w
theorem forceR_no (F : Nat → Int) (hF : Byts 72 F) (b : Int) (hb : b < 0 ∨ 576 ≤ b) (hb2 : b ≤ 9223372036854775807) (value : Int) (w : World) :
    Calls Try.prog 61 #[.agg (ints .u8 72 F).toArray, .int .i64 b, .int .i64 value] w fun e w' => e = .returned (.agg (ints .u8 72 F).toArray) ∧ Below w.heap.size w w' := by
  have hv := i64_and1r value
  by_cases e : value % 2 = 0
  · exact forceR_same F b value 0 (fun B W h => get_no _ 72 72 b (by omega) hb2 (by omega) W) (by rw [hv, e]) w
  · exact forceR_turn F b value 0 (fun B W h => get_no _ 72 72 b (by omega) hb2 (by omega) W) (value % 2) hv (fun h => e h.symm) F (fun W => flipR_no F hF b hb hb2 W) w
end Go.Proofs.Ytcpjmfemgdgplaa
