/-
  A line out of its digits: what comes of which text; a line of bytes.
-/
import Derived.Test.YtenfjllaeehckaaDoorLnW10
import Derived.Test.YtenfjllaeehckaaDoorBytes
namespace Go.Proofs.YtenfjllaeehckaaDoor
open Go.RowKit Go.Shelf
open Ln (hexd hxn hxl)
attribute [local go_sem] Oper.semAt_some

set_option maxRecDepth 100000 in
set_option maxHeartbeats 1000000 in
theorem read_len (s : ByteArray) (hs : s.size ≠ 128) (w : World) :
    Calls Tryd.prog 16 #[.string s] w fun e w' => e = .returned (.tuple #[.agg (ints .u8 64 fun _ => 0).toArray, .int .i64 10]) ∧ Below w.heap.size w w' := by
  have hz := zeroL
  have hb := Bk.new .u8 w 64 (fun _ => 0) 23
  have ht := hb.there .u8 (fun _ => 0)
  have i9 : (Tryd.prog.info? 23).map (·.size) = some (ints .u8 64 fun _ => 0).length := by rw [ints_len]; exact infoL
  have hone := ints_one .u8 64 (fun _ => 0)
  obtain ⟨L, hL⟩ : ∃ L, (ints .u8 64 fun _ => 0) = L := ⟨_, rfl⟩
  rw [hL] at hz ht i9 hone ⊢
  have hd : ((s.size : Int) != 128) = true := by simp; omega
  clear hb hL
  go_enter Tryd.func16, Tryd.ntmps16
  go_wp2_with (refine wpList_store_mid rfl 23 _ _ rfl _ 0 L.toArray rfl rfl ht i9 hone ?_)
  have hs2 : ((w.alloc (.cells L.toArray 23)).setCells w.heap.size 0 L).rangeAt w.heap.size 0 L := World.rangeAt_setCells_same _ _ 0 L (by simpa using ht)
  have hld := run_loadVar_mid (P := Tryd.prog) _ w.heap.size 0 23 L _ hs2 Tryd.underlying23 rfl i9
  refine bodyPost_ret (v := .tuple #[.agg L.toArray, .int .i64 10]) ?_ rfl ⟨rfl, belows_put (Nat.le_refl _) L 0 ((Below.refl _ w).alloc (Nat.le_refl _) _)⟩
  simp [results, Tryd.f16, asAddr, hld]

/-- a text is a line's digits -/
def DigS (s : ByteArray) : Prop := s.size = 128 ∧ ∀ j, j < 128 → isd (byt s j)
/-- how far a text is digits -/
theorem first_bad (s : ByteArray) : ∀ n, (∀ j, j < n → isd (byt s j)) ∨ ∃ p, p < n ∧ (∀ j, j < p → isd (byt s j)) ∧ ¬ isd (byt s p)
  | 0 => .inl fun _ h => by omega
  | n + 1 => by
    rcases first_bad s n with h | ⟨p, hp, h1, h2⟩
    · by_cases hn : isd (byt s n)
      · exact .inl fun j hj => by
          by_cases e : j = n
          · rw [e]; exact hn
          · exact h j (by omega)
      · exact .inr ⟨n, by omega, h, hn⟩
    · exact .inr ⟨p, by omega, h1, h2⟩
theorem read_yes (s : ByteArray) (h : DigS s) (w : World) :
    Calls Tryd.prog 16 #[.string s] w fun e w' => e = .returned (.tuple #[.agg (ints .u8 64 (rdl s)).toArray, .int .i64 0]) ∧ Below w.heap.size w w' := by
  refine (read_core s h.1 128 (Nat.le_refl _) h.2 (fun h => absurd h (by omega)) w).mono ?_
  rintro e w' ⟨⟨_, rfl⟩ | ⟨h, _⟩, hb⟩
  · exact ⟨rfl, hb⟩
  · omega
theorem read_no (s : ByteArray) (h : ¬ DigS s) (w : World) :
    Calls Tryd.prog 16 #[.string s] w fun e w' => e = .returned (.tuple #[.agg (ints .u8 64 fun _ => 0).toArray, .int .i64 10]) ∧ Below w.heap.size w w' := by
  by_cases hs : s.size = 128
  · rcases first_bad s 128 with h1 | ⟨p, hp, h1, h2⟩
    · exact absurd ⟨hs, h1⟩ h
    · refine (read_core s hs p (by omega) h1 (fun _ => h2) w).mono ?_
      rintro e w' ⟨⟨h, _⟩ | ⟨_, rfl⟩, hb⟩
      · omega
      · exact ⟨rfl, hb⟩
  · exact read_len s hs w

/-! ### digits, there and back -/
theorem hexd_isd (n : Nat) (h : n < 16) : isd (hexd n : Int) ∧ dv (hexd n : Int) = (n : Int) := by
  unfold isd dv hexd
  split
  · constructor
    · omega
    · rw [if_pos (by omega)]; omega
  · constructor
    · omega
    · rw [if_neg (by omega)]; omega
theorem hexd_dv (c : Int) (h : isd c) : (hexd (dv c).toNat : Int) = c := by
  unfold isd at h; unfold dv hexd
  split <;> split <;> omega
theorem by_hxl (F : Nat → Int) (hF : Byts 64 F) (j : Nat) (hj : j < 128) : byt ⟨(hxl F 128).toArray⟩ j = (hxn F j : Int) := by
  unfold byt hxl
  have := hxn_lt F hF j hj
  simp [hj]
  omega
theorem hxl_dig (F : Nat → Int) (hF : Byts 64 F) : DigS ⟨(hxl F 128).toArray⟩ := by
  refine ⟨by show (hxl F 128).toArray.size = 128; simp [Ln.hxl_len], fun j hj => ?_⟩
  rw [by_hxl F hF j hj]
  have := hF (j / 2) (by omega)
  unfold hxn
  refine (hexd_isd _ ?_).1
  split <;> omega
theorem hxl_rdl (F : Nat → Int) (hF : Byts 64 F) (j : Nat) (hj : j < 64) : rdl ⟨(hxl F 128).toArray⟩ j = F j := by
  unfold rdl
  have hb := hF j hj
  rw [by_hxl F hF _ (by omega), by_hxl F hF _ (by omega)]
  unfold hxn
  rw [if_pos (by omega), if_neg (by omega), show 2 * j / 2 = j by omega, show (2 * j + 1) / 2 = j by omega, (hexd_isd _ (by omega)).2, (hexd_isd _ (by omega)).2]
  omega
theorem rdl_byts (s : ByteArray) (h : DigS s) : Byts 64 (rdl s) := fun j hj => by
  have h1 := dv_bd _ (h.2 (2 * j) (by omega))
  have h2 := dv_bd _ (h.2 (2 * j + 1) (by omega))
  unfold rdl
  omega
theorem rdl_hxl (s : ByteArray) (h : DigS s) : tx (hxl (rdl s) 128) = .string s := by
  have e : (⟨(hxl (rdl s) 128).toArray⟩ : ByteArray) = s := by
    apply ByteArray.ext
    refine Array.ext_getElem? fun j => ?_
    by_cases hj : j < 128
    · have hs : j < s.size := by rw [h.1]; exact hj
      have hb : byt ⟨(hxl (rdl s) 128).toArray⟩ j = byt s j := by
        rw [by_hxl _ (rdl_byts s h) j hj]
        have h1 := dv_bd _ (h.2 (2 * (j / 2)) (by omega))
        have h2 := dv_bd _ (h.2 (2 * (j / 2) + 1) (by omega))
        unfold hxn
        by_cases hp : j % 2 = 0
        · rw [if_pos hp, show (rdl s (j / 2)).toNat / 16 = (dv (byt s j)).toNat from by
            unfold rdl; rw [show 2 * (j / 2) = j from by omega] at h1 h2 ⊢; omega]
          exact hexd_dv _ (h.2 j hj)
        · rw [if_neg hp, show (rdl s (j / 2)).toNat % 16 = (dv (byt s j)).toNat from by
            unfold rdl; rw [show 2 * (j / 2) + 1 = j from by omega] at h2 ⊢; omega]
          exact hexd_dv _ (h.2 j hj)
      unfold byt at hb
      have l1 : j < (hxl (rdl s) 128).toArray.size := by simp [Ln.hxl_len]; exact hj
      have l2 : j < s.data.size := hs
      rw [Array.getElem?_eq_getElem l1, Array.getElem?_eq_getElem l2] at hb ⊢
      simp only [Option.getD_some] at hb
      congr 1
      exact UInt8.toNat_inj.1 (by omega)
    · have l2 : s.data.size = 128 := h.1
      rw [Array.getElem?_eq_none (by simp [Ln.hxl_len]; omega), Array.getElem?_eq_none (by omega)]
  show Value.string _ = _
  rw [e]

/-! ### a line of bytes -/
set_option maxRecDepth 100000 in
set_option maxHeartbeats 1000000 in
theorem of_no (a : Option Addr) (n c : Nat) (hn : n ≠ 64) (w : World) :
    Calls Tryd.prog 18 #[.slice a n c] w fun e w' => e = .returned (.tuple #[.agg (ints .u8 64 fun _ => 0).toArray, .int .i64 11]) ∧ Below w.heap.size w w' := by
  have hz := zeroL
  have hb := Bk.new .u8 w 64 (fun _ => 0) 23
  have ht := hb.there .u8 (fun _ => 0)
  have i9 : (Tryd.prog.info? 23).map (·.size) = some (ints .u8 64 fun _ => 0).length := by rw [ints_len]; exact infoL
  have hone := ints_one .u8 64 (fun _ => 0)
  obtain ⟨L, hL⟩ : ∃ L, (ints .u8 64 fun _ => 0) = L := ⟨_, rfl⟩
  rw [hL] at hz ht i9 hone ⊢
  have hd : ((n : Int) != 64) = true := by simp; omega
  clear hb hL
  go_enter Tryd.func18, Tryd.ntmps18
  go_wp2_with (refine wpList_store_mid rfl 23 _ _ rfl _ 0 L.toArray rfl rfl ht i9 hone ?_)
  have hs2 : ((w.alloc (.cells L.toArray 23)).setCells w.heap.size 0 L).rangeAt w.heap.size 0 L := World.rangeAt_setCells_same _ _ 0 L (by simpa using ht)
  have hld := run_loadVar_mid (P := Tryd.prog) _ w.heap.size 0 23 L _ hs2 Tryd.underlying23 rfl i9
  refine bodyPost_ret (v := .tuple #[.agg L.toArray, .int .i64 11]) ?_ rfl ⟨rfl, belows_put (Nat.le_refl _) L 0 ((Below.refl _ w).alloc (Nat.le_refl _) _)⟩
  simp [results, Tryd.f18, asAddr, hld]
set_option maxRecDepth 100000 in
set_option maxHeartbeats 1000000 in
theorem of_yes (b o c : Nat) (F : Nat → Int) (w : World) (hb : b < w.heap.size) (hc : ∀ j : Nat, j < 64 → w.cell? ⟨b, o + j, none⟩ = some (.int .u8 (F j))) :
    Calls Tryd.prog 18 #[.slice (some ⟨b, o, none⟩) 64 c] w fun e w' => e = .returned (.tuple #[.agg (ints .u8 64 F).toArray, .int .i64 0]) ∧ Below w.heap.size w w' := by
  have hz := zeroL
  obtain ⟨Z, hZ⟩ : ∃ A, (ints .u8 64 fun _ => 0).toArray = A := ⟨_, rfl⟩
  rw [hZ] at hz
  have hcl : ∀ b, ∀ w : World, (Instr.sliceAt 23 (.pointer (some ⟨b, 0, none⟩)) none none none).run Tryd.prog w = .ok (.slice (some ⟨b, 0, none⟩) 64 64) w := fun b w => by
    simp [Instr.sliceAt, go_sem]
  go_enter Tryd.func18, Tryd.ntmps18
  go_upto_region 4 with (fail)
  obtain ⟨V, hV⟩ : ∃ V, (w.alloc (.cells Z 23)).alloc (.cells Z 23) = V := ⟨_, rfl⟩
  have hI : Wk w.heap.size w.heap.size (w.heap.size + 1) (fun _ => 0) w V := by
    rw [← hV, ← hZ]
    have h0 := Bk.new .u8 w 64 (fun _ => 0) 23
    have h1 := Bk.new .u8 (w.alloc (.cells (ints .u8 64 fun _ => 0).toArray 23)) 64 (fun _ => 0) 23
    simp only [World.size_alloc] at h1
    exact ⟨h0.alloc _, h1, ((Below.refl _ w).alloc (Nat.le_refl _) _).alloc (by simp) _⟩
  have hcV : ∀ j : Nat, j < 64 → V.cell? ⟨b, o + j, none⟩ = some (.int .u8 (F j)) := fun j hj => (hI.below.cell (p := ⟨b, o + j, none⟩) hb).trans (hc j hj)
  obtain ⟨B, hB⟩ : ∃ B, w.heap.size = B := ⟨_, rfl⟩
  obtain ⟨E, hE⟩ : ∃ E, B + 1 = E := ⟨_, rfl⟩
  rw [hV]
  rw [hB, hE] at hI ⊢
  have nB : B ≠ E := by omega
  have nBE : B ≤ E := by omega
  clear hV hZ hz hE hc
  go_upto_region 5 with (refine wpList_cpy rfl _ _ rfl E 0 64 64 b o 64 c 64 64 (fun _ => 0) F rfl rfl hI.o rfl hcV (by omega) ?_; intro V2 g2 k2)
  have HE : Wk B B E F w V2 := ⟨hI.r.of (k2.out.block B nB), g2.out.congr fun i hi => by unfold lay; rw [if_pos (by omega), Nat.sub_zero], k2.out.below _ _ hI.below nBE⟩
  have hr := HE.o.range
  have ht := HE.r.there .u8 F
  have i9 : (Tryd.prog.info? 23).map (·.size) = some (ints .u8 64 F).length := by rw [ints_len]; exact infoL
  have hone := ints_one .u8 64 F
  have HB : Hid (Below B w V2) := HE.below
  obtain ⟨L, hL⟩ : ∃ L, ints .u8 64 F = L := ⟨_, rfl⟩
  rw [hL] at hr ht i9 hone
  have HL : Hid (ints .u8 64 F = L) := hL
  clear HE hL hI hcV g2 k2
  go_wp2_with (first | refine wpList_load_mid rfl 23 _ rfl _ 0 rfl L _ hr Tryd.underlying23 rfl i9 ?_ | refine wpList_store_mid rfl 23 _ _ rfl _ 0 L.toArray rfl rfl ht i9 hone ?_)
  have hs2 : (V2.setCells B 0 L).rangeAt B 0 L := World.rangeAt_setCells_same V2 _ 0 L (by simpa using ht)
  have hld := run_loadVar_mid (P := Tryd.prog) (V2.setCells B 0 L) B 0 23 L _ hs2 Tryd.underlying23 rfl i9
  refine bodyPost_ret (v := .tuple #[.agg L.toArray, .int .i64 0]) ?_ rfl ⟨by rw [HL.out], by rw [hB]; exact belows_put (Nat.le_refl _) L 0 HB.out⟩
  simp [results, Tryd.f18, asAddr, hld]
end Go.Proofs.YtenfjllaeehckaaDoor
