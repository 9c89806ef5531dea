/-
  Lines of words.
-/
import Derived.Test.YtdjknaafefnlcaaDoorLnW7
namespace Go.Proofs.YtdjknaafefnlcaaDoor
open Go.RowKit Go.Shelf
open Ln (val wrd)
attribute [local go_sem] Oper.semAt_some

/-- the bytes of words -/
def wby (G : Nat → Nat) (j : Nat) : Int := ((G (j / 8) / 256 ^ (j % 8) % 256 : Nat) : Int)
theorem wby_at (G : Nat → Nat) (k j : Nat) (hj : j < 8) : (G k : Int) / 2 ^ (8 * j) % 256 = wby G (8 * k + j) := by
  unfold wby
  rw [show (8 * k + j) / 8 = k by omega, show (8 * k + j) % 8 = j by omega, ← (show (2 : Nat) ^ (8 * j) = 256 ^ j by rw [Nat.pow_mul])]
  simp
/-- the words of a line make it again -/
theorem wby_wrd (F : Nat → Int) (hF : Byts 64 F) (j : Nat) (hj : j < 64) : wby (wrd F) j = F j := by
  unfold wby
  rw [Ln.wrd_byte F (j / 8) (j % 8) hF (by omega) (by omega), show 8 * (j / 8) + j % 8 = j by omega]
theorem infoW : (Tryd.prog.info? 75).map (·.size) = some 8 := by kernel_rfl
theorem run_indexW (F : Nat → Int) (x : Nat) (hx : x < 8) (w : World) : (Instr.index 75 (.agg (ints .u64 8 F).toArray) (.int .i64 (x : Int))).run Tryd.prog w = .ok (.int .u64 (F x)) w := by
  have hc := ints_at .u64 8 F x hx
  have hu := Tryd.underlying75
  simp [Instr.index, run_underlying hu, asIntOf, go_sem, hx]
  rw [hc]; rfl

set_option maxRecDepth 100000 in
set_option maxHeartbeats 1000000 in
theorem fromWords_any (G : Nat → Nat) (hG : ∀ k, k < 8 → G k < 18446744073709551616) (w : World) :
    Calls Tryd.prog 43 #[.agg (ints .u64 8 fun i => (G i : Int)).toArray] w fun e w' => e = .returned (.agg (ints .u8 64 (wby G)).toArray) ∧ Below w.heap.size w w' := by
  have hz := zeroL
  have hix := run_indexW (fun i => (G i : Int))
  have iw : (Tryd.prog.info? 75).map (·.size) = some (ints .u64 8 fun i => (G i : Int)).length := by rw [ints_len]; exact infoW
  obtain ⟨A0, hA0⟩ : ∃ A, (ints .u64 8 fun i => (G i : Int)) = A := ⟨_, rfl⟩
  obtain ⟨Z, hZ⟩ : ∃ A, (ints .u8 64 fun _ => 0).toArray = A := ⟨_, rfl⟩
  rw [hZ] at hz
  rw [hA0] at hix iw ⊢
  go_enter Tryd.func43, Tryd.ntmps43
  go_upto_region 2 with (fail)
  obtain ⟨V, hV⟩ : ∃ V, ((w.alloc (.cells A0.toArray 75)).alloc (.cells Z 23)).alloc (.cells Z 23) = V := ⟨_, rfl⟩
  have HI : Hid (Bk .u64 V w.heap.size 8 (fun i => (G i : Int)) ∧ Wk w.heap.size (w.heap.size + 1) (w.heap.size + 1 + 1) (fun _ => 0) w V) := by
    rw [← hV, ← hA0, ← hZ]
    have h0 := Bk.new .u64 w 8 (fun i => (G i : Int)) 75
    have h1 := Bk.new .u8 (w.alloc (.cells (ints .u64 8 fun i => (G i : Int)).toArray 75)) 64 (fun _ => 0) 23
    have h2 := Bk.new .u8 ((w.alloc (.cells (ints .u64 8 fun i => (G i : Int)).toArray 75)).alloc (.cells (ints .u8 64 fun _ => 0).toArray 23)) 64 (fun _ => 0) 23
    simp only [World.size_alloc] at h1 h2
    exact ⟨(h0.alloc _).alloc _, h1.alloc _, h2, (((Below.refl _ w).alloc (Nat.le_refl _) _).alloc (by simp) _).alloc (by simp; omega) _⟩
  obtain ⟨B, hB⟩ : ∃ B, w.heap.size = B := ⟨_, rfl⟩
  obtain ⟨D, hD⟩ : ∃ D, B + 1 = D := ⟨_, rfl⟩
  obtain ⟨E, hE⟩ : ∃ E, D + 1 = E := ⟨_, rfl⟩
  rw [hV]
  rw [hB, hD, hE] at HI ⊢
  have nD : D ≠ E := by omega
  have nB : B ≤ E := by omega
  have lD : B ≤ D := by omega
  have hr := HI.out.1.range
  rw [hA0] at hr
  have HW : Hid (Wk B D E (fun _ => 0) w V) := HI.out.2
  clear hV hA0 hZ hz hD hE HI
  go_wp2_with (refine wpList_load_mid rfl 75 _ rfl B 0 rfl A0 _ hr Tryd.underlying75 rfl iw ?_)
  clear hr
  go_loopw [8] (fun i wr => ∃ k : Nat, k ≤ 8 ∧ i = .int .i64 (k : Int) ∧ Hid (Wk B D E (fun j => if j < 8 * k then wby G j else 0) w wr)) (fun i _ => 8 - (intOf i).toNat)
  case atStart => exact ⟨0, by omega, rfl, HW.out.congr fun i _ => by rw [if_neg (by omega)]⟩
  case round =>
    obtain ⟨k, hk, rfl, HK⟩ := hrel
    by_cases hlt : k < 8
    · have hik := hix k hlt
      have hgk := hG k hlt
      clear HW
      go_wp2
      go_loopw [12] (fun i wr => ∃ j : Nat, j ≤ 8 ∧ i = .int .i64 (j : Int) ∧ Hid (Wk B D E (fun i => if i < 8 * k + j then wby G i else 0) w wr)) (fun i _ => 8 - (intOf i).toNat)
      case atStart => exact ⟨0, by omega, rfl, HK⟩
      case round =>
        obtain ⟨j, hj, rfl, HJ⟩ := hrel
        by_cases hjt : j < 8
        · have c1 := HJ.out.o.cell (8 * k + j) (by omega)
          have c2 := HJ.out.o.free (8 * k + j)
          have HN : Hid (Wk B D E (fun i => if i < 8 * k + (j + 1) then wby G i else 0) w (wr.setCell ⟨E, 8 * k + j, none⟩ (.int .u8 ((G k : Int) / 2 ^ (8 * j) % 256)))) := by
            rw [wby_at G k j hjt]
            exact (HJ.out.set nD nB (8 * k + j) (wby G (8 * k + j))).congr fun i _ => by
              by_cases h : i = 8 * k + j
              · rw [if_pos h, if_pos (by omega), h]
              · rw [if_neg h]
                by_cases h2 : i < 8 * k + j
                · rw [if_pos h2, if_pos (by omega)]
                · rw [if_neg h2, if_neg (by omega)]
          go_wp2
          go_roundw
          case rel => exact ⟨j + 1, by omega, by go_num, HN⟩
          case measure => simp [intOf]; omega
        · obtain rfl : j = 8 := by omega
          go_wp2
          go_roundw
          case rel => exact ⟨k + 1, by omega, by go_num, HJ.out.congr fun i _ => by rw [show 8 * k + 8 = 8 * (k + 1) from by omega]⟩
          case measure => simp [intOf]; omega
    · obtain rfl : k = 8 := by omega
      have HE : Wk B D E (wby G) w wr := HK.out.congr fun i hi => by rw [if_pos (by omega)]
      have hr := HE.o.range
      have ht := HE.r.there .u8 (wby G)
      have hi9 : (Tryd.prog.info? 23).map (·.size) = some (ints .u8 64 (wby G)).length := by rw [ints_len]; exact infoL
      have hone := ints_one .u8 64 (wby G)
      have HB : Hid (Below B w wr) := HE.below
      obtain ⟨L, hL⟩ : ∃ L, ints .u8 64 (wby G) = L := ⟨_, rfl⟩
      rw [hL] at hr ht hi9 hone
      have HL : Hid (ints .u8 64 (wby G) = L) := hL
      clear HK HE hL HW hix
      go_wp2_with (first | refine wpList_load_mid rfl 23 _ rfl _ 0 rfl L _ hr Tryd.underlying23 rfl hi9 ?_ | refine wpList_store_mid rfl 23 _ _ rfl _ 0 L.toArray rfl rfl ht hi9 hone ?_)
      have hs : (wr.setCells D 0 L).rangeAt D 0 L := World.rangeAt_setCells_same wr _ 0 L (by simpa using ht)
      have hld := run_loadVar_mid (P := Tryd.prog) (wr.setCells D 0 L) D 0 23 L _ hs Tryd.underlying23 rfl hi9
      refine bodyPost_ret (v := .agg L.toArray) ?_ rfl ⟨by rw [HL.out], by rw [hB]; exact belows_put lD L 0 HB.out⟩
      simp [results, Tryd.f43, Act.put, asAddr, hld]
end Go.Proofs.YtdjknaafefnlcaaDoor
