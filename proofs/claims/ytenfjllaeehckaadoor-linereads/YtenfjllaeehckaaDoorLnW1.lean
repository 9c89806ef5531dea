/-
  Fill, Full; two lines merged, by the document and by the program.
-/
import Derived.Test.YtenfjllaeehckaaDoorLnMath
import Derived.Test.YtenfjllaeehckaaDoorAry
import Derived.Test.YtenfjllaeehckaaDoorBitW5
import Derived.Test.YtenfjllaeehckaaDoorBoxes
namespace Go.Proofs.YtenfjllaeehckaaDoor
open Go.RowKit Go.Shelf
open Ln (mrg mrgK)
attribute [local go_sem] Oper.semAt_some

theorem zeroL (w : World) : (zeroValue 23).run Tryd.prog w = .ok (.agg (ints .u8 64 fun _ => 0).toArray) w := by kernel_rfl
theorem infoL : (Tryd.prog.info? 23).map (·.size) = some 64 := by kernel_rfl
theorem zeroA (w : World) : (zeroValue 22).run Tryd.prog w = .ok (.agg (ints .u8 64 fun _ => 0).toArray) w := by kernel_rfl
theorem infoA : (Tryd.prog.info? 22).map (·.size) = some 64 := by kernel_rfl

/-- a function works on the line X in the block E; its result's variable is the block D; nothing below B was turned -/
structure Wk (B D E : Nat) (X : Nat → Int) (w wr : World) : Prop where
  r : Bk .u8 wr D 64 (fun _ => 0)
  o : Bk .u8 wr E 64 X
  below : Below B w wr
section
variable {B D E : Nat} {X Y : Nat → Int} {w wr wr' : World}
theorem Wk.set (h : Wk B D E X w wr) (hD : D ≠ E) (hB : B ≤ E) (i : Nat) (e : Int) : Wk B D E (fun j => if j = i then e else X j) w (wr.setCell ⟨E, i, none⟩ (.int .u8 e)) :=
  ⟨h.r.other hD i _, h.o.set i e, h.below.setCell (p := ⟨E, i, none⟩) hB _⟩
theorem Wk.congr (h : Wk B D E X w wr) (k : ∀ i, i < 64 → X i = Y i) : Wk B D E Y w wr := ⟨h.r, h.o.congr k, h.below⟩
theorem Wk.stay {C : Nat} (h : Wk B D E X w wr) (k : Stay C wr wr') (hC : B ≤ C) : Wk B D E X w wr' := ⟨h.r.stay k, h.o.stay k, below_stay h.below k hC⟩
theorem Wk.next (h : Wk B D E X w wr) (hB : B ≤ wr.heap.size) (k : Below wr.heap.size wr wr') : Wk B D E X w wr' := ⟨h.r.next k, h.o.next k, h.below.trans (k.mono hB)⟩
end

set_option maxRecDepth 100000 in
set_option maxHeartbeats 1000000 in
theorem fill_any (x : Int) (w : World) :
    Calls Tryd.prog 20 #[.int .u8 x] w fun e w' => e = .returned (.agg (ints .u8 64 fun _ => x).toArray) ∧ Below w.heap.size w w' := by
  have hz := zeroL
  obtain ⟨A2, hA2⟩ : ∃ A, (ints .u8 64 fun _ => 0).toArray = A := ⟨_, rfl⟩
  rw [hA2] at hz
  go_enter Tryd.func20, Tryd.ntmps20
  go_wp2
  obtain ⟨V, hV⟩ : ∃ V, (w.alloc (.cells A2 23)).alloc (.cells A2 23) = V := ⟨_, rfl⟩
  have HI : Hid (Wk w.heap.size w.heap.size (w.heap.size + 1) (fun _ => 0) w V) := by
    rw [← hV, ← hA2]
    have h0 := Bk.new .u8 w 64 (fun _ => 0) 23
    have h1 := Bk.new .u8 (w.alloc (.cells (ints .u8 64 fun _ => 0).toArray 23)) 64 (fun _ => 0) 23
    simp only [World.size_alloc] at h1
    exact ⟨h0.alloc _, h1, ((Below.refl _ w).alloc (Nat.le_refl _) _).alloc (by simp) _⟩
  obtain ⟨B, hB⟩ : ∃ B, w.heap.size = B := ⟨_, rfl⟩
  obtain ⟨E, hE⟩ : ∃ E, B + 1 = E := ⟨_, rfl⟩
  rw [hV]
  rw [hB, hE] at HI ⊢
  have nB : B ≠ E := by omega
  have nBE : B ≤ E := by omega
  clear hV hA2 hz hE
  go_loopw [5] (fun i wr => ∃ k : Nat, k ≤ 64 ∧ i = .int .i64 (k : Int) ∧ Hid (Wk B B E (fun i => if i < k then x else 0) w wr)) (fun i _ => 64 - (intOf i).toNat)
  case atStart => exact ⟨0, by omega, rfl, HI⟩
  case round =>
    obtain ⟨k, hk, rfl, HK⟩ := hrel
    by_cases hlt : k < 64
    · have c1 := HK.out.o.cell k hlt
      have c2 := HK.out.o.free k
      have HN : Hid (Wk B B E (fun i => if i < k + 1 then x else 0) w (wr.setCell ⟨E, k, none⟩ (.int .u8 x))) := (HK.out.set nB nBE k x).congr fun i _ => by
        by_cases h : i = k
        · rw [if_pos h, if_pos (by omega)]
        · rw [if_neg h]
          by_cases h2 : i < k
          · rw [if_pos h2, if_pos (by omega)]
          · rw [if_neg h2, if_neg (by omega)]
      go_wp2
      go_roundw
      case rel => exact ⟨k + 1, by omega, by go_num, HN⟩
      case measure => simp [intOf]; omega
    · obtain rfl : k = 64 := by omega
      have HE : Wk B B E (fun _ => x) w wr := HK.out.congr fun i hi => by rw [if_pos hi]
      have hr := HE.o.range
      have ht := HE.r.there .u8 (fun _ => x)
      have hi9 : (Tryd.prog.info? 23).map (·.size) = some (ints .u8 64 fun _ => x).length := by rw [ints_len]; exact infoL
      have hone := ints_one .u8 64 (fun _ => x)
      have HB : Hid (Below B w wr) := HE.below
      obtain ⟨L, hL⟩ : ∃ L, (ints .u8 64 fun _ => x) = L := ⟨_, rfl⟩
      rw [hL] at hr ht hi9 hone
      have HL : Hid ((ints .u8 64 fun _ => x) = L) := hL
      clear HK HE hL HI
      go_wp2_with (first | refine wpList_load_mid rfl 23 _ rfl _ 0 rfl L _ hr Tryd.underlying23 rfl hi9 ?_ | refine wpList_store_mid rfl 23 _ _ rfl _ 0 L.toArray rfl rfl ht hi9 hone ?_)
      have hs : (wr.setCells B 0 L).rangeAt B 0 L := World.rangeAt_setCells_same wr _ 0 L (by simpa using ht)
      have hld := run_loadVar_mid (P := Tryd.prog) (wr.setCells B 0 L) B 0 23 L _ hs Tryd.underlying23 rfl hi9
      refine bodyPost_ret (v := .agg L.toArray) ?_ rfl ⟨by rw [HL.out], by rw [hB]; exact belows_put (Nat.le_refl _) L 0 HB.out⟩
      simp [results, Tryd.f20, Act.put, asAddr, hld]

theorem full_any (m : Int) (w : World) : Calls Tryd.prog 10 #[.int .u64 m] w fun e w' => e = .returned (.bool (m == 18446744073709551615)) ∧ w' = w := by
  go_enter Tryd.func10, Tryd.ntmps10
  go_wp2
  go_ret
  exact ⟨rfl, rfl⟩
end Go.Proofs.YtenfjllaeehckaaDoor
