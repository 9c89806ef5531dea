/-
  The document's example.
-/
import Derived.Test.YtenfjllaeehckaaDoorLnW4
import Derived.Deep.DeepCutAuto
namespace Go.Proofs.YtenfjllaeehckaaDoor
open Go.RowKit Go.Shelf
open Ln (mrg hexd hxn hxl)
attribute [local go_sem] Oper.semAt_some

theorem mrg_byts (n : Nat) (F G : Nat → Int) (m : Nat) (hF : Byts n F) (hG : Byts n G) : Byts n (mrg F G m) := fun i hi => by
  unfold mrg
  split
  · exact hG i hi
  · exact hF i hi
def exL : Nat → Int := mrg (fun _ => 0) (fun _ => 7) 5
theorem exL_byts : Byts 64 exL := mrg_byts 64 _ _ 5 (fun _ _ => ⟨by omega, by omega⟩) (fun _ _ => ⟨by omega, by omega⟩)
theorem exL_at : exL 0 = 7 ∧ exL 1 = 0 ∧ exL 2 = 7 ∧ exL 3 = 0 := by decide +kernel
theorem exL_hex : (hxl exL 128).take 6 = [48, 55, 48, 48, 48, 55] := by decide +kernel
theorem exL_cut (w : World) : (Instr.sliceAt 9 (tx (hxl exL 128)) none (some (.int .i64 6)) none).run Tryd.prog w = .ok (tx [48, 55, 48, 48, 48, 55]) w := by
  have hl := Ln.hxl_len exL 128
  have ht := exL_hex
  obtain ⟨l, h⟩ : ∃ l, hxl exL 128 = l := ⟨_, rfl⟩
  rw [h] at hl ht ⊢
  have e : l = [48, 55, 48, 48, 48, 55] ++ l.drop 6 := by rw [← ht, List.take_append_drop]
  simp [Instr.sliceAt, go_sem, hl]
  rw [e]
  apply ByteArray.ext
  simp

set_option maxRecDepth 100000 in
set_option maxHeartbeats 1000000 in
theorem anchor6_any (w : World) (hT : TabW w) : Calls Tryd.prog 7 #[] w fun e w' => e = .returned (.bool true) ∧ Below w.heap.size w w' := by
  have hz := zeroL
  have f0 := fill_any 0
  have f7 := fill_any 7
  have cM : Hid (∀ W : World, TabW W → Calls Tryd.prog 8 #[.agg (ints .u8 64 fun _ => 0).toArray, .agg (ints .u8 64 fun _ => 7).toArray, .int .u64 5] W fun e w' => e = .returned (.agg (ints .u8 64 exL).toArray) ∧ Below W.heap.size W w') :=
    fun W h => merge_any (fun _ => 0) (fun _ => 7) 5 (by omega) W h
  have cH : Hid (∀ W : World, Calls Tryd.prog 17 #[.agg (ints .u8 64 exL).toArray] W fun e w' => e = .returned (tx (hxl exL 128)) ∧ Below W.heap.size W w') := fun W => hex_any exL exL_byts W
  have hcut := exL_cut
  obtain ⟨A0, hA0⟩ : ∃ A, (ints .u8 64 fun _ => 0).toArray = A := ⟨_, rfl⟩
  obtain ⟨A7, hA7⟩ : ∃ A, (ints .u8 64 fun _ => 7).toArray = A := ⟨_, rfl⟩
  obtain ⟨L, hL⟩ : ∃ A, ints .u8 64 exL = A := ⟨_, rfl⟩
  obtain ⟨T, hT0⟩ : ∃ A, tx (hxl exL 128) = A := ⟨_, rfl⟩
  rw [hA0] at hz f0 cM
  rw [hA7] at f7 cM
  rw [hL] at cM cH
  rw [hT0] at cH hcut
  have Hf0 : Hid (∀ W : World, Calls Tryd.prog 20 #[.int .u8 0] W fun e w' => e = .returned (.agg A0) ∧ Below W.heap.size W w') := f0
  have Hf7 : Hid (∀ W : World, Calls Tryd.prog 20 #[.int .u8 7] W fun e w' => e = .returned (.agg A7) ∧ Below W.heap.size W w') := f7
  have HT : Hid (TabW w) := hT
  have HL : Hid (ints .u8 64 exL = L) := hL
  have HA0 : Hid ((ints .u8 64 fun _ => 0).toArray = A0) := hA0
  have i9 : (Tryd.prog.info? 23).map (·.size) = some L.length := by rw [← hL, ints_len]; exact infoL
  have hone : L.toArray.all (·.oneCell') = true := by rw [← hL]; exact ints_one .u8 64 exL
  have hT1 := hT.lt
  clear f0 f7 hT hL hA0 hA7 hT0
  go_enter Tryd.func7, Tryd.ntmps7
  go_wp2_with fail
  refine (Hf0.out _).mono ?_
  rintro e V1 ⟨rfl, b1⟩
  go_wp2_with fail
  refine (Hf7.out _).mono ?_
  rintro e V2 ⟨rfl, b2⟩
  have b12 : Below w.heap.size w V2 := b1.trans (b2.mono b1.size)
  have hT2 : TabW V2 := HT.out.below b12 hT1
  clear b1 b2
  go_wp2_with fail
  refine (cM.out _ hT2).mono ?_
  rintro e V3 ⟨rfl, b3⟩
  have b13 : Below w.heap.size w V3 := b12.trans (b3.mono b12.size)
  clear b12 b3 hT2
  have hb := Bk.new .u8 V3 64 (fun _ => 0) 23
  rw [HA0.out] at hb
  have ht := hb.there .u8 exL
  have hp := hb.put exL
  rw [HL.out] at ht hp
  have HP : Hid (Bk .u8 ((V3.alloc (.cells A0 23)).setCells V3.heap.size 0 L) V3.heap.size 64 exL) := hp
  have HB : Hid (Below w.heap.size w ((V3.alloc (.cells A0 23)).setCells V3.heap.size 0 L)) := belows_put b13.size _ _ (b13.alloc b13.size _)
  clear hp hb b13
  simp only []
  go_upto_region 2 with (refine wpList_store_mid rfl 23 _ _ rfl _ 0 L.toArray rfl rfl ht i9 hone ?_)
  obtain ⟨V4, hV4⟩ : ∃ V, (V3.alloc (.cells A0 23)).setCells V3.heap.size 0 L = V := ⟨_, rfl⟩
  obtain ⟨b, hb⟩ : ∃ b, V3.heap.size = b := ⟨_, rfl⟩
  rw [hV4] at HP HB ⊢
  rw [hb] at HP ⊢
  have c0 := HP.out.cell 0 (by omega)
  have c1 := HP.out.cell 1 (by omega)
  have c2 := HP.out.cell 2 (by omega)
  have c3 := HP.out.cell 3 (by omega)
  rw [exL_at.1] at c0
  rw [exL_at.2.1] at c1
  rw [exL_at.2.2.1] at c2
  rw [exL_at.2.2.2] at c3
  have hr := HP.out.range
  rw [HL.out] at hr
  clear hV4 ht hb
  go_wp2_with (first | (refine wpList_load_g (by rfl) 23 _ rfl b 0 rfl L _ hr Tryd.underlying23 rfl i9 ?_) | (go_at_call 17; refine (cH.out _).mono ?_; rintro e V5 ⟨rfl, b5⟩))
  go_ret
  exact ⟨rfl, HB.out.trans (b5.mono HB.out.size)⟩
end Go.Proofs.YtenfjllaeehckaaDoor
