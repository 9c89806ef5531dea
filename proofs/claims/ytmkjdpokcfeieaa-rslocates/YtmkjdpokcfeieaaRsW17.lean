/-
  The code word of data.
-/
import Derived.Test.YtmkjdpokcfeieaaRsW15
import Derived.Test.YtmkjdpokcfeieaaRsW13
namespace Go.Proofs.Ytmkjdpokcfeieaa
open Go.RowKit Go.Shelf
open Gf (gI eI dI lI)
open Po (El mu pwr ev S cf toE cv Low rts)
open Rm (al sy At IsCode)
attribute [local go_sem] Oper.semAt_some

theorem index_arr (t : TypeId) (n : Nat) (ht : Try.prog.underlying t = some (.array n 5)) (F : Nat → El) (x : Nat) (hx : x < n) (w : World) :
    (Instr.index t (.agg (arr n F).toArray) (.int .i64 (x : Int))).run Try.prog w = .ok (.int .u8 (oe (F x))) w := by
  have hc := arr_at n F x hx
  have hu := Try.underlying5
  have hs := size_one
  simp [Instr.index, run_underlying ht, asIntOf, go_sem, hx]
  rw [hc]; rfl

/-- while word works: B the first block of the call, X the word so far -/
structure WoS (B : Nat) (D X : Nat → El) (w W : World) : Prop where
  d : Blk W B 32 D
  r : Blk W (B + 1 + 1) 36 (fun _ => 0)
  o : Blk W (B + 1 + 1 + 1) 36 X
  below : Below B w W
theorem WoS.set {B : Nat} {D X : Nat → El} {w W : World} (h : WoS B D X w W) (i : Nat) (e : El) : WoS B D (fun k => if k = i then e else X k) w (W.setCell ⟨B + 1 + 1 + 1, i, none⟩ (.int .u8 (oe e))) :=
  ⟨h.d.other (by omega) _ _, h.r.other (by omega) _ _, h.o.set i e, h.below.setCell (p := ⟨B + 1 + 1 + 1, i, none⟩) (by simp; omega) _⟩
theorem WoS.congr {B : Nat} {D X Y : Nat → El} {w W : World} (h : WoS B D X w W) (k : ∀ i, i < 36 → X i = Y i) : WoS B D Y w W := ⟨h.d, h.r, h.o.congr k, h.below⟩

set_option maxRecDepth 100000 in
set_option maxHeartbeats 2000000 in
theorem word_any (c b : Nat) (D G : Nat → El) (w : World) (hc : CdAt w c b) :
    Calls Try.prog 13 #[.pointer (some ⟨c, 0, none⟩), .agg (arr 32 D).toArray, .agg (arr 3 G).toArray] w fun e w' => ∃ K, e = .returned (.agg (arr 36 (ck K D)).toArray) ∧ IsCode (wd (ck K D) G) ∧ Below w.heap.size w w' := by
  have hz36 := zero36
  have cC : Hid (∀ W, CdAt W c b → Calls Try.prog 21 #[.pointer (some ⟨c, 0, none⟩), .agg (arr 32 D).toArray, .agg (arr 3 G).toArray] W fun e w' => ∃ K, e = .returned (.agg (arr 4 K).toArray) ∧ IsCode (wd (ck K D) G) ∧ Below W.heap.size W w') := fun W h => checks_any c b D G W h
  have iD : Hid (∀ x : Nat, x < 32 → ∀ w, (Instr.index 22 (.agg (arr 32 D).toArray) (.int .i64 (x : Int))).run Try.prog w = .ok (.int .u8 (oe (D x))) w) := fun x hx w => index_arr _ 32 Try.underlying22 D x hx w
  obtain ⟨A0, hA0⟩ : ∃ A, arr 32 D = A := ⟨_, rfl⟩
  obtain ⟨A1, hA1⟩ : ∃ A, arr 3 G = A := ⟨_, rfl⟩
  obtain ⟨A5, hA5⟩ : ∃ A, (arr 36 fun _ => 0) = A := ⟨_, rfl⟩
  have i32 : (Try.prog.info? 22).map (·.size) = some A0.length := by rw [← hA0, arr_len]; kernel_rfl
  have i3 : (Try.prog.info? 23).map (·.size) = some A1.length := by rw [← hA1, arr_len]; kernel_rfl
  rw [hA5] at hz36
  rw [hA0, hA1] at cC ⊢
  rw [hA0] at iD
  go_enter Try.func13, Try.ntmps13
  go_upto_region 2 with (fail)
  obtain ⟨B, hB⟩ : ∃ B, w.heap.size = B := ⟨_, rfl⟩
  obtain ⟨V0, hV0⟩ : ∃ V, (((w.alloc (.cells A0.toArray 22)).alloc (.cells A1.toArray 23)).alloc (.cells A5.toArray 24)).alloc (.cells A5.toArray 24) = V := ⟨_, rfl⟩
  have H0 : Hid (WoS B D (fun _ => 0) w V0 ∧ Blk V0 (B + 1) 3 G ∧ CdAt V0 c b) := by
    have hb : Below B w V0 := by rw [← hV0, ← hB]; exact ((((Below.refl _ w).alloc (Nat.le_refl _) _).alloc (by simp) _).alloc (by simp; omega) _).alloc (by simp; omega) _
    have h0 := Blk.new w 32 D 22
    have h1 := Blk.new (w.alloc (.cells A0.toArray 22)) 3 G 23
    have h2 := Blk.new ((w.alloc (.cells A0.toArray 22)).alloc (.cells A1.toArray 23)) 36 (fun _ => 0) 24
    have h3 := Blk.new (((w.alloc (.cells A0.toArray 22)).alloc (.cells A1.toArray 23)).alloc (.cells A5.toArray 24)) 36 (fun _ => 0) 24
    simp only [World.size_alloc] at h1 h2 h3
    rw [hA0] at h0
    rw [hA1] at h1
    rw [hA5] at h2 h3
    rw [← hB]
    refine ⟨⟨?_, ?_, ?_, by rw [hB]; exact hb⟩, ?_, hc.next (by rw [hB]; exact hb)⟩ <;> rw [← hV0]
    · exact ((h0.alloc _).alloc _).alloc _
    · exact h2.alloc _
    · exact h3
    · exact (h1.alloc _).alloc _
  have r0 : V0.rangeAt B 0 A0 := by rw [← hA0]; exact H0.out.1.d.range
  have r1 : V0.rangeAt (B + 1) 0 A1 := by rw [← hA1]; exact H0.out.2.1.range
  rw [hV0, hB]
  have sB : B + 1 + 1 + 1 < V0.heap.size := H0.out.1.o.lt
  clear hV0 hc
  go_wp2_with (first | refine wpList_load_mid rfl 22 _ rfl B 0 rfl A0 _ r0 Try.underlying22 rfl i32 ?_ | refine wpList_load_mid rfl 23 _ rfl (B + 1) 0 rfl A1 _ r1 Try.underlying23 rfl i3 ?_ | (go_at_call 21; refine (cC.out _ H0.out.2.2).mono ?_; rintro e V1 ⟨K, rfl, hcode, hB1⟩))
  have Hcode : Hid (IsCode (wd (ck K D) G)) := hcode
  have iK : Hid (∀ x : Nat, x < 4 → ∀ w, (Instr.index 27 (.agg (arr 4 K).toArray) (.int .i64 (x : Int))).run Try.prog w = .ok (.int .u8 (oe (K x))) w) := fun x hx w => index_arr _ 4 Try.underlying27 K x hx w
  obtain ⟨A4, hA4⟩ : ∃ A, arr 4 K = A := ⟨_, rfl⟩
  rw [hA4] at iK ⊢
  have H1 : Hid (WoS B D (fun _ => 0) w V1) := by
    obtain ⟨⟨h1, h2, h3, h4⟩, _, _⟩ := H0.out
    exact ⟨h1.next hB1, h2.next hB1, h3.next hB1, h4.trans (hB1.mono (by omega))⟩
  clear hcode hB1 H0 r0 r1 cC sB hA4
  go_loopw [16] (fun i wr => ∃ k : Nat, k ≤ 4 ∧ i = .int .i64 (k : Int) ∧ Hid (WoS B D (fun i => if i < k then K i else 0) w wr)) (fun i _ => 4 - (intOf i).toNat)
  case atStart => exact ⟨0, by omega, rfl, H1.out.congr fun i _ => by rw [if_neg (by omega)]⟩
  case round =>
    obtain ⟨k, hk, rfl, HK⟩ := hrel
    by_cases hlt : k < 4
    · have c0 := HK.out.o.arr k (by omega)
      have f0 := HK.out.o.free k
      have x0 := iK.out k hlt
      have HN : Hid (WoS B D (fun i => if i < k + 1 then K i else 0) w (wr.setCell ⟨B + 1 + 1 + 1, k, none⟩ (.int .u8 (oe (K k))))) := (HK.out.set k (K k)).congr fun i _ => by
        show (if i = k then K k else if i < k then K i else 0) = if i < k + 1 then K i else 0
        by_cases h : i = k
        · rw [if_pos h, if_pos (by omega), h]
        · rw [if_neg h]
          by_cases h2 : i < k
          · rw [if_pos h2, if_pos (by omega)]
          · rw [if_neg h2, if_neg (by omega)]
      go_wp2
      go_roundw
      case rel => exact ⟨k + 1, by omega, by go_num, HN⟩
      case measure => simp [intOf]; omega
    · obtain rfl : k = 4 := by omega
      have r2 : wr.rangeAt B 0 A0 := by rw [← hA0]; exact HK.out.d.range
      clear H1 iK
      go_wp2_with (refine wpList_load_mid rfl 22 _ rfl B 0 rfl A0 _ r2 Try.underlying22 rfl i32 ?_)
      clear r2
      go_loopw [25] (fun i wr => ∃ k : Nat, k ≤ 32 ∧ i = .int .i64 (k : Int) ∧ Hid (WoS B D (fun i => if i < 4 then K i else if i < 4 + k then D (i - 4) else 0) w wr)) (fun i _ => 32 - (intOf i).toNat)
      case atStart =>
        refine ⟨0, by omega, rfl, HK.out.congr fun i _ => ?_⟩
        by_cases h : i < 4
        · rw [if_pos h, if_pos h]
        · rw [if_neg h, if_neg h, if_neg (by omega)]
      case round =>
        obtain ⟨k, hk, rfl, HK⟩ := hrel
        by_cases hlt : k < 32
        · have c0 := HK.out.o.arr (4 + k) (by omega)
          have f0 := HK.out.o.free (4 + k)
          have x0 := iD.out k hlt
          have HN : Hid (WoS B D (fun i => if i < 4 then K i else if i < 4 + (k + 1) then D (i - 4) else 0) w (wr.setCell ⟨B + 1 + 1 + 1, 4 + k, none⟩ (.int .u8 (oe (D k))))) := (HK.out.set (4 + k) (D k)).congr fun i _ => by
            show (if i = 4 + k then D k else if i < 4 then K i else if i < 4 + k then D (i - 4) else 0) = if i < 4 then K i else if i < 4 + (k + 1) then D (i - 4) else 0
            by_cases h : i = 4 + k
            · rw [if_pos h, if_neg (by omega), if_pos (by omega), h, show 4 + k - 4 = k from by omega]
            · rw [if_neg h]
              by_cases h1 : i < 4
              · rw [if_pos h1, if_pos h1]
              · rw [if_neg h1, if_neg h1]
                by_cases h2 : i < 4 + k
                · rw [if_pos h2, if_pos (by omega)]
                · rw [if_neg h2, if_neg (by omega)]
          go_wp2
          go_roundw
          case rel => exact ⟨k + 1, by omega, by go_num, HN⟩
          case measure => simp [intOf]; omega
        · obtain rfl : k = 32 := by omega
          have HE : WoS B D (ck K D) w wr := HK.out.congr fun i hi => by
            unfold ck
            by_cases h1 : i < 4
            · rw [if_pos h1, if_pos h1]
            · rw [if_neg h1, if_neg h1, if_pos (by omega)]
          have hr := HE.o.range
          have ht : wr.there (B + 1 + 1) 0 (arr 36 (ck K D)).toArray.size := HE.r.there
          have hi6 : (Try.prog.info? 24).map (·.size) = some (arr 36 (ck K D)).length := by rw [arr_len]; exact info36
          have hone := arr_one 36 (ck K D)
          have HB : Hid (Below B w wr) := HE.below
          obtain ⟨L, hL⟩ : ∃ L, arr 36 (ck K D) = L := ⟨_, rfl⟩
          rw [hL] at hr ht hi6 hone
          have HL : Hid (arr 36 (ck K D) = L) := hL
          clear HK HE hL iD
          go_wp2_with (first | refine wpList_load_mid rfl 24 _ rfl _ 0 rfl L _ hr Try.underlying24 rfl hi6 ?_ | refine wpList_store_mid rfl 24 _ _ rfl _ 0 L.toArray rfl rfl ht hi6 hone ?_)
          have hs : (wr.setCells (B + 1 + 1) 0 L).rangeAt (B + 1 + 1) 0 L := World.rangeAt_setCells_same wr _ 0 L (by simpa using ht)
          have hld := run_loadVar_mid (P := Try.prog) (wr.setCells (B + 1 + 1) 0 L) (B + 1 + 1) 0 24 L _ hs Try.underlying24 rfl hi6
          refine bodyPost_ret (v := .agg L.toArray) ?_ rfl ⟨K, by rw [HL.out], Hcode.out, by first | exact below_put (by omega) L 0 HB.out | (rw [hB]; exact below_put (by omega) L 0 HB.out)⟩
          simp [results, Try.f13, Act.put, asAddr, hld]
end Go.Proofs.Ytmkjdpokcfeieaa
