/-
  The document's word, value and values of layer 5.
-/
import Derived.Test.YtmkjdpokcfeieaaRsW1
namespace Go.Proofs.Ytmkjdpokcfeieaa
open Go.RowKit
open Gf (gI)
open Po (El mu pwr ev S)
open Rm (al sy)

theorem info39 : (Try.prog.info? 29).map (·.size) = some 39 := by kernel_rfl
set_option maxRecDepth 100000 in
set_option maxHeartbeats 1000000 in
theorem refValue_any (W : Nat → El) (x : El) (w : World) :
    Calls Try.prog 25 #[.agg (arr 39 W).toArray, .int .u8 (oe x)] w fun e w' => e = .returned (.int .u8 (oe (ev 39 W x))) ∧ Below w.heap.size w w' := by
  obtain ⟨R, HR⟩ : ∃ R, Hid (ev 39 W x = R) := ⟨_, rfl⟩
  rw [HR.out]
  obtain ⟨A, hA, hAn⟩ : ∃ A : Array Value, (arr 39 W).toArray = A ∧ Hid (∀ t, Arr (w.alloc (.cells A t)) w.heap.size 39 W) := ⟨_, rfl, fun t => Arr.new w 39 W t⟩
  rw [hA]
  clear hA
  obtain ⟨f, Hf⟩ : ∃ f : Nat → El, Hid ((fun k => ev k W x) = f) := ⟨_, rfl⟩
  have f0 : Hid (f 0 = 0) := by rw [← Hf.out]; rfl
  have fs : Hid (∀ k, f (k + 1) = f k ^^^ mu (W k) (pwr x k)) := by rw [← Hf.out]; exact fun k => rfl
  have fe : Hid (f 39 = R) := by rw [← Hf.out]; exact HR.out
  clear HR Hf
  go_enter Try.func25, Try.ntmps25
  go_wp2
  obtain ⟨V, hV⟩ : ∃ V, w.alloc (.cells A 29) = V := ⟨_, rfl⟩
  have hcell : Hid (Arr V w.heap.size 39 W) := by rw [← hV]; exact hAn.out _
  have hB : Below w.heap.size w V := by rw [← hV]; exact (Below.refl _ w).alloc (Nat.le_refl _) _
  rw [hV]
  clear hV hAn
  go_loop [5, 6, 7] (fun a b c => ∃ (k : Nat) (s p : El), k ≤ 39 ∧ Hid (s = f k) ∧ Hid (p = pwr x k) ∧ a = .int .u8 (oe s) ∧ b = .int .u8 (oe p) ∧ c = .int .i64 (k : Int)) (fun _ _ c => 39 - (intOf c).toNat)
  case atStart => exact ⟨0, 0, 1, by omega, f0.out.symm, rfl, rfl, rfl, rfl⟩
  case round =>
    obtain ⟨k, s, p, hk, Hs, Hp, rfl, rfl, rfl⟩ := hrel
    by_cases hlt : k < 39
    · have cell := hcell.out k hlt
      obtain ⟨u, Hu⟩ : ∃ u, Hid (W k = u) := ⟨_, rfl⟩
      rw [Hu.out] at cell
      obtain ⟨m, Hm⟩ : ∃ m, Hid (mu u p = m) := ⟨_, rfl⟩
      obtain ⟨q, Hq⟩ : ∃ q, Hid (mu p x = q) := ⟨_, rfl⟩
      have c1 : Hid (∀ w, Calls Try.prog 16 #[.int .u8 (oe u), .int .u8 (oe p)] w fun e w' => e = .returned (.int .u8 (oe m)) ∧ w' = w) := fun w => by rw [← Hm.out]; exact mulE_any u p w
      have c2 : Hid (∀ w, Calls Try.prog 16 #[.int .u8 (oe p), .int .u8 (oe x)] w fun e w' => e = .returned (.int .u8 (oe q)) ∧ w' = w) := fun w => by rw [← Hq.out]; exact mulE_any p x w
      have ex := oe_xor s m
      have Hs' : Hid (s ^^^ m = f (k + 1)) := by show _ = _; rw [fs.out k, Hs.out, ← Hm.out, Hp.out, Hu.out]
      have Hq' : Hid (q = pwr x (k + 1)) := by show _ = _; rw [← Hq.out, Hp.out]; rfl
      obtain ⟨t, Ht⟩ : ∃ t, s ^^^ m = t := ⟨_, rfl⟩
      rw [Ht] at ex Hs'
      clear Ht
      go_wp2_with fail
      refine (c1.out _).mono ?_
      rintro e w' ⟨rfl, rfl⟩
      go_wp2_with fail
      refine (c2.out _).mono ?_
      rintro e w' ⟨rfl, rfl⟩
      go_wp2
      go_round
      case rel => exact ⟨k + 1, t, q, by omega, Hs', Hq', rfl, rfl, by go_num⟩
      case measure => simp [intOf]; omega
    · obtain rfl : k = 39 := by omega
      have hs : s = R := Hs.out.trans fe.out
      subst hs
      clear Hs fe
      go_wp2
      go_ret
      exact ⟨rfl, hB⟩

/-- the 39 symbols -/
def wd (F G : Nat → El) (i : Nat) : El := if i < 36 then F i else G (i - 36)
theorem zero39 (w : World) : (zeroValue 29).run Try.prog w = .ok (.agg (arr 39 fun _ => 0).toArray) w := by kernel_rfl
theorem below_put {B b : Nat} (hb : B ≤ b) : ∀ (vs : List Value) (o : Nat) {a w : World}, Below B a w → Below B a (w.setCells b o vs)
  | [], _, _, _, h => h
  | v :: vs, o, _, _, h => below_put hb vs (o + 1) (h.setCell (p := ⟨b, o, none⟩) hb v)
theorem ArrW.new (W : World) (n : Nat) (F : Nat → El) (t : TypeId) : ArrW (W.alloc (.cells (arr n F).toArray t)) W.heap.size n F :=
  ⟨Arr.new W n F t, fun i _ => by simp⟩
theorem ArrW.alloc {W : World} {b n : Nat} {F : Nat → El} (h : ArrW W b n F) (hb : b < W.heap.size) (o : Obj) : ArrW (W.alloc o) b n F := h.of (Below.heap_alloc W o b hb)
/-- between two rounds of Word: what is laid of the word is X -/
structure WdI (B C D E : Nat) (F G X : Nat → El) (w wr : World) : Prop where
  a : Arr wr B 36 F
  b : Arr wr C 3 G
  r : ArrW wr D 39 (fun _ => 0)
  o : ArrW wr E 39 X
  below : Below B w wr
theorem WdI.set {B C D E : Nat} {F G X : Nat → El} {w wr : World} (h : WdI B C D E F G X w wr) (hB : B < E) (hC : C < E) (hD : D < E) (i : Nat) (hi : i < 39) (e : El) : WdI B C D E F G (fun k => if k = i then e else X k) w (wr.setCell ⟨E, i, none⟩ (.int .u8 (oe e))) :=
  ⟨h.a.of (Below.heap_setCell wr ⟨E, i, none⟩ _ B (by simp; omega)), h.b.of (Below.heap_setCell wr ⟨E, i, none⟩ _ C (by simp; omega)), h.r.of (Below.heap_setCell wr ⟨E, i, none⟩ _ D (by simp; omega)), h.o.set i hi e, h.below.setCell (p := ⟨E, i, none⟩) (by simp; omega) _⟩
theorem WdI.congr {B C D E : Nat} {F G X Y : Nat → El} {w wr : World} (h : WdI B C D E F G X w wr) (k : ∀ i, i < 39 → X i = Y i) : WdI B C D E F G Y w wr :=
  ⟨h.a, h.b, h.r, ⟨h.o.at_.congr k, h.o.free⟩, h.below⟩

set_option maxRecDepth 100000 in
set_option maxHeartbeats 1000000 in
theorem refWord_any (F G : Nat → El) (w : World) :
    Calls Try.prog 12 #[.agg (arr 36 F).toArray, .agg (arr 3 G).toArray] w fun e w' => e = .returned (.agg (arr 39 (wd F G)).toArray) ∧ Below w.heap.size w w' := by
  have hz := zero39
  obtain ⟨A0, hA0⟩ : ∃ A, (arr 36 F).toArray = A := ⟨_, rfl⟩
  obtain ⟨A1, hA1⟩ : ∃ A, (arr 3 G).toArray = A := ⟨_, rfl⟩
  obtain ⟨A2, hA2⟩ : ∃ A, (arr 39 fun _ => 0).toArray = A := ⟨_, rfl⟩
  rw [hA2] at hz
  rw [hA0, hA1]
  go_enter Try.func12, Try.ntmps12
  go_wp2
  obtain ⟨V, hV⟩ : ∃ V, (((w.alloc (.cells A0 24)).alloc (.cells A1 23)).alloc (.cells A2 29)).alloc (.cells A2 29) = V := ⟨_, rfl⟩
  have hI : WdI w.heap.size (w.heap.size + 1) (w.heap.size + 1 + 1) (w.heap.size + 1 + 1 + 1) F G (fun _ => 0) w V := by
    rw [← hV, ← hA0, ← hA1, ← hA2]
    have h0 := Arr.new w 36 F 24
    have h1 := Arr.new (w.alloc (.cells (arr 36 F).toArray 24)) 3 G 23
    have h2 := ArrW.new ((w.alloc (.cells (arr 36 F).toArray 24)).alloc (.cells (arr 3 G).toArray 23)) 39 (fun _ => 0) 29
    have h3 := ArrW.new (((w.alloc (.cells (arr 36 F).toArray 24)).alloc (.cells (arr 3 G).toArray 23)).alloc (.cells (arr 39 fun _ => 0).toArray 29)) 39 (fun _ => 0) 29
    simp only [World.size_alloc] at h1 h2 h3
    exact ⟨((h0.alloc (by simp) _).alloc (by simp; omega) _).alloc (by simp; omega) _, (h1.alloc (by simp) _).alloc (by simp) _, h2.alloc (by simp) _, h3, ((((Below.refl _ w).alloc (Nat.le_refl _) _).alloc (by simp) _).alloc (by simp; omega) _).alloc (by simp; omega) _⟩
  obtain ⟨B, hB⟩ : ∃ B, w.heap.size = B := ⟨_, rfl⟩
  obtain ⟨C, hC⟩ : ∃ C, B + 1 = C := ⟨_, rfl⟩
  obtain ⟨D, hD⟩ : ∃ D, C + 1 = D := ⟨_, rfl⟩
  obtain ⟨E, hE⟩ : ∃ E, D + 1 = E := ⟨_, rfl⟩
  rw [hV]
  rw [hB, hC, hD, hE] at hI ⊢
  have nB : B < E := by omega
  have nC : C < E := by omega
  have nD : D < E := by omega
  have nBD : B ≤ D := by omega
  have HI : Hid (WdI B C D E F G (fun _ => 0) w V) := hI
  clear hV hA0 hA1 hA2 hz hI hC hD hE
  go_loopw [6] (fun i wr => ∃ k : Nat, k ≤ 36 ∧ i = .int .i64 (k : Int) ∧ Hid (WdI B C D E F G (fun i => if i < k then F i else 0) w wr)) (fun i _ => 36 - (intOf i).toNat)
  case atStart => exact ⟨0, by omega, rfl, HI⟩
  case round =>
    obtain ⟨k, hk, rfl, HK⟩ := hrel
    by_cases hlt : k < 36
    · have c0 := HK.out.a k hlt
      have c1 := HK.out.o.at_ k (by omega)
      have c2 := HK.out.o.free k (by omega)
      have HN : Hid (WdI B C D E F G (fun i => if i < k + 1 then F i else 0) w (wr.setCell ⟨E, k, none⟩ (.int .u8 (oe (F k))))) := (HK.out.set nB nC nD k (by omega) (F k)).congr fun i _ => by
        show (if i = k then F k else if i < k then F i else 0) = if i < k + 1 then F i else 0
        by_cases h : i = k
        · rw [if_pos h, if_pos (by omega), h]
        · rw [if_neg h]
          by_cases h2 : i < k
          · rw [if_pos h2, if_pos (by omega)]
          · rw [if_neg h2, if_neg (by omega)]
      go_wp2
      go_roundw
      case rel => exact ⟨k + 1, by omega, by go_num, HN⟩
      case measure => simp [intOf]; omega
    · obtain rfl : k = 36 := by omega
      clear HI
      go_wp2
      go_loopw [7] (fun i wr => ∃ k : Nat, k ≤ 3 ∧ i = .int .i64 (k : Int) ∧ Hid (WdI B C D E F G (fun i => if i < 36 then F i else if i < 36 + k then G (i - 36) else 0) w wr)) (fun i _ => 3 - (intOf i).toNat)
      case atStart =>
        refine ⟨0, by omega, rfl, HK.out.congr fun i _ => ?_⟩
        by_cases h : i < 36
        · rw [if_pos h, if_pos h]
        · rw [if_neg h, if_neg h, if_neg (by omega)]
      case round =>
        obtain ⟨k, hk, rfl, HK⟩ := hrel
        by_cases hlt : k < 3
        · have c0 := HK.out.b k hlt
          have c1 := HK.out.o.at_ (36 + k) (by omega)
          have c2 := HK.out.o.free (36 + k) (by omega)
          have HN : Hid (WdI B C D E F G (fun i => if i < 36 then F i else if i < 36 + (k + 1) then G (i - 36) else 0) w (wr.setCell ⟨E, 36 + k, none⟩ (.int .u8 (oe (G k))))) := (HK.out.set nB nC nD (36 + k) (by omega) (G k)).congr fun i _ => by
            show (if i = 36 + k then G k else if i < 36 then F i else if i < 36 + k then G (i - 36) else 0) = if i < 36 then F i else if i < 36 + (k + 1) then G (i - 36) else 0
            by_cases h : i = 36 + k
            · rw [if_pos h, if_neg (by omega), if_pos (by omega), h, show 36 + k - 36 = k from by omega]
            · rw [if_neg h]
              by_cases h1 : i < 36
              · rw [if_pos h1, if_pos h1]
              · rw [if_neg h1, if_neg h1]
                by_cases h2 : i < 36 + k
                · rw [if_pos h2, if_pos (by omega)]
                · rw [if_neg h2, if_neg (by omega)]
          go_wp2
          go_roundw
          case rel => exact ⟨k + 1, by omega, by go_num, HN⟩
          case measure => simp [intOf]; omega
        · obtain rfl : k = 3 := by omega
          have HE : WdI B C D E F G (wd F G) w wr := HK.out.congr fun i hi => by
            unfold wd
            by_cases h1 : i < 36
            · rw [if_pos h1, if_pos h1]
            · rw [if_neg h1, if_neg h1, if_pos (by omega)]
          have hr := HE.o.at_.range
          have ht : wr.there D 0 (arr 39 (wd F G)).toArray.size := by
            rw [show (arr 39 (wd F G)).toArray.size = 39 from by simp [arr_len]]
            exact HE.r.there
          have hi9 : (Try.prog.info? 29).map (·.size) = some (arr 39 (wd F G)).length := by rw [arr_len]; exact info39
          have hone := arr_one 39 (wd F G)
          have HB : Hid (Below B w wr) := HE.below
          obtain ⟨L, hL⟩ : ∃ L, arr 39 (wd F G) = L := ⟨_, rfl⟩
          rw [hL] at hr ht hi9 hone
          have HL : Hid (arr 39 (wd F G) = L) := hL
          clear HK HE hL
          go_wp2_with (first | refine wpList_load_mid rfl 29 _ rfl _ 0 rfl L _ hr Try.underlying29 rfl hi9 ?_ | refine wpList_store_mid rfl 29 _ _ rfl _ 0 L.toArray rfl rfl ht hi9 hone ?_)
          have hs : (wr.setCells D 0 L).rangeAt D 0 L := World.rangeAt_setCells_same wr _ 0 L (by simpa using ht)
          have hld := run_loadVar_mid (P := Try.prog) (wr.setCells D 0 L) D 0 29 L _ hs Try.underlying29 rfl hi9
          refine bodyPost_ret (v := .agg L.toArray) ?_ rfl ⟨by rw [HL.out], by rw [hB]; exact below_put nBD L 0 HB.out⟩
          simp [results, Try.f12, Act.put, asAddr, hld]
end Go.Proofs.Ytmkjdpokcfeieaa
