/-
  Texts of one family, one behind another: RwW8, RwW9, GeMath, GeW1, GeW2, GeW3, GeW4, CoW1.
-/
import Derived.Test.YtoimbjbdkkohcaaGreatDoorM11
import Derived.Test.YtoimbjbdkkohcaaGreatDoorM10
import Derived.Laws.MakeOwn
import Derived.Test.YtoimbjbdkkohcaaGreatDoorM01
import Derived.Laws.BitsAllLaws
import Derived.Deep.RegionHeld3
import Derived.Deep.DeepCutAuto
import Derived.Laws.ResultCell
import Derived.Test.YtoimbjbdkkohcaaGreatDoorM09

/-
  A word's bytes told, and put.
-/
namespace Go.Proofs.YtoimbjbdkkohcaaGreatDoor
open Go.RowKit Go.Shelf
attribute [local go_sem] Oper.semAt_some

theorem info9 : (Tryz.prog.info? 5).map (fun i => (i.zero, i.size, i.bytes)) = some (some (.int .u8 0), 1, 1) := by kernel_rfl
set_option maxRecDepth 100000 in
theorem run_make9 (n : Nat) (hn : n ≤ 1000) (w : World) : (Instr.makeSlice 69 (.int .i64 (n : Int)) (.int .i64 (n : Int))).run Tryz.prog w = .ok (.slice (some ⟨w.heap.size, 0, none⟩) n n) (w.alloc (.cells (ints .u8 n fun _ => 0).toArray 5)) := by
  have h := run_make_row' (P := Tryz.prog) 69 5 (.int .u8 0) 1 Tryz.underlying69 info9 rfl .i64 .i64 n (by omega) (by omega) w
  rw [h]
  congr 3
  unfold madeCells ints
  refine Array.ext' ?_
  simp [Nat.mod_one]
theorem cutR (b o : Nat) (ho : o < 72) (w : World) : (Instr.sliceAt 27 (.pointer (some ⟨b, 0, none⟩)) (some (.int .i64 (o : Int))) none none).run Tryz.prog w = .ok (.slice (some ⟨b, o, none⟩) (72 - o) (72 - o)) w := by
  have h1 : (o : Int) ≤ 72 := by omega
  have h2 : ¬ 72 = o := by omega
  simp [Instr.sliceAt, go_sem]
  rw [if_pos h1, if_neg h2]

theorem word_no {m n k : Int} (h : Md m n k) (F : Nat → Int) (x : Int) (hx : ¬ (0 ≤ x ∧ x < k)) (w : World) :
    Calls Tryz.prog 76 #[.agg (ints .u8 72 F).toArray, .int .i64 m, .int .i64 x] w fun e w' => e = .returned (.slice none 0 0) ∧ Below w.heap.size w w' := by
  have hw : Hid (∀ w : World, Calls Tryz.prog 68 #[.int .i64 m] w fun e w' => e = .returned (.int .i64 k) ∧ w' = w) := countWords_any h
  have hl : Hid (∀ w : World, Calls Tryz.prog 67 #[.int .i64 x, .int .i64 k] w fun e w' => e = .returned (.bool false) ∧ w' = w) := below9_no x k hx
  obtain ⟨A0, hA0⟩ : ∃ A, (ints .u8 72 F).toArray = A := ⟨_, rfl⟩
  rw [hA0]
  clear h hx hA0
  go_enter Tryz.func76, Tryz.ntmps76
  go_wp2_with (first | (go_at_call 68; refine (hw.out _).mono ?_; rintro e w' ⟨rfl, rfl⟩) | (go_at_call 67; refine (hl.out _).mono ?_; rintro e w' ⟨rfl, rfl⟩))
  go_ret
  exact ⟨rfl, (Below.refl _ w).alloc (Nat.le_refl _) _⟩
set_option maxRecDepth 100000 in
set_option maxHeartbeats 1000000 in
theorem word_yes1 (F : Nat → Int) (x : Nat) (hx : x < 8) (w : World) :
    Calls Tryz.prog 76 #[.agg (ints .u8 72 F).toArray, .int .i64 1, .int .i64 (x : Int)] w fun e w' => ∃ g, e = .returned (.slice (some ⟨g, 0, none⟩) 9 9) ∧ w.heap.size ≤ g ∧ Bk .u8 w' g 9 (fun j => F (9 * x + j)) ∧ Below w.heap.size w w' := by
  have hw : Hid (∀ w : World, Calls Tryz.prog 68 #[.int .i64 1] w fun e w' => e = .returned (.int .i64 8) ∧ w' = w) := countWords_any .bits
  have hc : Hid (∀ w : World, Calls Tryz.prog 69 #[.int .i64 1] w fun e w' => e = .returned (.int .i64 9) ∧ w' = w) := countChips_any .bits
  have hl : Hid (∀ w : World, Calls Tryz.prog 67 #[.int .i64 (x : Int), .int .i64 8] w fun e w' => e = .returned (.bool true) ∧ w' = w) := below9_yes _ _ ⟨by omega, by omega⟩
  have hp : Hid (∀ w : World, Calls Tryz.prog 70 #[.int .i64 1, .int .i64 (x : Int), .int .i64 0] w fun e w' => e = .returned (.int .i64 ((9 * x : Nat) : Int)) ∧ w' = w) := fun w => by
    have := placeOf9_any .bits (x : Int) 0 ⟨by omega, by omega⟩ ⟨by omega, by omega⟩ w
    rwa [show (x : Int) * 9 + 0 = ((9 * x : Nat) : Int) by omega] at this
  have hmk : ∀ w : World, (Instr.makeSlice 69 (.int .i64 9) (.int .i64 9)).run Tryz.prog w = .ok (.slice (some ⟨w.heap.size, 0, none⟩) 9 9) (w.alloc (.cells (ints .u8 9 fun _ => 0).toArray 5)) := run_make9 9 (by omega)
  have hct := fun b => cutR b (9 * x) (by omega)
  obtain ⟨A0, hA0⟩ : ∃ A, (ints .u8 72 F).toArray = A := ⟨_, rfl⟩
  obtain ⟨Z, hZ⟩ : ∃ A, (ints .u8 9 fun _ => 0).toArray = A := ⟨_, rfl⟩
  obtain ⟨o, ho⟩ : ∃ o, 9 * x = o := ⟨_, rfl⟩
  have ho2 : o + 9 ≤ 72 := by omega
  rw [ho] at hp hct ⊢
  rw [hA0]
  rw [hZ] at hmk
  go_enter Tryz.func76, Tryz.ntmps76
  go_upto_region 4 with (first | (go_at_call 68; refine (hw.out _).mono ?_; rintro e w' ⟨rfl, rfl⟩) | (go_at_call 67; refine (hl.out _).mono ?_; rintro e w' ⟨rfl, rfl⟩) | (go_at_call 69; refine (hc.out _).mono ?_; rintro e w' ⟨rfl, rfl⟩))
  obtain ⟨V, hV⟩ : ∃ V, (w.alloc (.cells A0 27)).alloc (.cells Z 5) = V := ⟨_, rfl⟩
  have hI : Bk .u8 V w.heap.size 72 F ∧ Bk .u8 V (w.heap.size + 1) 9 (fun _ => 0) ∧ Below w.heap.size w V := by
    rw [← hV, ← hA0, ← hZ]
    have h1 := Bk.new .u8 (w.alloc (.cells (ints .u8 72 F).toArray 27)) 9 (fun _ => 0) 5
    simp only [World.size_alloc] at h1
    exact ⟨(Bk.new .u8 w 72 F _).alloc _, h1, ((Below.refl _ w).alloc (Nat.le_refl _) _).alloc (by simp) _⟩
  obtain ⟨B, hB⟩ : ∃ B, w.heap.size = B := ⟨_, rfl⟩
  obtain ⟨G, hG⟩ : ∃ G, B + 1 = G := ⟨_, rfl⟩
  rw [hV]
  rw [hB, hG] at hI ⊢
  have HI : Hid (Bk .u8 V B 72 F ∧ Bk .u8 V G 9 (fun _ => 0) ∧ Below B w V) := hI
  have hB1 := hct B
  clear hV hZ hA0 hI hct hmk hw hc hl
  go_upto_region 5 with (first | (go_at_call 70; refine (hp.out _).mono ?_; rintro e w' ⟨rfl, hw2⟩; rw [hw2]; clear hw2 w') | (refine wpList_cpy rfl _ _ rfl G 0 9 9 B o (72 - o) (72 - o) 9 9 (fun _ => 0) (fun j => F (o + j)) rfl rfl HI.out.2.1 (by exact (by show 9 = min (72 - o) 9; omega)) (fun j hj => HI.out.1.cell (o + j) (by omega)) (by omega) ?_; intro V2 g2 k2))
  have HE : Hid (Bk .u8 V2 G 9 (fun j => F (o + j)) ∧ Below B w V2) := ⟨g2.out.congr fun i hi => by unfold lay; rw [if_pos (by omega), Nat.sub_zero], k2.out.below _ _ HI.out.2.2 (by omega)⟩
  clear g2 k2 HI
  go_wp2
  go_ret
  exact ⟨G, rfl, by omega, HE.out.1, by rw [hB]; exact HE.out.2⟩
set_option maxRecDepth 100000 in
set_option maxHeartbeats 1000000 in
theorem put_yes1 (F : Nat → Int) (x : Nat) (hx : x < 8) (sb so sc : Nat) (G : Nat → Int) (w : World) (hsrc : ∀ j : Nat, j < 9 → w.cell? ⟨sb, so + j, none⟩ = some (.int .u8 (G j))) :
    Calls Tryz.prog 36 #[.agg (ints .u8 72 F).toArray, .int .i64 1, .int .i64 (x : Int), .slice (some ⟨sb, so, none⟩) 9 sc] w fun e w' => e = .returned (.agg (ints .u8 72 (lay F (9 * x) 9 G)).toArray) ∧ Below w.heap.size w w' := by
  have hz := zeroR
  have hw : Hid (∀ w : World, Calls Tryz.prog 68 #[.int .i64 1] w fun e w' => e = .returned (.int .i64 8) ∧ w' = w) := countWords_any .bits
  have hc : Hid (∀ w : World, Calls Tryz.prog 69 #[.int .i64 1] w fun e w' => e = .returned (.int .i64 9) ∧ w' = w) := countChips_any .bits
  have hl : Hid (∀ w : World, Calls Tryz.prog 67 #[.int .i64 (x : Int), .int .i64 8] w fun e w' => e = .returned (.bool true) ∧ w' = w) := below9_yes _ _ ⟨by omega, by omega⟩
  have hp : Hid (∀ w : World, Calls Tryz.prog 70 #[.int .i64 1, .int .i64 (x : Int), .int .i64 0] w fun e w' => e = .returned (.int .i64 ((9 * x : Nat) : Int)) ∧ w' = w) := fun w => by
    have := placeOf9_any .bits (x : Int) 0 ⟨by omega, by omega⟩ ⟨by omega, by omega⟩ w
    rwa [show (x : Int) * 9 + 0 = ((9 * x : Nat) : Int) by omega] at this
  have hct := fun b => cutR b (9 * x) (by omega)
  obtain ⟨A0, hA0⟩ : ∃ A, (ints .u8 72 F).toArray = A := ⟨_, rfl⟩
  obtain ⟨Z, hZ⟩ : ∃ A, (ints .u8 72 fun _ => 0).toArray = A := ⟨_, rfl⟩
  obtain ⟨o, ho⟩ : ∃ o, 9 * x = o := ⟨_, rfl⟩
  have ho2 : o + 9 ≤ 72 := by omega
  rw [ho] at hp hct ⊢
  rw [hA0]
  rw [hZ] at hz
  have HS : Hid (∀ j : Nat, j < 9 → w.cell? ⟨sb, so + j, none⟩ = some (.int .u8 (G j))) := hsrc
  clear hsrc
  go_enter Tryz.func36, Tryz.ntmps36
  go_upto_region 2 with (first | (go_at_call 68; refine (hw.out _).mono ?_; rintro e w' ⟨rfl, hw2⟩; rw [hw2]; clear hw2 w') | (go_at_call 67; refine (hl.out _).mono ?_; rintro e w' ⟨rfl, hw2⟩; rw [hw2]; clear hw2 w') | (go_at_call 69; refine (hc.out _).mono ?_; rintro e w' ⟨rfl, hw2⟩; rw [hw2]; clear hw2 w'))
  obtain ⟨V, hV⟩ : ∃ V, (w.alloc (.cells A0 27)).alloc (.cells Z 27) = V := ⟨_, rfl⟩
  have HI : Hid (Bk .u8 V w.heap.size 72 F ∧ Bk .u8 V (w.heap.size + 1) 72 (fun _ => 0) ∧ Below w.heap.size w V) := by
    rw [← hV, ← hA0, ← hZ]
    have h1 := Bk.new .u8 (w.alloc (.cells (ints .u8 72 F).toArray 27)) 72 (fun _ => 0) 27
    simp only [World.size_alloc] at h1
    exact ⟨(Bk.new .u8 w 72 F _).alloc _, h1, ((Below.refl _ w).alloc (Nat.le_refl _) _).alloc (by simp) _⟩
  have HSV : Hid (∀ j : Nat, j < 9 → V.cell? ⟨sb, so + j, none⟩ = some (.int .u8 (G j))) := fun j hj => by
    have h := HS.out j hj
    obtain ⟨y, hy, _⟩ := isCells_of_cell h
    rw [← h]
    exact World.cell?_of_block (w := w) (HI.out.2.2.block sb (Array.getElem?_eq_some_iff.1 hy).1)
  obtain ⟨B, hB⟩ : ∃ B, w.heap.size = B := ⟨_, rfl⟩
  obtain ⟨D, hD⟩ : ∃ D, B + 1 = D := ⟨_, rfl⟩
  rw [hV]
  rw [hB, hD] at HI ⊢
  have hB1 := hct B
  have lD : B ≤ D := by omega
  have nD : D ≠ B := by omega
  clear hV hZ hA0 hct hz hw hc hl HS
  go_upto_region 3 with (first | (go_at_call 70; refine (hp.out _).mono ?_; rintro e w' ⟨rfl, hw2⟩; rw [hw2]; clear hw2 w') | (refine wpList_cpy rfl _ _ rfl B o (72 - o) (72 - o) sb so 9 sc 72 9 F G rfl rfl HI.out.1 (by exact (by show 9 = min 9 (72 - o); omega)) (fun j hj => HSV.out j hj) (by omega) ?_; intro V2 g2 k2))
  have HE : Hid (Bk .u8 V2 B 72 (lay F o 9 G) ∧ Bk .u8 V2 D 72 (fun _ => 0) ∧ Below B w V2) := ⟨g2.out, HI.out.2.1.of (k2.out.block D nD), k2.out.below _ _ HI.out.2.2 (Nat.le_refl _)⟩
  clear g2 k2 HI HSV nD
  obtain ⟨X, hX⟩ : ∃ X, lay F o 9 G = X := ⟨_, rfl⟩
  rw [hX] at HE
  have hr := HE.out.1.range
  have ht := HE.out.2.1.there .u8 X
  have hi9 : (Tryz.prog.info? 27).map (·.size) = some (ints .u8 72 X).length := by rw [ints_len]; exact infoR
  have hone := ints_one .u8 72 X
  have HBl := HE.out.2.2
  obtain ⟨L, hL⟩ : ∃ L, ints .u8 72 X = L := ⟨_, rfl⟩
  rw [hL] at hr ht hi9 hone
  have HL : Hid (ints .u8 72 X = L) := hL
  have HB9 : Hid (Below B w V2) := HBl
  clear hL HBl HE
  go_wp2_with (first | refine wpList_load_mid rfl 27 _ rfl _ 0 rfl L _ hr Tryz.underlying27 rfl hi9 ?_ | refine wpList_store_mid rfl 27 _ _ rfl _ 0 L.toArray rfl rfl ht hi9 hone ?_)
  have hs : (V2.setCells D 0 L).rangeAt D 0 L := World.rangeAt_setCells_same V2 _ 0 L (by simpa using ht)
  have hld := run_loadVar_mid (P := Tryz.prog) (V2.setCells D 0 L) D 0 27 L _ hs Tryz.underlying27 rfl hi9
  refine bodyPost_ret (v := .agg L.toArray) ?_ rfl ⟨by rw [hX, HL.out], by rw [hB]; exact belows_put lD L 0 HB9.out⟩
  simp [results, Tryz.f36, Act.put, asAddr, hld]
set_option maxRecDepth 100000 in
set_option maxHeartbeats 1000000 in
theorem word_yes2 (F : Nat → Int) (x : Nat) (hx : x < 2) (w : World) :
    Calls Tryz.prog 76 #[.agg (ints .u8 72 F).toArray, .int .i64 2, .int .i64 (x : Int)] w fun e w' => ∃ g, e = .returned (.slice (some ⟨g, 0, none⟩) 36 36) ∧ w.heap.size ≤ g ∧ Bk .u8 w' g 36 (fun j => F (36 * x + j)) ∧ Below w.heap.size w w' := by
  have hw : Hid (∀ w : World, Calls Tryz.prog 68 #[.int .i64 2] w fun e w' => e = .returned (.int .i64 2) ∧ w' = w) := countWords_any .chips
  have hc : Hid (∀ w : World, Calls Tryz.prog 69 #[.int .i64 2] w fun e w' => e = .returned (.int .i64 36) ∧ w' = w) := countChips_any .chips
  have hl : Hid (∀ w : World, Calls Tryz.prog 67 #[.int .i64 (x : Int), .int .i64 2] w fun e w' => e = .returned (.bool true) ∧ w' = w) := below9_yes _ _ ⟨by omega, by omega⟩
  have hp : Hid (∀ w : World, Calls Tryz.prog 70 #[.int .i64 2, .int .i64 (x : Int), .int .i64 0] w fun e w' => e = .returned (.int .i64 ((36 * x : Nat) : Int)) ∧ w' = w) := fun w => by
    have := placeOf9_any .chips (x : Int) 0 ⟨by omega, by omega⟩ ⟨by omega, by omega⟩ w
    rwa [show (x : Int) * 36 + 0 = ((36 * x : Nat) : Int) by omega] at this
  have hmk : ∀ w : World, (Instr.makeSlice 69 (.int .i64 36) (.int .i64 36)).run Tryz.prog w = .ok (.slice (some ⟨w.heap.size, 0, none⟩) 36 36) (w.alloc (.cells (ints .u8 36 fun _ => 0).toArray 5)) := run_make9 36 (by omega)
  have hct := fun b => cutR b (36 * x) (by omega)
  obtain ⟨A0, hA0⟩ : ∃ A, (ints .u8 72 F).toArray = A := ⟨_, rfl⟩
  obtain ⟨Z, hZ⟩ : ∃ A, (ints .u8 36 fun _ => 0).toArray = A := ⟨_, rfl⟩
  obtain ⟨o, ho⟩ : ∃ o, 36 * x = o := ⟨_, rfl⟩
  have ho2 : o + 36 ≤ 72 := by omega
  rw [ho] at hp hct ⊢
  rw [hA0]
  rw [hZ] at hmk
  go_enter Tryz.func76, Tryz.ntmps76
  go_upto_region 4 with (first | (go_at_call 68; refine (hw.out _).mono ?_; rintro e w' ⟨rfl, rfl⟩) | (go_at_call 67; refine (hl.out _).mono ?_; rintro e w' ⟨rfl, rfl⟩) | (go_at_call 69; refine (hc.out _).mono ?_; rintro e w' ⟨rfl, rfl⟩))
  obtain ⟨V, hV⟩ : ∃ V, (w.alloc (.cells A0 27)).alloc (.cells Z 5) = V := ⟨_, rfl⟩
  have hI : Bk .u8 V w.heap.size 72 F ∧ Bk .u8 V (w.heap.size + 1) 36 (fun _ => 0) ∧ Below w.heap.size w V := by
    rw [← hV, ← hA0, ← hZ]
    have h1 := Bk.new .u8 (w.alloc (.cells (ints .u8 72 F).toArray 27)) 36 (fun _ => 0) 5
    simp only [World.size_alloc] at h1
    exact ⟨(Bk.new .u8 w 72 F _).alloc _, h1, ((Below.refl _ w).alloc (Nat.le_refl _) _).alloc (by simp) _⟩
  obtain ⟨B, hB⟩ : ∃ B, w.heap.size = B := ⟨_, rfl⟩
  obtain ⟨G, hG⟩ : ∃ G, B + 1 = G := ⟨_, rfl⟩
  rw [hV]
  rw [hB, hG] at hI ⊢
  have HI : Hid (Bk .u8 V B 72 F ∧ Bk .u8 V G 36 (fun _ => 0) ∧ Below B w V) := hI
  have hB1 := hct B
  clear hV hZ hA0 hI hct hmk hw hc hl
  go_upto_region 5 with (first | (go_at_call 70; refine (hp.out _).mono ?_; rintro e w' ⟨rfl, hw2⟩; rw [hw2]; clear hw2 w') | (refine wpList_cpy rfl _ _ rfl G 0 36 36 B o (72 - o) (72 - o) 36 36 (fun _ => 0) (fun j => F (o + j)) rfl rfl HI.out.2.1 (by exact (by show 36 = min (72 - o) 36; omega)) (fun j hj => HI.out.1.cell (o + j) (by omega)) (by omega) ?_; intro V2 g2 k2))
  have HE : Hid (Bk .u8 V2 G 36 (fun j => F (o + j)) ∧ Below B w V2) := ⟨g2.out.congr fun i hi => by unfold lay; rw [if_pos (by omega), Nat.sub_zero], k2.out.below _ _ HI.out.2.2 (by omega)⟩
  clear g2 k2 HI
  go_wp2
  go_ret
  exact ⟨G, rfl, by omega, HE.out.1, by rw [hB]; exact HE.out.2⟩
set_option maxRecDepth 100000 in
set_option maxHeartbeats 1000000 in
theorem put_yes2 (F : Nat → Int) (x : Nat) (hx : x < 2) (sb so sc : Nat) (G : Nat → Int) (w : World) (hsrc : ∀ j : Nat, j < 36 → w.cell? ⟨sb, so + j, none⟩ = some (.int .u8 (G j))) :
    Calls Tryz.prog 36 #[.agg (ints .u8 72 F).toArray, .int .i64 2, .int .i64 (x : Int), .slice (some ⟨sb, so, none⟩) 36 sc] w fun e w' => e = .returned (.agg (ints .u8 72 (lay F (36 * x) 36 G)).toArray) ∧ Below w.heap.size w w' := by
  have hz := zeroR
  have hw : Hid (∀ w : World, Calls Tryz.prog 68 #[.int .i64 2] w fun e w' => e = .returned (.int .i64 2) ∧ w' = w) := countWords_any .chips
  have hc : Hid (∀ w : World, Calls Tryz.prog 69 #[.int .i64 2] w fun e w' => e = .returned (.int .i64 36) ∧ w' = w) := countChips_any .chips
  have hl : Hid (∀ w : World, Calls Tryz.prog 67 #[.int .i64 (x : Int), .int .i64 2] w fun e w' => e = .returned (.bool true) ∧ w' = w) := below9_yes _ _ ⟨by omega, by omega⟩
  have hp : Hid (∀ w : World, Calls Tryz.prog 70 #[.int .i64 2, .int .i64 (x : Int), .int .i64 0] w fun e w' => e = .returned (.int .i64 ((36 * x : Nat) : Int)) ∧ w' = w) := fun w => by
    have := placeOf9_any .chips (x : Int) 0 ⟨by omega, by omega⟩ ⟨by omega, by omega⟩ w
    rwa [show (x : Int) * 36 + 0 = ((36 * x : Nat) : Int) by omega] at this
  have hct := fun b => cutR b (36 * x) (by omega)
  obtain ⟨A0, hA0⟩ : ∃ A, (ints .u8 72 F).toArray = A := ⟨_, rfl⟩
  obtain ⟨Z, hZ⟩ : ∃ A, (ints .u8 72 fun _ => 0).toArray = A := ⟨_, rfl⟩
  obtain ⟨o, ho⟩ : ∃ o, 36 * x = o := ⟨_, rfl⟩
  have ho2 : o + 36 ≤ 72 := by omega
  rw [ho] at hp hct ⊢
  rw [hA0]
  rw [hZ] at hz
  have HS : Hid (∀ j : Nat, j < 36 → w.cell? ⟨sb, so + j, none⟩ = some (.int .u8 (G j))) := hsrc
  clear hsrc
  go_enter Tryz.func36, Tryz.ntmps36
  go_upto_region 2 with (first | (go_at_call 68; refine (hw.out _).mono ?_; rintro e w' ⟨rfl, hw2⟩; rw [hw2]; clear hw2 w') | (go_at_call 67; refine (hl.out _).mono ?_; rintro e w' ⟨rfl, hw2⟩; rw [hw2]; clear hw2 w') | (go_at_call 69; refine (hc.out _).mono ?_; rintro e w' ⟨rfl, hw2⟩; rw [hw2]; clear hw2 w'))
  obtain ⟨V, hV⟩ : ∃ V, (w.alloc (.cells A0 27)).alloc (.cells Z 27) = V := ⟨_, rfl⟩
  have HI : Hid (Bk .u8 V w.heap.size 72 F ∧ Bk .u8 V (w.heap.size + 1) 72 (fun _ => 0) ∧ Below w.heap.size w V) := by
    rw [← hV, ← hA0, ← hZ]
    have h1 := Bk.new .u8 (w.alloc (.cells (ints .u8 72 F).toArray 27)) 72 (fun _ => 0) 27
    simp only [World.size_alloc] at h1
    exact ⟨(Bk.new .u8 w 72 F _).alloc _, h1, ((Below.refl _ w).alloc (Nat.le_refl _) _).alloc (by simp) _⟩
  have HSV : Hid (∀ j : Nat, j < 36 → V.cell? ⟨sb, so + j, none⟩ = some (.int .u8 (G j))) := fun j hj => by
    have h := HS.out j hj
    obtain ⟨y, hy, _⟩ := isCells_of_cell h
    rw [← h]
    exact World.cell?_of_block (w := w) (HI.out.2.2.block sb (Array.getElem?_eq_some_iff.1 hy).1)
  obtain ⟨B, hB⟩ : ∃ B, w.heap.size = B := ⟨_, rfl⟩
  obtain ⟨D, hD⟩ : ∃ D, B + 1 = D := ⟨_, rfl⟩
  rw [hV]
  rw [hB, hD] at HI ⊢
  have hB1 := hct B
  have lD : B ≤ D := by omega
  have nD : D ≠ B := by omega
  clear hV hZ hA0 hct hz hw hc hl HS
  go_upto_region 3 with (first | (go_at_call 70; refine (hp.out _).mono ?_; rintro e w' ⟨rfl, hw2⟩; rw [hw2]; clear hw2 w') | (refine wpList_cpy rfl _ _ rfl B o (72 - o) (72 - o) sb so 36 sc 72 36 F G rfl rfl HI.out.1 (by exact (by show 36 = min 36 (72 - o); omega)) (fun j hj => HSV.out j hj) (by omega) ?_; intro V2 g2 k2))
  have HE : Hid (Bk .u8 V2 B 72 (lay F o 36 G) ∧ Bk .u8 V2 D 72 (fun _ => 0) ∧ Below B w V2) := ⟨g2.out, HI.out.2.1.of (k2.out.block D nD), k2.out.below _ _ HI.out.2.2 (Nat.le_refl _)⟩
  clear g2 k2 HI HSV nD
  obtain ⟨X, hX⟩ : ∃ X, lay F o 36 G = X := ⟨_, rfl⟩
  rw [hX] at HE
  have hr := HE.out.1.range
  have ht := HE.out.2.1.there .u8 X
  have hi9 : (Tryz.prog.info? 27).map (·.size) = some (ints .u8 72 X).length := by rw [ints_len]; exact infoR
  have hone := ints_one .u8 72 X
  have HBl := HE.out.2.2
  obtain ⟨L, hL⟩ : ∃ L, ints .u8 72 X = L := ⟨_, rfl⟩
  rw [hL] at hr ht hi9 hone
  have HL : Hid (ints .u8 72 X = L) := hL
  have HB9 : Hid (Below B w V2) := HBl
  clear hL HBl HE
  go_wp2_with (first | refine wpList_load_mid rfl 27 _ rfl _ 0 rfl L _ hr Tryz.underlying27 rfl hi9 ?_ | refine wpList_store_mid rfl 27 _ _ rfl _ 0 L.toArray rfl rfl ht hi9 hone ?_)
  have hs : (V2.setCells D 0 L).rangeAt D 0 L := World.rangeAt_setCells_same V2 _ 0 L (by simpa using ht)
  have hld := run_loadVar_mid (P := Tryz.prog) (V2.setCells D 0 L) D 0 27 L _ hs Tryz.underlying27 rfl hi9
  refine bodyPost_ret (v := .agg L.toArray) ?_ rfl ⟨by rw [hX, HL.out], by rw [hB]; exact belows_put lD L 0 HB9.out⟩
  simp [results, Tryz.f36, Act.put, asAddr, hld]
set_option maxRecDepth 100000 in
set_option maxHeartbeats 1000000 in
theorem put_no {m n k : Int} (h : Md m n k) (F : Nat → Int) (x : Int) (a : Option Addr) (len cap : Nat) (hx : ¬ (0 ≤ x ∧ x < k) ∨ (len : Int) ≠ n) (w : World) :
    Calls Tryz.prog 36 #[.agg (ints .u8 72 F).toArray, .int .i64 m, .int .i64 x, .slice a len cap] w fun e w' => e = .returned (.agg (ints .u8 72 F).toArray) ∧ Below w.heap.size w w' := by
  have hz := zeroR
  have hw : Hid (∀ w : World, Calls Tryz.prog 68 #[.int .i64 m] w fun e w' => e = .returned (.int .i64 k) ∧ w' = w) := countWords_any h
  have hc : Hid (∀ w : World, Calls Tryz.prog 69 #[.int .i64 m] w fun e w' => e = .returned (.int .i64 n) ∧ w' = w) := countChips_any h
  have hl : Hid (∀ w : World, Calls Tryz.prog 67 #[.int .i64 x, .int .i64 k] w fun e w' => e = .returned (.bool (decide (0 ≤ x ∧ x < k))) ∧ w' = w) := below9_any x k
  obtain ⟨A0, hA0⟩ : ∃ A, (ints .u8 72 F).toArray = A := ⟨_, rfl⟩
  obtain ⟨Z, hZ⟩ : ∃ A, (ints .u8 72 fun _ => 0).toArray = A := ⟨_, rfl⟩
  obtain ⟨p, hp⟩ : ∃ p, decide (0 ≤ x ∧ x < k) = p := ⟨_, rfl⟩
  obtain ⟨q, hq⟩ : ∃ q, ((len : Int) == n) = q := ⟨_, rfl⟩
  rw [hp] at hl
  have hpq : p = false ∨ (p = true ∧ q = false) := by
    rcases hx with hx | hx
    · left; rw [← hp]; simpa using hx
    · cases p
      · left; rfl
      · right; exact ⟨rfl, by rw [← hq]; simpa using hx⟩
  have HI0 : Hid (∀ V, (w.alloc (.cells A0 27)).alloc (.cells Z 27) = V → Bk .u8 V w.heap.size 72 F ∧ Bk .u8 V (w.heap.size + 1) 72 (fun _ => 0) ∧ Below w.heap.size w V) := by
    rintro V hV
    rw [← hV, ← hA0, ← hZ]
    have h1 := Bk.new .u8 (w.alloc (.cells (ints .u8 72 F).toArray 27)) 72 (fun _ => 0) 27
    simp only [World.size_alloc] at h1
    exact ⟨(Bk.new .u8 w 72 F _).alloc _, h1, ((Below.refl _ w).alloc (Nat.le_refl _) _).alloc (by simp) _⟩
  obtain ⟨X, hX⟩ : ∃ X, F = X := ⟨_, rfl⟩
  rw [hA0]
  rw [hZ] at hz
  have HF : Hid (A0 = (ints .u8 72 F).toArray) := hA0.symm
  clear hA0 hZ hx hp h
  rcases hpq with rfl | ⟨rfl, rfl⟩
  · skip
    go_enter Tryz.func36, Tryz.ntmps36
    go_upto_region 3 with (first | (go_at_call 68; refine (hw.out _).mono ?_; rintro e w' ⟨rfl, hw2⟩; rw [hw2]; clear hw2 w') | (go_at_call 67; refine (hl.out _).mono ?_; rintro e w' ⟨rfl, hw2⟩; rw [hw2]; clear hw2 w') | (go_at_call 69; refine (hc.out _).mono ?_; rintro e w' ⟨rfl, hw2⟩; rw [hw2]; clear hw2 w'))
    obtain ⟨V, hV⟩ : ∃ V, (w.alloc (.cells A0 27)).alloc (.cells Z 27) = V := ⟨_, rfl⟩
    have HE : Hid (Bk .u8 V w.heap.size 72 X ∧ Bk .u8 V (w.heap.size + 1) 72 (fun _ => 0) ∧ Below w.heap.size w V) := by rw [← hX]; exact HI0.out V hV
    obtain ⟨B, hB⟩ : ∃ B, w.heap.size = B := ⟨_, rfl⟩
    obtain ⟨D, hD⟩ : ∃ D, B + 1 = D := ⟨_, rfl⟩
    rw [hV]
    rw [hB, hD] at HE ⊢
    have lD : B ≤ D := by omega
    clear hV HI0 hw hc hl
    have hr := HE.out.1.range
    have ht := HE.out.2.1.there .u8 X
    have hi9 : (Tryz.prog.info? 27).map (·.size) = some (ints .u8 72 X).length := by rw [ints_len]; exact infoR
    have hone := ints_one .u8 72 X
    have HBl := HE.out.2.2
    obtain ⟨L, hL⟩ : ∃ L, ints .u8 72 X = L := ⟨_, rfl⟩
    rw [hL] at hr ht hi9 hone
    have HL : Hid (ints .u8 72 X = L) := hL
    have HB9 : Hid (Below B w V) := HBl
    clear hL HBl HE
    go_wp2_with (first | refine wpList_load_mid rfl 27 _ rfl _ 0 rfl L _ hr Tryz.underlying27 rfl hi9 ?_ | refine wpList_store_mid rfl 27 _ _ rfl _ 0 L.toArray rfl rfl ht hi9 hone ?_)
    have hs : (V.setCells D 0 L).rangeAt D 0 L := World.rangeAt_setCells_same V _ 0 L (by simpa using ht)
    have hld := run_loadVar_mid (P := Tryz.prog) (V.setCells D 0 L) D 0 27 L _ hs Tryz.underlying27 rfl hi9
    refine bodyPost_ret (v := .agg L.toArray) ?_ rfl ⟨by rw [HF.out, hX, HL.out], by rw [hB]; exact belows_put lD L 0 HB9.out⟩
    simp [results, Tryz.f36, Act.put, asAddr, hld]
  · skip
    go_enter Tryz.func36, Tryz.ntmps36
    go_upto_region 3 with (first | (go_at_call 68; refine (hw.out _).mono ?_; rintro e w' ⟨rfl, hw2⟩; rw [hw2]; clear hw2 w') | (go_at_call 67; refine (hl.out _).mono ?_; rintro e w' ⟨rfl, hw2⟩; rw [hw2]; clear hw2 w') | (go_at_call 69; refine (hc.out _).mono ?_; rintro e w' ⟨rfl, hw2⟩; rw [hw2]; clear hw2 w'))
    obtain ⟨V, hV⟩ : ∃ V, (w.alloc (.cells A0 27)).alloc (.cells Z 27) = V := ⟨_, rfl⟩
    have HE : Hid (Bk .u8 V w.heap.size 72 X ∧ Bk .u8 V (w.heap.size + 1) 72 (fun _ => 0) ∧ Below w.heap.size w V) := by rw [← hX]; exact HI0.out V hV
    obtain ⟨B, hB⟩ : ∃ B, w.heap.size = B := ⟨_, rfl⟩
    obtain ⟨D, hD⟩ : ∃ D, B + 1 = D := ⟨_, rfl⟩
    rw [hV]
    rw [hB, hD] at HE ⊢
    have lD : B ≤ D := by omega
    clear hV HI0 hw hc hl
    have hr := HE.out.1.range
    have ht := HE.out.2.1.there .u8 X
    have hi9 : (Tryz.prog.info? 27).map (·.size) = some (ints .u8 72 X).length := by rw [ints_len]; exact infoR
    have hone := ints_one .u8 72 X
    have HBl := HE.out.2.2
    obtain ⟨L, hL⟩ : ∃ L, ints .u8 72 X = L := ⟨_, rfl⟩
    rw [hL] at hr ht hi9 hone
    have HL : Hid (ints .u8 72 X = L) := hL
    have HB9 : Hid (Below B w V) := HBl
    clear hL HBl HE
    go_wp2_with (first | refine wpList_load_mid rfl 27 _ rfl _ 0 rfl L _ hr Tryz.underlying27 rfl hi9 ?_ | refine wpList_store_mid rfl 27 _ _ rfl _ 0 L.toArray rfl rfl ht hi9 hone ?_)
    have hs : (V.setCells D 0 L).rangeAt D 0 L := World.rangeAt_setCells_same V _ 0 L (by simpa using ht)
    have hld := run_loadVar_mid (P := Tryz.prog) (V.setCells D 0 L) D 0 27 L _ hs Tryz.underlying27 rfl hi9
    refine bodyPost_ret (v := .agg L.toArray) ?_ rfl ⟨by rw [HF.out, hX, HL.out], by rw [hB]; exact belows_put lD L 0 HB9.out⟩
    simp [results, Tryz.f36, Act.put, asAddr, hld]
end Go.Proofs.YtoimbjbdkkohcaaGreatDoor

/-
  Bits turned and forced, by the program.
-/
namespace Go.Proofs.YtoimbjbdkkohcaaGreatDoor
open Go.RowKit Go.Shelf
attribute [local go_sem] Oper.semAt_some

theorem cut0R (b : Nat) (w : World) : (Instr.sliceAt 27 (.pointer (some ⟨b, 0, none⟩)) none none none).run Tryz.prog w = .ok (.slice (some ⟨b, 0, none⟩) 72 72) w := by
  simp [Instr.sliceAt, go_sem]
theorem exec_sliceR {P : Program} {o : Oper} {a : Act} (t : TypeId) (x : Operand) (ho : o.op = .slice t x none none none) (vx v : Value) (hx : a.eval x = vx)
    (h : ∀ w, (Instr.sliceAt t vx none none none).run P w = .ok v w) (w : World) : (execOp a.eval o).run P w = .ok (.value v) w := by
  simp [execOp, ho, hx, h]
/-- a slice of all of a block, as functions of Nat -/
theorem all_sl (F : Nat → Int) (w : World) (B : Nat) (hF : Byts 72 F) (h : Bk .u8 w B 72 F) : Sl w (some ⟨B, 0, none⟩) 72 72 (pc F 0 72) := pc_sl F w B 0 72 72 hF h (by omega) (by omega)
theorem pc_at (F : Nat → Int) (hF : Byts 72 F) (j : Nat) (hj : j < 72) : ((pc F 0 72 j : Nat) : Int) = F j := by
  have := hF j hj
  unfold pc
  rw [if_pos hj, Nat.zero_add]; omega

set_option maxRecDepth 100000 in
set_option maxHeartbeats 1000000 in
theorem flipR_core (F : Nat → Int) (b : Int) (G : Nat → Nat) (hcall : ∀ (B : Nat) (W : World), Bk .u8 W B 72 F → Calls Tryz.prog 31 #[.slice (some ⟨B, 0, none⟩) 72 72, .int .i64 b] W fun e w' => ∃ a' c', e = .returned (.slice a' 72 c') ∧ NewSl W w' a' 72 c' G) (w : World) :
    Calls Tryz.prog 13 #[.agg (ints .u8 72 F).toArray, .int .i64 b] w fun e w' => e = .returned (.agg (ints .u8 72 fun j => (G j : Int)).toArray) ∧ Below w.heap.size w w' := by
  have hz := zeroR
  obtain ⟨A0, hA0⟩ : ∃ A, (ints .u8 72 F).toArray = A := ⟨_, rfl⟩
  obtain ⟨Z, hZ⟩ : ∃ A, (ints .u8 72 fun _ => 0).toArray = A := ⟨_, rfl⟩
  rw [hA0]
  rw [hZ] at hz
  have HC : Hid (∀ (B : Nat) (W : World), Bk .u8 W B 72 F → Calls Tryz.prog 31 #[.slice (some ⟨B, 0, none⟩) 72 72, .int .i64 b] W fun e w' => ∃ a' c', e = .returned (.slice a' 72 c') ∧ NewSl W w' a' 72 c' G) := hcall
  clear hcall
  go_enter Tryz.func13, Tryz.ntmps13
  go_upto_region 1 with (fail)
  obtain ⟨V, hV⟩ : ∃ V, (w.alloc (.cells A0 27)).alloc (.cells Z 27) = V := ⟨_, rfl⟩
  have HI : Hid (Bk .u8 V w.heap.size 72 F ∧ Bk .u8 V (w.heap.size + 1) 72 (fun _ => 0) ∧ Below w.heap.size w V) := by
    rw [← hV, ← hA0, ← hZ]
    have h1 := Bk.new .u8 (w.alloc (.cells (ints .u8 72 F).toArray 27)) 72 (fun _ => 0) 27
    simp only [World.size_alloc] at h1
    exact ⟨(Bk.new .u8 w 72 F _).alloc _, h1, ((Below.refl _ w).alloc (Nat.le_refl _) _).alloc (by simp) _⟩
  obtain ⟨B, hB⟩ : ∃ B, w.heap.size = B := ⟨_, rfl⟩
  obtain ⟨D, hD⟩ : ∃ D, B + 1 = D := ⟨_, rfl⟩
  rw [hV]
  rw [hB, hD] at HI ⊢
  have lD : B ≤ D := by omega
  have nD : D ≠ B := by omega
  clear hV hZ hA0 hz
  refine region_ends (by kernel_rfl) (fun _ => True) (fun a' w' => (∃ v8, a' = ({ tmps := #[.agg A0, .int .i64 b, .pointer (some ⟨B, 0, none⟩), undef, .pointer (some ⟨D, 0, none⟩), .slice (some ⟨B, 0, none⟩) 72 72, .slice (some ⟨B, 0, none⟩) 72 72, .int .i64 b, v8, goInt 72, undef], defers := [] } : Act)) ∧ Bk .u8 w' B 72 (fun j => (G j : Int)) ∧ Bk .u8 w' D 72 (fun _ => 0) ∧ Below B w w') trivial (fun hH => ?_) ?_
  · refine take_pure 0 (v := .slice (some ⟨B, 0, none⟩) 72 72) rfl (by kernel_rfl) rfl (fun w' hw => exec_sliceR _ _ rfl _ _ rfl (cut0R B) w') hH ?_
    refine take_pure 1 (v := .slice (some ⟨B, 0, none⟩) 72 72) rfl (by kernel_rfl) rfl (fun w' hw => exec_sliceR _ _ rfl _ _ rfl (cut0R B) w') hH ?_
    refine take_pure 2 (v := .int .i64 b) rfl (by kernel_rfl) rfl (fun w' hw => by simp [execOp, go_sem]) hH ?_
    refine take_one 3 rfl rfl (by kernel_rfl) ?_
    refine wp_contract 31 [.tmp 6, .tmp 7] _ rfl (enters_of Tryz.func31 (by kernel_rfl) rfl) [.slice (some ⟨B, 0, none⟩) 72 72, .int .i64 b] rfl (HC.out B V.drew HI.out.1.drew) ?_
    rintro e W' ⟨a', c', rfl, hN⟩
    refine ⟨_, rfl, trivial, fun hH => ?_⟩
    obtain ⟨g, rfl, hg, _⟩ := hN.fresh (by omega)
    obtain ⟨g', o', e', hc⟩ := hN.sl.cells (by omega)
    cases e'
    have hbl : Below V.heap.size V W' := (below_drew1 V).trans hN.below
    refine take_one 4 rfl rfl (by kernel_rfl) ?_
    refine wp_cpy _ _ rfl B 0 72 72 g 0 72 c' 72 72 F (fun j => (G j : Int)) rfl rfl (HI.out.1.next hbl) rfl (fun j hj => hc j hj) (by omega) ?_
    intro V2 g2 k2
    refine ⟨trivial, fun hH2 => ?_⟩
    exact wpAnyH_done (by kernel_rfl) ⟨⟨_, rfl⟩, g2.out.congr fun i hi => by unfold lay; rw [if_pos (by omega), Nat.sub_zero], (HI.out.2.1.next hbl).of (k2.out.block D nD), k2.out.below _ _ (HI.out.2.2.trans (hbl.mono (Nat.le_of_lt HI.out.1.lt))) (Nat.le_refl _)⟩ _
  rintro a' V2 ⟨⟨v8, rfl⟩, h2⟩
  obtain ⟨X, hX⟩ : ∃ X, (fun j => (G j : Int)) = X := ⟨_, rfl⟩
  rw [hX] at h2
  have HE : Hid (Bk .u8 V2 B 72 X ∧ Bk .u8 V2 D 72 (fun _ => 0) ∧ Below B w V2) := h2
  clear h2 HI nD HC
  have hr := HE.out.1.range
  have ht := HE.out.2.1.there .u8 X
  have hi9 : (Tryz.prog.info? 27).map (·.size) = some (ints .u8 72 X).length := by rw [ints_len]; exact infoR
  have hone := ints_one .u8 72 X
  have HBl := HE.out.2.2
  obtain ⟨L, hL⟩ : ∃ L, ints .u8 72 X = L := ⟨_, rfl⟩
  rw [hL] at hr ht hi9 hone
  have HL : Hid (ints .u8 72 X = L) := hL
  have HB9 : Hid (Below B w V2) := HBl
  clear hL HBl HE
  go_wp2_with (first | refine wpList_load_mid rfl 27 _ rfl _ 0 rfl L _ hr Tryz.underlying27 rfl hi9 ?_ | refine wpList_store_mid rfl 27 _ _ rfl _ 0 L.toArray rfl rfl ht hi9 hone ?_)
  have hs : (V2.setCells D 0 L).rangeAt D 0 L := World.rangeAt_setCells_same V2 _ 0 L (by simpa using ht)
  have hld := run_loadVar_mid (P := Tryz.prog) (V2.setCells D 0 L) D 0 27 L _ hs Tryz.underlying27 rfl hi9
  refine bodyPost_ret (v := .agg L.toArray) ?_ rfl ⟨by rw [hX, HL.out], by rw [hB]; exact belows_put lD L 0 HB9.out⟩
  simp [results, Tryz.f13, Act.put, asAddr, hld]
/-- F with the bit i turned -/
def flR (F : Nat → Int) (i : Nat) : Nat → Int := fun j => ((flp (pc F 0 72) i j : Nat) : Int)
theorem flR_at (F : Nat → Int) (hF : Byts 72 F) (i j : Nat) (hj : j < 72) : flR F i j = if j = i / 8 then (((F j).toNat ^^^ 2 ^ (i % 8) : Nat) : Int) else F j := by
  have h := pc_at F hF j hj
  unfold flR flp
  by_cases e : j = i / 8
  · rw [if_pos e, if_pos e]; congr 2; omega
  · rw [if_neg e, if_neg e]; exact h
theorem flipR_yes (F : Nat → Int) (hF : Byts 72 F) (i : Nat) (hi : i < 576) (w : World) :
    Calls Tryz.prog 13 #[.agg (ints .u8 72 F).toArray, .int .i64 (i : Int)] w fun e w' => e = .returned (.agg (ints .u8 72 (flR F i)).toArray) ∧ Below w.heap.size w w' :=
  flipR_core F i (flp (pc F 0 72) i) (fun B W h => flip_yes _ 72 72 (pc F 0 72) i (by omega) (by omega) W (all_sl F W B hF h)) w
theorem flipR_no (F : Nat → Int) (hF : Byts 72 F) (b : Int) (hb : b < 0 ∨ 576 ≤ b) (hb2 : b ≤ 9223372036854775807) (w : World) :
    Calls Tryz.prog 13 #[.agg (ints .u8 72 F).toArray, .int .i64 b] w fun e w' => e = .returned (.agg (ints .u8 72 F).toArray) ∧ Below w.heap.size w w' := by
  have := flipR_core F b (pc F 0 72) (fun B W h => flip_no _ 72 72 (pc F 0 72) b (by omega) hb2 (by omega) W (all_sl F W B hF h)) w
  rwa [ints_congr .u8 72 _ F (fun j hj => pc_at F hF j hj)] at this
end Go.Proofs.YtoimbjbdkkohcaaGreatDoor

/-
  Geometries, by numbers alone: which are right, which places they have, a place's index; plain mathematics.
-/
namespace Go.Proofs.YtoimbjbdkkohcaaGreatDoor
open Go.RowKit
open Bm (wt wtK)
namespace Ge

/-- a power of 2 up to m, of those up to 1024 -/
def pw (n m : Int) : Bool := decide (n = 1 ∨ n = 2 ∨ n = 4 ∨ n = 8 ∨ n = 16 ∨ n = 32 ∨ n = 64 ∨ n = 128 ∨ n = 256 ∨ n = 512 ∨ n = 1024) && decide (n ≤ m)
theorem pw_pos {n m : Int} (h : pw n m = true) : 0 < n ∧ n ≤ m := by
  unfold pw at h
  simp only [Bool.and_eq_true, decide_eq_true_eq] at h
  omega
theorem pw_low {n m : Int} (h : n ≤ 0) : pw n m = false := by
  cases e : pw n m with
  | false => rfl
  | true => have := pw_pos e; omega
theorem pw_high {n m : Int} (h : m < n) : pw n m = false := by
  cases e : pw n m with
  | false => rfl
  | true => have := pw_pos e; omega
def isp (k : Nat) : Bool := decide (k = 1 ∨ k = 2 ∨ k = 4 ∨ k = 8 ∨ k = 16 ∨ k = 32 ∨ k = 64 ∨ k = 128 ∨ k = 256 ∨ k = 512 ∨ k = 1024)
theorem isp_wt : ∀ k, k < 1025 → decide (wt k = 1) = isp k := by decide +kernel
theorem isp_pw (k : Nat) (m : Int) (h : (k : Int) ≤ m) : isp k = pw k m := by
  unfold isp pw
  rw [decide_eq_true h, Bool.and_true, Bool.eq_iff_iff, decide_eq_true_eq, decide_eq_true_eq]
  omega

/-- a right geometry: ranks, spares, banks, rows, columns -/
def rt (r s b o c : Int) : Bool := pw r 8 && decide (0 ≤ s) && decide (s ≤ 8 - r) && pw b 16 && pw o 1024 && pw c 64 && decide ((r + s) * b * o * c ≤ 4096)
theorem rt_all {r s b o c : Int} (h : rt r s b o c = true) : (0 < r ∧ r ≤ 8) ∧ (0 ≤ s ∧ s ≤ 8 - r) ∧ (0 < b ∧ b ≤ 16) ∧ (0 < o ∧ o ≤ 1024) ∧ (0 < c ∧ c ≤ 64) ∧ (r + s) * b * o * c ≤ 4096 := by
  unfold rt at h
  simp only [Bool.and_eq_true, decide_eq_true_eq] at h
  obtain ⟨⟨⟨⟨⟨⟨h1, h2⟩, h3⟩, h4⟩, h5⟩, h6⟩, h7⟩ := h
  exact ⟨pw_pos h1, ⟨h2, h3⟩, pw_pos h4, pw_pos h5, pw_pos h6, h7⟩
/-- a geometry has a place -/
def hd (r s b o c p q u v : Int) : Bool := rt r s b o c && decide (0 ≤ p ∧ p < r + s) && decide (0 ≤ q ∧ q < b) && decide (0 ≤ u ∧ u < o) && decide (0 ≤ v ∧ v < c)
theorem hd_all {r s b o c p q u v : Int} (h : hd r s b o c p q u v = true) : rt r s b o c = true ∧ (0 ≤ p ∧ p < r + s) ∧ (0 ≤ q ∧ q < b) ∧ (0 ≤ u ∧ u < o) ∧ (0 ≤ v ∧ v < c) := by
  unfold hd at h
  simp only [Bool.and_eq_true, decide_eq_true_eq] at h
  obtain ⟨⟨⟨⟨h1, h2⟩, h3⟩, h4⟩, h5⟩ := h
  exact ⟨h1, h2, h3, h4, h5⟩
/-- a place's index -/
def ix (p q u v : Int) : Int := 1048576 * p + 65536 * q + 64 * u + v
end Ge
end Go.Proofs.YtoimbjbdkkohcaaGreatDoor

/-
  The walks of package geom, the leaves: powers of 2, indices, places, an index's lowest bits; the document's.
-/
namespace Go.Proofs.YtoimbjbdkkohcaaGreatDoor
open Go.RowKit
open Bm (wt wtK)
open Ge (pw rt hd ix)

/-- the lowest bits of a number -/
theorem i64_mask (i : Int) (k M : Nat) (hk : k < 63) (hM : 2 ^ k = M) : bits .and .i64 i ((M - 1 : Nat) : Int) = i % (M : Int) := by
  have hM1 : M ≤ 9223372036854775808 := by rw [← hM]; exact Nat.le_trans (Nat.pow_le_pow_right (by omega) (show k ≤ 63 by omega)) (by decide)
  have hM0 : 0 < M := by rw [← hM]; exact Nat.pow_pos (by omega)
  show IntKind.i64.wrap ((BitVec.ofInt 64 i &&& BitVec.ofInt 64 ((M - 1 : Nat) : Int)).toNat : Int) = _
  rw [BitVec.toNat_and, ofInt_u64 (M - 1) (by omega)]
  rw [← hM, Nat.and_two_pow_sub_one_eq_mod, hM]
  have e1 : ((BitVec.ofInt 64 i).toNat : Int) = i % 18446744073709551616 := by rw [BitVec.toNat_ofInt]; simp; omega
  have e2 : (((BitVec.ofInt 64 i).toNat % M : Nat) : Int) = i % (M : Int) := by
    rw [Int.natCast_emod, e1]
    refine Int.emod_emod_of_dvd _ ?_
    rw [← hM]
    exact Int.ofNat_dvd.2 (show 2 ^ k ∣ 2 ^ 64 from Nat.pow_dvd_pow 2 (by omega))
  have b0 : 0 ≤ i % (M : Int) := Int.emod_nonneg _ (by omega)
  have b1 : i % (M : Int) < M := Int.emod_lt_of_pos _ (by omega)
  rw [e2]
  simp [IntKind.wrap, IntKind.bits, IntKind.signed]
  omega
/-- numbers that share no bit -/
theorem i64_join (x y : Int) (k : Nat) (hx : 0 ≤ x) (hx1 : x < 4611686018427387904) (hd : x % ((2 ^ k : Nat) : Int) = 0) (hy : 0 ≤ y) (hy1 : y < ((2 ^ k : Nat) : Int)) (hk : k < 62) : bits .or .i64 x y = x + y := by
  obtain ⟨a, rfl⟩ := Int.eq_ofNat_of_zero_le hx
  obtain ⟨b, rfl⟩ := Int.eq_ofNat_of_zero_le hy
  have h2 : 2 ^ k ≤ 4611686018427387904 := Nat.le_trans (Nat.pow_le_pow_right (by omega) (show k ≤ 62 by omega)) (by decide)
  have hb : b < 2 ^ k := by omega
  have ha : a % 2 ^ k = 0 := by rw [← Int.natCast_emod] at hd; omega
  show IntKind.i64.wrap ((BitVec.ofInt 64 (a : Int) ||| BitVec.ofInt 64 (b : Int)).toNat : Int) = _
  rw [BitVec.toNat_or, ofInt_u64 a (by omega), ofInt_u64 b (by omega), nat_join k a b ha hb]
  simp [IntKind.wrap, IntKind.bits, IntKind.signed]
  omega

theorem lowest_any (i : Int) (w : World) :
    Calls Tryz.prog 66 #[.int .i64 i] w fun e w' => e = .returned (.int .u32 (i % 8388608)) ∧ w' = w := by
  have hm : bits .and .i64 i 8388607 = i % 8388608 := i64_mask i 23 8388608 (by omega) (by decide)
  have b0 : 0 ≤ i % 8388608 := by omega
  have b1 : i % 8388608 < 8388608 := by omega
  have Hm : Hid (i % 8388608 % 4294967296 = i % 8388608) := by show _ = _; omega
  go_enter Tryz.func66, Tryz.ntmps66
  go_wp2_with (simp only [hm])
  go_ret
  exact ⟨rfl, rfl⟩
theorem parity_any (i : Int) (w : World) : ∃ k : Nat, (k : Int) = i % 8388608 ∧ k < 8388608 ∧
    Calls Tryz.prog 34 #[.int .i64 i] w fun e w' => e = .returned (.int .i64 ((wt k % 2 : Nat) : Int)) ∧ w' = w := by
  have b0 : 0 ≤ i % 8388608 := by omega
  have b1 : i % 8388608 < 8388608 := by omega
  obtain ⟨k, hk⟩ := Int.eq_ofNat_of_zero_le b0
  have hk1 : k < 4294967296 := by omega
  have hl : Hid (∀ w, Calls Tryz.prog 66 #[.int .i64 i] w fun e w' => e = .returned (.int .u32 (k : Int)) ∧ w' = w) := fun w => by rw [← hk]; exact lowest_any i w
  refine ⟨k, hk.symm, by omega, ?_⟩
  clear b0 b1 hk
  obtain ⟨t, Ht⟩ : ∃ t, Hid (wt k % 2 = t) := ⟨_, rfl⟩
  rw [Ht.out]
  have hp : Hid (∀ w, Calls Tryz.prog 65 #[.int .u32 (k : Int)] w fun e w' => e = .returned (.int .i64 (t : Int)) ∧ w' = w) := fun w => by rw [← Ht.out]; exact parity32_any k hk1 w
  go_enter Tryz.func34, Tryz.ntmps34
  go_wp2_with (first | (go_at_call 66; refine (hl.out _).mono ?_; rintro e w' ⟨rfl, rfl⟩) | (go_at_call 65; refine (hp.out _).mono ?_; rintro e w' ⟨rfl, rfl⟩))
  go_ret
  exact ⟨rfl, rfl⟩
theorem bytes_any (i : Int) (w : World) :
    Calls Tryz.prog 74 #[.int .i64 i] w fun e w' => e = .returned (.agg #[.int .u8 (i % 8388608 % 256), .int .u8 (i % 8388608 / 256 % 256), .int .u8 (i % 8388608 / 65536 % 256)]) ∧ Below w.heap.size w w' := by
  have b0 : 0 ≤ i % 8388608 := by omega
  have b1 : i % 8388608 < 8388608 := by omega
  obtain ⟨k, Hk⟩ : ∃ k, Hid (i % 8388608 = k) := ⟨_, rfl⟩
  have hl : Hid (∀ w, Calls Tryz.prog 66 #[.int .i64 i] w fun e w' => e = .returned (.int .u32 k) ∧ w' = w) := fun w => by rw [← Hk.out]; exact lowest_any i w
  rw [Hk.out] at b0 b1 ⊢
  go_enter Tryz.func74, Tryz.ntmps74
  go_wp2_with (go_at_call 66; refine (hl.out _).mono ?_; rintro e w' ⟨rfl, rfl⟩)
  refine bodyPost_ret (results_cell_row rfl _ _ w.heap.size _ _ (0, 0) _ rfl (World.alloc_heap_new w _) Tryz.underlying54 rfl (by kernel_rfl)) rfl ⟨?_, (Below.refl _ w).alloc (Nat.le_refl _) _⟩
  rw [show k / 65536 % 256 = k / 65536 from by omega]

end Go.Proofs.YtoimbjbdkkohcaaGreatDoor

/-
  The walks of package geom: which geometries are right, which places they have; the document's.
-/
namespace Go.Proofs.YtoimbjbdkkohcaaGreatDoor
open Go.RowKit
open Bm (wt wtK)
open Ge (pw rt hd ix)

theorem low_prod (x y : Int) (a b : Int) (hx : 0 ≤ x) (hxa : x ≤ a) (hy : 0 ≤ y) (hyb : y ≤ b) : 0 ≤ x * y ∧ x * y ≤ a * b :=
  ⟨Int.mul_nonneg hx hy, Int.mul_le_mul hxa hyb hy (by omega)⟩
end Go.Proofs.YtoimbjbdkkohcaaGreatDoor

/-
  The walks of package geom: the document's Right; which places a geometry has.
-/
namespace Go.Proofs.YtoimbjbdkkohcaaGreatDoor
open Go.RowKit
open Ge (pw rt hd ix)

/-- a number of int -/
def I64 (x : Int) : Prop := -9223372036854775808 ≤ x ∧ x < 9223372036854775808

end Go.Proofs.YtoimbjbdkkohcaaGreatDoor

/-
  The walks of package geom: Index, At, PerRank, Pages; the document's example.
-/
namespace Go.Proofs.YtoimbjbdkkohcaaGreatDoor
open Go.RowKit
open Ge (pw rt hd ix)

/-- five numbers, four numbers -/
def gfn (r s b o c : Int) : Nat → Int
  | 0 => r
  | 1 => s
  | 2 => b
  | 3 => o
  | _ => c
def pfn (p q u v : Int) : Nat → Int
  | 0 => p
  | 1 => q
  | 2 => u
  | _ => v
/-- a geometry in block b -/
def Gm (W : World) (b : Nat) (r s b' o c : Int) : Prop := Bk .i64 W b 5 (gfn r s b' o c)
/-- a place in block b -/
def Pl (W : World) (b : Nat) (p q u v : Int) : Prop := Bk .i64 W b 4 (pfn p q u v)
theorem Gm.new (W : World) (r s b o c : Int) (t : TypeId) : Gm (W.alloc (.cells #[.int .i64 r, .int .i64 s, .int .i64 b, .int .i64 o, .int .i64 c] t)) W.heap.size r s b o c := Bk.new .i64 W 5 (gfn r s b o c) t
theorem Pl.new (W : World) (p q u v : Int) (t : TypeId) : Pl (W.alloc (.cells #[.int .i64 p, .int .i64 q, .int .i64 u, .int .i64 v] t)) W.heap.size p q u v := Bk.new .i64 W 4 (pfn p q u v) t
theorem Gm.c0 {W : World} {b : Nat} {r s b' o c : Int} (h : Gm W b r s b' o c) : W.cell? ⟨b, 0, none⟩ = some (.int .i64 r) := Bk.cell h 0 (by omega)
theorem Gm.c1 {W : World} {b : Nat} {r s b' o c : Int} (h : Gm W b r s b' o c) : W.cell? ⟨b, 1, none⟩ = some (.int .i64 s) := Bk.cell h 1 (by omega)
theorem Gm.c2 {W : World} {b : Nat} {r s b' o c : Int} (h : Gm W b r s b' o c) : W.cell? ⟨b, 2, none⟩ = some (.int .i64 b') := Bk.cell h 2 (by omega)
theorem Gm.c3 {W : World} {b : Nat} {r s b' o c : Int} (h : Gm W b r s b' o c) : W.cell? ⟨b, 3, none⟩ = some (.int .i64 o) := Bk.cell h 3 (by omega)
theorem Gm.c4 {W : World} {b : Nat} {r s b' o c : Int} (h : Gm W b r s b' o c) : W.cell? ⟨b, 4, none⟩ = some (.int .i64 c) := Bk.cell h 4 (by omega)
theorem Pl.c0 {W : World} {b : Nat} {p q u v : Int} (h : Pl W b p q u v) : W.cell? ⟨b, 0, none⟩ = some (.int .i64 p) := Bk.cell h 0 (by omega)
theorem Pl.c1 {W : World} {b : Nat} {p q u v : Int} (h : Pl W b p q u v) : W.cell? ⟨b, 1, none⟩ = some (.int .i64 q) := Bk.cell h 1 (by omega)
theorem Pl.c2 {W : World} {b : Nat} {p q u v : Int} (h : Pl W b p q u v) : W.cell? ⟨b, 2, none⟩ = some (.int .i64 u) := Bk.cell h 2 (by omega)
theorem Pl.c3 {W : World} {b : Nat} {p q u v : Int} (h : Pl W b p q u v) : W.cell? ⟨b, 3, none⟩ = some (.int .i64 v) := Bk.cell h 3 (by omega)
theorem Gm.next {W W' : World} {b : Nat} {r s b' o c : Int} (h : Gm W b r s b' o c) (k : Below W.heap.size W W') : Gm W' b r s b' o c := Bk.next h k
theorem Pl.next {W W' : World} {b : Nat} {p q u v : Int} (h : Pl W b p q u v) (k : Below W.heap.size W W') : Pl W' b p q u v := Bk.next h k
theorem Gm.alloc {W : World} {b : Nat} {r s b' o c : Int} (h : Gm W b r s b' o c) (x : Obj) : Gm (W.alloc x) b r s b' o c := Bk.alloc h x
theorem Pl.alloc {W : World} {b : Nat} {p q u v : Int} (h : Pl W b p q u v) (x : Obj) : Pl (W.alloc x) b p q u v := Bk.alloc h x
theorem Gm.lt {W : World} {b : Nat} {r s b' o c : Int} (h : Gm W b r s b' o c) : b < W.heap.size := Bk.lt h
theorem Pl.lt {W : World} {b : Nat} {p q u v : Int} (h : Pl W b p q u v) : b < W.heap.size := Bk.lt h

theorem hd_bounds {r s b o c p q u v : Int} (h : hd r s b o c p q u v = true) : (0 ≤ p ∧ p < 8) ∧ (0 ≤ q ∧ q < 16) ∧ (0 ≤ u ∧ u < 1024) ∧ (0 ≤ v ∧ v < 64) := by
  obtain ⟨h0, h1, h2, h3, h4⟩ := Ge.hd_all h
  have := Ge.rt_all h0
  omega

/-- how many lines a rank has, how many pages there are -/
def perR (r s b o c : Int) : Int := if rt r s b o c = true then b * o * c else 0
def pgs (r s b o c : Int) : Int := if rt r s b o c = true then r * b * o else 0
theorem rt_prods {r s b o c : Int} (h : rt r s b o c = true) : (0 ≤ b * o ∧ b * o ≤ 16384) ∧ (0 ≤ b * o * c ∧ b * o * c ≤ 1048576) ∧ (0 ≤ r * b ∧ r * b ≤ 128) ∧ (0 ≤ r * b * o ∧ r * b * o ≤ 131072) := by
  have h1 := Ge.rt_all h
  have p1 := low_prod b o 16 1024 (by omega) (by omega) (by omega) (by omega)
  have p2 := low_prod (b * o) c 16384 64 (by omega) (by omega) (by omega) (by omega)
  have p3 := low_prod r b 8 16 (by omega) (by omega) (by omega) (by omega)
  have p4 := low_prod (r * b) o 128 1024 (by omega) (by omega) (by omega) (by omega)
  omega
/-- the place that an index has, if any -/
def hx (r s b o c i : Int) : Bool := hd r s b o c (i / 1048576) (i / 65536 % 16) (i / 64 % 1024) (i % 64)
end Go.Proofs.YtoimbjbdkkohcaaGreatDoor

/-
  The leaves of package codec: a bit, a word's verdict, what is told of a line, a word's bytes and its number; whether there is a mode.
-/
namespace Go.Proofs.YtoimbjbdkkohcaaGreatDoor
open Go.RowKit Go.Shelf
open Bm (wt wtK)
open Ln (val wrd)
open Po (El toE)
attribute [local go_sem] Oper.semAt_some

theorem bitOf_any (p : Bool) (w : World) : Calls Tryz.prog 35 #[.bool p] w fun e w' => e = .returned (.int .i64 (if p then 1 else 0)) ∧ w' = w := by
  cases p
  · go_enter Tryz.func35, Tryz.ntmps35
    go_wp2
    go_ret
    exact ⟨rfl, rfl⟩
  · go_enter Tryz.func35, Tryz.ntmps35
    go_wp2
    go_ret
    exact ⟨rfl, rfl⟩
/-- a word's verdict in the mode 1 -/
def kB (s : Nat) : Int := if Hm.kd s = 0 then 0 else if Hm.kd s = 1 then 1 else if Hm.kd s = 2 then 2 else 3
theorem ofBits_any (s : Nat) (w : World) : Calls Tryz.prog 44 #[.int .i64 (Hm.kd s)] w fun e w' => e = .returned (.int .i64 (kB s)) ∧ w' = w := by
  unfold kB
  obtain ⟨k, hk⟩ : ∃ k, Hm.kd s = k := ⟨_, rfl⟩
  rw [hk]
  clear hk
  by_cases h0 : k = 0
  · subst h0
    go_enter Tryz.func44, Tryz.ntmps44
    go_wp2
    go_ret
    exact ⟨rfl, rfl⟩
  · have d0 : (k == 0) = false := by simpa using h0
    rw [if_neg h0]
    by_cases h1 : k = 1
    · subst h1
      go_enter Tryz.func44, Tryz.ntmps44
      go_wp2
      go_ret
      exact ⟨rfl, rfl⟩
    · have d1 : (k == 1) = false := by simpa using h1
      rw [if_neg h1]
      by_cases h2 : k = 2
      · subst h2
        go_enter Tryz.func44, Tryz.ntmps44
        go_wp2
        go_ret
        exact ⟨rfl, rfl⟩
      · have d2 : (k == 2) = false := by simpa using h2
        rw [if_neg h2]
        go_enter Tryz.func44, Tryz.ntmps44
        go_wp2
        go_ret
        exact ⟨rfl, rfl⟩
theorem mode10_any (m : Int) (w : World) : Calls Tryz.prog 8 #[.int .i64 m] w fun e w' => e = .returned (.bool (decide (m = 1 ∨ m = 2))) ∧ w' = w := by
  by_cases h1 : m = 1
  · subst h1
    go_enter Tryz.func8, Tryz.ntmps8
    go_wp2
    go_ret
    exact ⟨rfl, rfl⟩
  · have d1 : (m == 1) = false := by simpa using h1
    by_cases h2 : m = 2
    · subst h2
      go_enter Tryz.func8, Tryz.ntmps8
      go_wp2
      go_ret
      exact ⟨rfl, rfl⟩
    · have d2 : (m == 2) = false := by simpa using h2
      rw [show decide (m = 1 ∨ m = 2) = false by simp [h1, h2]]
      go_enter Tryz.func8, Tryz.ntmps8
      go_wp2
      go_ret
      exact ⟨rfl, rfl⟩

/-- append within the room, in a plain region -/
theorem wpList_app {w : World} {ops : Array Oper} {rest : List Oper} {o : Oper} {a : Act} {Q : Exit → Act → World → Prop} (hgd : o.guard = none) (d s : Operand)
    (ho : o.op = .call { callee := .builtin .append, args := #[d, s], argTypes := #[69, 69] })
    (g len cap sb m c n : Nat) (F G : Nat → Int) (hd : a.eval d = .slice (some ⟨g, 0, none⟩) len cap) (hs : a.eval s = .slice (some ⟨sb, 0, none⟩) m c)
    (hg : Bk .u8 w g n F) (hsrc : Bk .u8 w sb m G) (hroom : len + m ≤ cap) (hfit : len + m ≤ n)
    (h : wpList Tryz.prog ops Q rest (a.put o.dst (.slice (some ⟨g, 0, none⟩) (len + m) cap)) (w.setCells g len (ints .u8 m G))) : wpList Tryz.prog ops Q (o :: rest) a w := by
  refine wpList_plain hgd fun K hK => ?_
  exact wp_app d s ho g len cap sb m c n F G hd hs hg hsrc hroom hfit (hK _ _ h)
theorem run_make8 (w : World) : (Instr.makeSlice 69 (.int .i64 0) (.int .i64 8)).run Tryz.prog w = .ok (.slice (some ⟨w.heap.size, 0, none⟩) 0 8) (w.alloc (.cells (ints .u8 8 fun _ => 0).toArray 5)) := by
  obtain ⟨i, hi, hz0, hz1, hz2⟩ := info_parts byte_info
  have h := run_make (P := Tryz.prog) w 69 5 i (.int .u8 0) Tryz.underlying69 hi hz0 .i64 .i64 0 8 (by omega) (by omega) (by rw [hz2]; omega) (by omega)
  rw [hz1] at h
  have e : madeCells (Value.int .u8 0).cells ((8 : Int).toNat * 1) = (ints .u8 8 fun _ => 0).toArray := by kernel_rfl
  rw [e] at h
  exact h
/-- the byte j of a number -/
def nb (d j : Nat) : Int := ((d / 256 ^ j % 256 : Nat) : Int)
theorem nb_at (d j : Nat) : (d : Int) / 2 ^ (8 * j) % 256 = nb d j := by
  unfold nb
  rw [← (show (2 : Nat) ^ (8 * j) = 256 ^ j by rw [Nat.pow_mul])]
  simp
/-- between two rounds of bytesOf -/
structure ByI (E d : Nat) (w : World) (k : Nat) (wr : World) : Prop where
  o : Bk .u8 wr E 8 (fun j => if j < k then nb d j else 0)
  below : Below w.heap.size w wr
set_option maxRecDepth 100000 in
set_option maxHeartbeats 1000000 in
theorem bytesOf_any (d : Nat) (w : World) :
    Calls Tryz.prog 37 #[.int .u64 (d : Int)] w fun e w' => e = .returned (.slice (some ⟨w.heap.size, 0, none⟩) 8 8) ∧ Bk .u8 w' w.heap.size 8 (nb d) ∧ Below w.heap.size w w' := by
  have hmk := run_make8
  obtain ⟨A2, hA2⟩ : ∃ A, (ints .u8 8 fun _ => 0).toArray = A := ⟨_, rfl⟩
  rw [hA2] at hmk
  go_enter Tryz.func37, Tryz.ntmps37
  go_wp2
  obtain ⟨V, hV⟩ : ∃ V, w.alloc (.cells A2 5) = V := ⟨_, rfl⟩
  obtain ⟨E, hE⟩ : ∃ E, w.heap.size = E := ⟨_, rfl⟩
  have HI : Hid (ByI E d w 0 V) := by
    rw [← hV, ← hA2, ← hE]
    exact ⟨Bk.new .u8 w 8 (fun _ => 0) _, (Below.refl _ w).alloc (Nat.le_refl _) _⟩
  rw [hV, hE]
  clear hV hA2 hmk
  go_loopw [3, 6] (fun t i wr => ∃ k : Nat, k ≤ 8 ∧ t = .slice (some ⟨E, 0, none⟩) k 8 ∧ i = .int .i64 (k : Int) ∧ Hid (ByI E d w k wr)) (fun _ i _ => 8 - (intOf i).toNat)
  case atStart => exact ⟨0, by omega, rfl, rfl, HI⟩
  case round =>
    obtain ⟨k, hk, rfl, rfl, HK⟩ := hrel
    by_cases hlt : k < 8
    · have hnb := nb_at d k
      have hEr := HK.out.o.lt
      go_wp2_with (refine wpList_app rfl _ _ rfl E k 8 wr.heap.size 1 1 8 (fun j => if j < k then nb d j else 0) (fun _ => nb d k) rfl rfl (HK.out.o.alloc _) (by exact Bk.new .u8 wr 1 (fun _ => nb d k) 5) (by omega) (by omega) ?_)
      have HN : Hid (ByI E d w (k + 1) ((wr.alloc (.cells #[.int .u8 (nb d k)] 5)).setCells E k (ints .u8 1 fun _ => nb d k))) := by
        have hW : w.heap.size ≤ wr.heap.size := HK.out.below.size
        refine ⟨((HK.out.o.alloc _).putAt k 1 _).congr fun j hj => ?_, belows_put (by omega) _ _ (HK.out.below.alloc hW _)⟩
        show (if k ≤ j ∧ j < k + 1 then nb d k else if j < k then nb d j else 0) = if j < k + 1 then nb d j else 0
        by_cases h1 : j = k
        · rw [if_pos (by omega), if_pos (by omega), h1]
        · by_cases h2 : j < k
          · rw [if_neg (by omega), if_pos h2, if_pos (by omega)]
          · rw [if_neg (by omega), if_neg h2, if_neg (by omega)]
      go_roundw
      case rel => exact ⟨k + 1, by omega, rfl, by go_num, HN⟩
      case measure => simp [intOf]; omega
    · obtain rfl : k = 8 := by omega
      have HZ : Hid (Bk .u8 wr E 8 (nb d) ∧ Below w.heap.size w wr) := ⟨HK.out.o.congr fun i hi => by rw [if_pos hi], HK.out.below⟩
      clear HK HI
      go_wp2
      go_ret
      exact ⟨by rw [hE]; rfl, by rw [hE]; exact HZ.out.1, HZ.out.2⟩

/-- bytes' number -/
def dn (F : Nat → Int) (o : Nat) : Nat := val (fun i => (F i).toNat) 8 o
set_option maxRecDepth 100000 in
set_option maxHeartbeats 1000000 in
theorem dataOf_any (g c : Nat) (F : Nat → Int) (hF : ∀ j, j < 8 → 0 ≤ F j ∧ F j < 256) (w : World) (hc : ∀ j : Nat, j < 8 → w.cell? ⟨g, j, none⟩ = some (.int .u8 (F j))) :
    Calls Tryz.prog 43 #[.slice (some ⟨g, 0, none⟩) 8 c] w fun e w' => e = .returned (.int .u64 (dn F 0 : Int)) ∧ w' = w := by
  have HC : Hid (∀ j : Nat, j < 8 → w.cell? ⟨g, j, none⟩ = some (.int .u8 (F j))) := hc
  obtain ⟨u, Hu⟩ : ∃ u, Hid (dn F 0 = u) := ⟨_, rfl⟩
  rw [Hu.out]
  clear hc
  go_enter Tryz.func43, Tryz.ntmps43
  go_wp2
  go_loop [3, 8] (fun x i => ∃ j y : Nat, j ≤ 8 ∧ y < 18446744073709551616 ∧ Hid (y = val (fun i => (F i).toNat) j 0) ∧ x = .int .u64 (y : Int) ∧ i = .int .i64 (j : Int)) (fun _ i => 8 - (intOf i).toNat)
  case atStart => exact ⟨0, 0, by omega, by omega, rfl, rfl, rfl⟩
  case round =>
    obtain ⟨j, y, hj, hy, Hy, rfl, rfl⟩ := hrel
    by_cases hlt : j < 8
    · have c0 := HC.out j hlt
      have hb := hF j hlt
      obtain ⟨b, hb', Hb⟩ : ∃ b : Nat, b < 256 ∧ Hid (F j = (b : Int)) := ⟨(F j).toNat, by omega, by show _ = _; omega⟩
      rw [Hb.out] at c0
      have hyl : y < 256 ^ j := by
        rw [Hy.out]
        exact Ln.val_lt (fun i => (F i).toNat) j 0 (fun i _ h2 => by have := hF i (by omega); show (F i).toNat < 256; omega)
      have Ho : Hid (bits .or .u64 (y : Int) (IntKind.u64.wrap ((b : Int) * 2 ^ (8 * j))) = ((y + b * 256 ^ j : Nat) : Int)) := or_byte y b j hyl hb' hlt
      have HN : Hid (y + b * 256 ^ j = val (fun i => (F i).toNat) (j + 1) 0) := by
        show _ = _
        rw [Ln.val_top, ← Hy.out, Nat.zero_add, Hb.out, Int.toNat_natCast]
      have HL : Hid (y + b * 256 ^ j < 18446744073709551616) := by
        show _ < _
        rw [HN.out]
        exact Nat.lt_of_lt_of_le (Ln.val_lt (fun i => (F i).toNat) (j + 1) 0 (fun i _ h2 => by have := hF i (by omega); show (F i).toNat < 256; omega)) (by rw [show 18446744073709551616 = 256 ^ 8 from rfl]; exact Nat.pow_le_pow_right (by omega) (by omega))
      clear hb hyl Hy
      go_wp2
      go_round
      case rel => exact ⟨j + 1, y + b * 256 ^ j, by omega, HL.out, HN, by rw [Ho.out], by first | rfl | go_num⟩
      case measure => simp [intOf]; omega
    · obtain rfl : j = 8 := by omega
      have He : Hid (y = u) := by show _ = _; rw [← Hu.out, Hy.out]; rfl
      clear Hy
      go_wp2
      go_ret
      exact ⟨by rw [← He.out]; rfl, rfl⟩

/-- of the first k verdicts the greatest; how many are 1 -/
def top (K : Nat → Int) : Nat → Int
  | 0 => 0
  | k + 1 => max (top K k) (K k)
def cnt (K : Nat → Int) : Nat → Nat
  | 0 => 0
  | k + 1 => cnt K k + if K k = 1 then 1 else 0
theorem cnt_le (K : Nat → Int) (k : Nat) : cnt K k ≤ k := by
  induction k with
  | zero => exact Nat.le_refl _
  | succ k ih => rw [cnt]; split <;> omega
theorem top_bd (K : Nat → Int) (n : Nat) (h : ∀ j, j < n → 0 ≤ K j ∧ K j ≤ 3) : ∀ k, k ≤ n → 0 ≤ top K k ∧ top K k ≤ 3
  | 0, _ => ⟨Int.le_refl _, show (0 : Int) ≤ 3 by decide⟩
  | k + 1, hk => by
    have h1 := top_bd K n h k (by omega)
    have h2 := h k (by omega)
    rw [top]; omega
/-- two integers -/
def two (x y : Int) (i : Nat) : Int := if i = 0 then x else y
/-- a line's verdict -/
def vd2 (x y : Int) : List Value := ints .i64 2 (two x y)
theorem vd2_eq (x y : Int) : vd2 x y = [.int .i64 x, .int .i64 y] := rfl
theorem zero10 (w : World) : (zeroValue 30).run Tryz.prog w = .ok (.agg #[.int .i64 0, .int .i64 0]) w := by kernel_rfl
theorem info10 : (Tryz.prog.info? 30).map (·.size) = some 2 := by kernel_rfl
theorem Bk.new2 (W : World) (x y : Int) (t : TypeId) : Bk .i64 (W.alloc (.cells #[.int .i64 x, .int .i64 y] t)) W.heap.size 2 (two x y) := Bk.new .i64 W 2 (two x y) t
/-- between two rounds of together: the verdict lies in C, the result's block in B -/
structure TgI (B C : Nat) (x y : Int) (w W : World) : Prop where
  v : Bk .i64 W C 2 (two x y)
  r : Bk .i64 W B 2 (two 0 0)
  below : Below B w W
theorem TgI.set0 {B C : Nat} {x y : Int} {w W : World} (h : TgI B C x y w W) (hC : B < C) (z : Int) : TgI B C z y w (W.setCell ⟨C, 0, none⟩ (.int .i64 z)) :=
  ⟨(h.v.set 0 z).congr fun i hi => by unfold two; by_cases e : i = 0 <;> simp [e], h.r.other (by omega) 0 _, h.below.setCell (p := ⟨C, 0, none⟩) (by simp; omega) _⟩
theorem TgI.set1 {B C : Nat} {x y : Int} {w W : World} (h : TgI B C x y w W) (hC : B < C) (z : Int) : TgI B C x z w (W.setCell ⟨C, 1, none⟩ (.int .i64 z)) :=
  ⟨(h.v.set 1 z).congr fun i hi => by
    unfold two
    rcases (show i = 0 ∨ i = 1 by omega) with rfl | rfl <;> simp, h.r.other (by omega) 1 _, h.below.setCell (p := ⟨C, 1, none⟩) (by simp; omega) _⟩
set_option maxRecDepth 100000 in
set_option maxHeartbeats 1000000 in
theorem together_any (g c n : Nat) (hn : n ≤ 8) (K : Nat → Int) (hK : ∀ j, j < n → 0 ≤ K j ∧ K j ≤ 3) (w : World) (hc : Bk .i64 w g n K) :
    Calls Tryz.prog 47 #[.slice (some ⟨g, 0, none⟩) n c] w fun e w' => e = .returned (.agg (vd2 (top K n) (if top K n = 1 then (cnt K n : Int) else 0)).toArray) ∧ Below w.heap.size w w' := by
  have hz := zero10
  have HC : Hid (Bk .i64 w g n K) := hc
  have hgl := hc.lt
  have htop := top_bd K n hK
  have hcnt := cnt_le K
  obtain ⟨T, HT⟩ : ∃ T, Hid (top K = T) := ⟨_, rfl⟩
  obtain ⟨N, HN⟩ : ∃ N, Hid (cnt K = N) := ⟨_, rfl⟩
  have T0 : T 0 = 0 := by rw [← HT.out]; rfl
  have N0 : N 0 = 0 := by rw [← HN.out]; rfl
  have TS : Hid (∀ k, max (T k) (K k) = T (k + 1)) := fun k => by rw [← HT.out]; rfl
  have NS : Hid (∀ k, N (k + 1) = N k + if K k = 1 then 1 else 0) := fun k => by rw [← HN.out]; rfl
  rw [HT.out] at htop ⊢
  rw [HN.out] at hcnt ⊢
  clear HT HN
  obtain ⟨Y, HY⟩ : ∃ Y, Hid ((if T n = 1 then (N n : Int) else 0) = Y) := ⟨_, rfl⟩
  rw [HY.out]
  clear hc
  go_enter Tryz.func47, Tryz.ntmps47
  go_wp2
  obtain ⟨B, hB⟩ : ∃ B, w.heap.size = B := ⟨_, rfl⟩
  obtain ⟨C, hC⟩ : ∃ C, B + 1 = C := ⟨_, rfl⟩
  obtain ⟨V, hV⟩ : ∃ V, (w.alloc (.cells #[.int .i64 0, .int .i64 0] 30)).alloc (.cells #[.int .i64 0, .int .i64 0] 30) = V := ⟨_, rfl⟩
  have HI : Hid (TgI B C 0 0 w V) := by
    rw [← hV, ← hC, ← hB]
    have h1 := Bk.new2 (w.alloc (.cells #[.int .i64 0, .int .i64 0] 30)) 0 0 30
    simp only [World.size_alloc] at h1
    exact ⟨h1, (Bk.new2 w 0 0 _).alloc _, ((Below.refl _ w).alloc (Nat.le_refl _) _).alloc (by simp) _⟩
  have hBC : B < C := by omega
  have hgB : g < B := by omega
  rw [hV, hB, hC]
  clear hV hC
  go_loopw [8] (fun i wr => ∃ k : Nat, k ≤ n ∧ i = .int .i64 (k : Int) ∧ Hid (TgI B C (T k) (N k) w wr)) (fun i _ => n - (intOf i).toNat)
  case atStart => exact ⟨0, by omega, rfl, by rw [T0, N0]; exact HI⟩
  case round =>
    obtain ⟨k, hk, rfl, HK⟩ := hrel
    by_cases hlt : k < n
    · have c0 := (HC.out.below HK.out.below (by omega)).cell k hlt
      have c1 : wr.cell? ⟨C, 0, none⟩ = some (.int .i64 (T k)) := HK.out.v.cell 0 (by omega)
      have c2 : wr.cell? ⟨C, 1, none⟩ = some (.int .i64 (N k)) := HK.out.v.cell 1 (by omega)
      have f1 := HK.out.v.free 0
      have f2 := HK.out.v.free 1
      have hm : ∀ ts t w, (Builtin.max_ ts t #[.int .i64 (T k), .int .i64 (K k)]).run Tryz.prog w = .ok (.int .i64 (T (k + 1))) w := fun ts t w => max_run _ _ _ (TS.out k) ts t w
      have HS := HK.out.set0 hBC (T (k + 1))
      have hNk := NS.out k
      have hNl : (N k : Int) ≤ 8 := by have := hcnt k; omega
      have hkn : (k : Int) < (n : Int) := by omega
      obtain ⟨x, hx⟩ : ∃ x, K k = x := ⟨_, rfl⟩
      rw [hx] at c0 hm hNk
      by_cases h1 : x = 1
      · have HS2 : Hid (TgI B C (T (k + 1)) (N (k + 1)) w ((wr.setCell ⟨C, 0, none⟩ (.int .i64 (T (k + 1)))).setCell ⟨C, 1, none⟩ (.int .i64 ((N k : Int) + 1)))) := by
          have := HS.set1 hBC ((N k : Int) + 1)
          rw [hNk, if_pos h1]
          exact this
        subst h1
        clear hx HS hNk
        go_wp2
        go_roundw
        case rel => exact ⟨k + 1, by omega, by go_num, HS2⟩
        case measure => simp [intOf]; omega
      · have d1 : (x == 1) = false := by simpa using h1
        have HS2 : Hid (TgI B C (T (k + 1)) (N (k + 1)) w (wr.setCell ⟨C, 0, none⟩ (.int .i64 (T (k + 1))))) := by
          rw [hNk, if_neg h1]
          exact HS
        clear hx HS hNk h1
        go_wp2
        go_roundw
        case rel => exact ⟨k + 1, by omega, by go_num, HS2⟩
        case measure => simp [intOf]; omega
    · obtain rfl : k = n := by omega
      have c1 : wr.cell? ⟨C, 0, none⟩ = some (.int .i64 (T k)) := HK.out.v.cell 0 (by omega)
      have f2 := HK.out.v.free 1
      have c2 : wr.cell? ⟨C, 1, none⟩ = some (.int .i64 (N k)) := HK.out.v.cell 1 (by omega)
      obtain ⟨t, ht⟩ : ∃ t, T k = t := ⟨_, rfl⟩
      have HK2 := HK.out
      have HT : Hid (T k = t) := ht
      rw [ht] at c1 HK2
      clear ht htop hK HC HI TS NS T0 N0 hz HK hlt hk hcnt
      by_cases h1 : t = 1
      · have hr : wr.rangeAt C 0 (vd2 t (N k)) := HK2.v.range
        have ht : wr.there B 0 (vd2 t (N k)).toArray.size := HK2.r.there .i64 _
        have hone : (vd2 t (N k)).toArray.all (·.oneCell') = true := ints_one .i64 2 _
        have hi9 : (Tryz.prog.info? 30).map (·.size) = some (vd2 t (N k)).length := by rw [vd2_eq]; exact info10
        have HB : Hid (Below B w wr) := HK2.below
        have HL : Hid (vd2 t (N k) = vd2 (T k) Y) := by show _ = _; rw [← HY.out, HT.out, if_pos h1]
        obtain ⟨L, hL⟩ : ∃ L, vd2 t (N k) = L := ⟨_, rfl⟩
        rw [hL] at hr ht hone hi9 HL
        subst h1
        clear HK2 HT HY
        go_wp2_with (first | refine wpList_load_mid rfl 30 _ rfl _ 0 rfl L _ hr Tryz.underlying30 rfl hi9 ?_ | refine wpList_store_mid rfl 30 _ _ rfl _ 0 L.toArray rfl rfl ht hi9 hone ?_)
        have hs : (wr.setCells B 0 L).rangeAt B 0 L := World.rangeAt_setCells_same wr _ 0 L (by simpa using ht)
        have hld := run_loadVar_mid (P := Tryz.prog) (wr.setCells B 0 L) B 0 30 L _ hs Tryz.underlying30 rfl hi9
        refine bodyPost_ret (v := .agg L.toArray) ?_ rfl ⟨by rw [HL.out], by first | exact belows_put (Nat.le_refl _) L 0 HB.out | (rw [hB]; exact belows_put (Nat.le_refl _) L 0 HB.out)⟩
        simp [results, Tryz.f47, Act.put, asAddr, hld]
      · have d1 : (t != 1) = true := by simpa using h1
        have HK3 := HK2.set1 hBC 0
        obtain ⟨W3, hW3⟩ : ∃ W3, wr.setCell ⟨C, 1, none⟩ (.int .i64 0) = W3 := ⟨_, rfl⟩
        rw [hW3] at HK3
        have hr : W3.rangeAt C 0 (vd2 t 0) := HK3.v.range
        have ht : W3.there B 0 (vd2 t 0).toArray.size := HK3.r.there .i64 _
        have hone : (vd2 t 0).toArray.all (·.oneCell') = true := ints_one .i64 2 _
        have hi9 : (Tryz.prog.info? 30).map (·.size) = some (vd2 t 0).length := by rw [vd2_eq]; exact info10
        have HB : Hid (Below B w W3) := HK3.below
        have HL : Hid (vd2 t 0 = vd2 (T k) Y) := by show _ = _; rw [← HY.out, HT.out, if_neg h1]
        obtain ⟨L, hL⟩ : ∃ L, vd2 t 0 = L := ⟨_, rfl⟩
        rw [hL] at hr ht hone hi9 HL
        have hrW : Hid ((wr.setCell ⟨C, 1, none⟩ (.int .i64 0)).rangeAt C 0 L) := by rw [hW3]; exact hr
        have htW : Hid ((wr.setCell ⟨C, 1, none⟩ (.int .i64 0)).there B 0 L.toArray.size) := by rw [hW3]; exact ht
        have HBW : Hid (Below B w (wr.setCell ⟨C, 1, none⟩ (.int .i64 0))) := by rw [hW3]; exact HB
        clear HK2 HK3 HT h1 hr ht HB hW3 HY
        go_wp2_with (first | refine wpList_load_mid rfl 30 _ rfl _ 0 rfl L _ hrW.out Tryz.underlying30 rfl hi9 ?_ | refine wpList_store_mid rfl 30 _ _ rfl _ 0 L.toArray rfl rfl htW.out hi9 hone ?_)
        obtain ⟨W4, hW4⟩ : ∃ W4, wr.setCell ⟨C, 1, none⟩ (.int .i64 0) = W4 := ⟨_, rfl⟩
        rw [hW4] at htW HBW ⊢
        have hs : (W4.setCells B 0 L).rangeAt B 0 L := World.rangeAt_setCells_same W4 _ 0 L (by simpa using htW.out)
        have hld := run_loadVar_mid (P := Tryz.prog) (W4.setCells B 0 L) B 0 30 L _ hs Tryz.underlying30 rfl hi9
        refine bodyPost_ret (v := .agg L.toArray) ?_ rfl ⟨by rw [HL.out], by first | exact belows_put (Nat.le_refl _) L 0 HBW.out | (rw [hB]; exact belows_put (Nat.le_refl _) L 0 HBW.out)⟩
        simp [results, Tryz.f47, Act.put, asAddr, hld]
end Go.Proofs.YtoimbjbdkkohcaaGreatDoor
