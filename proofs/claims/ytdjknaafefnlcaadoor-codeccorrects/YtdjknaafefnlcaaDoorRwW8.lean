/-
  A word's bytes told, and put.
-/
import Derived.Test.YtdjknaafefnlcaaDoorRwW7
import Derived.Test.YtdjknaafefnlcaaDoorAryCp
import Derived.Laws.MakeOwn
namespace Go.Proofs.YtdjknaafefnlcaaDoor
open Go.RowKit Go.Shelf
attribute [local go_sem] Oper.semAt_some

theorem info9 : (Tryd.prog.info? 5).map (fun i => (i.zero, i.size, i.bytes)) = some (some (.int .u8 0), 1, 1) := by kernel_rfl
set_option maxRecDepth 100000 in
theorem run_make9 (n : Nat) (hn : n ≤ 1000) (w : World) : (Instr.makeSlice 52 (.int .i64 (n : Int)) (.int .i64 (n : Int))).run Tryd.prog w = .ok (.slice (some ⟨w.heap.size, 0, none⟩) n n) (w.alloc (.cells (ints .u8 n fun _ => 0).toArray 5)) := by
  have h := run_make_row' (P := Tryd.prog) 52 5 (.int .u8 0) 1 Tryd.underlying52 info9 rfl .i64 .i64 n (by omega) (by omega) w
  rw [h]
  congr 3
  unfold madeCells ints
  refine Array.ext' ?_
  simp [Nat.mod_one]
theorem cutR (b o : Nat) (ho : o < 72) (w : World) : (Instr.sliceAt 25 (.pointer (some ⟨b, 0, none⟩)) (some (.int .i64 (o : Int))) none none).run Tryd.prog w = .ok (.slice (some ⟨b, o, none⟩) (72 - o) (72 - o)) w := by
  have h1 : (o : Int) ≤ 72 := by omega
  have h2 : ¬ 72 = o := by omega
  simp [Instr.sliceAt, go_sem]
  rw [if_pos h1, if_neg h2]

theorem word_no {m n k : Int} (h : Md m n k) (F : Nat → Int) (x : Int) (hx : ¬ (0 ≤ x ∧ x < k)) (w : World) :
    Calls Tryd.prog 70 #[.agg (ints .u8 72 F).toArray, .int .i64 m, .int .i64 x] w fun e w' => e = .returned (.slice none 0 0) ∧ Below w.heap.size w w' := by
  have hw : Hid (∀ w : World, Calls Tryd.prog 52 #[.int .i64 m] w fun e w' => e = .returned (.int .i64 k) ∧ w' = w) := countWords_any h
  have hl : Hid (∀ w : World, Calls Tryd.prog 48 #[.int .i64 x, .int .i64 k] w fun e w' => e = .returned (.bool false) ∧ w' = w) := below9_no x k hx
  obtain ⟨A0, hA0⟩ : ∃ A, (ints .u8 72 F).toArray = A := ⟨_, rfl⟩
  rw [hA0]
  clear h hx hA0
  go_enter Tryd.func70, Tryd.ntmps70
  go_wp2_with (first | (go_at_call 52; refine (hw.out _).mono ?_; rintro e w' ⟨rfl, rfl⟩) | (go_at_call 48; refine (hl.out _).mono ?_; rintro e w' ⟨rfl, rfl⟩))
  go_ret
  exact ⟨rfl, (Below.refl _ w).alloc (Nat.le_refl _) _⟩
set_option maxRecDepth 100000 in
set_option maxHeartbeats 1000000 in
theorem word_yes1 (F : Nat → Int) (x : Nat) (hx : x < 8) (w : World) :
    Calls Tryd.prog 70 #[.agg (ints .u8 72 F).toArray, .int .i64 1, .int .i64 (x : Int)] w fun e w' => ∃ g, e = .returned (.slice (some ⟨g, 0, none⟩) 9 9) ∧ w.heap.size ≤ g ∧ Bk .u8 w' g 9 (fun j => F (9 * x + j)) ∧ Below w.heap.size w w' := by
  have hw : Hid (∀ w : World, Calls Tryd.prog 52 #[.int .i64 1] w fun e w' => e = .returned (.int .i64 8) ∧ w' = w) := countWords_any .bits
  have hc : Hid (∀ w : World, Calls Tryd.prog 49 #[.int .i64 1] w fun e w' => e = .returned (.int .i64 9) ∧ w' = w) := countChips_any .bits
  have hl : Hid (∀ w : World, Calls Tryd.prog 48 #[.int .i64 (x : Int), .int .i64 8] w fun e w' => e = .returned (.bool true) ∧ w' = w) := below9_yes _ _ ⟨by omega, by omega⟩
  have hp : Hid (∀ w : World, Calls Tryd.prog 53 #[.int .i64 1, .int .i64 (x : Int), .int .i64 0] w fun e w' => e = .returned (.int .i64 ((9 * x : Nat) : Int)) ∧ w' = w) := fun w => by
    have := placeOf9_any .bits (x : Int) 0 ⟨by omega, by omega⟩ ⟨by omega, by omega⟩ w
    rwa [show (x : Int) * 9 + 0 = ((9 * x : Nat) : Int) by omega] at this
  have hmk : ∀ w : World, (Instr.makeSlice 52 (.int .i64 9) (.int .i64 9)).run Tryd.prog w = .ok (.slice (some ⟨w.heap.size, 0, none⟩) 9 9) (w.alloc (.cells (ints .u8 9 fun _ => 0).toArray 5)) := run_make9 9 (by omega)
  have hct := fun b => cutR b (9 * x) (by omega)
  obtain ⟨A0, hA0⟩ : ∃ A, (ints .u8 72 F).toArray = A := ⟨_, rfl⟩
  obtain ⟨Z, hZ⟩ : ∃ A, (ints .u8 9 fun _ => 0).toArray = A := ⟨_, rfl⟩
  obtain ⟨o, ho⟩ : ∃ o, 9 * x = o := ⟨_, rfl⟩
  have ho2 : o + 9 ≤ 72 := by omega
  rw [ho] at hp hct ⊢
  rw [hA0]
  rw [hZ] at hmk
  go_enter Tryd.func70, Tryd.ntmps70
  go_upto_region 4 with (first | (go_at_call 52; refine (hw.out _).mono ?_; rintro e w' ⟨rfl, rfl⟩) | (go_at_call 48; refine (hl.out _).mono ?_; rintro e w' ⟨rfl, rfl⟩) | (go_at_call 49; refine (hc.out _).mono ?_; rintro e w' ⟨rfl, rfl⟩))
  obtain ⟨V, hV⟩ : ∃ V, (w.alloc (.cells A0 25)).alloc (.cells Z 5) = V := ⟨_, rfl⟩
  have hI : Bk .u8 V w.heap.size 72 F ∧ Bk .u8 V (w.heap.size + 1) 9 (fun _ => 0) ∧ Below w.heap.size w V := by
    rw [← hV, ← hA0, ← hZ]
    have h1 := Bk.new .u8 (w.alloc (.cells (ints .u8 72 F).toArray 25)) 9 (fun _ => 0) 5
    simp only [World.size_alloc] at h1
    exact ⟨(Bk.new .u8 w 72 F _).alloc _, h1, ((Below.refl _ w).alloc (Nat.le_refl _) _).alloc (by simp) _⟩
  obtain ⟨B, hB⟩ : ∃ B, w.heap.size = B := ⟨_, rfl⟩
  obtain ⟨G, hG⟩ : ∃ G, B + 1 = G := ⟨_, rfl⟩
  rw [hV]
  rw [hB, hG] at hI ⊢
  have HI : Hid (Bk .u8 V B 72 F ∧ Bk .u8 V G 9 (fun _ => 0) ∧ Below B w V) := hI
  have hB1 := hct B
  clear hV hZ hA0 hI hct hmk hw hc hl
  go_upto_region 5 with (first | (go_at_call 53; refine (hp.out _).mono ?_; rintro e w' ⟨rfl, hw2⟩; rw [hw2]; clear hw2 w') | (refine wpList_cpy rfl _ _ rfl G 0 9 9 B o (72 - o) (72 - o) 9 9 (fun _ => 0) (fun j => F (o + j)) rfl rfl HI.out.2.1 (by exact (by show 9 = min (72 - o) 9; omega)) (fun j hj => HI.out.1.cell (o + j) (by omega)) (by omega) ?_; intro V2 g2 k2))
  have HE : Hid (Bk .u8 V2 G 9 (fun j => F (o + j)) ∧ Below B w V2) := ⟨g2.out.congr fun i hi => by unfold lay; rw [if_pos (by omega), Nat.sub_zero], k2.out.below _ _ HI.out.2.2 (by omega)⟩
  clear g2 k2 HI
  go_wp2
  go_ret
  exact ⟨G, rfl, by omega, HE.out.1, by rw [hB]; exact HE.out.2⟩
set_option maxRecDepth 100000 in
set_option maxHeartbeats 1000000 in
theorem put_yes1 (F : Nat → Int) (x : Nat) (hx : x < 8) (sb so sc : Nat) (G : Nat → Int) (w : World) (hsrc : ∀ j : Nat, j < 9 → w.cell? ⟨sb, so + j, none⟩ = some (.int .u8 (G j))) :
    Calls Tryd.prog 33 #[.agg (ints .u8 72 F).toArray, .int .i64 1, .int .i64 (x : Int), .slice (some ⟨sb, so, none⟩) 9 sc] w fun e w' => e = .returned (.agg (ints .u8 72 (lay F (9 * x) 9 G)).toArray) ∧ Below w.heap.size w w' := by
  have hz := zeroR
  have hw : Hid (∀ w : World, Calls Tryd.prog 52 #[.int .i64 1] w fun e w' => e = .returned (.int .i64 8) ∧ w' = w) := countWords_any .bits
  have hc : Hid (∀ w : World, Calls Tryd.prog 49 #[.int .i64 1] w fun e w' => e = .returned (.int .i64 9) ∧ w' = w) := countChips_any .bits
  have hl : Hid (∀ w : World, Calls Tryd.prog 48 #[.int .i64 (x : Int), .int .i64 8] w fun e w' => e = .returned (.bool true) ∧ w' = w) := below9_yes _ _ ⟨by omega, by omega⟩
  have hp : Hid (∀ w : World, Calls Tryd.prog 53 #[.int .i64 1, .int .i64 (x : Int), .int .i64 0] w fun e w' => e = .returned (.int .i64 ((9 * x : Nat) : Int)) ∧ w' = w) := fun w => by
    have := placeOf9_any .bits (x : Int) 0 ⟨by omega, by omega⟩ ⟨by omega, by omega⟩ w
    rwa [show (x : Int) * 9 + 0 = ((9 * x : Nat) : Int) by omega] at this
  have hct := fun b => cutR b (9 * x) (by omega)
  obtain ⟨A0, hA0⟩ : ∃ A, (ints .u8 72 F).toArray = A := ⟨_, rfl⟩
  obtain ⟨Z, hZ⟩ : ∃ A, (ints .u8 72 fun _ => 0).toArray = A := ⟨_, rfl⟩
  obtain ⟨o, ho⟩ : ∃ o, 9 * x = o := ⟨_, rfl⟩
  have ho2 : o + 9 ≤ 72 := by omega
  rw [ho] at hp hct ⊢
  rw [hA0]
  rw [hZ] at hz
  have HS : Hid (∀ j : Nat, j < 9 → w.cell? ⟨sb, so + j, none⟩ = some (.int .u8 (G j))) := hsrc
  clear hsrc
  go_enter Tryd.func33, Tryd.ntmps33
  go_upto_region 2 with (first | (go_at_call 52; refine (hw.out _).mono ?_; rintro e w' ⟨rfl, hw2⟩; rw [hw2]; clear hw2 w') | (go_at_call 48; refine (hl.out _).mono ?_; rintro e w' ⟨rfl, hw2⟩; rw [hw2]; clear hw2 w') | (go_at_call 49; refine (hc.out _).mono ?_; rintro e w' ⟨rfl, hw2⟩; rw [hw2]; clear hw2 w'))
  obtain ⟨V, hV⟩ : ∃ V, (w.alloc (.cells A0 25)).alloc (.cells Z 25) = V := ⟨_, rfl⟩
  have HI : Hid (Bk .u8 V w.heap.size 72 F ∧ Bk .u8 V (w.heap.size + 1) 72 (fun _ => 0) ∧ Below w.heap.size w V) := by
    rw [← hV, ← hA0, ← hZ]
    have h1 := Bk.new .u8 (w.alloc (.cells (ints .u8 72 F).toArray 25)) 72 (fun _ => 0) 25
    simp only [World.size_alloc] at h1
    exact ⟨(Bk.new .u8 w 72 F _).alloc _, h1, ((Below.refl _ w).alloc (Nat.le_refl _) _).alloc (by simp) _⟩
  have HSV : Hid (∀ j : Nat, j < 9 → V.cell? ⟨sb, so + j, none⟩ = some (.int .u8 (G j))) := fun j hj => by
    have h := HS.out j hj
    obtain ⟨y, hy, _⟩ := isCells_of_cell h
    rw [← h]
    exact World.cell?_of_block (w := w) (HI.out.2.2.block sb (Array.getElem?_eq_some_iff.1 hy).1)
  obtain ⟨B, hB⟩ : ∃ B, w.heap.size = B := ⟨_, rfl⟩
  obtain ⟨D, hD⟩ : ∃ D, B + 1 = D := ⟨_, rfl⟩
  rw [hV]
  rw [hB, hD] at HI ⊢
  have hB1 := hct B
  have lD : B ≤ D := by omega
  have nD : D ≠ B := by omega
  clear hV hZ hA0 hct hz hw hc hl HS
  go_upto_region 3 with (first | (go_at_call 53; refine (hp.out _).mono ?_; rintro e w' ⟨rfl, hw2⟩; rw [hw2]; clear hw2 w') | (refine wpList_cpy rfl _ _ rfl B o (72 - o) (72 - o) sb so 9 sc 72 9 F G rfl rfl HI.out.1 (by exact (by show 9 = min 9 (72 - o); omega)) (fun j hj => HSV.out j hj) (by omega) ?_; intro V2 g2 k2))
  have HE : Hid (Bk .u8 V2 B 72 (lay F o 9 G) ∧ Bk .u8 V2 D 72 (fun _ => 0) ∧ Below B w V2) := ⟨g2.out, HI.out.2.1.of (k2.out.block D nD), k2.out.below _ _ HI.out.2.2 (Nat.le_refl _)⟩
  clear g2 k2 HI HSV nD
  obtain ⟨X, hX⟩ : ∃ X, lay F o 9 G = X := ⟨_, rfl⟩
  rw [hX] at HE
  have hr := HE.out.1.range
  have ht := HE.out.2.1.there .u8 X
  have hi9 : (Tryd.prog.info? 25).map (·.size) = some (ints .u8 72 X).length := by rw [ints_len]; exact infoR
  have hone := ints_one .u8 72 X
  have HBl := HE.out.2.2
  obtain ⟨L, hL⟩ : ∃ L, ints .u8 72 X = L := ⟨_, rfl⟩
  rw [hL] at hr ht hi9 hone
  have HL : Hid (ints .u8 72 X = L) := hL
  have HB9 : Hid (Below B w V2) := HBl
  clear hL HBl HE
  go_wp2_with (first | refine wpList_load_mid rfl 25 _ rfl _ 0 rfl L _ hr Tryd.underlying25 rfl hi9 ?_ | refine wpList_store_mid rfl 25 _ _ rfl _ 0 L.toArray rfl rfl ht hi9 hone ?_)
  have hs : (V2.setCells D 0 L).rangeAt D 0 L := World.rangeAt_setCells_same V2 _ 0 L (by simpa using ht)
  have hld := run_loadVar_mid (P := Tryd.prog) (V2.setCells D 0 L) D 0 25 L _ hs Tryd.underlying25 rfl hi9
  refine bodyPost_ret (v := .agg L.toArray) ?_ rfl ⟨by rw [hX, HL.out], by rw [hB]; exact belows_put lD L 0 HB9.out⟩
  simp [results, Tryd.f33, Act.put, asAddr, hld]
set_option maxRecDepth 100000 in
set_option maxHeartbeats 1000000 in
theorem word_yes2 (F : Nat → Int) (x : Nat) (hx : x < 2) (w : World) :
    Calls Tryd.prog 70 #[.agg (ints .u8 72 F).toArray, .int .i64 2, .int .i64 (x : Int)] w fun e w' => ∃ g, e = .returned (.slice (some ⟨g, 0, none⟩) 36 36) ∧ w.heap.size ≤ g ∧ Bk .u8 w' g 36 (fun j => F (36 * x + j)) ∧ Below w.heap.size w w' := by
  have hw : Hid (∀ w : World, Calls Tryd.prog 52 #[.int .i64 2] w fun e w' => e = .returned (.int .i64 2) ∧ w' = w) := countWords_any .chips
  have hc : Hid (∀ w : World, Calls Tryd.prog 49 #[.int .i64 2] w fun e w' => e = .returned (.int .i64 36) ∧ w' = w) := countChips_any .chips
  have hl : Hid (∀ w : World, Calls Tryd.prog 48 #[.int .i64 (x : Int), .int .i64 2] w fun e w' => e = .returned (.bool true) ∧ w' = w) := below9_yes _ _ ⟨by omega, by omega⟩
  have hp : Hid (∀ w : World, Calls Tryd.prog 53 #[.int .i64 2, .int .i64 (x : Int), .int .i64 0] w fun e w' => e = .returned (.int .i64 ((36 * x : Nat) : Int)) ∧ w' = w) := fun w => by
    have := placeOf9_any .chips (x : Int) 0 ⟨by omega, by omega⟩ ⟨by omega, by omega⟩ w
    rwa [show (x : Int) * 36 + 0 = ((36 * x : Nat) : Int) by omega] at this
  have hmk : ∀ w : World, (Instr.makeSlice 52 (.int .i64 36) (.int .i64 36)).run Tryd.prog w = .ok (.slice (some ⟨w.heap.size, 0, none⟩) 36 36) (w.alloc (.cells (ints .u8 36 fun _ => 0).toArray 5)) := run_make9 36 (by omega)
  have hct := fun b => cutR b (36 * x) (by omega)
  obtain ⟨A0, hA0⟩ : ∃ A, (ints .u8 72 F).toArray = A := ⟨_, rfl⟩
  obtain ⟨Z, hZ⟩ : ∃ A, (ints .u8 36 fun _ => 0).toArray = A := ⟨_, rfl⟩
  obtain ⟨o, ho⟩ : ∃ o, 36 * x = o := ⟨_, rfl⟩
  have ho2 : o + 36 ≤ 72 := by omega
  rw [ho] at hp hct ⊢
  rw [hA0]
  rw [hZ] at hmk
  go_enter Tryd.func70, Tryd.ntmps70
  go_upto_region 4 with (first | (go_at_call 52; refine (hw.out _).mono ?_; rintro e w' ⟨rfl, rfl⟩) | (go_at_call 48; refine (hl.out _).mono ?_; rintro e w' ⟨rfl, rfl⟩) | (go_at_call 49; refine (hc.out _).mono ?_; rintro e w' ⟨rfl, rfl⟩))
  obtain ⟨V, hV⟩ : ∃ V, (w.alloc (.cells A0 25)).alloc (.cells Z 5) = V := ⟨_, rfl⟩
  have hI : Bk .u8 V w.heap.size 72 F ∧ Bk .u8 V (w.heap.size + 1) 36 (fun _ => 0) ∧ Below w.heap.size w V := by
    rw [← hV, ← hA0, ← hZ]
    have h1 := Bk.new .u8 (w.alloc (.cells (ints .u8 72 F).toArray 25)) 36 (fun _ => 0) 5
    simp only [World.size_alloc] at h1
    exact ⟨(Bk.new .u8 w 72 F _).alloc _, h1, ((Below.refl _ w).alloc (Nat.le_refl _) _).alloc (by simp) _⟩
  obtain ⟨B, hB⟩ : ∃ B, w.heap.size = B := ⟨_, rfl⟩
  obtain ⟨G, hG⟩ : ∃ G, B + 1 = G := ⟨_, rfl⟩
  rw [hV]
  rw [hB, hG] at hI ⊢
  have HI : Hid (Bk .u8 V B 72 F ∧ Bk .u8 V G 36 (fun _ => 0) ∧ Below B w V) := hI
  have hB1 := hct B
  clear hV hZ hA0 hI hct hmk hw hc hl
  go_upto_region 5 with (first | (go_at_call 53; refine (hp.out _).mono ?_; rintro e w' ⟨rfl, hw2⟩; rw [hw2]; clear hw2 w') | (refine wpList_cpy rfl _ _ rfl G 0 36 36 B o (72 - o) (72 - o) 36 36 (fun _ => 0) (fun j => F (o + j)) rfl rfl HI.out.2.1 (by exact (by show 36 = min (72 - o) 36; omega)) (fun j hj => HI.out.1.cell (o + j) (by omega)) (by omega) ?_; intro V2 g2 k2))
  have HE : Hid (Bk .u8 V2 G 36 (fun j => F (o + j)) ∧ Below B w V2) := ⟨g2.out.congr fun i hi => by unfold lay; rw [if_pos (by omega), Nat.sub_zero], k2.out.below _ _ HI.out.2.2 (by omega)⟩
  clear g2 k2 HI
  go_wp2
  go_ret
  exact ⟨G, rfl, by omega, HE.out.1, by rw [hB]; exact HE.out.2⟩
set_option maxRecDepth 100000 in
set_option maxHeartbeats 1000000 in
theorem put_yes2 (F : Nat → Int) (x : Nat) (hx : x < 2) (sb so sc : Nat) (G : Nat → Int) (w : World) (hsrc : ∀ j : Nat, j < 36 → w.cell? ⟨sb, so + j, none⟩ = some (.int .u8 (G j))) :
    Calls Tryd.prog 33 #[.agg (ints .u8 72 F).toArray, .int .i64 2, .int .i64 (x : Int), .slice (some ⟨sb, so, none⟩) 36 sc] w fun e w' => e = .returned (.agg (ints .u8 72 (lay F (36 * x) 36 G)).toArray) ∧ Below w.heap.size w w' := by
  have hz := zeroR
  have hw : Hid (∀ w : World, Calls Tryd.prog 52 #[.int .i64 2] w fun e w' => e = .returned (.int .i64 2) ∧ w' = w) := countWords_any .chips
  have hc : Hid (∀ w : World, Calls Tryd.prog 49 #[.int .i64 2] w fun e w' => e = .returned (.int .i64 36) ∧ w' = w) := countChips_any .chips
  have hl : Hid (∀ w : World, Calls Tryd.prog 48 #[.int .i64 (x : Int), .int .i64 2] w fun e w' => e = .returned (.bool true) ∧ w' = w) := below9_yes _ _ ⟨by omega, by omega⟩
  have hp : Hid (∀ w : World, Calls Tryd.prog 53 #[.int .i64 2, .int .i64 (x : Int), .int .i64 0] w fun e w' => e = .returned (.int .i64 ((36 * x : Nat) : Int)) ∧ w' = w) := fun w => by
    have := placeOf9_any .chips (x : Int) 0 ⟨by omega, by omega⟩ ⟨by omega, by omega⟩ w
    rwa [show (x : Int) * 36 + 0 = ((36 * x : Nat) : Int) by omega] at this
  have hct := fun b => cutR b (36 * x) (by omega)
  obtain ⟨A0, hA0⟩ : ∃ A, (ints .u8 72 F).toArray = A := ⟨_, rfl⟩
  obtain ⟨Z, hZ⟩ : ∃ A, (ints .u8 72 fun _ => 0).toArray = A := ⟨_, rfl⟩
  obtain ⟨o, ho⟩ : ∃ o, 36 * x = o := ⟨_, rfl⟩
  have ho2 : o + 36 ≤ 72 := by omega
  rw [ho] at hp hct ⊢
  rw [hA0]
  rw [hZ] at hz
  have HS : Hid (∀ j : Nat, j < 36 → w.cell? ⟨sb, so + j, none⟩ = some (.int .u8 (G j))) := hsrc
  clear hsrc
  go_enter Tryd.func33, Tryd.ntmps33
  go_upto_region 2 with (first | (go_at_call 52; refine (hw.out _).mono ?_; rintro e w' ⟨rfl, hw2⟩; rw [hw2]; clear hw2 w') | (go_at_call 48; refine (hl.out _).mono ?_; rintro e w' ⟨rfl, hw2⟩; rw [hw2]; clear hw2 w') | (go_at_call 49; refine (hc.out _).mono ?_; rintro e w' ⟨rfl, hw2⟩; rw [hw2]; clear hw2 w'))
  obtain ⟨V, hV⟩ : ∃ V, (w.alloc (.cells A0 25)).alloc (.cells Z 25) = V := ⟨_, rfl⟩
  have HI : Hid (Bk .u8 V w.heap.size 72 F ∧ Bk .u8 V (w.heap.size + 1) 72 (fun _ => 0) ∧ Below w.heap.size w V) := by
    rw [← hV, ← hA0, ← hZ]
    have h1 := Bk.new .u8 (w.alloc (.cells (ints .u8 72 F).toArray 25)) 72 (fun _ => 0) 25
    simp only [World.size_alloc] at h1
    exact ⟨(Bk.new .u8 w 72 F _).alloc _, h1, ((Below.refl _ w).alloc (Nat.le_refl _) _).alloc (by simp) _⟩
  have HSV : Hid (∀ j : Nat, j < 36 → V.cell? ⟨sb, so + j, none⟩ = some (.int .u8 (G j))) := fun j hj => by
    have h := HS.out j hj
    obtain ⟨y, hy, _⟩ := isCells_of_cell h
    rw [← h]
    exact World.cell?_of_block (w := w) (HI.out.2.2.block sb (Array.getElem?_eq_some_iff.1 hy).1)
  obtain ⟨B, hB⟩ : ∃ B, w.heap.size = B := ⟨_, rfl⟩
  obtain ⟨D, hD⟩ : ∃ D, B + 1 = D := ⟨_, rfl⟩
  rw [hV]
  rw [hB, hD] at HI ⊢
  have hB1 := hct B
  have lD : B ≤ D := by omega
  have nD : D ≠ B := by omega
  clear hV hZ hA0 hct hz hw hc hl HS
  go_upto_region 3 with (first | (go_at_call 53; refine (hp.out _).mono ?_; rintro e w' ⟨rfl, hw2⟩; rw [hw2]; clear hw2 w') | (refine wpList_cpy rfl _ _ rfl B o (72 - o) (72 - o) sb so 36 sc 72 36 F G rfl rfl HI.out.1 (by exact (by show 36 = min 36 (72 - o); omega)) (fun j hj => HSV.out j hj) (by omega) ?_; intro V2 g2 k2))
  have HE : Hid (Bk .u8 V2 B 72 (lay F o 36 G) ∧ Bk .u8 V2 D 72 (fun _ => 0) ∧ Below B w V2) := ⟨g2.out, HI.out.2.1.of (k2.out.block D nD), k2.out.below _ _ HI.out.2.2 (Nat.le_refl _)⟩
  clear g2 k2 HI HSV nD
  obtain ⟨X, hX⟩ : ∃ X, lay F o 36 G = X := ⟨_, rfl⟩
  rw [hX] at HE
  have hr := HE.out.1.range
  have ht := HE.out.2.1.there .u8 X
  have hi9 : (Tryd.prog.info? 25).map (·.size) = some (ints .u8 72 X).length := by rw [ints_len]; exact infoR
  have hone := ints_one .u8 72 X
  have HBl := HE.out.2.2
  obtain ⟨L, hL⟩ : ∃ L, ints .u8 72 X = L := ⟨_, rfl⟩
  rw [hL] at hr ht hi9 hone
  have HL : Hid (ints .u8 72 X = L) := hL
  have HB9 : Hid (Below B w V2) := HBl
  clear hL HBl HE
  go_wp2_with (first | refine wpList_load_mid rfl 25 _ rfl _ 0 rfl L _ hr Tryd.underlying25 rfl hi9 ?_ | refine wpList_store_mid rfl 25 _ _ rfl _ 0 L.toArray rfl rfl ht hi9 hone ?_)
  have hs : (V2.setCells D 0 L).rangeAt D 0 L := World.rangeAt_setCells_same V2 _ 0 L (by simpa using ht)
  have hld := run_loadVar_mid (P := Tryd.prog) (V2.setCells D 0 L) D 0 25 L _ hs Tryd.underlying25 rfl hi9
  refine bodyPost_ret (v := .agg L.toArray) ?_ rfl ⟨by rw [hX, HL.out], by rw [hB]; exact belows_put lD L 0 HB9.out⟩
  simp [results, Tryd.f33, Act.put, asAddr, hld]
set_option maxRecDepth 100000 in
set_option maxHeartbeats 1000000 in
theorem put_no {m n k : Int} (h : Md m n k) (F : Nat → Int) (x : Int) (a : Option Addr) (len cap : Nat) (hx : ¬ (0 ≤ x ∧ x < k) ∨ (len : Int) ≠ n) (w : World) :
    Calls Tryd.prog 33 #[.agg (ints .u8 72 F).toArray, .int .i64 m, .int .i64 x, .slice a len cap] w fun e w' => e = .returned (.agg (ints .u8 72 F).toArray) ∧ Below w.heap.size w w' := by
  have hz := zeroR
  have hw : Hid (∀ w : World, Calls Tryd.prog 52 #[.int .i64 m] w fun e w' => e = .returned (.int .i64 k) ∧ w' = w) := countWords_any h
  have hc : Hid (∀ w : World, Calls Tryd.prog 49 #[.int .i64 m] w fun e w' => e = .returned (.int .i64 n) ∧ w' = w) := countChips_any h
  have hl : Hid (∀ w : World, Calls Tryd.prog 48 #[.int .i64 x, .int .i64 k] w fun e w' => e = .returned (.bool (decide (0 ≤ x ∧ x < k))) ∧ w' = w) := below9_any x k
  obtain ⟨A0, hA0⟩ : ∃ A, (ints .u8 72 F).toArray = A := ⟨_, rfl⟩
  obtain ⟨Z, hZ⟩ : ∃ A, (ints .u8 72 fun _ => 0).toArray = A := ⟨_, rfl⟩
  obtain ⟨p, hp⟩ : ∃ p, decide (0 ≤ x ∧ x < k) = p := ⟨_, rfl⟩
  obtain ⟨q, hq⟩ : ∃ q, ((len : Int) == n) = q := ⟨_, rfl⟩
  rw [hp] at hl
  have hpq : p = false ∨ (p = true ∧ q = false) := by
    rcases hx with hx | hx
    · left; rw [← hp]; simpa using hx
    · cases p
      · left; rfl
      · right; exact ⟨rfl, by rw [← hq]; simpa using hx⟩
  have HI0 : Hid (∀ V, (w.alloc (.cells A0 25)).alloc (.cells Z 25) = V → Bk .u8 V w.heap.size 72 F ∧ Bk .u8 V (w.heap.size + 1) 72 (fun _ => 0) ∧ Below w.heap.size w V) := by
    rintro V hV
    rw [← hV, ← hA0, ← hZ]
    have h1 := Bk.new .u8 (w.alloc (.cells (ints .u8 72 F).toArray 25)) 72 (fun _ => 0) 25
    simp only [World.size_alloc] at h1
    exact ⟨(Bk.new .u8 w 72 F _).alloc _, h1, ((Below.refl _ w).alloc (Nat.le_refl _) _).alloc (by simp) _⟩
  obtain ⟨X, hX⟩ : ∃ X, F = X := ⟨_, rfl⟩
  rw [hA0]
  rw [hZ] at hz
  have HF : Hid (A0 = (ints .u8 72 F).toArray) := hA0.symm
  clear hA0 hZ hx hp h
  rcases hpq with rfl | ⟨rfl, rfl⟩
  · skip
    go_enter Tryd.func33, Tryd.ntmps33
    go_upto_region 3 with (first | (go_at_call 52; refine (hw.out _).mono ?_; rintro e w' ⟨rfl, hw2⟩; rw [hw2]; clear hw2 w') | (go_at_call 48; refine (hl.out _).mono ?_; rintro e w' ⟨rfl, hw2⟩; rw [hw2]; clear hw2 w') | (go_at_call 49; refine (hc.out _).mono ?_; rintro e w' ⟨rfl, hw2⟩; rw [hw2]; clear hw2 w'))
    obtain ⟨V, hV⟩ : ∃ V, (w.alloc (.cells A0 25)).alloc (.cells Z 25) = V := ⟨_, rfl⟩
    have HE : Hid (Bk .u8 V w.heap.size 72 X ∧ Bk .u8 V (w.heap.size + 1) 72 (fun _ => 0) ∧ Below w.heap.size w V) := by rw [← hX]; exact HI0.out V hV
    obtain ⟨B, hB⟩ : ∃ B, w.heap.size = B := ⟨_, rfl⟩
    obtain ⟨D, hD⟩ : ∃ D, B + 1 = D := ⟨_, rfl⟩
    rw [hV]
    rw [hB, hD] at HE ⊢
    have lD : B ≤ D := by omega
    clear hV HI0 hw hc hl
    have hr := HE.out.1.range
    have ht := HE.out.2.1.there .u8 X
    have hi9 : (Tryd.prog.info? 25).map (·.size) = some (ints .u8 72 X).length := by rw [ints_len]; exact infoR
    have hone := ints_one .u8 72 X
    have HBl := HE.out.2.2
    obtain ⟨L, hL⟩ : ∃ L, ints .u8 72 X = L := ⟨_, rfl⟩
    rw [hL] at hr ht hi9 hone
    have HL : Hid (ints .u8 72 X = L) := hL
    have HB9 : Hid (Below B w V) := HBl
    clear hL HBl HE
    go_wp2_with (first | refine wpList_load_mid rfl 25 _ rfl _ 0 rfl L _ hr Tryd.underlying25 rfl hi9 ?_ | refine wpList_store_mid rfl 25 _ _ rfl _ 0 L.toArray rfl rfl ht hi9 hone ?_)
    have hs : (V.setCells D 0 L).rangeAt D 0 L := World.rangeAt_setCells_same V _ 0 L (by simpa using ht)
    have hld := run_loadVar_mid (P := Tryd.prog) (V.setCells D 0 L) D 0 25 L _ hs Tryd.underlying25 rfl hi9
    refine bodyPost_ret (v := .agg L.toArray) ?_ rfl ⟨by rw [HF.out, hX, HL.out], by rw [hB]; exact belows_put lD L 0 HB9.out⟩
    simp [results, Tryd.f33, Act.put, asAddr, hld]
  · skip
    go_enter Tryd.func33, Tryd.ntmps33
    go_upto_region 3 with (first | (go_at_call 52; refine (hw.out _).mono ?_; rintro e w' ⟨rfl, hw2⟩; rw [hw2]; clear hw2 w') | (go_at_call 48; refine (hl.out _).mono ?_; rintro e w' ⟨rfl, hw2⟩; rw [hw2]; clear hw2 w') | (go_at_call 49; refine (hc.out _).mono ?_; rintro e w' ⟨rfl, hw2⟩; rw [hw2]; clear hw2 w'))
    obtain ⟨V, hV⟩ : ∃ V, (w.alloc (.cells A0 25)).alloc (.cells Z 25) = V := ⟨_, rfl⟩
    have HE : Hid (Bk .u8 V w.heap.size 72 X ∧ Bk .u8 V (w.heap.size + 1) 72 (fun _ => 0) ∧ Below w.heap.size w V) := by rw [← hX]; exact HI0.out V hV
    obtain ⟨B, hB⟩ : ∃ B, w.heap.size = B := ⟨_, rfl⟩
    obtain ⟨D, hD⟩ : ∃ D, B + 1 = D := ⟨_, rfl⟩
    rw [hV]
    rw [hB, hD] at HE ⊢
    have lD : B ≤ D := by omega
    clear hV HI0 hw hc hl
    have hr := HE.out.1.range
    have ht := HE.out.2.1.there .u8 X
    have hi9 : (Tryd.prog.info? 25).map (·.size) = some (ints .u8 72 X).length := by rw [ints_len]; exact infoR
    have hone := ints_one .u8 72 X
    have HBl := HE.out.2.2
    obtain ⟨L, hL⟩ : ∃ L, ints .u8 72 X = L := ⟨_, rfl⟩
    rw [hL] at hr ht hi9 hone
    have HL : Hid (ints .u8 72 X = L) := hL
    have HB9 : Hid (Below B w V) := HBl
    clear hL HBl HE
    go_wp2_with (first | refine wpList_load_mid rfl 25 _ rfl _ 0 rfl L _ hr Tryd.underlying25 rfl hi9 ?_ | refine wpList_store_mid rfl 25 _ _ rfl _ 0 L.toArray rfl rfl ht hi9 hone ?_)
    have hs : (V.setCells D 0 L).rangeAt D 0 L := World.rangeAt_setCells_same V _ 0 L (by simpa using ht)
    have hld := run_loadVar_mid (P := Tryd.prog) (V.setCells D 0 L) D 0 25 L _ hs Tryd.underlying25 rfl hi9
    refine bodyPost_ret (v := .agg L.toArray) ?_ rfl ⟨by rw [HF.out, hX, HL.out], by rw [hB]; exact belows_put lD L 0 HB9.out⟩
    simp [results, Tryd.f33, Act.put, asAddr, hld]
end Go.Proofs.YtdjknaafefnlcaaDoor
