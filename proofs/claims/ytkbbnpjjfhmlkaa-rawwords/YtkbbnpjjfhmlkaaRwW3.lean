/-
  How much two lines' raw bytes are exposed to one another, by the program.
-/
import Derived.Test.YtkbbnpjjfhmlkaaRwW2
import Derived.Deep.DeepCutAuto
import Derived.Test.YtkbbnpjjfhmlkaaRound2
namespace Go.Proofs.Ytkbbnpjjfhmlkaa
open Go.RowKit
open Bm (wt wtK)
attribute [local go_sem] Oper.semAt_some

/-- the exposure -/
def ex (m n k : Int) (F G : Nat → Int) : Nat := Rw.mx m F G n.toNat k.toNat
theorem cut9 (b i : Nat) (hi : i < 8) (w : World) : (Instr.sliceAt 23 (.pointer (some ⟨b, 0, none⟩)) (some (.int .i64 ((i : Int) * 9))) (some (.int .i64 (((i : Int) + 1) * 9))) none).run Try.prog w = .ok (.slice (some ⟨b, 9 * i, none⟩) 9 (72 - 9 * i)) w := by
  obtain rfl | rfl | rfl | rfl | rfl | rfl | rfl | rfl : i = 0 ∨ i = 1 ∨ i = 2 ∨ i = 3 ∨ i = 4 ∨ i = 5 ∨ i = 6 ∨ i = 7 := by omega
  all_goals simp [Instr.sliceAt, go_sem]
theorem cut36 (b i : Nat) (hi : i < 2) (w : World) : (Instr.sliceAt 23 (.pointer (some ⟨b, 0, none⟩)) (some (.int .i64 ((i : Int) * 36))) (some (.int .i64 (((i : Int) + 1) * 36))) none).run Try.prog w = .ok (.slice (some ⟨b, 36 * i, none⟩) 36 (72 - 36 * i)) w := by
  obtain rfl | rfl : i = 0 ∨ i = 1 := by omega
  all_goals simp [Instr.sliceAt, go_sem]

set_option maxRecDepth 100000 in
set_option maxHeartbeats 400000 in
theorem exposure1 (F G : Nat → Int) (hF : Byts 72 F) (hG : Byts 72 G) (w : World) :
    Calls Try.prog 16 #[.int .i64 1, .agg (ints .u8 72 F).toArray, .agg (ints .u8 72 G).toArray] w fun e w' => e = .returned (.int .i64 (Rw.mx 1 F G 9 8 : Int)) ∧ Below w.heap.size w w' := by
  obtain ⟨f, g, Hf, HS, HL⟩ : ∃ f g : Nat → Nat, Hid (Rw.mx 1 F G 9 = f) ∧ Hid (∀ i, f (i + 1) = max (f i) (g i)) ∧ Hid (∀ i, i < 8 → g i = Rw.sm 1 F G (9 * i) 9 ∧ g i ≤ 72) :=
    ⟨_, fun i => Rw.sm 1 F G (9 * i) 9, rfl, fun i => rfl, fun i hi => ⟨rfl, Rw.sm_le 1 F G (9 * i) 9 (fun j hj => hF _ (by omega)) (fun j hj => hG _ (by omega))⟩⟩
  have H0 : Hid (f 0 = 0) := by rw [← Hf.out]; rfl
  rw [show Rw.mx 1 F G 9 8 = f 8 by rw [Hf.out]]
  have hw : Hid (∀ w : World, Calls Try.prog 12 #[.int .i64 1] w fun e w' => e = .returned (.int .i64 8) ∧ w' = w) := countWords_any .bits
  have HP : Hid (∀ (x : Int), 0 ≤ x → x ≤ 8 → ∀ w : World, Calls Try.prog 26 #[.int .i64 1, .int .i64 x, .int .i64 0] w fun e w' => e = .returned (.int .i64 (x * 9)) ∧ w' = w) := fun x h1 h2 w => by
    have := placeOf_any .bits x 0 ⟨h1, by omega⟩ ⟨by omega, by omega⟩ w
    rwa [Int.add_zero] at this
  have HU : Hid (∀ (A B i c d : Nat), i < 8 → 9 ≤ c → 9 ≤ d → ∀ W : World, Bk .u8 W A 72 F → Bk .u8 W B 72 G → Calls Try.prog 29 #[.int .i64 1, .slice (some ⟨A, 9 * i, none⟩) 9 c, .slice (some ⟨B, 9 * i, none⟩) 9 d] W fun e w' => e = .returned (.int .i64 (g i : Int)) ∧ ∃ q, w' = W.drewN q) := fun A B i c d h1 h2 h3 W h4 h5 => by
    rw [(HL.out i h1).1]
    exact unlike1 F G hF hG A B (9 * i) c d (by omega) h2 h3 W h4 h5
  clear Hf
  have HG : Hid (∀ i, i < 8 → g i ≤ 72) := fun i hi => (HL.out i hi).2
  clear HL
  obtain ⟨A0, hA0⟩ : ∃ A, (ints .u8 72 F).toArray = A := ⟨_, rfl⟩
  obtain ⟨A1, hA1⟩ : ∃ A, (ints .u8 72 G).toArray = A := ⟨_, rfl⟩
  rw [hA0, hA1]
  go_enter Try.func16, Try.ntmps16
  go_wp2_with (go_at_call 12; refine (hw.out _).mono ?_; rintro e w' ⟨rfl, rfl⟩)
  obtain ⟨V, hV⟩ : ∃ V, (w.alloc (.cells A0 23)).alloc (.cells A1 23) = V := ⟨_, rfl⟩
  have HI : Hid (Bk .u8 V w.heap.size 72 F ∧ Bk .u8 V (w.heap.size + 1) 72 G ∧ Below w.heap.size w V) := by
    rw [← hV, ← hA0, ← hA1]
    have h1 := Bk.new .u8 (w.alloc (.cells (ints .u8 72 F).toArray 23)) 72 G 23
    simp only [World.size_alloc] at h1
    exact ⟨(Bk.new .u8 w 72 F _).alloc _, h1, ((Below.refl _ w).alloc (Nat.le_refl _) _).alloc (by simp) _⟩
  obtain ⟨B, hB⟩ : ∃ B, w.heap.size = B := ⟨_, rfl⟩
  obtain ⟨C, hC⟩ : ∃ C, B + 1 = C := ⟨_, rfl⟩
  rw [hV]
  rw [hB, hC] at HI ⊢
  clear hV hA0 hA1 hC hF hG hw
  go_loopw [7, 13] (fun cv iv wr => ∃ i t : Nat, i ≤ 8 ∧ t ≤ 72 ∧ Hid (f i = t) ∧ cv = .int .i64 (t : Int) ∧ iv = .int .i64 (i : Int) ∧ Hid (∃ q, wr = V.drewN q)) (fun _ iv _ => 8 - (intOf iv).toNat)
  case atStart => exact ⟨0, 0, by omega, by omega, H0, rfl, rfl, ⟨0, rfl⟩⟩
  case round =>
    obtain ⟨i, t, hi, ht, Ht, rfl, rfl, Hq⟩ := hrel
    by_cases hlt : i < 8
    · have hst := HS.out i
      have hle := HG.out i hlt
      rw [Ht.out] at hst
      have HUi : Hid (∀ (c d : Nat), 9 ≤ c → 9 ≤ d → ∀ W : World, Bk .u8 W B 72 F → Bk .u8 W C 72 G → Calls Try.prog 29 #[.int .i64 1, .slice (some ⟨B, 9 * i, none⟩) 9 c, .slice (some ⟨C, 9 * i, none⟩) 9 d] W fun e w' => e = .returned (.int .i64 (g i : Int)) ∧ ∃ q, w' = W.drewN q) := fun c d => HU.out B C i c d hlt
      obtain ⟨u, Hu⟩ : ∃ u, Hid (g i = u) := ⟨_, rfl⟩
      rw [Hu.out] at hst hle HUi
      obtain ⟨v, hv, hv2⟩ : ∃ v, max t u = v ∧ v ≤ 72 := ⟨_, rfl, by omega⟩
      rw [hv] at hst
      have Hst : Hid (f (i + 1) = v) := hst
      have HP1 : Hid (∀ w : World, Calls Try.prog 26 #[.int .i64 1, .int .i64 (i : Int), .int .i64 0] w fun e w' => e = .returned (.int .i64 ((i : Int) * 9)) ∧ w' = w) := HP.out (i : Int) (by omega) (by omega)
      have HP2 : Hid (∀ w : World, Calls Try.prog 26 #[.int .i64 1, .int .i64 ((i : Int) + 1), .int .i64 0] w fun e w' => e = .returned (.int .i64 (((i : Int) + 1) * 9)) ∧ w' = w) := HP.out ((i : Int) + 1) (by omega) (by omega)
      have HM : Hid (∀ (ts : Array TypeId) (t' : TypeId) (w : World), (Builtin.max_ ts t' #[.int .i64 (t : Int), .int .i64 (u : Int)]).run Try.prog w = .ok (.int .i64 (v : Int)) w) := fun ts t' w => max_run _ _ _ (by omega) ts t' w
      clear hst HU HP HS HG
      go_wp2_with fail
      refine (HP1.out _).mono ?_
      rintro e w1 ⟨rfl, h1⟩
      subst h1
      go_wp2_with fail
      refine (HP2.out _).mono ?_
      rintro e w1 ⟨rfl, h1⟩
      subst h1
      have hm := HM.out
      have hc1 := cut9 B i hlt
      have hc2 := cut9 C i hlt
      go_wp2
      go_region_with ((go_at_call 29; refine (HUi.out _ _ (by omega) (by omega) _ (by exact (by obtain ⟨q, rfl⟩ := Hq.out; exact HI.out.1)) (by exact (by obtain ⟨q, rfl⟩ := Hq.out; exact HI.out.2.1))).mono ?_; rintro e w' ⟨rfl, hq⟩))
      all_goals
        have Hq2 : Hid (∃ q, w' = V.drewN q) := by
          obtain ⟨q, rfl⟩ := hq
          obtain ⟨r, rfl⟩ := Hq.out
          exact ⟨_, by rw [show (V.drewN r).drew = V.drewN (r + 1) from by rw [← World.drewN_drewN]; rfl, World.drewN_drewN]⟩
        clear hq hm hc1 hc2
        go_wp2
        go_roundw
        case rel => exact ⟨i + 1, v, by omega, hv2, Hst, rfl, by go_num, Hq2⟩
        case measure => simp [intOf]; omega
    · obtain rfl : i = 8 := by omega
      have HE : Hid (f 8 = t) := Ht
      clear HS HG HP HU
      go_wp2
      go_ret
      exact ⟨by rw [HE.out]; rfl, by rw [hB]; obtain ⟨q, rfl⟩ := Hq.out; exact below_stay HI.out.2.2 (Stay.drewN _ V q) (Nat.le_refl _)⟩
set_option maxRecDepth 100000 in
set_option maxHeartbeats 400000 in
theorem exposure2 (F G : Nat → Int) (hF : Byts 72 F) (hG : Byts 72 G) (w : World) :
    Calls Try.prog 16 #[.int .i64 2, .agg (ints .u8 72 F).toArray, .agg (ints .u8 72 G).toArray] w fun e w' => e = .returned (.int .i64 (Rw.mx 2 F G 36 2 : Int)) ∧ Below w.heap.size w w' := by
  obtain ⟨f, g, Hf, HS, HL⟩ : ∃ f g : Nat → Nat, Hid (Rw.mx 2 F G 36 = f) ∧ Hid (∀ i, f (i + 1) = max (f i) (g i)) ∧ Hid (∀ i, i < 2 → g i = Rw.sm 2 F G (36 * i) 36 ∧ g i ≤ 288) :=
    ⟨_, fun i => Rw.sm 2 F G (36 * i) 36, rfl, fun i => rfl, fun i hi => ⟨rfl, Rw.sm_le 2 F G (36 * i) 36 (fun j hj => hF _ (by omega)) (fun j hj => hG _ (by omega))⟩⟩
  have H0 : Hid (f 0 = 0) := by rw [← Hf.out]; rfl
  rw [show Rw.mx 2 F G 36 2 = f 2 by rw [Hf.out]]
  have hw : Hid (∀ w : World, Calls Try.prog 12 #[.int .i64 2] w fun e w' => e = .returned (.int .i64 2) ∧ w' = w) := countWords_any .chips
  have HP : Hid (∀ (x : Int), 0 ≤ x → x ≤ 2 → ∀ w : World, Calls Try.prog 26 #[.int .i64 2, .int .i64 x, .int .i64 0] w fun e w' => e = .returned (.int .i64 (x * 36)) ∧ w' = w) := fun x h1 h2 w => by
    have := placeOf_any .chips x 0 ⟨h1, by omega⟩ ⟨by omega, by omega⟩ w
    rwa [Int.add_zero] at this
  have HU : Hid (∀ (A B i c d : Nat), i < 2 → 36 ≤ c → 36 ≤ d → ∀ W : World, Bk .u8 W A 72 F → Bk .u8 W B 72 G → Calls Try.prog 29 #[.int .i64 2, .slice (some ⟨A, 36 * i, none⟩) 36 c, .slice (some ⟨B, 36 * i, none⟩) 36 d] W fun e w' => e = .returned (.int .i64 (g i : Int)) ∧ ∃ q, w' = W.drewN q) := fun A B i c d h1 h2 h3 W h4 h5 => by
    rw [(HL.out i h1).1]
    exact unlike2 F G A B (36 * i) c d (by omega) W h4 h5
  clear Hf
  have HG : Hid (∀ i, i < 2 → g i ≤ 288) := fun i hi => (HL.out i hi).2
  clear HL
  obtain ⟨A0, hA0⟩ : ∃ A, (ints .u8 72 F).toArray = A := ⟨_, rfl⟩
  obtain ⟨A1, hA1⟩ : ∃ A, (ints .u8 72 G).toArray = A := ⟨_, rfl⟩
  rw [hA0, hA1]
  go_enter Try.func16, Try.ntmps16
  go_wp2_with (go_at_call 12; refine (hw.out _).mono ?_; rintro e w' ⟨rfl, rfl⟩)
  obtain ⟨V, hV⟩ : ∃ V, (w.alloc (.cells A0 23)).alloc (.cells A1 23) = V := ⟨_, rfl⟩
  have HI : Hid (Bk .u8 V w.heap.size 72 F ∧ Bk .u8 V (w.heap.size + 1) 72 G ∧ Below w.heap.size w V) := by
    rw [← hV, ← hA0, ← hA1]
    have h1 := Bk.new .u8 (w.alloc (.cells (ints .u8 72 F).toArray 23)) 72 G 23
    simp only [World.size_alloc] at h1
    exact ⟨(Bk.new .u8 w 72 F _).alloc _, h1, ((Below.refl _ w).alloc (Nat.le_refl _) _).alloc (by simp) _⟩
  obtain ⟨B, hB⟩ : ∃ B, w.heap.size = B := ⟨_, rfl⟩
  obtain ⟨C, hC⟩ : ∃ C, B + 1 = C := ⟨_, rfl⟩
  rw [hV]
  rw [hB, hC] at HI ⊢
  clear hV hA0 hA1 hC hF hG hw
  go_loopw [7, 13] (fun cv iv wr => ∃ i t : Nat, i ≤ 2 ∧ t ≤ 288 ∧ Hid (f i = t) ∧ cv = .int .i64 (t : Int) ∧ iv = .int .i64 (i : Int) ∧ Hid (∃ q, wr = V.drewN q)) (fun _ iv _ => 2 - (intOf iv).toNat)
  case atStart => exact ⟨0, 0, by omega, by omega, H0, rfl, rfl, ⟨0, rfl⟩⟩
  case round =>
    obtain ⟨i, t, hi, ht, Ht, rfl, rfl, Hq⟩ := hrel
    by_cases hlt : i < 2
    · have hst := HS.out i
      have hle := HG.out i hlt
      rw [Ht.out] at hst
      have HUi : Hid (∀ (c d : Nat), 36 ≤ c → 36 ≤ d → ∀ W : World, Bk .u8 W B 72 F → Bk .u8 W C 72 G → Calls Try.prog 29 #[.int .i64 2, .slice (some ⟨B, 36 * i, none⟩) 36 c, .slice (some ⟨C, 36 * i, none⟩) 36 d] W fun e w' => e = .returned (.int .i64 (g i : Int)) ∧ ∃ q, w' = W.drewN q) := fun c d => HU.out B C i c d hlt
      obtain ⟨u, Hu⟩ : ∃ u, Hid (g i = u) := ⟨_, rfl⟩
      rw [Hu.out] at hst hle HUi
      obtain ⟨v, hv, hv2⟩ : ∃ v, max t u = v ∧ v ≤ 288 := ⟨_, rfl, by omega⟩
      rw [hv] at hst
      have Hst : Hid (f (i + 1) = v) := hst
      have HP1 : Hid (∀ w : World, Calls Try.prog 26 #[.int .i64 2, .int .i64 (i : Int), .int .i64 0] w fun e w' => e = .returned (.int .i64 ((i : Int) * 36)) ∧ w' = w) := HP.out (i : Int) (by omega) (by omega)
      have HP2 : Hid (∀ w : World, Calls Try.prog 26 #[.int .i64 2, .int .i64 ((i : Int) + 1), .int .i64 0] w fun e w' => e = .returned (.int .i64 (((i : Int) + 1) * 36)) ∧ w' = w) := HP.out ((i : Int) + 1) (by omega) (by omega)
      have HM : Hid (∀ (ts : Array TypeId) (t' : TypeId) (w : World), (Builtin.max_ ts t' #[.int .i64 (t : Int), .int .i64 (u : Int)]).run Try.prog w = .ok (.int .i64 (v : Int)) w) := fun ts t' w => max_run _ _ _ (by omega) ts t' w
      clear hst HU HP HS HG
      go_wp2_with fail
      refine (HP1.out _).mono ?_
      rintro e w1 ⟨rfl, h1⟩
      subst h1
      go_wp2_with fail
      refine (HP2.out _).mono ?_
      rintro e w1 ⟨rfl, h1⟩
      subst h1
      have hm := HM.out
      have hc1 := cut36 B i hlt
      have hc2 := cut36 C i hlt
      go_wp2
      go_region_with ((go_at_call 29; refine (HUi.out _ _ (by omega) (by omega) _ (by exact (by obtain ⟨q, rfl⟩ := Hq.out; exact HI.out.1)) (by exact (by obtain ⟨q, rfl⟩ := Hq.out; exact HI.out.2.1))).mono ?_; rintro e w' ⟨rfl, hq⟩))
      all_goals
        have Hq2 : Hid (∃ q, w' = V.drewN q) := by
          obtain ⟨q, rfl⟩ := hq
          obtain ⟨r, rfl⟩ := Hq.out
          exact ⟨_, by rw [show (V.drewN r).drew = V.drewN (r + 1) from by rw [← World.drewN_drewN]; rfl, World.drewN_drewN]⟩
        clear hq hm hc1 hc2
        go_wp2
        go_roundw
        case rel => exact ⟨i + 1, v, by omega, hv2, Hst, rfl, by go_num, Hq2⟩
        case measure => simp [intOf]; omega
    · obtain rfl : i = 2 := by omega
      have HE : Hid (f 2 = t) := Ht
      clear HS HG HP HU
      go_wp2
      go_ret
      exact ⟨by rw [HE.out]; rfl, by rw [hB]; obtain ⟨q, rfl⟩ := Hq.out; exact below_stay HI.out.2.2 (Stay.drewN _ V q) (Nat.le_refl _)⟩
set_option maxRecDepth 100000 in
set_option maxHeartbeats 400000 in
theorem exposure0 (m : Int) (h1 : m ≠ 1) (h2 : m ≠ 2) (F G : Nat → Int) (w : World) :
    Calls Try.prog 16 #[.int .i64 m, .agg (ints .u8 72 F).toArray, .agg (ints .u8 72 G).toArray] w fun e w' => e = .returned (.int .i64 0) ∧ Below w.heap.size w w' := by
  have hw : Hid (∀ w : World, Calls Try.prog 12 #[.int .i64 m] w fun e w' => e = .returned (.int .i64 0) ∧ w' = w) := countWords_any (.none m h1 h2)
  clear h1 h2
  obtain ⟨A0, hA0⟩ : ∃ A, (ints .u8 72 F).toArray = A := ⟨_, rfl⟩
  obtain ⟨A1, hA1⟩ : ∃ A, (ints .u8 72 G).toArray = A := ⟨_, rfl⟩
  rw [hA0, hA1]
  clear hA0 hA1
  go_enter Try.func16, Try.ntmps16
  go_wp2_with (go_at_call 12; refine (hw.out _).mono ?_; rintro e w' ⟨rfl, rfl⟩)
  go_loopw [7, 13] (fun tv iv wr => tv = .int .i64 0 ∧ iv = .int .i64 0 ∧ wr = (w.alloc (.cells A0 23)).alloc (.cells A1 23)) (fun _ _ _ => 0)
  case atStart => exact ⟨rfl, rfl, rfl⟩
  case round =>
    obtain ⟨rfl, rfl, rfl⟩ := hrel
    go_wp2
    go_ret
    exact ⟨rfl, ((Below.refl _ w).alloc (Nat.le_refl _) _).alloc (by simp) _⟩
theorem exposure_any {m n k : Int} (h : Md m n k) (F G : Nat → Int) (hF : Byts 72 F) (hG : Byts 72 G) (w : World) :
    Calls Try.prog 16 #[.int .i64 m, .agg (ints .u8 72 F).toArray, .agg (ints .u8 72 G).toArray] w fun e w' => e = .returned (.int .i64 (ex m n k F G : Int)) ∧ Below w.heap.size w w' := by
  rcases h with ⟨rfl, rfl, rfl⟩ | ⟨rfl, rfl, rfl⟩ | ⟨h1, h2, rfl, rfl⟩
  · exact exposure1 F G hF hG w
  · exact exposure2 F G hF hG w
  · exact exposure0 m h1 h2 F G w
end Go.Proofs.Ytkbbnpjjfhmlkaa
