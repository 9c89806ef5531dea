/-
  The document's example of layer 11.
-/
import Derived.Test.YtlacmkcmfkakjaaFaW7
import Derived.Test.YtlacmkcmfkakjaaFaR3
namespace Go.Proofs.Ytlacmkcmfkakjaa
open Go.RowKit Go.Shelf
open Ge (pw rt hd ix)
attribute [local go_sem] Oper.semAt_some

theorem exec_build {P : Program} {op : Oper} {a : Act} (ty : TypeId) (ho : op.op = .build ty #[]) (v : Value) (h : ∀ w, (Instr.build ty #[]).run P w = .ok v w) (w : World) : (execOp a.eval op).run P w = .ok (.value v) w := by
  simp [execOp, ho, h]
theorem build0R (w : World) : (Instr.build 41 #[]).run Try.prog w = .ok (.agg (ints .u8 72 fun _ => 0).toArray) w := run_build w _ _ _ (by kernel_rfl)
/-- an array of 72 bytes is laid and written -/
theorem laid72 (W : World) (t : TypeId) (G : Nat → Int) : Bk .u8 ((W.alloc (.cells (ints .u8 72 fun _ => 0).toArray t)).setCells W.heap.size 0 (ints .u8 72 G)) W.heap.size 72 G ∧ Below W.heap.size W ((W.alloc (.cells (ints .u8 72 fun _ => 0).toArray t)).setCells W.heap.size 0 (ints .u8 72 G)) ∧
    (W.alloc (.cells (ints .u8 72 fun _ => 0).toArray t)).there W.heap.size 0 (ints .u8 72 G).toArray.size :=
  ⟨Bk.put (Bk.new .u8 W 72 (fun _ => 0) t) G, belows_put (Nat.le_refl _) _ 0 ((Below.refl _ W).alloc (Nat.le_refl _) _), by
    have := Bk.there (Bk.new .u8 W 72 (fun _ => 0) t) .u8 G
    simpa [ints] using this⟩
/-- what the example works on -/
structure An11 (B E : Nat) (X : Nat → Int) (w W : World) : Prop where
  f : Ft W B 3 0 0 1 0 2 0 255
  r : Bk .u8 W E 72 X
  n : Below B w W
theorem An11.next {B E : Nat} {X : Nat → Int} {w W W' : World} (h : An11 B E X w W) (e : Below W.heap.size W W') : An11 B E X w W' :=
  ⟨h.f.next e, h.r.next e, h.n.trans (e.mono (Nat.le_of_lt h.f.lt))⟩
set_option maxRecDepth 100000 in
set_option maxHeartbeats 2000000 in
theorem anchor11_any (w : World) : Calls Try.prog 8 #[] w fun e w' => e = .returned (.bool true) ∧ Below w.heap.size w w' := by
  have hz := zeroR
  have hb := build0R
  obtain ⟨X, hX⟩ : ∃ X, apF 9 3 0 0 1 0 2 0 255 0 0 1 3 (fun _ => 0) = X := ⟨_, rfl⟩
  have x2 : X 2 = 255 := by rw [← hX]; rfl
  have x11 : X 11 = 255 := by rw [← hX]; rfl
  have x3 : X 3 = 0 := by rw [← hX]; rfl
  obtain ⟨L, hL⟩ : ∃ L, ints .u8 72 X = L := ⟨_, rfl⟩
  obtain ⟨Z, hZ⟩ : ∃ Z, (ints .u8 72 fun _ => 0).toArray = Z := ⟨_, rfl⟩
  have C0 : Hid (∀ w : World, Calls Try.prog 16 #[.agg #[.int .i64 3, .int .i64 0, .int .i64 0, .int .i64 1, .int .i64 0, .int .i64 2, .int .i64 0, .int .i64 255], .int .i64 1, .agg #[.int .i64 0, .int .i64 0, .int .i64 1, .int .i64 3], .agg Z] w fun e w' => e = .returned (.agg L.toArray) ∧ Below w.heap.size w w') := fun w => by
    rw [← hL, ← hX, ← hZ]
    exact apply_any 3 0 0 1 0 2 0 255 0 0 1 3 (fun _ => 0) (fun _ _ => ⟨Int.le_refl _, show (0 : Int) < 256 by decide⟩) 1 9 8 .bits (by omega) w
  have C1 : Hid (∀ w : World, Calls Try.prog 10 #[.agg #[.int .i64 3, .int .i64 0, .int .i64 0, .int .i64 1, .int .i64 0, .int .i64 2, .int .i64 0, .int .i64 255], .agg #[.int .i64 1, .int .i64 0, .int .i64 1, .int .i64 2, .int .i64 4], .int .i64 1] w fun e w' => e = .returned (.bool true) ∧ Below w.heap.size w w') := fun w => by
    have := fRight_any 3 0 0 1 0 2 0 255 1 0 1 2 4 1 9 8 .bits w
    rw [show hd 1 0 1 2 4 0 0 1 0 = true from by decide, rtF_yes (by omega)] at this
    exact this
  have C2 : Hid (∀ w : World, Calls Try.prog 12 #[.agg #[.int .i64 3, .int .i64 0, .int .i64 0, .int .i64 1, .int .i64 0, .int .i64 2, .int .i64 0, .int .i64 255]] w fun e w' => e = .returned (.bool true) ∧ Below w.heap.size w w') := lasts_any 3 0 0 1 0 2 0 255
  have j9 : (Try.prog.info? 41).map (·.size) = some L.toArray.size := by rw [← hL]; simpa [ints] using infoR
  have one1 : L.toArray.all (·.oneCell') = true := by rw [← hL]; exact ints_one .u8 72 X
  rw [hZ] at hz hb
  clear hX
  go_enter Try.func8, Try.ntmps8
  go_upto_region 2 with (fail)
  obtain ⟨B, hB⟩ : ∃ B, w.heap.size = B := ⟨_, rfl⟩
  obtain ⟨V, hV⟩ : ∃ V, w.alloc (.cells #[.int .i64 3, .int .i64 0, .int .i64 0, .int .i64 1, .int .i64 0, .int .i64 2, .int .i64 0, .int .i64 255] 25) = V := ⟨_, rfl⟩
  have HF : Hid (Ft V B 3 0 0 1 0 2 0 255 ∧ Below B w V) := by rw [← hV, ← hB]; exact ⟨Ft.new w 3 0 0 1 0 2 0 255 _, (Below.refl _ w).alloc (Nat.le_refl _) _⟩
  have hr := HF.out.1.range
  rw [hV, hB]
  clear hV
  go_wp2_with (first
    | refine wpList_load_mid rfl 25 _ rfl B 0 rfl [.int .i64 3, .int .i64 0, .int .i64 0, .int .i64 1, .int .i64 0, .int .i64 2, .int .i64 0, .int .i64 255] _ hr Try.underlying25 rfl infoF ?_
    | refine wpList_known rfl _ (exec_build 41 rfl _ hb _) ?_)
  refine (C0.out _).mono ?_
  rintro e W1 ⟨rfl, b1⟩
  have h9 := laid72 W1 41 X
  obtain ⟨ht, HS⟩ : (W1.alloc (.cells Z 41)).there W1.heap.size 0 L.toArray.size ∧ Hid (An11 B W1.heap.size X w ((W1.alloc (.cells Z 41)).setCells W1.heap.size 0 L)) := by
    rw [hL, hZ] at h9
    exact ⟨h9.2.2, (HF.out.1.next b1).next h9.2.1, h9.1, (HF.out.2.trans (b1.mono (Nat.le_of_lt HF.out.1.lt))).trans (h9.2.1.mono (Nat.le_trans (Nat.le_of_lt HF.out.1.lt) b1.size))⟩
  clear h9 HF hr b1
  go_upto_region 3 with (first | refine wpList_store_mid rfl 41 _ _ rfl _ 0 L.toArray rfl rfl ht j9 one1 ?_)
  obtain ⟨W2, hW2⟩ : ∃ W2, (W1.alloc (.cells Z 41)).setCells W1.heap.size 0 L = W2 := ⟨_, rfl⟩
  obtain ⟨E, hE⟩ : ∃ E, W1.heap.size = E := ⟨_, rfl⟩
  rw [hE] at hW2 HS ⊢
  rw [hW2] at HS ⊢
  clear hW2 ht hE
  go_wp2_with (first | refine wpList_load_mid rfl 25 _ rfl B 0 rfl [.int .i64 3, .int .i64 0, .int .i64 0, .int .i64 1, .int .i64 0, .int .i64 2, .int .i64 0, .int .i64 255] _ (by exact HS.out.f.range) Try.underlying25 rfl infoF ?_)
  refine (C1.out _).mono ?_
  rintro e W3 ⟨rfl, b3⟩
  replace HS : Hid (An11 B E X w W3) := HS.out.next b3
  clear b3
  go_wp2_with (first | refine wpList_load_g (by rfl) 25 _ rfl B 0 rfl [.int .i64 3, .int .i64 0, .int .i64 0, .int .i64 1, .int .i64 0, .int .i64 2, .int .i64 0, .int .i64 255] _ (by exact HS.out.f.range) Try.underlying25 rfl infoF ?_)
  refine (C2.out _).mono ?_
  rintro e W4 ⟨rfl, b4⟩
  replace HS : Hid (An11 B E X w W4) := HS.out.next b4
  clear b4
  have y2 := HS.out.r.cell 2 (by omega)
  have y11 := HS.out.r.cell 11 (by omega)
  have y3 := HS.out.r.cell 3 (by omega)
  rw [x2] at y2
  rw [x11] at y11
  rw [x3] at y3
  go_wp2
  go_ret
  exact ⟨rfl, by first | exact HS.out.n | (rw [hB]; exact HS.out.n)⟩
end Go.Proofs.Ytlacmkcmfkakjaa
