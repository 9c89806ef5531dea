/-
  The document's chips: their struct; is there an index.
-/
import Derived.Test.YtcpjmfemgdgplaaCb
import Derived.Test.YtcpjmfemgdgplaaFaR4
import Derived.Test.YtcpjmfemgdgplaaFaR3
import Derived.Test.YtcpjmfemgdgplaaFlatArgs
import Derived.Test.YtcpjmfemgdgplaaFaW10
namespace Go.Proofs.Ytcpjmfemgdgplaa
open Go.RowKit Go.Shelf
open Ge (pw rt hd ix)
attribute [local go_sem] Oper.semAt_some

/-- the cells of the document's chips -/
def dl (r s b o d m : Int) (va vb vc : Value) : List Value := [.int .i64 r, .int .i64 s, .int .i64 b, .int .i64 o, .int .i64 d, .int .i64 m, va, vb, vc]
theorem infoD12 : (Try.prog.info? 34).map (·.size) = some 9 := by kernel_rfl
theorem infoG12 : (Try.prog.info? 30).map (·.size) = some 5 := by kernel_rfl
/-- the document's chips in a block -/
structure D12 (B : Nat) (r s b o d m : Int) (va vb vc : Value) (w W : World) : Prop where
  c : Cb W B (dl r s b o d m va vb vc)
  n : Below B w W
section
variable {B : Nat} {r s b o d m : Int} {va vb vc : Value} {w W W' : World}
theorem D12.next (h : D12 B r s b o d m va vb vc w W) (e : Below W.heap.size W W') : D12 B r s b o d m va vb vc w W' := ⟨h.c.next e, h.n.trans (e.mono (Nat.le_of_lt h.c.lt))⟩
theorem D12.g (h : D12 B r s b o d m va vb vc w W) : W.rangeAt B 0 [.int .i64 r, .int .i64 s, .int .i64 b, .int .i64 o, .int .i64 d] := h.c.rangeAt 0 _ rfl
theorem D12.all (h : D12 B r s b o d m va vb vc w W) : W.rangeAt B 0 [.int .i64 r, .int .i64 s, .int .i64 b, .int .i64 o, .int .i64 d, .int .i64 m, va, vb, vc] := h.c.range
theorem D12.cm (h : D12 B r s b o d m va vb vc w W) : W.cell? ⟨B, 5, none⟩ = some (.int .i64 m) := h.c.cell rfl
theorem D12.ca (h : D12 B r s b o d m va vb vc w W) : W.cell? ⟨B, 6, none⟩ = some va := h.c.cell rfl
theorem D12.cb (h : D12 B r s b o d m va vb vc w W) : W.cell? ⟨B, 7, none⟩ = some vb := h.c.cell rfl
theorem D12.cc (h : D12 B r s b o d m va vb vc w W) : W.cell? ⟨B, 8, none⟩ = some vc := h.c.cell rfl
end
set_option maxRecDepth 100000 in
set_option maxHeartbeats 2000000 in
theorem has12_any (r s b o d m : Int) (va vb vc : Value) (i : Int) (hr : I64 r) (hb : I64 b) (ho : I64 o) (hd9 : I64 d) (hi : i < 9223372036854775808) (w : World) :
    Calls Try.prog 18 #[.agg #[.int .i64 r, .int .i64 s, .int .i64 b, .int .i64 o, .int .i64 d, .int .i64 m, va, vb, vc], .int .i64 i] w fun e w' => e = .returned (.bool (decide (0 ≤ i) && hx r s b o d i)) ∧ Below w.heap.size w w' := by
  obtain ⟨z, Z⟩ : ∃ z, hx r s b o d i = z := ⟨_, rfl⟩
  by_cases h0 : 0 ≤ i
  · have d0 : decide (0 ≤ i) = true := decide_eq_true h0
    have CP : Hid (∀ w : World, Calls Try.prog 44 #[.int .i64 i] w fun e w' => e = .returned (.agg #[.int .i64 (i / 1048576), .int .i64 (i / 65536 % 16), .int .i64 (i / 64 % 1024), .int .i64 (i % 64)]) ∧ Below w.heap.size w w') := refPlace_any i h0 hi
    have CH : Hid (∀ w : World, Calls Try.prog 43 #[.agg #[.int .i64 r, .int .i64 s, .int .i64 b, .int .i64 o, .int .i64 d], .agg #[.int .i64 (i / 1048576), .int .i64 (i / 65536 % 16), .int .i64 (i / 64 % 1024), .int .i64 (i % 64)]] w fun e w' => e = .returned (.bool z) ∧ Below w.heap.size w w') := fun w => by rw [← Z]; exact refHolds_any r s b o d _ _ _ _ hr hb ho hd9 w
    rw [Z, d0]
    clear Z hr hb ho hd9 h0
    obtain ⟨p0, hp0⟩ : ∃ y, i / 1048576 = y := ⟨_, rfl⟩
    obtain ⟨p1, hp1⟩ : ∃ y, i / 65536 % 16 = y := ⟨_, rfl⟩
    obtain ⟨p2, hp2⟩ : ∃ y, i / 64 % 1024 = y := ⟨_, rfl⟩
    obtain ⟨p3, hp3⟩ : ∃ y, i % 64 = y := ⟨_, rfl⟩
    rw [hp0, hp1, hp2, hp3] at CP CH
    clear hp0 hp1 hp2 hp3
    go_enter Try.func18, Try.ntmps18
    go_upto_region 1 with (fail)
    obtain ⟨B, hB⟩ : ∃ B, w.heap.size = B := ⟨_, rfl⟩
    obtain ⟨V, hV⟩ : ∃ V, w.alloc (.cells #[.int .i64 r, .int .i64 s, .int .i64 b, .int .i64 o, .int .i64 d, .int .i64 m, va, vb, vc] 34) = V := ⟨_, rfl⟩
    have HS : Hid (D12 B r s b o d m va vb vc w V) := by rw [← hV, ← hB]; exact ⟨Cb.new w (dl r s b o d m va vb vc) _, (Below.refl _ w).alloc (Nat.le_refl _) _⟩
    rw [hV, hB]
    clear hV
    refine region_calm (by kernel_rfl) (by kernel_rfl) (fun W => Below V.heap.size V W) (below_drew1 V) ?_
    intro U hU f hf hof
    have HN : Hid (∀ u W, Below (f u).heap.size (f u) W → ∃ x, W = f x) := fun u W h => hof W ((hf u).trans (h.mono (hf u).size))
    have HE : Hid (∀ y, D12 B r s b o d m va vb vc w (f y)) := fun y => HS.out.next (hf y)
    clear hf hof HS
    go_big_quiet_step (fail)
    go_big_quiet_step (fail)
    go_big_quiet_step (fail)
    go_big_quiet_step (fail)
    refine quiet_load (by rfl) 30 _ rfl B 0 rfl [.int .i64 r, .int .i64 s, .int .i64 b, .int .i64 o, .int .i64 d] _ (by rintro _ ⟨y, rfl⟩; exact (HE.out y).g) Try.underlying30 rfl infoG12 ?_
    simp only [Act.put, List.setIfInBounds_toArray, List.set_cons_zero, List.set_cons_succ]
    go_big_quiet_step (fail)
    go_big_quiet_step ((go_at_call 44; exact calm_next HN.out (CP.out _)))
    go_big_quiet_step ((go_at_call 43; exact calm_next HN.out (CH.out _)))
    go_big_quiet_step (fail)
    go_big_quiet_step (fail)
    refine wpQuiet_nil ?_
    rintro _ ⟨y, rfl⟩
    go_wp2
    go_ret
    exact ⟨rfl, by first | exact (HE.out y).n | (rw [hB]; exact (HE.out y).n)⟩
  · have d0 : decide (0 ≤ i) = false := decide_eq_false h0
    rw [d0]
    clear h0 Z
    go_enter Try.func18, Try.ntmps18
    go_upto_region 1 with (fail)
    have HB : Hid (Below w.heap.size w (w.alloc (.cells #[.int .i64 r, .int .i64 s, .int .i64 b, .int .i64 o, .int .i64 d, .int .i64 m, va, vb, vc] 34))) := (Below.refl _ w).alloc (Nat.le_refl _) _
    obtain ⟨V, hV⟩ : ∃ V, w.alloc (.cells #[.int .i64 r, .int .i64 s, .int .i64 b, .int .i64 o, .int .i64 d, .int .i64 m, va, vb, vc] 34) = V := ⟨_, rfl⟩
    rw [hV] at HB ⊢
    clear hV
    refine region_calm (by kernel_rfl) (by kernel_rfl) (fun W => Below V.heap.size V W) (below_drew1 V) ?_
    intro U hU f hf hof
    have HE : Hid (∀ y, Below w.heap.size w (f y)) := fun y => HB.out.trans ((hf y).mono HB.out.size)
    clear hf hof HB
    go_big_quiet_step (fail)
    go_big_quiet_step (fail)
    go_big_quiet_step (fail)
    go_big_quiet_step (fail)
    go_big_quiet_step (fail)
    go_big_quiet_step (fail)
    go_big_quiet_step (fail)
    go_big_quiet_step (fail)
    go_big_quiet_step (fail)
    go_big_quiet_step (fail)
    refine wpQuiet_nil ?_
    rintro _ ⟨y, rfl⟩
    go_wp2
    go_ret
    exact ⟨rfl, HE.out y⟩
end Go.Proofs.Ytcpjmfemgdgplaa
