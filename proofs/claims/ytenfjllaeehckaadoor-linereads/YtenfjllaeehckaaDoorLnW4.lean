/-
  A line in digits, by the document.
-/
import Derived.Test.YtenfjllaeehckaaDoorLnW3
import Derived.Laws.Strings2
namespace Go.Proofs.YtenfjllaeehckaaDoor
open Go.RowKit Go.Shelf
open Ln (hexd hxn hxl)
attribute [local go_sem] Oper.semAt_some

/-- a text of bytes -/
abbrev tx (l : List UInt8) : Value := .string ⟨l.toArray⟩
theorem exec_slice2 {P : Program} {o : Oper} {a : Act} (t : TypeId) (x i j : Operand) (ho : o.op = .slice t x (some i) (some j) none) (vx vi vj v : Value) (hx : a.eval x = vx) (hi : a.eval i = vi) (hj : a.eval j = vj)
    (h : ∀ w, (Instr.sliceAt t vx (some vi) (some vj) none).run P w = .ok v w) (w : World) : (execOp a.eval o).run P w = .ok (.value v) w := by
  simp [execOp, ho, hx, hi, hj, h]
theorem exec_add {P : Program} {o : Oper} {a : Act} (t : TypeId) (x y : Operand) (u : TypeId) (ho : o.op = .binOp .add t x y u) (vx vy v : Value) (hx : a.eval x = vx) (hy : a.eval y = vy)
    (h : ∀ w, (binOp .add t vx vy).run P w = .ok v w) (w : World) : (execOp a.eval o).run P w = .ok (.value v) w := by
  simp [execOp, ho, hx, hy, h, eqGuard]
theorem run_part (i : Nat) (hi : i < 16) (w : World) : (Instr.sliceAt 9 (.string digs) (some (.int .i64 (i : Int))) (some (.int .i64 ((i : Int) + 1))) none).run Tryd.prog w = .ok (tx [UInt8.ofNat (hexd i)]) w := by
  have : i = 0 ∨ i = 1 ∨ i = 2 ∨ i = 3 ∨ i = 4 ∨ i = 5 ∨ i = 6 ∨ i = 7 ∨ i = 8 ∨ i = 9 ∨ i = 10 ∨ i = 11 ∨ i = 12 ∨ i = 13 ∨ i = 14 ∨ i = 15 := by omega
  rcases this with rfl | rfl | rfl | rfl | rfl | rfl | rfl | rfl | rfl | rfl | rfl | rfl | rfl | rfl | rfl | rfl <;> rfl
theorem run_join (a b : List UInt8) (h : a.length + b.length ≤ 9223372036854775807) (w : World) : (binOp .add 9 (tx a) (tx b)).run Tryd.prog w = .ok (tx (a ++ b)) w := by
  simp [binOp, go_sem]
  rw [if_neg (by omega)]
  congr 2
set_option maxRecDepth 100000 in
set_option maxHeartbeats 1000000 in
theorem refHex_any (F : Nat → Int) (hF : Byts 64 F) (w : World) :
    Calls Tryd.prog 19 #[.agg (ints .u8 64 F).toArray] w fun e w' => e = .returned (tx (hxl F 128)) ∧ Below w.heap.size w w' := by
  obtain ⟨A0, hA0⟩ : ∃ A, (ints .u8 64 F).toArray = A := ⟨_, rfl⟩
  rw [hA0]
  go_enter Tryd.func19, Tryd.ntmps19
  go_wp2
  obtain ⟨V, hV⟩ : ∃ V, w.alloc (.cells A0 22) = V := ⟨_, rfl⟩
  have HI : Hid (Bk .u8 V w.heap.size 64 F ∧ Below w.heap.size w V) := by
    rw [← hV, ← hA0]
    exact ⟨Bk.new .u8 w 64 F _, (Below.refl _ w).alloc (Nat.le_refl _) _⟩
  obtain ⟨B, hB⟩ : ∃ B, w.heap.size = B := ⟨_, rfl⟩
  rw [hV]
  rw [hB] at HI ⊢
  clear hV hA0
  go_loopw [3, 4] (fun t i wr => ∃ k : Nat, k ≤ 64 ∧ t = tx (hxl F (2 * k)) ∧ i = .int .i64 (k : Int) ∧ Hid (Bk .u8 wr B 64 F ∧ Below B w wr)) (fun _ i _ => 64 - (intOf i).toNat)
  case atStart => exact ⟨0, by omega, rfl, rfl, HI⟩
  case round =>
    obtain ⟨k, hk, rfl, rfl, HK⟩ := hrel
    by_cases hlt : k < 64
    · obtain ⟨v, hv, Hv⟩ : ∃ v : Nat, v < 256 ∧ Hid (F k = (v : Int)) := ⟨(F k).toNat, by have := hF k hlt; omega, by have := hF k hlt; show _ = _; omega⟩
      have c0 := HK.out.1.cell k hlt
      rw [Hv.out] at c0
      obtain ⟨p, hp, Hp⟩ : ∃ p, p < 16 ∧ Hid (v / 16 = p) := ⟨_, by omega, rfl⟩
      obtain ⟨q, hq, Hq⟩ : ∃ q, q < 16 ∧ Hid (v % 16 = q) := ⟨_, by omega, rfl⟩
      have e1 : (v : Int).tdiv 16 = (p : Int) := by rw [Int.tdiv_eq_ediv_of_nonneg (by omega), ← Hp.out]; rfl
      have e2 : (v : Int).tmod 16 = (q : Int) := by rw [Int.tmod_eq_emod_of_nonneg (by omega), ← Hq.out]; rfl
      have wp1 : IntKind.i64.wrap ((p : Int) + 1) = (p : Int) + 1 := by rw [IntKind.wrap_i64]; omega
      have wq1 : IntKind.i64.wrap ((q : Int) + 1) = (q : Int) + 1 := by rw [IntKind.wrap_i64]; omega
      have d1 := run_part p hp
      have d2 := run_part q hq
      clear HI
      go_wp2_with (first | simp only [e1] | simp only [e2])
      refine region_ends (by kernel_rfl) (fun w' => Bk .u8 w' B 64 F ∧ Below B w w') (fun a' w' => a' = ({ tmps := #[.agg A0, .pointer (some ⟨B, 0, none⟩), .string { data := #[] }, tx (hxl F (2 * k) ++ ([UInt8.ofNat (hexd p)] ++ [UInt8.ofNat (hexd q)])), .int .i64 (k : Int), .int .i64 (p : Int), .int .i64 (q : Int), .int .i64 (k : Int), .bool (decide ((k : Int) < 64)), u9, u10, .int .i64 (k : Int), .pointer (some ⟨B, k, none⟩), .int .u8 (v : Int), .int .i64 (v : Int), .int .i64 (p : Int), .int .i64 (k : Int), .pointer (some ⟨B, k, none⟩), .int .u8 (v : Int), .int .i64 (v : Int), .int .i64 (q : Int), tx (hxl F (2 * k)), .int .i64 (p : Int), .int .i64 (p : Int), .int .i64 ((p : Int) + 1), tx [UInt8.ofNat (hexd p)], .int .i64 (q : Int), .int .i64 (q : Int), .int .i64 ((q : Int) + 1), tx [UInt8.ofNat (hexd q)], tx ([UInt8.ofNat (hexd p)] ++ [UInt8.ofNat (hexd q)]), tx (hxl F (2 * k) ++ ([UInt8.ofNat (hexd p)] ++ [UInt8.ofNat (hexd q)])), undef], defers := [] } : Act) ∧ Bk .u8 w' B 64 F ∧ Below B w w') ⟨HK.out.1, below_drewN HK.out.2 1⟩ (fun hH => ?_) ?_
      · refine take_pure 0 (v := tx (hxl F (2 * k))) rfl (by kernel_rfl) rfl (fun w' hw => by simp [execOp, go_sem]) hH ?_
        show wpAnyH _ _ _ _ _ _ _ ({ tmps := #[.agg A0, .pointer (some ⟨B, 0, none⟩), .string { data := #[] }, tx (hxl F (2 * k)), .int .i64 (k : Int), .int .i64 (p : Int), .int .i64 (q : Int), .int .i64 (k : Int), .bool (decide ((k : Int) < 64)), u9, u10, .int .i64 (k : Int), .pointer (some ⟨B, k, none⟩), .int .u8 (v : Int), .int .i64 (v : Int), .int .i64 (p : Int), .int .i64 (k : Int), .pointer (some ⟨B, k, none⟩), .int .u8 (v : Int), .int .i64 (v : Int), .int .i64 (q : Int), tx (hxl F (2 * k)), u22, u23, u24, u25, u26, u27, u28, u29, u30, u31, undef], defers := [] } : Act) _
        refine take_pure 1 (v := .int .i64 (p : Int)) rfl (by kernel_rfl) rfl (fun w' hw => by simp [execOp, go_sem]) hH ?_
        show wpAnyH _ _ _ _ _ _ _ ({ tmps := #[.agg A0, .pointer (some ⟨B, 0, none⟩), .string { data := #[] }, tx (hxl F (2 * k)), .int .i64 (k : Int), .int .i64 (p : Int), .int .i64 (q : Int), .int .i64 (k : Int), .bool (decide ((k : Int) < 64)), u9, u10, .int .i64 (k : Int), .pointer (some ⟨B, k, none⟩), .int .u8 (v : Int), .int .i64 (v : Int), .int .i64 (p : Int), .int .i64 (k : Int), .pointer (some ⟨B, k, none⟩), .int .u8 (v : Int), .int .i64 (v : Int), .int .i64 (q : Int), tx (hxl F (2 * k)), .int .i64 (p : Int), u23, u24, u25, u26, u27, u28, u29, u30, u31, undef], defers := [] } : Act) _
        refine take_pure 2 (v := .int .i64 (p : Int)) rfl (by kernel_rfl) rfl (fun w' hw => by simp [execOp, go_sem]) hH ?_
        show wpAnyH _ _ _ _ _ _ _ ({ tmps := #[.agg A0, .pointer (some ⟨B, 0, none⟩), .string { data := #[] }, tx (hxl F (2 * k)), .int .i64 (k : Int), .int .i64 (p : Int), .int .i64 (q : Int), .int .i64 (k : Int), .bool (decide ((k : Int) < 64)), u9, u10, .int .i64 (k : Int), .pointer (some ⟨B, k, none⟩), .int .u8 (v : Int), .int .i64 (v : Int), .int .i64 (p : Int), .int .i64 (k : Int), .pointer (some ⟨B, k, none⟩), .int .u8 (v : Int), .int .i64 (v : Int), .int .i64 (q : Int), tx (hxl F (2 * k)), .int .i64 (p : Int), .int .i64 (p : Int), u24, u25, u26, u27, u28, u29, u30, u31, undef], defers := [] } : Act) _
        refine take_pure 3 (v := .int .i64 ((p : Int) + 1)) rfl (by kernel_rfl) rfl (fun w' hw => by simp [execOp, go_sem, wp1]) hH ?_
        show wpAnyH _ _ _ _ _ _ _ ({ tmps := #[.agg A0, .pointer (some ⟨B, 0, none⟩), .string { data := #[] }, tx (hxl F (2 * k)), .int .i64 (k : Int), .int .i64 (p : Int), .int .i64 (q : Int), .int .i64 (k : Int), .bool (decide ((k : Int) < 64)), u9, u10, .int .i64 (k : Int), .pointer (some ⟨B, k, none⟩), .int .u8 (v : Int), .int .i64 (v : Int), .int .i64 (p : Int), .int .i64 (k : Int), .pointer (some ⟨B, k, none⟩), .int .u8 (v : Int), .int .i64 (v : Int), .int .i64 (q : Int), tx (hxl F (2 * k)), .int .i64 (p : Int), .int .i64 (p : Int), .int .i64 ((p : Int) + 1), u25, u26, u27, u28, u29, u30, u31, undef], defers := [] } : Act) _
        refine take_pure 4 (v := tx [UInt8.ofNat (hexd p)]) rfl (by kernel_rfl) rfl (fun w' _ => exec_slice2 _ _ _ _ rfl _ _ _ _ rfl rfl rfl d1 w') hH ?_
        show wpAnyH _ _ _ _ _ _ _ ({ tmps := #[.agg A0, .pointer (some ⟨B, 0, none⟩), .string { data := #[] }, tx (hxl F (2 * k)), .int .i64 (k : Int), .int .i64 (p : Int), .int .i64 (q : Int), .int .i64 (k : Int), .bool (decide ((k : Int) < 64)), u9, u10, .int .i64 (k : Int), .pointer (some ⟨B, k, none⟩), .int .u8 (v : Int), .int .i64 (v : Int), .int .i64 (p : Int), .int .i64 (k : Int), .pointer (some ⟨B, k, none⟩), .int .u8 (v : Int), .int .i64 (v : Int), .int .i64 (q : Int), tx (hxl F (2 * k)), .int .i64 (p : Int), .int .i64 (p : Int), .int .i64 ((p : Int) + 1), tx [UInt8.ofNat (hexd p)], u26, u27, u28, u29, u30, u31, undef], defers := [] } : Act) _
        refine take_pure 5 (v := .int .i64 (q : Int)) rfl (by kernel_rfl) rfl (fun w' hw => by simp [execOp, go_sem]) hH ?_
        show wpAnyH _ _ _ _ _ _ _ ({ tmps := #[.agg A0, .pointer (some ⟨B, 0, none⟩), .string { data := #[] }, tx (hxl F (2 * k)), .int .i64 (k : Int), .int .i64 (p : Int), .int .i64 (q : Int), .int .i64 (k : Int), .bool (decide ((k : Int) < 64)), u9, u10, .int .i64 (k : Int), .pointer (some ⟨B, k, none⟩), .int .u8 (v : Int), .int .i64 (v : Int), .int .i64 (p : Int), .int .i64 (k : Int), .pointer (some ⟨B, k, none⟩), .int .u8 (v : Int), .int .i64 (v : Int), .int .i64 (q : Int), tx (hxl F (2 * k)), .int .i64 (p : Int), .int .i64 (p : Int), .int .i64 ((p : Int) + 1), tx [UInt8.ofNat (hexd p)], .int .i64 (q : Int), u27, u28, u29, u30, u31, undef], defers := [] } : Act) _
        refine take_pure 6 (v := .int .i64 (q : Int)) rfl (by kernel_rfl) rfl (fun w' hw => by simp [execOp, go_sem]) hH ?_
        show wpAnyH _ _ _ _ _ _ _ ({ tmps := #[.agg A0, .pointer (some ⟨B, 0, none⟩), .string { data := #[] }, tx (hxl F (2 * k)), .int .i64 (k : Int), .int .i64 (p : Int), .int .i64 (q : Int), .int .i64 (k : Int), .bool (decide ((k : Int) < 64)), u9, u10, .int .i64 (k : Int), .pointer (some ⟨B, k, none⟩), .int .u8 (v : Int), .int .i64 (v : Int), .int .i64 (p : Int), .int .i64 (k : Int), .pointer (some ⟨B, k, none⟩), .int .u8 (v : Int), .int .i64 (v : Int), .int .i64 (q : Int), tx (hxl F (2 * k)), .int .i64 (p : Int), .int .i64 (p : Int), .int .i64 ((p : Int) + 1), tx [UInt8.ofNat (hexd p)], .int .i64 (q : Int), .int .i64 (q : Int), u28, u29, u30, u31, undef], defers := [] } : Act) _
        refine take_pure 7 (v := .int .i64 ((q : Int) + 1)) rfl (by kernel_rfl) rfl (fun w' hw => by simp [execOp, go_sem, wq1]) hH ?_
        show wpAnyH _ _ _ _ _ _ _ ({ tmps := #[.agg A0, .pointer (some ⟨B, 0, none⟩), .string { data := #[] }, tx (hxl F (2 * k)), .int .i64 (k : Int), .int .i64 (p : Int), .int .i64 (q : Int), .int .i64 (k : Int), .bool (decide ((k : Int) < 64)), u9, u10, .int .i64 (k : Int), .pointer (some ⟨B, k, none⟩), .int .u8 (v : Int), .int .i64 (v : Int), .int .i64 (p : Int), .int .i64 (k : Int), .pointer (some ⟨B, k, none⟩), .int .u8 (v : Int), .int .i64 (v : Int), .int .i64 (q : Int), tx (hxl F (2 * k)), .int .i64 (p : Int), .int .i64 (p : Int), .int .i64 ((p : Int) + 1), tx [UInt8.ofNat (hexd p)], .int .i64 (q : Int), .int .i64 (q : Int), .int .i64 ((q : Int) + 1), u29, u30, u31, undef], defers := [] } : Act) _
        refine take_pure 8 (v := tx [UInt8.ofNat (hexd q)]) rfl (by kernel_rfl) rfl (fun w' _ => exec_slice2 _ _ _ _ rfl _ _ _ _ rfl rfl rfl d2 w') hH ?_
        show wpAnyH _ _ _ _ _ _ _ ({ tmps := #[.agg A0, .pointer (some ⟨B, 0, none⟩), .string { data := #[] }, tx (hxl F (2 * k)), .int .i64 (k : Int), .int .i64 (p : Int), .int .i64 (q : Int), .int .i64 (k : Int), .bool (decide ((k : Int) < 64)), u9, u10, .int .i64 (k : Int), .pointer (some ⟨B, k, none⟩), .int .u8 (v : Int), .int .i64 (v : Int), .int .i64 (p : Int), .int .i64 (k : Int), .pointer (some ⟨B, k, none⟩), .int .u8 (v : Int), .int .i64 (v : Int), .int .i64 (q : Int), tx (hxl F (2 * k)), .int .i64 (p : Int), .int .i64 (p : Int), .int .i64 ((p : Int) + 1), tx [UInt8.ofNat (hexd p)], .int .i64 (q : Int), .int .i64 (q : Int), .int .i64 ((q : Int) + 1), tx [UInt8.ofNat (hexd q)], u30, u31, undef], defers := [] } : Act) _
        refine take_pure 9 (v := tx ([UInt8.ofNat (hexd p)] ++ [UInt8.ofNat (hexd q)])) rfl (by kernel_rfl) rfl (fun w' _ => exec_add _ _ _ _ rfl _ _ _ rfl rfl (run_join _ _ (by simp)) w') hH ?_
        show wpAnyH _ _ _ _ _ _ _ ({ tmps := #[.agg A0, .pointer (some ⟨B, 0, none⟩), .string { data := #[] }, tx (hxl F (2 * k)), .int .i64 (k : Int), .int .i64 (p : Int), .int .i64 (q : Int), .int .i64 (k : Int), .bool (decide ((k : Int) < 64)), u9, u10, .int .i64 (k : Int), .pointer (some ⟨B, k, none⟩), .int .u8 (v : Int), .int .i64 (v : Int), .int .i64 (p : Int), .int .i64 (k : Int), .pointer (some ⟨B, k, none⟩), .int .u8 (v : Int), .int .i64 (v : Int), .int .i64 (q : Int), tx (hxl F (2 * k)), .int .i64 (p : Int), .int .i64 (p : Int), .int .i64 ((p : Int) + 1), tx [UInt8.ofNat (hexd p)], .int .i64 (q : Int), .int .i64 (q : Int), .int .i64 ((q : Int) + 1), tx [UInt8.ofNat (hexd q)], tx ([UInt8.ofNat (hexd p)] ++ [UInt8.ofNat (hexd q)]), u31, undef], defers := [] } : Act) _
        refine take_pure 10 (v := tx (hxl F (2 * k) ++ ([UInt8.ofNat (hexd p)] ++ [UInt8.ofNat (hexd q)]))) rfl (by kernel_rfl) rfl (fun w' _ => exec_add _ _ _ _ rfl _ _ _ rfl rfl (run_join _ _ (by rw [Ln.hxl_len]; simp; omega)) w') hH ?_
        show wpAnyH _ _ _ _ _ _ _ ({ tmps := #[.agg A0, .pointer (some ⟨B, 0, none⟩), .string { data := #[] }, tx (hxl F (2 * k)), .int .i64 (k : Int), .int .i64 (p : Int), .int .i64 (q : Int), .int .i64 (k : Int), .bool (decide ((k : Int) < 64)), u9, u10, .int .i64 (k : Int), .pointer (some ⟨B, k, none⟩), .int .u8 (v : Int), .int .i64 (v : Int), .int .i64 (p : Int), .int .i64 (k : Int), .pointer (some ⟨B, k, none⟩), .int .u8 (v : Int), .int .i64 (v : Int), .int .i64 (q : Int), tx (hxl F (2 * k)), .int .i64 (p : Int), .int .i64 (p : Int), .int .i64 ((p : Int) + 1), tx [UInt8.ofNat (hexd p)], .int .i64 (q : Int), .int .i64 (q : Int), .int .i64 ((q : Int) + 1), tx [UInt8.ofNat (hexd q)], tx ([UInt8.ofNat (hexd p)] ++ [UInt8.ofNat (hexd q)]), tx (hxl F (2 * k) ++ ([UInt8.ofNat (hexd p)] ++ [UInt8.ofNat (hexd q)])), undef], defers := [] } : Act) _
        refine take_pure 11 (v := tx (hxl F (2 * k) ++ ([UInt8.ofNat (hexd p)] ++ [UInt8.ofNat (hexd q)]))) rfl (by kernel_rfl) rfl (fun w' hw => by simp [execOp, go_sem]) hH ?_
        show wpAnyH _ _ _ _ _ _ _ ({ tmps := #[.agg A0, .pointer (some ⟨B, 0, none⟩), .string { data := #[] }, tx (hxl F (2 * k) ++ ([UInt8.ofNat (hexd p)] ++ [UInt8.ofNat (hexd q)])), .int .i64 (k : Int), .int .i64 (p : Int), .int .i64 (q : Int), .int .i64 (k : Int), .bool (decide ((k : Int) < 64)), u9, u10, .int .i64 (k : Int), .pointer (some ⟨B, k, none⟩), .int .u8 (v : Int), .int .i64 (v : Int), .int .i64 (p : Int), .int .i64 (k : Int), .pointer (some ⟨B, k, none⟩), .int .u8 (v : Int), .int .i64 (v : Int), .int .i64 (q : Int), tx (hxl F (2 * k)), .int .i64 (p : Int), .int .i64 (p : Int), .int .i64 ((p : Int) + 1), tx [UInt8.ofNat (hexd p)], .int .i64 (q : Int), .int .i64 (q : Int), .int .i64 ((q : Int) + 1), tx [UInt8.ofNat (hexd q)], tx ([UInt8.ofNat (hexd p)] ++ [UInt8.ofNat (hexd q)]), tx (hxl F (2 * k) ++ ([UInt8.ofNat (hexd p)] ++ [UInt8.ofNat (hexd q)])), undef], defers := [] } : Act) _
        exact wpAnyH_done (by kernel_rfl) ⟨rfl, hH⟩ _
      · rintro a' w' ⟨rfl, HN⟩
        have HN' : Hid (Bk .u8 w' B 64 F ∧ Below B w w') := HN
        clear d1 d2 HN HK
        go_wp2
        go_roundw
        case rel => exact ⟨k + 1, by omega, by rw [Ln.hxl_two, Hv.out, Int.toNat_natCast, Hp.out, Hq.out]; rfl, by go_num, HN'⟩
        case measure => simp [intOf]; omega
    · obtain rfl : k = 64 := by omega
      clear HI
      go_wp2
      go_ret
      exact ⟨rfl, by rw [hB]; exact HK.out.2⟩
end Go.Proofs.YtenfjllaeehckaaDoor
