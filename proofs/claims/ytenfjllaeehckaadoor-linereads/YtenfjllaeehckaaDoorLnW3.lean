/-
  A line in digits, by the program and by the document.
-/
import Derived.Test.YtenfjllaeehckaaDoorLnW2
import Derived.ArgAppend
import Derived.Test.YtenfjllaeehckaaDoorRound2
import Derived.Laws.IdiomStrings
namespace Go.Proofs.YtenfjllaeehckaaDoor
open Go.RowKit Go.Shelf
open Ln (hexd hxn hxl)
attribute [local go_sem] Oper.semAt_some

theorem byte_info : (Tryd.prog.info? 5).map (fun i => (i.zero, i.size, i.bytes)) = some (some (.int .u8 0), 1, 1) := by kernel_rfl
theorem run_make_hex (w : World) : (Instr.makeSlice 43 (.int .i64 0) (.int .i64 128)).run Tryd.prog w = .ok (.slice (some ⟨w.heap.size, 0, none⟩) 0 128) (w.alloc (.cells (ints .u8 128 fun _ => 0).toArray 5)) := by
  obtain ⟨i, hi, hz0, hz1, hz2⟩ := info_parts byte_info
  have h := run_make (P := Tryd.prog) w 43 5 i (.int .u8 0) Tryd.underlying43 hi hz0 .i64 .i64 0 128 (by omega) (by omega) (by rw [hz2]; omega) (by omega)
  rw [hz1] at h
  have e : madeCells (Value.int .u8 0).cells ((128 : Int).toNat * 1) = (ints .u8 128 fun _ => 0).toArray := by kernel_rfl
  rw [e] at h
  exact h
abbrev digs : ByteArray := ⟨#[48, 49, 50, 51, 52, 53, 54, 55, 56, 57, 97, 98, 99, 100, 101, 102]⟩
theorem run_digit (i : Nat) (hi : i < 16) (w : World) : (Instr.index 9 (.string digs) (.int .u8 (i : Int))).run Tryd.prog w = .ok (.int .u8 (hexd i : Int)) w := by
  have : i = 0 ∨ i = 1 ∨ i = 2 ∨ i = 3 ∨ i = 4 ∨ i = 5 ∨ i = 6 ∨ i = 7 ∨ i = 8 ∨ i = 9 ∨ i = 10 ∨ i = 11 ∨ i = 12 ∨ i = 13 ∨ i = 14 ∨ i = 15 := by omega
  rcases this with rfl | rfl | rfl | rfl | rfl | rfl | rfl | rfl | rfl | rfl | rfl | rfl | rfl | rfl | rfl | rfl <;> rfl
theorem run_indexL (F : Nat → Int) (x : Nat) (hx : x < 64) (w : World) : (Instr.index 23 (.agg (ints .u8 64 F).toArray) (.int .i64 (x : Int))).run Tryd.prog w = .ok (.int .u8 (F x)) w := by
  have hc := ints_at .u8 64 F x hx
  have hu := Tryd.underlying23
  simp [Instr.index, run_underlying hu, asIntOf, go_sem, hx]
  rw [hc]; rfl

theorem exec_index {P : Program} {o : Oper} {a : Act} (t : TypeId) (x i : Operand) (ho : o.op = .index t x i) (vx vi v : Value) (hx : a.eval x = vx) (hi : a.eval i = vi) (h : ∀ w, (Instr.index t vx vi).run P w = .ok v w) (w : World) :
    (execOp a.eval o).run P w = .ok (.value v) w := by
  simp [execOp, ho, hx, hi, h, Result.andThen]
/-- append within the room -/
theorem wp_app {o : Oper} {a : Act} {w : World} {K : Act → World → Prop} {Q : Exit → Act → World → Prop} (d s : Operand)
    (ho : o.op = .call { callee := .builtin .append, args := #[d, s], argTypes := #[43, 43] })
    (g len cap sb m c n : Nat) (F G : Nat → Int) (hd : a.eval d = .slice (some ⟨g, 0, none⟩) len cap) (hs : a.eval s = .slice (some ⟨sb, 0, none⟩) m c)
    (hg : Bk .u8 w g n F) (hsrc : Bk .u8 w sb m G) (hroom : len + m ≤ cap) (hfit : len + m ≤ n)
    (h : K (a.put o.dst (.slice (some ⟨g, 0, none⟩) (len + m) cap)) (w.setCells g len (ints .u8 m G))) : Oper.wp Tryd.prog o a w K Q := by
  obtain ⟨i, hi, hz0, hz1, hz2⟩ := info_parts byte_info
  have hr := run_append_room_cells (P := Tryd.prog) w 43 o.type 5 i Tryd.underlying43 hi g 0 len cap ⟨sb, 0, none⟩ m c (ints .u8 m G) (by rw [ints_len, hz1, Nat.mul_one])
    (fun j u hu => by rw [Addr.add_mid]; exact hsrc.range j u hu) (ints_one' .u8 m G) hroom
    (fun j hj => by rw [ints_len] at hj; rw [hz1, hg.cell _ (by omega)]; rfl) (fun j hj => hg.free _)
  rw [hz1, Nat.mul_one, Nat.zero_add] at hr
  unfold Oper.wp
  simp [execOp, ho, resolve, invoke, builtin, hd, hs, hr, Result.andThen]
  exact h

theorem hxn_lt (F : Nat → Int) (hF : Byts 64 F) (j : Nat) (hj : j < 128) : hxn F j < 256 := by
  have := hF (j / 2) (by omega)
  unfold hxn
  refine Ln.hexd_lt _ ?_
  split <;> omega
/-- between two rounds of Hex: the digits of k bytes lie in the block E -/
structure HxI (B E : Nat) (F : Nat → Int) (w : World) (k : Nat) (wr : World) : Prop where
  o : Bk .u8 wr E 128 (fun j => if j < 2 * k then (hxn F j : Int) else 0)
  below : Below B w wr

set_option maxRecDepth 100000 in
set_option maxHeartbeats 1000000 in
theorem hex_any (F : Nat → Int) (hF : Byts 64 F) (w : World) :
    Calls Tryd.prog 17 #[.agg (ints .u8 64 F).toArray] w fun e w' => e = .returned (.string ⟨(hxl F 128).toArray⟩) ∧ Below w.heap.size w w' := by
  have hmk := run_make_hex
  have hix := run_indexL F
  obtain ⟨A2, hA2⟩ : ∃ A, (ints .u8 128 fun _ => 0).toArray = A := ⟨_, rfl⟩
  rw [hA2] at hmk
  have i9 : (Tryd.prog.info? 23).map (·.size) = some (ints .u8 64 F).length := by rw [ints_len]; exact infoL
  obtain ⟨L, hL⟩ : ∃ L, ints .u8 64 F = L := ⟨_, rfl⟩
  rw [hL] at hix i9 ⊢
  have hr : Hid (∀ o, ((w.alloc (.cells L.toArray 23)).alloc o).rangeAt w.heap.size 0 L) := fun o => by
    rw [← hL]
    exact ((Bk.new .u8 w 64 F 23).alloc o).range
  have HL : Hid (ints .u8 64 F = L) := hL
  clear hL
  go_enter Tryd.func17, Tryd.ntmps17
  go_wp2_with (refine wpList_load_mid rfl 23 _ rfl _ 0 rfl L _ (hr.out _) Tryd.underlying23 rfl i9 ?_)
  obtain ⟨V, hV⟩ : ∃ V, (w.alloc (.cells L.toArray 23)).alloc (.cells A2 5) = V := ⟨_, rfl⟩
  have HI : Hid (HxI w.heap.size (w.heap.size + 1) F w 0 V) := by
    rw [← hV, ← hA2]
    have h1 := Bk.new .u8 (w.alloc (.cells L.toArray 23)) 128 (fun _ => 0) 5
    simp only [World.size_alloc] at h1
    exact ⟨h1, ((Below.refl _ w).alloc (Nat.le_refl _) _).alloc (by simp) _⟩
  obtain ⟨B, hB⟩ : ∃ B, w.heap.size = B := ⟨_, rfl⟩
  obtain ⟨E, hE⟩ : ∃ E, B + 1 = E := ⟨_, rfl⟩
  rw [hV]
  rw [hB, hE] at HI ⊢
  have nB : B < E := by omega
  clear hV hA2 hmk hE hr i9
  go_loopw [3, 8] (fun t i wr => ∃ k : Nat, k ≤ 64 ∧ t = .slice (some ⟨E, 0, none⟩) (2 * k) 128 ∧ i = .int .i64 (k : Int) ∧ Hid (HxI B E F w k wr)) (fun _ i _ => 64 - (intOf i).toNat)
  case atStart => exact ⟨0, by omega, rfl, rfl, HI⟩
  case round =>
    obtain ⟨k, hk, rfl, rfl, HK⟩ := hrel
    by_cases hlt : k < 64
    · have hik := hix k hlt
      obtain ⟨v, hv, Hv⟩ : ∃ v : Nat, v < 256 ∧ Hid (F k = (v : Int)) := ⟨(F k).toNat, by have := hF k hlt; omega, by have := hF k hlt; show _ = _; omega⟩
      rw [Hv.out] at hik
      clear hix HI
      have d1 := run_digit (v / 16) (by omega)
      have d2 := run_digit (v % 16) (by omega)
      have hand : bits .and .u8 (v : Int) 15 = ((v % 16 : Nat) : Int) := by
        have := u8_and_nat v 15 hv (by omega)
        rw [show ((15 : Nat) : Int) = 15 from rfl] at this
        rw [this, show (15 : Nat) = 2 ^ 4 - 1 from rfl, Nat.and_two_pow_sub_one_eq_mod]
      go_wp2
      refine region_ends (by kernel_rfl) (fun _ => True) (fun a' w' => (∃ y11 y12 y13 y14 y15 y16 y17 y18 y19, a' = ({ tmps := #[.agg L.toArray, .pointer (some ⟨B, 0, none⟩), .string { data := #[] }, .slice (some ⟨E, 0, none⟩) (2 * (k + 1)) 128, undef, .int .u8 (v : Int), .slice (some ⟨E, 0, none⟩) 0 128, .agg L.toArray, .int .i64 (k : Int), .bool (decide ((k : Int) < 64)), .int .u8 (v : Int), y11, y12, y13, y14, y15, y16, y17, y18, y19, u20, undef, undef], defers := [] } : Act)) ∧ Hid (HxI B E F w (k + 1) w')) trivial (fun hH => ?_) ?_
      · refine take_pure 0 (v := .slice (some ⟨E, 0, none⟩) (2 * k) 128) rfl (by kernel_rfl) rfl (fun w' hw => by simp [execOp, go_sem]) hH ?_
        show wpAnyH _ _ _ _ _ _ _ ({ tmps := #[.agg L.toArray, .pointer (some ⟨B, 0, none⟩), .string { data := #[] }, .slice (some ⟨E, 0, none⟩) (2 * k) 128, undef, .int .u8 (v : Int), .slice (some ⟨E, 0, none⟩) 0 128, .agg L.toArray, .int .i64 (k : Int), .bool (decide ((k : Int) < 64)), .int .u8 (v : Int), .slice (some ⟨E, 0, none⟩) (2 * k) 128, u12, u13, u14, u15, u16, u17, u18, u19, u20, undef, undef], defers := [] } : Act) _
        refine take_pure 1 (v := .int .u8 (v : Int)) rfl (by kernel_rfl) rfl (fun w' hw => by simp [execOp, go_sem]) hH ?_
        show wpAnyH _ _ _ _ _ _ _ ({ tmps := #[.agg L.toArray, .pointer (some ⟨B, 0, none⟩), .string { data := #[] }, .slice (some ⟨E, 0, none⟩) (2 * k) 128, undef, .int .u8 (v : Int), .slice (some ⟨E, 0, none⟩) 0 128, .agg L.toArray, .int .i64 (k : Int), .bool (decide ((k : Int) < 64)), .int .u8 (v : Int), .slice (some ⟨E, 0, none⟩) (2 * k) 128, .int .u8 (v : Int), u13, u14, u15, u16, u17, u18, u19, u20, undef, undef], defers := [] } : Act) _
        refine take_pure 2 (v := .int .u8 ((v / 16 : Nat) : Int)) rfl (by kernel_rfl) rfl (fun w' hw => by simp [execOp, go_sem]) hH ?_
        show wpAnyH _ _ _ _ _ _ _ ({ tmps := #[.agg L.toArray, .pointer (some ⟨B, 0, none⟩), .string { data := #[] }, .slice (some ⟨E, 0, none⟩) (2 * k) 128, undef, .int .u8 (v : Int), .slice (some ⟨E, 0, none⟩) 0 128, .agg L.toArray, .int .i64 (k : Int), .bool (decide ((k : Int) < 64)), .int .u8 (v : Int), .slice (some ⟨E, 0, none⟩) (2 * k) 128, .int .u8 (v : Int), .int .u8 ((v / 16 : Nat) : Int), u14, u15, u16, u17, u18, u19, u20, undef, undef], defers := [] } : Act) _
        refine take_pure 3 (v := .int .u8 (hexd (v / 16) : Int)) rfl (by kernel_rfl) rfl (fun w' _ => exec_index _ _ _ rfl _ _ _ rfl rfl d1 w') hH ?_
        show wpAnyH _ _ _ _ _ _ _ ({ tmps := #[.agg L.toArray, .pointer (some ⟨B, 0, none⟩), .string { data := #[] }, .slice (some ⟨E, 0, none⟩) (2 * k) 128, undef, .int .u8 (v : Int), .slice (some ⟨E, 0, none⟩) 0 128, .agg L.toArray, .int .i64 (k : Int), .bool (decide ((k : Int) < 64)), .int .u8 (v : Int), .slice (some ⟨E, 0, none⟩) (2 * k) 128, .int .u8 (v : Int), .int .u8 ((v / 16 : Nat) : Int), .int .u8 (hexd (v / 16) : Int), u15, u16, u17, u18, u19, u20, undef, undef], defers := [] } : Act) _
        refine take_pure 4 (v := .int .u8 (v : Int)) rfl (by kernel_rfl) rfl (fun w' hw => by simp [execOp, go_sem]) hH ?_
        show wpAnyH _ _ _ _ _ _ _ ({ tmps := #[.agg L.toArray, .pointer (some ⟨B, 0, none⟩), .string { data := #[] }, .slice (some ⟨E, 0, none⟩) (2 * k) 128, undef, .int .u8 (v : Int), .slice (some ⟨E, 0, none⟩) 0 128, .agg L.toArray, .int .i64 (k : Int), .bool (decide ((k : Int) < 64)), .int .u8 (v : Int), .slice (some ⟨E, 0, none⟩) (2 * k) 128, .int .u8 (v : Int), .int .u8 ((v / 16 : Nat) : Int), .int .u8 (hexd (v / 16) : Int), .int .u8 (v : Int), u16, u17, u18, u19, u20, undef, undef], defers := [] } : Act) _
        refine take_pure 5 (v := .int .u8 ((v % 16 : Nat) : Int)) rfl (by kernel_rfl) rfl (fun w' hw => by simp [execOp, go_sem, hand]) hH ?_
        show wpAnyH _ _ _ _ _ _ _ ({ tmps := #[.agg L.toArray, .pointer (some ⟨B, 0, none⟩), .string { data := #[] }, .slice (some ⟨E, 0, none⟩) (2 * k) 128, undef, .int .u8 (v : Int), .slice (some ⟨E, 0, none⟩) 0 128, .agg L.toArray, .int .i64 (k : Int), .bool (decide ((k : Int) < 64)), .int .u8 (v : Int), .slice (some ⟨E, 0, none⟩) (2 * k) 128, .int .u8 (v : Int), .int .u8 ((v / 16 : Nat) : Int), .int .u8 (hexd (v / 16) : Int), .int .u8 (v : Int), .int .u8 ((v % 16 : Nat) : Int), u17, u18, u19, u20, undef, undef], defers := [] } : Act) _
        refine take_pure 6 (v := .int .u8 (hexd (v % 16) : Int)) rfl (by kernel_rfl) rfl (fun w' _ => exec_index _ _ _ rfl _ _ _ rfl rfl d2 w') hH ?_
        show wpAnyH _ _ _ _ _ _ _ ({ tmps := #[.agg L.toArray, .pointer (some ⟨B, 0, none⟩), .string { data := #[] }, .slice (some ⟨E, 0, none⟩) (2 * k) 128, undef, .int .u8 (v : Int), .slice (some ⟨E, 0, none⟩) 0 128, .agg L.toArray, .int .i64 (k : Int), .bool (decide ((k : Int) < 64)), .int .u8 (v : Int), .slice (some ⟨E, 0, none⟩) (2 * k) 128, .int .u8 (v : Int), .int .u8 ((v / 16 : Nat) : Int), .int .u8 (hexd (v / 16) : Int), .int .u8 (v : Int), .int .u8 ((v % 16 : Nat) : Int), .int .u8 (hexd (v % 16) : Int), u18, u19, u20, undef, undef], defers := [] } : Act) _
        refine take_one 7 rfl rfl (by kernel_rfl) ?_
        simp [Oper.wp, execOp, go_sem, Oper.upon]
        obtain ⟨V1, hV1⟩ : ∃ V1, wr.drew.alloc (.cells #[.int .u8 (hexd (v / 16) : Int), .int .u8 (hexd (v % 16) : Int)] 5) = V1 := ⟨_, rfl⟩
        have hG : Bk .u8 V1 wr.heap.size 2 (fun i => if i = 0 then (hexd (v / 16) : Int) else (hexd (v % 16) : Int)) := by
          rw [← hV1]
          exact Bk.new .u8 wr.drew 2 (fun i => if i = 0 then (hexd (v / 16) : Int) else (hexd (v % 16) : Int)) 5
        have hO : Bk .u8 V1 E 128 (fun j => if j < 2 * k then (hxn F j : Int) else 0) := by rw [← hV1]; exact HK.out.o.drew.alloc _
        have hBl : Below B w V1 := by rw [← hV1]; exact (below_drewN HK.out.below 1).alloc (by have := HK.out.o.lt; show B ≤ wr.heap.size; omega) _
        have HN : Hid (HxI B E F w (k + 1) (V1.setCells E (2 * k) (ints .u8 2 fun i => if i = 0 then (hexd (v / 16) : Int) else (hexd (v % 16) : Int)))) := ⟨(hO.putAt (2 * k) 2 _).congr fun j _ => by
            have e := Hv.out
            show (if 2 * k ≤ j ∧ j < 2 * k + 2 then (if j - 2 * k = 0 then (hexd (v / 16) : Int) else (hexd (v % 16) : Int)) else if j < 2 * k then (hxn F j : Int) else 0) = _
            by_cases h1 : j < 2 * k
            · rw [if_neg (by omega), if_pos h1, if_pos (by omega)]
            · by_cases h2 : j < 2 * (k + 1)
              · rw [if_pos (by omega), if_pos h2]
                unfold hxn
                rw [show j / 2 = k by omega, e, Int.toNat_natCast]
                by_cases h3 : j = 2 * k
                · rw [if_pos (by omega), if_pos (by omega)]
                · rw [if_neg (by omega), if_neg (by omega)]
              · rw [if_neg (by omega), if_neg h1, if_neg h2], belows_put (by omega) _ _ hBl⟩
        show wpAnyH _ _ _ _ _ _ _ ({ tmps := #[.agg L.toArray, .pointer (some ⟨B, 0, none⟩), .string { data := #[] }, .slice (some ⟨E, 0, none⟩) (2 * k) 128, undef, .int .u8 (v : Int), .slice (some ⟨E, 0, none⟩) 0 128, .agg L.toArray, .int .i64 (k : Int), .bool (decide ((k : Int) < 64)), .int .u8 (v : Int), .slice (some ⟨E, 0, none⟩) (2 * k) 128, .int .u8 (v : Int), .int .u8 ((v / 16 : Nat) : Int), .int .u8 (hexd (v / 16) : Int), .int .u8 (v : Int), .int .u8 ((v % 16 : Nat) : Int), .int .u8 (hexd (v % 16) : Int), .slice (some ⟨wr.heap.size, 0, none⟩) 2 2, u19, u20, undef, undef], defers := [] } : Act) (wr.drew.alloc (.cells #[.int .u8 (hexd (v / 16) : Int), .int .u8 (hexd (v % 16) : Int)] 5))
        rw [hV1]
        clear hV1 hBl d1 d2 hand
        show wpAnyH _ _ _ _ _ _ _ ({ tmps := #[.agg L.toArray, .pointer (some ⟨B, 0, none⟩), .string { data := #[] }, .slice (some ⟨E, 0, none⟩) (2 * k) 128, undef, .int .u8 (v : Int), .slice (some ⟨E, 0, none⟩) 0 128, .agg L.toArray, .int .i64 (k : Int), .bool (decide ((k : Int) < 64)), .int .u8 (v : Int), .slice (some ⟨E, 0, none⟩) (2 * k) 128, .int .u8 (v : Int), .int .u8 ((v / 16 : Nat) : Int), .int .u8 (hexd (v / 16) : Int), .int .u8 (v : Int), .int .u8 ((v % 16 : Nat) : Int), .int .u8 (hexd (v % 16) : Int), .slice (some ⟨wr.heap.size, 0, none⟩) 2 2, u19, u20, undef, undef], defers := [] } : Act) _
        refine take_one 8 rfl rfl (by kernel_rfl) ?_
        refine wp_app _ _ rfl E (2 * k) 128 wr.heap.size 2 2 128 _ _ rfl rfl hO hG (by omega) (by omega) ?_
        refine ⟨trivial, fun hH => ?_⟩
        show wpAnyH _ _ _ _ _ _ _ ({ tmps := #[.agg L.toArray, .pointer (some ⟨B, 0, none⟩), .string { data := #[] }, .slice (some ⟨E, 0, none⟩) (2 * k) 128, undef, .int .u8 (v : Int), .slice (some ⟨E, 0, none⟩) 0 128, .agg L.toArray, .int .i64 (k : Int), .bool (decide ((k : Int) < 64)), .int .u8 (v : Int), .slice (some ⟨E, 0, none⟩) (2 * k) 128, .int .u8 (v : Int), .int .u8 ((v / 16 : Nat) : Int), .int .u8 (hexd (v / 16) : Int), .int .u8 (v : Int), .int .u8 ((v % 16 : Nat) : Int), .int .u8 (hexd (v % 16) : Int), .slice (some ⟨wr.heap.size, 0, none⟩) 2 2, .slice (some ⟨E, 0, none⟩) (2 * k + 2) 128, u20, undef, undef], defers := [] } : Act) _
        refine take_pure 9 (v := .slice (some ⟨E, 0, none⟩) (2 * k + 2) 128) rfl (by kernel_rfl) rfl (fun w' hw => by simp [execOp, go_sem]) hH ?_
        show wpAnyH _ _ _ _ _ _ _ ({ tmps := #[.agg L.toArray, .pointer (some ⟨B, 0, none⟩), .string { data := #[] }, .slice (some ⟨E, 0, none⟩) (2 * k + 2) 128, undef, .int .u8 (v : Int), .slice (some ⟨E, 0, none⟩) 0 128, .agg L.toArray, .int .i64 (k : Int), .bool (decide ((k : Int) < 64)), .int .u8 (v : Int), .slice (some ⟨E, 0, none⟩) (2 * k) 128, .int .u8 (v : Int), .int .u8 ((v / 16 : Nat) : Int), .int .u8 (hexd (v / 16) : Int), .int .u8 (v : Int), .int .u8 ((v % 16 : Nat) : Int), .int .u8 (hexd (v % 16) : Int), .slice (some ⟨wr.heap.size, 0, none⟩) 2 2, .slice (some ⟨E, 0, none⟩) (2 * k + 2) 128, u20, undef, undef], defers := [] } : Act) _
        exact wpAnyH_done (by kernel_rfl) ⟨⟨_, _, _, _, _, _, _, _, _, rfl⟩, HN⟩ _
      · rintro a' w' ⟨⟨y11, y12, y13, y14, y15, y16, y17, y18, y19, rfl⟩, HN⟩
        clear d1 d2 hand hik
        go_wp2
        go_roundw
        case rel => exact ⟨k + 1, by omega, rfl, by go_num, HN⟩
        case measure => simp [intOf]; omega
    · obtain rfl : k = 64 := by omega
      clear hix HI
      have hcv : (convert 43 9 (.slice (some ⟨E, 0, none⟩) 128 128)).run Tryd.prog wr = .ok (.string ⟨(hxl F 128).toArray⟩) wr := by
        have h := run_convert_bytes_back (P := Tryd.prog) wr 43 9 5 ⟨E, 0, none⟩ 128 (hxl F 128) Tryd.underlying43 Tryd.underlying5 Tryd.underlying9
          (fun j hj => by
            rw [Ln.hxl_len] at hj
            rw [Addr.add_mid, Nat.zero_add, HK.out.o.cell j hj, if_pos (by omega)]
            congr 2
            simp only [hxl, List.getElem_map, List.getElem_range]
            have := hxn_lt F hF j hj
            simp; omega)
        rw [Ln.hxl_len] at h
        exact h
      obtain ⟨T, hT⟩ : ∃ T, (⟨(hxl F 128).toArray⟩ : ByteArray) = T := ⟨_, rfl⟩
      rw [hT] at hcv
      have HT : Hid ((⟨(hxl F 128).toArray⟩ : ByteArray) = T) := hT
      clear hT
      go_wp2
      go_ret
      exact ⟨by rw [HT.out]; rfl, by rw [hB]; exact HK.out.below⟩
end Go.Proofs.YtenfjllaeehckaaDoor
