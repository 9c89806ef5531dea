/-
  A line's halves; lines of words and of halves.
-/
import Derived.Test.YtdjknaafefnlcaaDoorLnW6
import Derived.Test.YtdjknaafefnlcaaDoorAryCp
namespace Go.Proofs.YtdjknaafefnlcaaDoor
open Go.RowKit Go.Shelf
open Ln (val wrd)
attribute [local go_sem] Oper.semAt_some

/-- the half k of a line -/
def hlf (F : Nat → Int) (k i : Nat) : Int := F (32 * k + i)
theorem hlf_byts (F : Nat → Int) (hF : Byts 64 F) (k : Nat) (hk : k < 2) : Byts 32 (hlf F k) := fun i hi => hF (32 * k + i) (by omega)
theorem zeroH (w : World) : (zeroValue 72).run Tryd.prog w = .ok (.agg (ints .u8 32 fun _ => 0).toArray) w := by kernel_rfl
theorem infoH : (Tryd.prog.info? 72).map (·.size) = some 32 := by kernel_rfl

theorem halves_any (F : Nat → Int) (w : World) :
    Calls Tryd.prog 35 #[.agg (ints .u8 64 F).toArray] w fun e w' => e = .returned (.func (.func 65) #[] #[.pointer (some ⟨w.heap.size, 0, none⟩)]) ∧ w' = w.alloc (.cells (ints .u8 64 F).toArray 23) := by
  obtain ⟨A0, hA0⟩ : ∃ A, (ints .u8 64 F).toArray = A := ⟨_, rfl⟩
  rw [hA0]
  go_enter Tryd.func35, Tryd.ntmps35
  go_wp2
  go_ret
  exact ⟨rfl, rfl⟩
theorem cut_half (b : Nat) (w : World) : (Instr.sliceAt 72 (.pointer (some ⟨b, 0, none⟩)) none none none).run Tryd.prog w = .ok (.slice (some ⟨b, 0, none⟩) 32 32) w := by
  simp [Instr.sliceAt, go_sem]
theorem cut_line (b x : Nat) (hx : x < 2) (w : World) : (Instr.sliceAt 23 (.pointer (some ⟨b, 0, none⟩)) (some (.int .i64 (32 * (x : Int)))) none none).run Tryd.prog w = .ok (.slice (some ⟨b, 32 * x, none⟩) (64 - 32 * x) (64 - 32 * x)) w := by
  obtain rfl | rfl : x = 0 ∨ x = 1 := by omega
  · simp [Instr.sliceAt, go_sem]
  · simp [Instr.sliceAt, go_sem]
theorem exec_slice0 {P : Program} {o : Oper} {a : Act} (t : TypeId) (x : Operand) (ho : o.op = .slice t x none none none) (vx v : Value) (hx : a.eval x = vx)
    (h : ∀ w, (Instr.sliceAt t vx none none none).run P w = .ok v w) (w : World) : (execOp a.eval o).run P w = .ok (.value v) w := by
  simp [execOp, ho, hx, h]
theorem exec_slice1 {P : Program} {o : Oper} {a : Act} (t : TypeId) (x i : Operand) (ho : o.op = .slice t x (some i) none none) (vx vi v : Value) (hx : a.eval x = vx) (hi : a.eval i = vi)
    (h : ∀ w, (Instr.sliceAt t vx (some vi) none none).run P w = .ok v w) (w : World) : (execOp a.eval o).run P w = .ok (.value v) w := by
  simp [execOp, ho, hx, hi, h]

set_option maxRecDepth 100000 in
set_option maxHeartbeats 2000000 in
theorem halves_seq (xb : Nat) (F : Nat → Int) (w : World) (hb : Bk .u8 w xb 64 F) :
    SeqC Tryd.prog 65 #[.pointer (some ⟨xb, 0, none⟩)] (fun x => #[.int .i64 (x : Int), .agg (ints .u8 32 (hlf F x)).toArray]) 2 (fun _ => True) (fun b => b = xb) w := by
  intro l M J Jx W hW hM hJ hJx hskip hY h0
  have hbW : Bk .u8 W xb 64 F := hb.below hW hb.lt
  have HM : Hid (¬ M xb) := fun h => (hM xb h).2 rfl
  have HJ : Hid (∀ (x : Nat) (A A' : World), W.heap.size ≤ A.heap.size → J x A → Below A.heap.size A A' → J x A') := fun x A A' hl h k => hJ x A A' h ((stay_below k).mono hl)
  have HB : Hid (Bk .u8 W xb 64 F) := hbW
  have HY : Hid (∀ (x : Nat) (W1 : World), x < 2 → J x W1 → YieldAt Fence.wide 8 Tryd.prog l #[.int .i64 (x : Int), .agg (ints .u8 32 (hlf F x)).toArray] W1 fun e W' => (e = .returned (.bool true) ∧ J (x + 1) W' ∧ Keep M W1 W') ∨ (e = .returned (.bool false) ∧ Jx x W' ∧ Keep M W1 W')) := fun x W1 h1 h2 => hY x W1 h1 trivial h2
  have hz := zeroH
  obtain ⟨Z, hZ⟩ : ∃ A, (ints .u8 32 fun _ => 0).toArray = A := ⟨_, rfl⟩
  rw [hZ] at hz
  have HZ : Hid ((ints .u8 32 fun _ => 0).toArray = Z) := hZ
  clear hJ hJx hskip hY hM hW hb hbW hZ
  refine callsIn_of_wp Tryd.func65 rfl trivial ?_ rfl
  simp only [Tryd.ntmps65, List.size_toArray, List.length_cons, List.length_nil, Nat.reduceAdd, Nat.reduceSub, Array.replicate_succ, Array.replicate_zero, List.push_toArray, List.append_toArray, List.nil_append, List.cons_append]
  gi_wp2
  gi_loopw [5] (fun i wr => ∃ x : Nat, x ≤ 2 ∧ i = .int .i64 (x : Int) ∧ J x wr ∧ Keep M W wr) (fun i _ => (2 - (intOf i).toNat))
  case atStart => exact ⟨0, by omega, rfl, h0, Keep.refl _ _⟩
  case round =>
    obtain ⟨x, hx, rfl, hJs, hK⟩ := hrel
    by_cases hlt : x < 2
    · have hbr := HB.out.keep hK HM.out
      have hbl := hbr.lt
      have h1 := cut_half
      have h2 := cut_line xb x hlt
      have wm : IntKind.i64.wrap (32 * (x : Int)) = 32 * (x : Int) := by rw [IntKind.wrap_i64]; omega
      have i0 : (Tryd.prog.info? 72).map (·.size) = some (ints .u8 32 (hlf F x)).length := by rw [ints_len]; exact infoH
      have HYx := HY.out x
      obtain ⟨L, hL⟩ : ∃ A, ints .u8 32 (hlf F x) = A := ⟨_, rfl⟩
      rw [hL] at HYx i0
      have HL : Hid (ints .u8 32 (hlf F x) = L) := hL
      have HYy : Hid (∀ W1 : World, J x W1 → YieldAt Fence.wide 8 Tryd.prog l #[.int .i64 (x : Int), .agg L.toArray] W1 fun e W' => (e = .returned (.bool true) ∧ J (x + 1) W' ∧ Keep M W1 W') ∨ (e = .returned (.bool false) ∧ Jx x W' ∧ Keep M W1 W')) := fun W1 h => HYx W1 hlt h
      clear HYx HY hL
      gi_wp2
      obtain ⟨V1, hV1⟩ : ∃ V, wr.alloc (.cells Z 72) = V := ⟨_, rfl⟩
      have hA : Bk .u8 V1 wr.heap.size 32 (fun _ => 0) ∧ Bk .u8 V1 xb 64 F ∧ Below wr.heap.size wr V1 := by
        have h0 := Bk.new .u8 wr 32 (fun _ => 0) 72
        rw [HZ.out] at h0
        rw [← hV1]
        exact ⟨h0, hbr.alloc _, (Below.refl _ wr).alloc (Nat.le_refl _) _⟩
      obtain ⟨E, hE⟩ : ∃ E, wr.heap.size = E := ⟨_, rfl⟩
      rw [hE] at hA hbl
      rw [hV1, hE]
      clear hV1 hbr
      refine wpIn_wide.2 (region_ends (by kernel_rfl) (fun w' => (∃ X, Bk .u8 w' E 32 X) ∧ Bk .u8 w' xb 64 F) (fun a' w' => a' = ({ tmps := #[.func (.yield l) #[] #[], .pointer (some ⟨xb, 0, none⟩), undef, .int .i64 (x : Int), .pointer (some ⟨E, 0, none⟩), .int .i64 (x : Int), .bool (decide ((x : Int) < 2)), .int .i64 (x : Int), .slice (some ⟨E, 0, none⟩) 32 32, .int .i64 (x : Int), .int .i64 (32 * (x : Int)), .slice (some ⟨xb, 32 * x, none⟩) (64 - 32 * x) (64 - 32 * x), goInt 32, u13, u14, u15, u16, u17, u18], defers := [] } : Act) ∧ Bk .u8 w' E 32 (hlf F x) ∧ Below E wr w') ⟨⟨_, hA.1.drew⟩, hA.2.1.drew⟩ (fun hH => ?_) ?_)
      · have hA1 : Hid (Bk .u8 V1.drew E 32 (fun _ => 0) ∧ Below E wr V1.drew) := ⟨hA.1.drew, below_drewN hA.2.2 1⟩
        refine take_pure 0 (v := .slice (some ⟨E, 0, none⟩) 32 32) rfl (by kernel_rfl) rfl (fun w' hw => exec_slice0 _ _ rfl _ _ rfl (h1 E) w') hH ?_
        show wpAnyH _ _ _ _ _ _ _ ({ tmps := #[.func (.yield l) #[] #[], .pointer (some ⟨xb, 0, none⟩), undef, .int .i64 (x : Int), .pointer (some ⟨E, 0, none⟩), .int .i64 (x : Int), .bool (decide ((x : Int) < 2)), .int .i64 (x : Int), .slice (some ⟨E, 0, none⟩) 32 32, u9, u10, u11, u12, u13, u14, u15, u16, u17, u18], defers := [] } : Act) _
        refine take_pure 1 (v := .int .i64 (x : Int)) rfl (by kernel_rfl) rfl (fun w' hw => by simp [execOp, go_sem]) hH ?_
        show wpAnyH _ _ _ _ _ _ _ ({ tmps := #[.func (.yield l) #[] #[], .pointer (some ⟨xb, 0, none⟩), undef, .int .i64 (x : Int), .pointer (some ⟨E, 0, none⟩), .int .i64 (x : Int), .bool (decide ((x : Int) < 2)), .int .i64 (x : Int), .slice (some ⟨E, 0, none⟩) 32 32, .int .i64 (x : Int), u10, u11, u12, u13, u14, u15, u16, u17, u18], defers := [] } : Act) _
        refine take_pure 2 (v := .int .i64 (32 * (x : Int))) rfl (by kernel_rfl) rfl (fun w' hw => by simp [execOp, go_sem, wm]) hH ?_
        show wpAnyH _ _ _ _ _ _ _ ({ tmps := #[.func (.yield l) #[] #[], .pointer (some ⟨xb, 0, none⟩), undef, .int .i64 (x : Int), .pointer (some ⟨E, 0, none⟩), .int .i64 (x : Int), .bool (decide ((x : Int) < 2)), .int .i64 (x : Int), .slice (some ⟨E, 0, none⟩) 32 32, .int .i64 (x : Int), .int .i64 (32 * (x : Int)), u11, u12, u13, u14, u15, u16, u17, u18], defers := [] } : Act) _
        refine take_pure 3 (v := .slice (some ⟨xb, 32 * x, none⟩) (64 - 32 * x) (64 - 32 * x)) rfl (by kernel_rfl) rfl (fun w' hw => exec_slice1 _ _ _ rfl _ _ _ rfl rfl h2 w') hH ?_
        show wpAnyH _ _ _ _ _ _ _ ({ tmps := #[.func (.yield l) #[] #[], .pointer (some ⟨xb, 0, none⟩), undef, .int .i64 (x : Int), .pointer (some ⟨E, 0, none⟩), .int .i64 (x : Int), .bool (decide ((x : Int) < 2)), .int .i64 (x : Int), .slice (some ⟨E, 0, none⟩) 32 32, .int .i64 (x : Int), .int .i64 (32 * (x : Int)), .slice (some ⟨xb, 32 * x, none⟩) (64 - 32 * x) (64 - 32 * x), u12, u13, u14, u15, u16, u17, u18], defers := [] } : Act) _
        refine take_one 4 rfl rfl (by kernel_rfl) ?_
        refine wp_cpy _ _ rfl E 0 32 32 xb (32 * x) (64 - 32 * x) (64 - 32 * x) 32 32 (fun _ => 0) (hlf F x) rfl rfl hA1.out.1 (by show 32 = min (64 - 32 * x) 32; omega) (fun j hj => hH.2.cell (32 * x + j) (by omega)) (by omega) ?_
        intro V2 g2 k2
        have hN : Bk .u8 V2 E 32 (hlf F x) ∧ Below E wr V2 := ⟨g2.out.congr fun i hi => by unfold lay; rw [if_pos (by omega), Nat.sub_zero], k2.out.below _ _ hA1.out.2 (Nat.le_refl _)⟩
        refine ⟨⟨⟨_, hN.1⟩, hH.2.of (k2.out.block xb (by omega))⟩, fun hH2 => ?_⟩
        show wpAnyH _ _ _ _ _ _ _ ({ tmps := #[.func (.yield l) #[] #[], .pointer (some ⟨xb, 0, none⟩), undef, .int .i64 (x : Int), .pointer (some ⟨E, 0, none⟩), .int .i64 (x : Int), .bool (decide ((x : Int) < 2)), .int .i64 (x : Int), .slice (some ⟨E, 0, none⟩) 32 32, .int .i64 (x : Int), .int .i64 (32 * (x : Int)), .slice (some ⟨xb, 32 * x, none⟩) (64 - 32 * x) (64 - 32 * x), goInt 32, u13, u14, u15, u16, u17, u18], defers := [] } : Act) _
        exact wpAnyH_done (by kernel_rfl) ⟨rfl, hN⟩ _
      rintro a' V2 ⟨rfl, hN⟩
      have hr := hN.1.range
      rw [HL.out] at hr
      have hB2 : Below wr.heap.size wr V2 := by rw [hE]; exact hN.2
      obtain ⟨fn, tmps, assign, body, hyl, hR⟩ := HYy.out V2 (HJ.out x wr V2 hK.1 hJs hB2)
      clear hA h1 h2
      gi_wp2_with (first | (refine load_wide rfl 72 _ rfl E 0 rfl L _ hr Tryd.underlying72 rfl i0 ?_) | (refine hR.mono ?_; rintro e W3 hE3; obtain ⟨r, rfl, hE2⟩ := yields hE3))
      · rcases hE2.out with ⟨rfl, _⟩ | ⟨_, hJx3⟩
        · rename_i hr; cases hr
        · refine bodyPost_ret (results_none rfl _ _ _) rfl ?_
          exact ⟨⟨_, rfl⟩, .inr ⟨x, hlt, trivial, hJx3.1⟩⟩
      · rcases hE2.out with ⟨_, hJ3, hK3⟩ | ⟨rfl, _⟩
        · refine ⟨⟨x + 1, by omega, by go_num, hJ3, hK.trans ((Keep.below hB2 (Nat.le_refl _)).trans hK3)⟩, ?_⟩
          simp [intOf]; omega
        · rename_i hr; cases hr
    · obtain rfl : x = 2 := by omega
      gi_wp2
      go_end0
      exact ⟨⟨_, rfl⟩, .inl hJs⟩
end Go.Proofs.YtdjknaafefnlcaaDoor
