/-
  The document's values at the four roots: a region that draws its order, with four loads of a long array, four calls and a store, taken by hand.
-/
import Derived.Test.YtmkjdpokcfeieaaRsW4
import Derived.Shelf.Abstract
namespace Go.Proofs.Ytmkjdpokcfeieaa
open Go.RowKit Go.Shelf
open Gf (gI)
open Po (El mu pwr ev S)
open Rm (al sy)

/-- a call of a Go function of two arguments by its contract, as one step of a region that draws its order -/
theorem step_call2 {P : Program} {ops : Array Oper} {o : Oper} {a : Act} {w : World} {K : Act → World → Prop} {Q : Exit → Act → World → Prop} {E : Prop} (hgd : o.guard = none) (f : FuncId) (s x : Operand) (ts : Array TypeId)
    (ho : o.op = .call { callee := .value (.func f), args := #[s, x], argTypes := ts }) (eg : ∀ args w, (callFunc f args).run P w = .ok (.enter f args) w) (vs vx v : Value) (hs : a.eval s = vs) (hx : a.eval x = vx)
    (h : Calls P f #[vs, vx] w fun e w' => e = .returned v ∧ K (a.put o.dst v) w') :
    if Region.wanted o (yielded ops a.tmps) = true then Oper.wp P o a w K Q else E := by
  have hw : Region.wanted o (yielded ops a.tmps) = true := by simp [Region.wanted, hgd]
  have hf : a.eval (.func f) = .func (.func f) #[] #[] := rfl
  rw [if_pos hw]
  unfold Oper.wp
  simp only [execOp, ho, resolve, hf, List.map_toArray, List.map_cons, List.map_nil, hs, hx]
  simp [invoke, eg, Oper.upon, go_sem]
  refine Calls.mono h ?_
  rintro e w' ⟨rfl, hk⟩
  exact hk

theorem step_plain {P : Program} {ops : Array Oper} {o : Oper} {a : Act} {w : World} {K : Act → World → Prop} {Q : Exit → Act → World → Prop} {E : Prop} (hgd : o.guard = none) (h : Oper.wp P o a w K Q) :
    if Region.wanted o (yielded ops a.tmps) = true then Oper.wp P o a w K Q else E := by
  have hw : Region.wanted o (yielded ops a.tmps) = true := by simp [Region.wanted, hgd]
  rw [if_pos hw]; exact h

set_option maxRecDepth 100000 in
set_option maxHeartbeats 800000 in
theorem refValues_any (W : Nat → El) (w : World) :
    Calls Try.prog 11 #[.agg (arr 39 W).toArray] w fun e w' => e = .returned (.agg (arr 4 (sy W)).toArray) ∧ Below w.heap.size w w' := by
  have hz := zero4
  obtain ⟨A2, hA2⟩ : ∃ A, (arr 4 fun _ => 0).toArray = A := ⟨_, rfl⟩
  rw [hA2] at hz
  have cV : Hid (∀ (x : El) w, Calls Try.prog 25 #[.agg (arr 39 W).toArray, .int .u8 (oe x)] w fun e w' => e = .returned (.int .u8 (oe (ev 39 W x))) ∧ Below w.heap.size w w') := fun x w => refValue_any W x w
  obtain ⟨h0, h1, h2, h3⟩ := al_nums
  have hres : Hid (arr 4 (sy W) = [.int .u8 (oe (ev 39 W 1)), .int .u8 (oe (ev 39 W 2)), .int .u8 (oe (ev 39 W 4)), .int .u8 (oe (ev 39 W 8))]) := by
    show _ = _
    rw [arr4]; unfold sy; rw [h0, h1, h2, h3]
  obtain ⟨L, hL⟩ : ∃ L, arr 39 W = L := ⟨_, rfl⟩
  have hi9 : (Try.prog.info? 29).map (·.size) = some L.length := by rw [← hL, arr_len]; exact info39
  obtain ⟨e1, E1⟩ : ∃ e, ev 39 W 1 = e := ⟨_, rfl⟩
  obtain ⟨e2, E2⟩ : ∃ e, ev 39 W 2 = e := ⟨_, rfl⟩
  obtain ⟨e3, E3⟩ : ∃ e, ev 39 W 4 = e := ⟨_, rfl⟩
  obtain ⟨e4, E4⟩ : ∃ e, ev 39 W 8 = e := ⟨_, rfl⟩
  have c1 : Hid (∀ w, Calls Try.prog 25 #[.agg L.toArray, .int .u8 1] w fun e w' => e = .returned (.int .u8 (oe e1)) ∧ Below w.heap.size w w') := fun w => by rw [← hL, ← E1]; exact cV.out 1 w
  have c2 : Hid (∀ w, Calls Try.prog 25 #[.agg L.toArray, .int .u8 2] w fun e w' => e = .returned (.int .u8 (oe e2)) ∧ Below w.heap.size w w') := fun w => by rw [← hL, ← E2]; exact cV.out 2 w
  have c3 : Hid (∀ w, Calls Try.prog 25 #[.agg L.toArray, .int .u8 4] w fun e w' => e = .returned (.int .u8 (oe e3)) ∧ Below w.heap.size w w') := fun w => by rw [← hL, ← E3]; exact cV.out 4 w
  have c4 : Hid (∀ w, Calls Try.prog 25 #[.agg L.toArray, .int .u8 8] w fun e w' => e = .returned (.int .u8 (oe e4)) ∧ Below w.heap.size w w') := fun w => by rw [← hL, ← E4]; exact cV.out 8 w
  rw [E1, E2, E3, E4] at hres
  obtain ⟨N, hN⟩ : ∃ N, arr 4 (sy W) = N := ⟨_, rfl⟩
  rw [hN] at hres
  have h40 : Hid (Arr (w.alloc (.cells L.toArray 29)) w.heap.size 39 W) := by rw [← hL]; exact Arr.new w 39 W _
  have h4l : Hid (∀ W1 b, Arr W1 b 39 W → W1.rangeAt b 0 L) := by rw [← hL]; exact fun W1 b h => h.range
  rw [hL, hN]
  clear cV h0 h1 h2 h3 hL E1 E2 E3 E4 hN
  go_enter Try.func11, Try.ntmps11
  go_wp2
  obtain ⟨V, hV⟩ : ∃ V, (w.alloc (.cells L.toArray 29)).alloc (.cells A2 27) = V := ⟨_, rfl⟩
  have hSt : VsS w.heap.size (w.heap.size + 1) L w V := by
    rw [← hV, ← hA2]
    have hw := ArrW.new (w.alloc (.cells L.toArray 29)) 4 (fun _ => 0) 27
    rw [World.size_alloc] at hw
    exact ⟨h4l.out _ _ (h40.out.alloc (by simp) _), hw.there, by simp; omega, ((Below.refl _ w).alloc (Nat.le_refl _) _).alloc (by simp) _⟩
  obtain ⟨B, hB⟩ : ∃ B, w.heap.size = B := ⟨_, rfl⟩
  obtain ⟨C, hC⟩ : ∃ C, B + 1 = C := ⟨_, rfl⟩
  have hBC : B < C := by omega
  rw [hV]
  rw [hB, hC] at hSt ⊢
  clear hV hA2 hz h40 h4l hC
  have hu9 := Try.underlying29
  have eg := enters_of Try.func25 (by kernel_rfl) rfl
  refine wp_region_held_drew (S := fun w' => VsS B C L w w') (by kernel_rfl) hSt.drew (fun hHeld => ?_)
  refine wpAnyH_take (i := 0) (oi := _) (v := .agg L.toArray) rfl (by kernel_rfl) (by kernel_rfl) (by kernel_rfl) (fun _ _ _ h => h) (yieldsIf_load_mid (by rfl) _ _ rfl B 0 rfl L _ (fun w h => h.at_) hu9 rfl hi9) hHeld ?_
  refine wpAnyH_take (i := 2) (oi := _) (v := .agg L.toArray) rfl (by kernel_rfl) (by kernel_rfl) (by kernel_rfl) (fun _ _ _ h => h) (yieldsIf_load_mid (by rfl) _ _ rfl B 0 rfl L _ (fun w h => h.at_) hu9 rfl hi9) hHeld ?_
  refine wpAnyH_take (i := 4) (oi := _) (v := .agg L.toArray) rfl (by kernel_rfl) (by kernel_rfl) (by kernel_rfl) (fun _ _ _ h => h) (yieldsIf_load_mid (by rfl) _ _ rfl B 0 rfl L _ (fun w h => h.at_) hu9 rfl hi9) hHeld ?_
  refine wpAnyH_take (i := 6) (oi := _) (v := .agg L.toArray) rfl (by kernel_rfl) (by kernel_rfl) (by kernel_rfl) (fun _ _ _ h => h) (yieldsIf_load_mid (by rfl) _ _ rfl B 0 rfl L _ (fun w h => h.at_) hu9 rfl hi9) hHeld ?_
  show wpAnyH _ _ _ _ _ _ _ ({ tmps := #[.agg L.toArray, .pointer (some ⟨B, 0, none⟩), .pointer (some ⟨C, 0, none⟩), .agg L.toArray, undef, .agg L.toArray, undef, .agg L.toArray, undef, .agg L.toArray, undef, undef], defers := [] } : Act) _
  refine wpAnyH_ready (rs := [1]) (by kernel_rfl) (by simp) ?_
  refine AllReadyH.cons (o := _) rfl (fun K hK => ?_) AllReadyH.nil
  refine step_call2 rfl _ (.tmp 3) (.const (.int .u8 1)) _ rfl eg (.agg L.toArray) (.int .u8 1) (.int .u8 (oe e1)) rfl rfl ((c1.out _).mono ?_)
  rintro e W1 ⟨rfl, hbn⟩
  refine ⟨rfl, hK.out _ _ (hHeld.next hbn) fun hH1 => ?_⟩
  clear hHeld hK hbn
  show wpAnyH _ _ _ _ _ _ _ ({ tmps := #[.agg L.toArray, .pointer (some ⟨B, 0, none⟩), .pointer (some ⟨C, 0, none⟩), .agg L.toArray, .int .u8 (oe e1), .agg L.toArray, undef, .agg L.toArray, undef, .agg L.toArray, undef, undef], defers := [] } : Act) _
  refine wpAnyH_ready (rs := [3]) (by kernel_rfl) (by simp) ?_
  refine AllReadyH.cons (o := _) rfl (fun K hK => ?_) AllReadyH.nil
  refine step_call2 rfl _ (.tmp 5) (.const (.int .u8 2)) _ rfl eg (.agg L.toArray) (.int .u8 2) (.int .u8 (oe e2)) rfl rfl ((c2.out _).mono ?_)
  rintro e W3 ⟨rfl, hbn⟩
  refine ⟨rfl, hK.out _ _ (hH1.next hbn) fun hH3 => ?_⟩
  clear hH1 hK hbn
  show wpAnyH _ _ _ _ _ _ _ ({ tmps := #[.agg L.toArray, .pointer (some ⟨B, 0, none⟩), .pointer (some ⟨C, 0, none⟩), .agg L.toArray, .int .u8 (oe e1), .agg L.toArray, .int .u8 (oe e2), .agg L.toArray, undef, .agg L.toArray, undef, undef], defers := [] } : Act) _
  refine wpAnyH_ready (rs := [5]) (by kernel_rfl) (by simp) ?_
  refine AllReadyH.cons (o := _) rfl (fun K hK => ?_) AllReadyH.nil
  refine step_call2 rfl _ (.tmp 7) (.const (.int .u8 4)) _ rfl eg (.agg L.toArray) (.int .u8 4) (.int .u8 (oe e3)) rfl rfl ((c3.out _).mono ?_)
  rintro e W5 ⟨rfl, hbn⟩
  refine ⟨rfl, hK.out _ _ (hH3.next hbn) fun hH5 => ?_⟩
  clear hH3 hK hbn
  show wpAnyH _ _ _ _ _ _ _ ({ tmps := #[.agg L.toArray, .pointer (some ⟨B, 0, none⟩), .pointer (some ⟨C, 0, none⟩), .agg L.toArray, .int .u8 (oe e1), .agg L.toArray, .int .u8 (oe e2), .agg L.toArray, .int .u8 (oe e3), .agg L.toArray, undef, undef], defers := [] } : Act) _
  refine wpAnyH_ready (rs := [7]) (by kernel_rfl) (by simp) ?_
  refine AllReadyH.cons (o := _) rfl (fun K hK => ?_) AllReadyH.nil
  refine step_call2 rfl _ (.tmp 9) (.const (.int .u8 8)) _ rfl eg (.agg L.toArray) (.int .u8 8) (.int .u8 (oe e4)) rfl rfl ((c4.out _).mono ?_)
  rintro e W7 ⟨rfl, hbn⟩
  refine ⟨rfl, hK.out _ _ (hH5.next hbn) fun hH7 => ?_⟩
  clear hH5 hK hbn
  show wpAnyH _ _ _ _ _ _ _ ({ tmps := #[.agg L.toArray, .pointer (some ⟨B, 0, none⟩), .pointer (some ⟨C, 0, none⟩), .agg L.toArray, .int .u8 (oe e1), .agg L.toArray, .int .u8 (oe e2), .agg L.toArray, .int .u8 (oe e3), .agg L.toArray, .int .u8 (oe e4), undef], defers := [] } : Act) _
  refine wpAnyH_take (i := 8) (oi := _) (v := .agg #[.int .u8 (oe e1), .int .u8 (oe e2), .int .u8 (oe e3), .int .u8 (oe e4)]) rfl (by kernel_rfl) (by kernel_rfl) (by kernel_rfl) (fun _ _ _ h => h) (.inl ⟨by rfl, fun w _ => ?bld⟩) hH7 ?_
  case bld => simp [execOp, go_sem]
  show wpAnyH _ _ _ _ _ _ _ ({ tmps := #[.agg L.toArray, .pointer (some ⟨B, 0, none⟩), .pointer (some ⟨C, 0, none⟩), .agg L.toArray, .int .u8 (oe e1), .agg L.toArray, .int .u8 (oe e2), .agg L.toArray, .int .u8 (oe e3), .agg L.toArray, .int .u8 (oe e4), .agg #[.int .u8 (oe e1), .int .u8 (oe e2), .int .u8 (oe e3), .int .u8 (oe e4)]], defers := [] } : Act) _
  refine wpAnyH_ready (rs := [9]) (by kernel_rfl) (by simp) ?_
  refine AllReadyH.cons (o := _) rfl (fun K hK => ?_) AllReadyH.nil
  refine step_plain rfl ?_
  refine wp_store_mid 27 _ _ rfl C 0 #[.int .u8 (oe e1), .int .u8 (oe e2), .int .u8 (oe e3), .int .u8 (oe e4)] rfl rfl hH7.free info4 (by simp [Value.oneCell']) ?_
  refine hK.out _ _ (hH7.put hBC _) fun hH9 => ?_
  refine wpAnyH_done (by kernel_rfl) ?_ _
  have hrg : (W7.setCells C 0 [.int .u8 (oe e1), .int .u8 (oe e2), .int .u8 (oe e3), .int .u8 (oe e4)]).rangeAt C 0 [.int .u8 (oe e1), .int .u8 (oe e2), .int .u8 (oe e3), .int .u8 (oe e4)] := World.rangeAt_setCells_same W7 C 0 _ hH7.free
  have hld := run_loadVar_mid (P := Try.prog) _ C 0 27 _ _ hrg Try.underlying27 rfl info4
  have HB9 : Hid (Below B w (W7.setCells C 0 [.int .u8 (oe e1), .int .u8 (oe e2), .int .u8 (oe e3), .int .u8 (oe e4)])) := hH9.below
  clear hH7 hH9 hrg hK hi9 hu9 eg c1 c2 c3 c4
  show Exit.then _ _ Exit.normal ({ tmps := #[.agg L.toArray, .pointer (some ⟨B, 0, none⟩), .pointer (some ⟨C, 0, none⟩), .agg L.toArray, .int .u8 (oe e1), .agg L.toArray, .int .u8 (oe e2), .agg L.toArray, .int .u8 (oe e3), .agg L.toArray, .int .u8 (oe e4), .agg #[.int .u8 (oe e1), .int .u8 (oe e2), .int .u8 (oe e3), .int .u8 (oe e4)]], defers := [] } : Act) _
  go_wp2
  refine bodyPost_ret (v := .agg #[.int .u8 (oe e1), .int .u8 (oe e2), .int .u8 (oe e3), .int .u8 (oe e4)]) ?_ rfl ⟨by rw [hres.out], by rw [hB]; exact HB9.out⟩
  simp [results, Try.f11, asAddr, hld]
end Go.Proofs.Ytmkjdpokcfeieaa
