/-
  A play: a step that injects many times.
-/
import Derived.Test.YtcpjmfemgdgplaaDrP4m
import Derived.Test.YtcpjmfemgdgplaaDrP0m
namespace Go.Proofs.Ytcpjmfemgdgplaa
open Go.RowKit Go.Shelf
open Ge (pw rt hd ix)
attribute [local go_sem] Oper.semAt_some

section
variable {W W' w0 : World} {es ls : List (Nat × List Value)} {lo B M : Nat} {r s b o d m : Int} {n : Nat} {LD : List Value} {k8 j8 : Int}
theorem Pq.putA {es ls : List (Nat × List Value)} {w0 W : World} {lo B M : Nat} {r s b o d m : Int} {n A A1 A2 : Nat} {X O L0 L LD : List Value} (h : Pq w0 es ((A2, X) :: (A1, O) :: (A, L0) :: ls) lo B M r s b o d m n LD W) (h1 : A + 1 = A1) (h2 : A1 + 1 = A2) (hls : ∀ x ∈ ls, x.1 < A) (hlo : lo ≤ A) (hl : L.length = L0.length) : Pq w0 es ((A2, X) :: (A1, O) :: (A, L) :: ls) lo B M r s b o d m n LD (W.setCells A 0 L) ∧ W.there A 0 L.toArray.size := by
  obtain ⟨g1, g2⟩ := (h.sub (ls' := (A, L0) :: (A2, X) :: (A1, O) :: ls) fun x hx => by
    simp only [List.mem_cons] at hx ⊢
    rcases hx with h | h | h | h
    · exact .inr (.inr (.inl h))
    · exact .inl h
    · exact .inr (.inl h)
    · exact .inr (.inr (.inr h))).put hlo (fun x hx => by
    simp only [List.mem_cons] at hx
    rcases hx with rfl | rfl | hx
    · show A2 ≠ A; omega
    · show A1 ≠ A; omega
    · have := hls x hx; omega) hl
  exact ⟨g1.sub fun x hx => by
    simp only [List.mem_cons] at hx ⊢
    rcases hx with h | h | h | h
    · exact .inr (.inl h)
    · exact .inr (.inr (.inl h))
    · exact .inl h
    · exact .inr (.inr (.inr h)), g2⟩
set_option maxRecDepth 100000 in
set_option maxHeartbeats 8000000 in
theorem dStep4 (h : Pq w0 es ls lo B M r s b o d m n LD W) (hm : Md m k8 j8) (hg : Ng r b o d) {O LR : List Value} {z1 z2 k p q u v c x y : Int} (ho : Oc O 4 z1 z2 k p q u v c x y LR) (hf : ∀ j, j < 8 → (Lit.int .i64 (ffn k p q u v c x y j)).wf = true) (hn : n < 800000) (hz2 : I64 z2) :
    Calls Try.prog 11 #[.pointer (some ⟨B, 0, none⟩), .agg LD.toArray, .agg O.toArray] W fun e w' => ∃ LD', e = .returned (.tuple #[.agg LD'.toArray, .bool true]) ∧ Pq w0 es ls lo B M r s b o d m (n + 700) LD' w' := by
  have HM : Hid (Md m k8 j8) := hm
  have HG : Hid (Ng r b o d) := hg
  have HO : Hid (Oc O 4 z1 z2 k p q u v c x y LR) := ho
  have HF : Hid (∀ j, j < 8 → (Lit.int .i64 (ffn k p q u v c x y j)).wf = true) := hf
  have HNN : Hid (n < 800000) := hn
  have HZ2 : Hid (I64 z2) := hz2
  clear hz2
  have hz := zeroD12
  obtain ⟨X0, hX0⟩ : ∃ X, dl 0 0 0 0 0 0 (.slice none 0 0) (.slice none 0 0) (.slice none 0 0) = X := ⟨_, rfl⟩
  have lX : X0.length = 9 := by rw [← hX0]; rfl
  rw [hX0] at hz
  have HL0 : Hid (∀ x ∈ ls, x.1 < W.heap.size) := fun x hx => (h.cl x hx).lt
  have HW : Hid (Pq w0 es ls lo B M r s b o d m n LD W) := h
  clear hm hg ho hf hn hX0 h
  go_enter Try.func11, Try.ntmps11
  obtain ⟨ud, hu⟩ : ∃ u : Value, undef = u := ⟨_, rfl⟩
  rw [hu]
  clear hu
  go_upto_region 1 with (fail)
  obtain ⟨A, hA⟩ : ∃ A, W.heap.size = A := ⟨_, rfl⟩
  obtain ⟨A1, hA1⟩ : ∃ A1, A + 1 = A1 := ⟨_, rfl⟩
  obtain ⟨A2, hA2⟩ : ∃ A2, A1 + 1 = A2 := ⟨_, rfl⟩
  obtain ⟨V, hV⟩ : ∃ V, ((W.alloc (.cells LD.toArray 34)).alloc (.cells O.toArray 42)).alloc (.cells X0.toArray 34) = V := ⟨_, rfl⟩
  have HQ : Hid (Pq w0 es ((A2, X0) :: (A1, O) :: (A, LD) :: ls) lo B M r s b o d m n LD V) := by
    have h := ((HW.out.lay LD 34).lay O 42).lay X0 34
    simp only [World.size_alloc] at h
    rw [hV, hA, hA1, hA2] at h
    exact h
  have HLO : Hid (lo ≤ A) := by rw [← hA]; exact HW.out.lo_le.1
  have HL : Hid (∀ x ∈ ls, x.1 < A) := by rw [← hA]; exact HL0.out
  have HA : Hid (A + 1 = A1 ∧ A1 + 1 = A2) := ⟨hA1, hA2⟩
  rw [hV, hA, hA1, hA2]
  clear hV HW HL0 hA hA1 hA2
  have cO := HQ.out.cl (A1, O) (by simp)
  have c0 : V.cell? ⟨A1, 0, none⟩ = some (.int .i64 4) := cO.cell HO.out.c0
  have c2 : V.cell? ⟨A1, 2, none⟩ = some (.int .i64 z2) := cO.cell HO.out.c2
  clear cO
  go_wp2_with (first | fail)
  obtain ⟨q0, hq0⟩ : ∃ q0 : Nat, max (min z2 300) 0 = (q0 : Int) := ⟨(max (min z2 300) 0).toNat, by omega⟩
  have HC0 : Hid (q0 ≤ 300) := (by omega : q0 ≤ 300)
  obtain ⟨ul, hul⟩ : ∃ v : Value, .agg LD.toArray = v := ⟨_, rfl⟩
  rw [hq0, hul]
  clear hq0 hul c0 c2
  have HK5 : Hid (∃ LD, Pq w0 es ((A2, X0) :: (A1, O) :: (A, LD) :: ls) lo B M r s b o d m (n + 2 * 0) LD V) := ⟨LD, HQ.out⟩
  clear HQ
  go_loopw [157] (fun i wr => ∃ t : Nat, t ≤ q0 ∧ i = .int .i64 (t : Int) ∧ Hid (∃ LD, Pq w0 es ((A2, X0) :: (A1, O) :: (A, LD) :: ls) lo B M r s b o d m (n + 2 * t) LD wr)) (fun i _ => q0 - (intOf i).toNat)
  case atStart => exact ⟨0, by omega, rfl, HK5⟩
  case round =>
    clear HK5
    obtain ⟨t, ht, rfl, HR⟩ := hrel
    obtain ⟨LD, hq⟩ := HR.out
    have HQ : Hid (Pq w0 es ((A2, X0) :: (A1, O) :: (A, LD) :: ls) lo B M r s b o d m (n + 2 * t) LD wr) := hq
    clear hq HR
    have iLD : (Try.prog.info? 34).map (·.size) = some LD.length := by rw [HQ.out.ll]; exact infoD12
    by_cases hlt : t < q0
    · have cO := HQ.out.cl (A1, O) (by simp)
      have cF : wr.rangeAt A1 3 [.int .i64 k, .int .i64 p, .int .i64 q, .int .i64 u, .int .i64 v, .int .i64 c, .int .i64 x, .int .i64 y] := cO.rangeAt 3 [.int .i64 k, .int .i64 p, .int .i64 q, .int .i64 u, .int .i64 v, .int .i64 c, .int .i64 x, .int .i64 y] HO.out.fa
      clear cO
      go_wp2_with (first | refine wpList_load_mid rfl 38 _ rfl A1 3 rfl [.int .i64 k, .int .i64 p, .int .i64 q, .int .i64 u, .int .i64 v, .int .i64 c, .int .i64 x, .int .i64 y] _ cF Try.underlying38 rfl infoFt ?_)
      refine (pqInject HQ.out HM.out HG.out HF.out (by have := HNN.out; have := HC0.out; omega)).mono ?_
      rintro e W3 ⟨a, rfl, hj⟩
      have HJ : Hid (Pj w0 es ((A2, X0) :: (A1, O) :: (A, LD) :: ls) lo B M r s b o d m (n + 2 * t + 1) a (.agg #[.int .i64 k, .int .i64 p, .int .i64 q, .int .i64 u, .int .i64 v, .int .i64 c, .int .i64 x, .int .i64 y]) LD W3) := hj
      clear hj HQ cF
      go_upto_region 27 with (fail)
      replace HJ : Hid (Pj w0 es ((A2, X0) :: (A1, O) :: (A, LD) :: ls) lo B M r s b o d m (n + 2 * t + 1) a (.agg #[.int .i64 k, .int .i64 p, .int .i64 q, .int .i64 u, .int .i64 v, .int .i64 c, .int .i64 x, .int .i64 y]) LD W3.drew) := HJ.out.next (below_drew1 _)
      refine region_ends (by kernel_rfl) (fun W' => Cb W' A LD ∧ Cb W' A1 O) (fun a2 W' => ∃ N9 LD2, a2 = ({ tmps := #[.pointer (some ⟨B, 0, none⟩), ul, .agg O.toArray, ud, .pointer (some ⟨A, 0, none⟩), .pointer (some ⟨A1, 0, none⟩), .pointer (some ⟨A2, 0, none⟩), u7, ud, ud, ud, ud, ud, ud, ud, ud, ud, ud, ud, ud, ud, ud, ud, .int .i64 a, .pointer (some ⟨N9, 0, none⟩), .int .i64 a, .pointer (some ⟨A1, 0, none⟩), .int .i64 4, .bool false, .bool false, ud, ud, ud, ud, ud, ud, ud, ud, ud, ud, ud, ud, ud, ud, ud, ud, .bool false, .bool false, ud, ud, ud, ud, ud, ud, ud, ud, ud, ud, ud, ud, ud, ud, ud, ud, ud, ud, ud, ud, ud, ud, ud, ud, ud, ud, ud, ud, ud, ud, ud, ud, ud, ud, ud, ud, ud, ud, ud, ud, ud, ud, ud, ud, ud, ud, ud, .bool false, .bool false, ud, ud, ud, ud, ud, ud, ud, ud, ud, ud, ud, ud, ud, ud, ud, ud, ud, ud, ud, ud, ud, ud, ud, ud, ud, ud, ud, ud, ud, ud, ud, ud, ud, ud, ud, ud, ud, ud, ud, ud, ud, ud, ud, ud, ud, ud, ud, ud, ud, ud, ud, ud, ud, ud, .bool true, .bool true, .pointer (some ⟨A1, 2, none⟩), .int .i64 z2, .int .i64 (min z2 300), .int .i64 (q0 : Int), .int .i64 (t : Int), .bool true, .pointer (some ⟨B, 0, none⟩), .pointer (some ⟨A1, 3, none⟩), .agg #[.int .i64 k, .int .i64 p, .int .i64 q, .int .i64 u, .int .i64 v, .int .i64 c, .int .i64 x, .int .i64 y], .int .i64 a, .tuple #[.agg LD2.toArray, .int .i64 a], .agg LD.toArray, .pointer (some ⟨A1, 3, none⟩), .agg #[.int .i64 k, .int .i64 p, .int .i64 q, .int .i64 u, .int .i64 v, .int .i64 c, .int .i64 x, .int .i64 y], .agg #[.int .i64 k, .int .i64 p, .int .i64 q, .int .i64 u, .int .i64 v, .int .i64 c, .int .i64 x, .int .i64 y], .tuple #[.agg LD2.toArray, .int .i64 a], .agg LD2.toArray, .int .i64 a, u171, u172, u173, u174, u175, u176, ud], defers := [] } : Act) ∧ Pq w0 es ((N9, LD2) :: (A2, X0) :: (A1, O) :: (A, LD) :: ls) lo B M r s b o d m (n + 2 * t + 1 + 1) LD2 W' ∧ A2 < N9 ∧ lo ≤ N9) ⟨HJ.out.cl (A, LD) (by simp), HJ.out.cl (A1, O) (by simp)⟩ (fun hH => ?reg) (fun a2 V3 hr => ?aft)
      case reg =>
        refine take_if 0 (v := .agg LD.toArray) rfl (by kernel_rfl) (yieldsIf_load_mid (by rfl) _ _ rfl A 0 rfl LD _ (fun w' hw => hw.1.range) Try.underlying34 rfl iLD) hH ?_
        show wpAnyH _ _ _ _ _ _ _ ⟨#[_, _, _, _, _, _, _, _, _, _, _, _, _, _, _, _, _, _, _, _, _, _, _, _, _, _, _, _, _, _, _, _, _, _, _, _, _, _, _, _, _, _, _, _, _, _, _, _, _, _, _, _, _, _, _, _, _, _, _, _, _, _, _, _, _, _, _, _, _, _, _, _, _, _, _, _, _, _, _, _, _, _, _, _, _, _, _, _, _, _, _, _, _, _, _, _, _, _, _, _, _, _, _, _, _, _, _, _, _, _, _, _, _, _, _, _, _, _, _, _, _, _, _, _, _, _, _, _, _, _, _, _, _, _, _, _, _, _, _, _, _, _, _, _, _, _, _, _, _, _, _, _, _, _, _, _, _, _, _, _, _, _, _, _, _, _, _, _, _, _, _, _, _, _, _, _, _, _], []⟩ _
        refine take_pure 1 (v := .pointer (some ⟨A1, 3, none⟩)) rfl (by kernel_rfl) rfl (fun w' hw => by simp [execOp, go_sem]) hH ?_
        show wpAnyH _ _ _ _ _ _ _ ⟨#[_, _, _, _, _, _, _, _, _, _, _, _, _, _, _, _, _, _, _, _, _, _, _, _, _, _, _, _, _, _, _, _, _, _, _, _, _, _, _, _, _, _, _, _, _, _, _, _, _, _, _, _, _, _, _, _, _, _, _, _, _, _, _, _, _, _, _, _, _, _, _, _, _, _, _, _, _, _, _, _, _, _, _, _, _, _, _, _, _, _, _, _, _, _, _, _, _, _, _, _, _, _, _, _, _, _, _, _, _, _, _, _, _, _, _, _, _, _, _, _, _, _, _, _, _, _, _, _, _, _, _, _, _, _, _, _, _, _, _, _, _, _, _, _, _, _, _, _, _, _, _, _, _, _, _, _, _, _, _, _, _, _, _, _, _, _, _, _, _, _, _, _, _, _, _, _, _, _], []⟩ _
        refine take_pure 2 (v := .agg #[.int .i64 k, .int .i64 p, .int .i64 q, .int .i64 u, .int .i64 v, .int .i64 c, .int .i64 x, .int .i64 y]) rfl (by kernel_rfl) rfl (fun w' hw => exec_range 38 (.tmp 165) rfl A1 3 rfl [.int .i64 k, .int .i64 p, .int .i64 q, .int .i64 u, .int .i64 v, .int .i64 c, .int .i64 x, .int .i64 y] _ (hw.2.rangeAt 3 [.int .i64 k, .int .i64 p, .int .i64 q, .int .i64 u, .int .i64 v, .int .i64 c, .int .i64 x, .int .i64 y] HO.out.fa) Try.underlying38 rfl infoFt) hH ?_
        show wpAnyH _ _ _ _ _ _ _ ⟨#[_, _, _, _, _, _, _, _, _, _, _, _, _, _, _, _, _, _, _, _, _, _, _, _, _, _, _, _, _, _, _, _, _, _, _, _, _, _, _, _, _, _, _, _, _, _, _, _, _, _, _, _, _, _, _, _, _, _, _, _, _, _, _, _, _, _, _, _, _, _, _, _, _, _, _, _, _, _, _, _, _, _, _, _, _, _, _, _, _, _, _, _, _, _, _, _, _, _, _, _, _, _, _, _, _, _, _, _, _, _, _, _, _, _, _, _, _, _, _, _, _, _, _, _, _, _, _, _, _, _, _, _, _, _, _, _, _, _, _, _, _, _, _, _, _, _, _, _, _, _, _, _, _, _, _, _, _, _, _, _, _, _, _, _, _, _, _, _, _, _, _, _, _, _, _, _, _, _], []⟩ _
        refine take_two 3 8 rfl rfl rfl rfl (by kernel_rfl) ?_ ?_
        · refine wp_contract 16 [.tmp 166] _ rfl (enters_of Try.func16 (by kernel_rfl) rfl) [.agg #[.int .i64 k, .int .i64 p, .int .i64 q, .int .i64 u, .int .i64 v, .int .i64 c, .int .i64 x, .int .i64 y]] rfl (of12_any k p q u v c x y _) ?_
          rintro e X1 ⟨rfl, b5⟩
          replace HJ : Hid (Pj w0 es ((A2, X0) :: (A1, O) :: (A, LD) :: ls) lo B M r s b o d m (n + 2 * t + 1) a (.agg #[.int .i64 k, .int .i64 p, .int .i64 q, .int .i64 u, .int .i64 v, .int .i64 c, .int .i64 x, .int .i64 y]) LD X1) := HJ.out.next b5
          refine ⟨_, rfl, ⟨HJ.out.cl (A, LD) (by simp), HJ.out.cl (A1, O) (by simp)⟩, fun hH => ?_⟩
          clear b5
          show wpAnyH _ _ _ _ _ _ _ ⟨#[_, _, _, _, _, _, _, _, _, _, _, _, _, _, _, _, _, _, _, _, _, _, _, _, _, _, _, _, _, _, _, _, _, _, _, _, _, _, _, _, _, _, _, _, _, _, _, _, _, _, _, _, _, _, _, _, _, _, _, _, _, _, _, _, _, _, _, _, _, _, _, _, _, _, _, _, _, _, _, _, _, _, _, _, _, _, _, _, _, _, _, _, _, _, _, _, _, _, _, _, _, _, _, _, _, _, _, _, _, _, _, _, _, _, _, _, _, _, _, _, _, _, _, _, _, _, _, _, _, _, _, _, _, _, _, _, _, _, _, _, _, _, _, _, _, _, _, _, _, _, _, _, _, _, _, _, _, _, _, _, _, _, _, _, _, _, _, _, _, _, _, _, _, _, _, _, _, _], []⟩ _
          refine take_two 4 8 rfl rfl rfl rfl (by kernel_rfl) ?_ ?_
          · refine wp_contract 37 [.tmp 164, .tmp 167] _ rfl (enters_of Try.func37 (by kernel_rfl) rfl) [.agg LD.toArray, .agg #[.int .i64 k, .int .i64 p, .int .i64 q, .int .i64 u, .int .i64 v, .int .i64 c, .int .i64 x, .int .i64 y]] rfl HJ.out.call ?_
            rintro e X2 ⟨LD2, rfl, hq⟩
            replace HJ : Hid (Pq w0 es ((A2, X0) :: (A1, O) :: (A, LD) :: ls) lo B M r s b o d m (n + 2 * t + 1 + 1) LD2 X2) := hq
            refine ⟨_, rfl, ⟨HJ.out.cl (A, LD) (by simp), HJ.out.cl (A1, O) (by simp)⟩, fun hH => ?_⟩
            clear hq
            show wpAnyH _ _ _ _ _ _ _ ⟨#[_, _, _, _, _, _, _, _, _, _, _, _, _, _, _, _, _, _, _, _, _, _, _, _, _, _, _, _, _, _, _, _, _, _, _, _, _, _, _, _, _, _, _, _, _, _, _, _, _, _, _, _, _, _, _, _, _, _, _, _, _, _, _, _, _, _, _, _, _, _, _, _, _, _, _, _, _, _, _, _, _, _, _, _, _, _, _, _, _, _, _, _, _, _, _, _, _, _, _, _, _, _, _, _, _, _, _, _, _, _, _, _, _, _, _, _, _, _, _, _, _, _, _, _, _, _, _, _, _, _, _, _, _, _, _, _, _, _, _, _, _, _, _, _, _, _, _, _, _, _, _, _, _, _, _, _, _, _, _, _, _, _, _, _, _, _, _, _, _, _, _, _, _, _, _, _, _, _], []⟩ _
            refine take_pure 5 (v := .tuple #[.agg LD2.toArray, .int .i64 a]) rfl (by kernel_rfl) rfl (fun w' hw => by simp [execOp, go_sem]) hH ?_
            show wpAnyH _ _ _ _ _ _ _ ⟨#[_, _, _, _, _, _, _, _, _, _, _, _, _, _, _, _, _, _, _, _, _, _, _, _, _, _, _, _, _, _, _, _, _, _, _, _, _, _, _, _, _, _, _, _, _, _, _, _, _, _, _, _, _, _, _, _, _, _, _, _, _, _, _, _, _, _, _, _, _, _, _, _, _, _, _, _, _, _, _, _, _, _, _, _, _, _, _, _, _, _, _, _, _, _, _, _, _, _, _, _, _, _, _, _, _, _, _, _, _, _, _, _, _, _, _, _, _, _, _, _, _, _, _, _, _, _, _, _, _, _, _, _, _, _, _, _, _, _, _, _, _, _, _, _, _, _, _, _, _, _, _, _, _, _, _, _, _, _, _, _, _, _, _, _, _, _, _, _, _, _, _, _, _, _, _, _, _, _], []⟩ _
            refine take_pure 6 (v := .agg LD2.toArray) rfl (by kernel_rfl) rfl (fun w' hw => by simp [execOp, go_sem]) hH ?_
            show wpAnyH _ _ _ _ _ _ _ ⟨#[_, _, _, _, _, _, _, _, _, _, _, _, _, _, _, _, _, _, _, _, _, _, _, _, _, _, _, _, _, _, _, _, _, _, _, _, _, _, _, _, _, _, _, _, _, _, _, _, _, _, _, _, _, _, _, _, _, _, _, _, _, _, _, _, _, _, _, _, _, _, _, _, _, _, _, _, _, _, _, _, _, _, _, _, _, _, _, _, _, _, _, _, _, _, _, _, _, _, _, _, _, _, _, _, _, _, _, _, _, _, _, _, _, _, _, _, _, _, _, _, _, _, _, _, _, _, _, _, _, _, _, _, _, _, _, _, _, _, _, _, _, _, _, _, _, _, _, _, _, _, _, _, _, _, _, _, _, _, _, _, _, _, _, _, _, _, _, _, _, _, _, _, _, _, _, _, _, _], []⟩ _
            refine take_pure 7 (v := .int .i64 a) rfl (by kernel_rfl) rfl (fun w' hw => by simp [execOp, go_sem]) hH ?_
            show wpAnyH _ _ _ _ _ _ _ ⟨#[_, _, _, _, _, _, _, _, _, _, _, _, _, _, _, _, _, _, _, _, _, _, _, _, _, _, _, _, _, _, _, _, _, _, _, _, _, _, _, _, _, _, _, _, _, _, _, _, _, _, _, _, _, _, _, _, _, _, _, _, _, _, _, _, _, _, _, _, _, _, _, _, _, _, _, _, _, _, _, _, _, _, _, _, _, _, _, _, _, _, _, _, _, _, _, _, _, _, _, _, _, _, _, _, _, _, _, _, _, _, _, _, _, _, _, _, _, _, _, _, _, _, _, _, _, _, _, _, _, _, _, _, _, _, _, _, _, _, _, _, _, _, _, _, _, _, _, _, _, _, _, _, _, _, _, _, _, _, _, _, _, _, _, _, _, _, _, _, _, _, _, _, _, _, _, _, _, _], []⟩ _
            refine take_one 8 rfl rfl (by kernel_rfl) ?_
            refine wp_alloc_agg 34 rfl _ hz ?_
            obtain ⟨N9, hNe⟩ : ∃ N, (X2).heap.size = N := ⟨_, rfl⟩
            obtain ⟨X3, hX3⟩ : ∃ V, (X2).alloc (.cells X0.toArray 34) = V := ⟨_, rfl⟩
            have hj := HJ.out.lay X0 34
            have HN9 : Hid (A2 < N9 ∧ lo ≤ N9) := by rw [← hNe]; exact ⟨(HJ.out.cl (A2, X0) (by simp)).lt, HJ.out.lo_le.1⟩
            rw [hNe, hX3] at hj
            replace HJ : Hid (Pq w0 es ((N9, X0) :: (A2, X0) :: (A1, O) :: (A, LD) :: ls) lo B M r s b o d m (n + 2 * t + 1 + 1) LD2 X3) := hj
            rw [hNe, hX3]
            refine ⟨⟨HJ.out.cl (A, LD) (by simp), HJ.out.cl (A1, O) (by simp)⟩, fun hH => ?_⟩
            clear hj hNe hX3
            show wpAnyH _ _ _ _ _ _ _ ⟨#[_, _, _, _, _, _, _, _, _, _, _, _, _, _, _, _, _, _, _, _, _, _, _, _, _, _, _, _, _, _, _, _, _, _, _, _, _, _, _, _, _, _, _, _, _, _, _, _, _, _, _, _, _, _, _, _, _, _, _, _, _, _, _, _, _, _, _, _, _, _, _, _, _, _, _, _, _, _, _, _, _, _, _, _, _, _, _, _, _, _, _, _, _, _, _, _, _, _, _, _, _, _, _, _, _, _, _, _, _, _, _, _, _, _, _, _, _, _, _, _, _, _, _, _, _, _, _, _, _, _, _, _, _, _, _, _, _, _, _, _, _, _, _, _, _, _, _, _, _, _, _, _, _, _, _, _, _, _, _, _, _, _, _, _, _, _, _, _, _, _, _, _, _, _, _, _, _, _], []⟩ _
            refine take_one 9 rfl rfl (by kernel_rfl) ?_
            obtain ⟨hq, ht⟩ := HJ.out.put (L := LD2) HN9.out.2 (by
              intro z hz9
              have h1 := HA.out
              have h2 := HN9.out
              simp only [List.mem_cons] at hz9
              rcases hz9 with rfl | rfl | rfl | hz9
              · show A2 ≠ N9; omega
              · show A1 ≠ N9; omega
              · show A ≠ N9; omega
              · have := HL.out z hz9; omega) (by rw [HJ.out.ll, lX])
            have j9 : (Try.prog.info? 34).map (·.size) = some LD2.toArray.size := by rw [List.size_toArray, HJ.out.ll]; exact infoD12
            have o9 := HJ.out.one
            refine wp_store_mid 34 _ _ rfl N9 0 LD2.toArray rfl rfl ht j9 o9 ?_
            replace HJ : Hid (Pq w0 es ((N9, LD2) :: (A2, X0) :: (A1, O) :: (A, LD) :: ls) lo B M r s b o d m (n + 2 * t + 1 + 1) LD2 (X3.setCells N9 0 LD2)) := hq
            refine ⟨⟨HJ.out.cl (A, LD) (by simp), HJ.out.cl (A1, O) (by simp)⟩, fun hH => ?_⟩
            clear hq ht j9 o9
            show wpAnyH _ _ _ _ _ _ _ ⟨#[_, _, _, _, _, _, _, _, _, _, _, _, _, _, _, _, _, _, _, _, _, _, _, _, _, _, _, _, _, _, _, _, _, _, _, _, _, _, _, _, _, _, _, _, _, _, _, _, _, _, _, _, _, _, _, _, _, _, _, _, _, _, _, _, _, _, _, _, _, _, _, _, _, _, _, _, _, _, _, _, _, _, _, _, _, _, _, _, _, _, _, _, _, _, _, _, _, _, _, _, _, _, _, _, _, _, _, _, _, _, _, _, _, _, _, _, _, _, _, _, _, _, _, _, _, _, _, _, _, _, _, _, _, _, _, _, _, _, _, _, _, _, _, _, _, _, _, _, _, _, _, _, _, _, _, _, _, _, _, _, _, _, _, _, _, _, _, _, _, _, _, _, _, _, _, _, _, _], []⟩ _
            refine take_pure 10 (v := .int .i64 a) rfl (by kernel_rfl) rfl (fun w' hw => by simp [execOp, go_sem]) hH ?_
            show wpAnyH _ _ _ _ _ _ _ ⟨#[_, _, _, _, _, _, _, _, _, _, _, _, _, _, _, _, _, _, _, _, _, _, _, _, _, _, _, _, _, _, _, _, _, _, _, _, _, _, _, _, _, _, _, _, _, _, _, _, _, _, _, _, _, _, _, _, _, _, _, _, _, _, _, _, _, _, _, _, _, _, _, _, _, _, _, _, _, _, _, _, _, _, _, _, _, _, _, _, _, _, _, _, _, _, _, _, _, _, _, _, _, _, _, _, _, _, _, _, _, _, _, _, _, _, _, _, _, _, _, _, _, _, _, _, _, _, _, _, _, _, _, _, _, _, _, _, _, _, _, _, _, _, _, _, _, _, _, _, _, _, _, _, _, _, _, _, _, _, _, _, _, _, _, _, _, _, _, _, _, _, _, _, _, _, _, _, _, _], []⟩ _
            exact wpAnyH_done (by kernel_rfl) ⟨N9, LD2, rfl, HJ.out, HN9.out⟩ _
          · refine wp_alloc_agg 34 rfl _ hz ?_
            obtain ⟨N9, hNe⟩ : ∃ N, (X1).heap.size = N := ⟨_, rfl⟩
            obtain ⟨X4, hX4⟩ : ∃ V, (X1).alloc (.cells X0.toArray 34) = V := ⟨_, rfl⟩
            have hj := HJ.out.lay X0 34
            have HN9 : Hid (A2 < N9 ∧ lo ≤ N9) := by rw [← hNe]; exact ⟨(HJ.out.cl (A2, X0) (by simp)).lt, HJ.out.lo_le.1⟩
            rw [hNe, hX4] at hj
            replace HJ : Hid (Pj w0 es ((N9, X0) :: (A2, X0) :: (A1, O) :: (A, LD) :: ls) lo B M r s b o d m (n + 2 * t + 1) a (.agg #[.int .i64 k, .int .i64 p, .int .i64 q, .int .i64 u, .int .i64 v, .int .i64 c, .int .i64 x, .int .i64 y]) LD X4) := hj
            rw [hNe, hX4]
            refine ⟨⟨HJ.out.cl (A, LD) (by simp), HJ.out.cl (A1, O) (by simp)⟩, fun hH => ?_⟩
            clear hj hNe hX4
            show wpAnyH _ _ _ _ _ _ _ ⟨#[_, _, _, _, _, _, _, _, _, _, _, _, _, _, _, _, _, _, _, _, _, _, _, _, _, _, _, _, _, _, _, _, _, _, _, _, _, _, _, _, _, _, _, _, _, _, _, _, _, _, _, _, _, _, _, _, _, _, _, _, _, _, _, _, _, _, _, _, _, _, _, _, _, _, _, _, _, _, _, _, _, _, _, _, _, _, _, _, _, _, _, _, _, _, _, _, _, _, _, _, _, _, _, _, _, _, _, _, _, _, _, _, _, _, _, _, _, _, _, _, _, _, _, _, _, _, _, _, _, _, _, _, _, _, _, _, _, _, _, _, _, _, _, _, _, _, _, _, _, _, _, _, _, _, _, _, _, _, _, _, _, _, _, _, _, _, _, _, _, _, _, _, _, _, _, _, _, _], []⟩ _
            refine take_one 4 rfl rfl (by kernel_rfl) ?_
            refine wp_contract 37 [.tmp 164, .tmp 167] _ rfl (enters_of Try.func37 (by kernel_rfl) rfl) [.agg LD.toArray, .agg #[.int .i64 k, .int .i64 p, .int .i64 q, .int .i64 u, .int .i64 v, .int .i64 c, .int .i64 x, .int .i64 y]] rfl HJ.out.call ?_
            rintro e X5 ⟨LD2, rfl, hq⟩
            replace HJ : Hid (Pq w0 es ((N9, X0) :: (A2, X0) :: (A1, O) :: (A, LD) :: ls) lo B M r s b o d m (n + 2 * t + 1 + 1) LD2 X5) := hq
            refine ⟨_, rfl, ⟨HJ.out.cl (A, LD) (by simp), HJ.out.cl (A1, O) (by simp)⟩, fun hH => ?_⟩
            clear hq
            show wpAnyH _ _ _ _ _ _ _ ⟨#[_, _, _, _, _, _, _, _, _, _, _, _, _, _, _, _, _, _, _, _, _, _, _, _, _, _, _, _, _, _, _, _, _, _, _, _, _, _, _, _, _, _, _, _, _, _, _, _, _, _, _, _, _, _, _, _, _, _, _, _, _, _, _, _, _, _, _, _, _, _, _, _, _, _, _, _, _, _, _, _, _, _, _, _, _, _, _, _, _, _, _, _, _, _, _, _, _, _, _, _, _, _, _, _, _, _, _, _, _, _, _, _, _, _, _, _, _, _, _, _, _, _, _, _, _, _, _, _, _, _, _, _, _, _, _, _, _, _, _, _, _, _, _, _, _, _, _, _, _, _, _, _, _, _, _, _, _, _, _, _, _, _, _, _, _, _, _, _, _, _, _, _, _, _, _, _, _, _], []⟩ _
            refine take_pure 5 (v := .tuple #[.agg LD2.toArray, .int .i64 a]) rfl (by kernel_rfl) rfl (fun w' hw => by simp [execOp, go_sem]) hH ?_
            show wpAnyH _ _ _ _ _ _ _ ⟨#[_, _, _, _, _, _, _, _, _, _, _, _, _, _, _, _, _, _, _, _, _, _, _, _, _, _, _, _, _, _, _, _, _, _, _, _, _, _, _, _, _, _, _, _, _, _, _, _, _, _, _, _, _, _, _, _, _, _, _, _, _, _, _, _, _, _, _, _, _, _, _, _, _, _, _, _, _, _, _, _, _, _, _, _, _, _, _, _, _, _, _, _, _, _, _, _, _, _, _, _, _, _, _, _, _, _, _, _, _, _, _, _, _, _, _, _, _, _, _, _, _, _, _, _, _, _, _, _, _, _, _, _, _, _, _, _, _, _, _, _, _, _, _, _, _, _, _, _, _, _, _, _, _, _, _, _, _, _, _, _, _, _, _, _, _, _, _, _, _, _, _, _, _, _, _, _, _, _], []⟩ _
            refine take_pure 6 (v := .agg LD2.toArray) rfl (by kernel_rfl) rfl (fun w' hw => by simp [execOp, go_sem]) hH ?_
            show wpAnyH _ _ _ _ _ _ _ ⟨#[_, _, _, _, _, _, _, _, _, _, _, _, _, _, _, _, _, _, _, _, _, _, _, _, _, _, _, _, _, _, _, _, _, _, _, _, _, _, _, _, _, _, _, _, _, _, _, _, _, _, _, _, _, _, _, _, _, _, _, _, _, _, _, _, _, _, _, _, _, _, _, _, _, _, _, _, _, _, _, _, _, _, _, _, _, _, _, _, _, _, _, _, _, _, _, _, _, _, _, _, _, _, _, _, _, _, _, _, _, _, _, _, _, _, _, _, _, _, _, _, _, _, _, _, _, _, _, _, _, _, _, _, _, _, _, _, _, _, _, _, _, _, _, _, _, _, _, _, _, _, _, _, _, _, _, _, _, _, _, _, _, _, _, _, _, _, _, _, _, _, _, _, _, _, _, _, _, _], []⟩ _
            refine take_pure 7 (v := .int .i64 a) rfl (by kernel_rfl) rfl (fun w' hw => by simp [execOp, go_sem]) hH ?_
            show wpAnyH _ _ _ _ _ _ _ ⟨#[_, _, _, _, _, _, _, _, _, _, _, _, _, _, _, _, _, _, _, _, _, _, _, _, _, _, _, _, _, _, _, _, _, _, _, _, _, _, _, _, _, _, _, _, _, _, _, _, _, _, _, _, _, _, _, _, _, _, _, _, _, _, _, _, _, _, _, _, _, _, _, _, _, _, _, _, _, _, _, _, _, _, _, _, _, _, _, _, _, _, _, _, _, _, _, _, _, _, _, _, _, _, _, _, _, _, _, _, _, _, _, _, _, _, _, _, _, _, _, _, _, _, _, _, _, _, _, _, _, _, _, _, _, _, _, _, _, _, _, _, _, _, _, _, _, _, _, _, _, _, _, _, _, _, _, _, _, _, _, _, _, _, _, _, _, _, _, _, _, _, _, _, _, _, _, _, _, _], []⟩ _
            refine take_one 9 rfl rfl (by kernel_rfl) ?_
            obtain ⟨hq, ht⟩ := HJ.out.put (L := LD2) HN9.out.2 (by
              intro z hz9
              have h1 := HA.out
              have h2 := HN9.out
              simp only [List.mem_cons] at hz9
              rcases hz9 with rfl | rfl | rfl | hz9
              · show A2 ≠ N9; omega
              · show A1 ≠ N9; omega
              · show A ≠ N9; omega
              · have := HL.out z hz9; omega) (by rw [HJ.out.ll, lX])
            have j9 : (Try.prog.info? 34).map (·.size) = some LD2.toArray.size := by rw [List.size_toArray, HJ.out.ll]; exact infoD12
            have o9 := HJ.out.one
            refine wp_store_mid 34 _ _ rfl N9 0 LD2.toArray rfl rfl ht j9 o9 ?_
            replace HJ : Hid (Pq w0 es ((N9, LD2) :: (A2, X0) :: (A1, O) :: (A, LD) :: ls) lo B M r s b o d m (n + 2 * t + 1 + 1) LD2 (X5.setCells N9 0 LD2)) := hq
            refine ⟨⟨HJ.out.cl (A, LD) (by simp), HJ.out.cl (A1, O) (by simp)⟩, fun hH => ?_⟩
            clear hq ht j9 o9
            show wpAnyH _ _ _ _ _ _ _ ⟨#[_, _, _, _, _, _, _, _, _, _, _, _, _, _, _, _, _, _, _, _, _, _, _, _, _, _, _, _, _, _, _, _, _, _, _, _, _, _, _, _, _, _, _, _, _, _, _, _, _, _, _, _, _, _, _, _, _, _, _, _, _, _, _, _, _, _, _, _, _, _, _, _, _, _, _, _, _, _, _, _, _, _, _, _, _, _, _, _, _, _, _, _, _, _, _, _, _, _, _, _, _, _, _, _, _, _, _, _, _, _, _, _, _, _, _, _, _, _, _, _, _, _, _, _, _, _, _, _, _, _, _, _, _, _, _, _, _, _, _, _, _, _, _, _, _, _, _, _, _, _, _, _, _, _, _, _, _, _, _, _, _, _, _, _, _, _, _, _, _, _, _, _, _, _, _, _, _, _], []⟩ _
            refine take_pure 10 (v := .int .i64 a) rfl (by kernel_rfl) rfl (fun w' hw => by simp [execOp, go_sem]) hH ?_
            show wpAnyH _ _ _ _ _ _ _ ⟨#[_, _, _, _, _, _, _, _, _, _, _, _, _, _, _, _, _, _, _, _, _, _, _, _, _, _, _, _, _, _, _, _, _, _, _, _, _, _, _, _, _, _, _, _, _, _, _, _, _, _, _, _, _, _, _, _, _, _, _, _, _, _, _, _, _, _, _, _, _, _, _, _, _, _, _, _, _, _, _, _, _, _, _, _, _, _, _, _, _, _, _, _, _, _, _, _, _, _, _, _, _, _, _, _, _, _, _, _, _, _, _, _, _, _, _, _, _, _, _, _, _, _, _, _, _, _, _, _, _, _, _, _, _, _, _, _, _, _, _, _, _, _, _, _, _, _, _, _, _, _, _, _, _, _, _, _, _, _, _, _, _, _, _, _, _, _, _, _, _, _, _, _, _, _, _, _, _, _], []⟩ _
            exact wpAnyH_done (by kernel_rfl) ⟨N9, LD2, rfl, HJ.out, HN9.out⟩ _
        · refine wp_alloc_agg 34 rfl _ hz ?_
          obtain ⟨N9, hNe⟩ : ∃ N, (W3.drew).heap.size = N := ⟨_, rfl⟩
          obtain ⟨X6, hX6⟩ : ∃ V, (W3.drew).alloc (.cells X0.toArray 34) = V := ⟨_, rfl⟩
          have hj := HJ.out.lay X0 34
          have HN9 : Hid (A2 < N9 ∧ lo ≤ N9) := by rw [← hNe]; exact ⟨(HJ.out.cl (A2, X0) (by simp)).lt, HJ.out.lo_le.1⟩
          rw [hNe, hX6] at hj
          replace HJ : Hid (Pj w0 es ((N9, X0) :: (A2, X0) :: (A1, O) :: (A, LD) :: ls) lo B M r s b o d m (n + 2 * t + 1) a (.agg #[.int .i64 k, .int .i64 p, .int .i64 q, .int .i64 u, .int .i64 v, .int .i64 c, .int .i64 x, .int .i64 y]) LD X6) := hj
          rw [hNe, hX6]
          refine ⟨⟨HJ.out.cl (A, LD) (by simp), HJ.out.cl (A1, O) (by simp)⟩, fun hH => ?_⟩
          clear hj hNe hX6
          show wpAnyH _ _ _ _ _ _ _ ⟨#[_, _, _, _, _, _, _, _, _, _, _, _, _, _, _, _, _, _, _, _, _, _, _, _, _, _, _, _, _, _, _, _, _, _, _, _, _, _, _, _, _, _, _, _, _, _, _, _, _, _, _, _, _, _, _, _, _, _, _, _, _, _, _, _, _, _, _, _, _, _, _, _, _, _, _, _, _, _, _, _, _, _, _, _, _, _, _, _, _, _, _, _, _, _, _, _, _, _, _, _, _, _, _, _, _, _, _, _, _, _, _, _, _, _, _, _, _, _, _, _, _, _, _, _, _, _, _, _, _, _, _, _, _, _, _, _, _, _, _, _, _, _, _, _, _, _, _, _, _, _, _, _, _, _, _, _, _, _, _, _, _, _, _, _, _, _, _, _, _, _, _, _, _, _, _, _, _, _], []⟩ _
          refine take_one 3 rfl rfl (by kernel_rfl) ?_
          refine wp_contract 16 [.tmp 166] _ rfl (enters_of Try.func16 (by kernel_rfl) rfl) [.agg #[.int .i64 k, .int .i64 p, .int .i64 q, .int .i64 u, .int .i64 v, .int .i64 c, .int .i64 x, .int .i64 y]] rfl (of12_any k p q u v c x y _) ?_
          rintro e X7 ⟨rfl, b5⟩
          replace HJ : Hid (Pj w0 es ((N9, X0) :: (A2, X0) :: (A1, O) :: (A, LD) :: ls) lo B M r s b o d m (n + 2 * t + 1) a (.agg #[.int .i64 k, .int .i64 p, .int .i64 q, .int .i64 u, .int .i64 v, .int .i64 c, .int .i64 x, .int .i64 y]) LD X7) := HJ.out.next b5
          refine ⟨_, rfl, ⟨HJ.out.cl (A, LD) (by simp), HJ.out.cl (A1, O) (by simp)⟩, fun hH => ?_⟩
          clear b5
          show wpAnyH _ _ _ _ _ _ _ ⟨#[_, _, _, _, _, _, _, _, _, _, _, _, _, _, _, _, _, _, _, _, _, _, _, _, _, _, _, _, _, _, _, _, _, _, _, _, _, _, _, _, _, _, _, _, _, _, _, _, _, _, _, _, _, _, _, _, _, _, _, _, _, _, _, _, _, _, _, _, _, _, _, _, _, _, _, _, _, _, _, _, _, _, _, _, _, _, _, _, _, _, _, _, _, _, _, _, _, _, _, _, _, _, _, _, _, _, _, _, _, _, _, _, _, _, _, _, _, _, _, _, _, _, _, _, _, _, _, _, _, _, _, _, _, _, _, _, _, _, _, _, _, _, _, _, _, _, _, _, _, _, _, _, _, _, _, _, _, _, _, _, _, _, _, _, _, _, _, _, _, _, _, _, _, _, _, _, _, _], []⟩ _
          refine take_one 4 rfl rfl (by kernel_rfl) ?_
          refine wp_contract 37 [.tmp 164, .tmp 167] _ rfl (enters_of Try.func37 (by kernel_rfl) rfl) [.agg LD.toArray, .agg #[.int .i64 k, .int .i64 p, .int .i64 q, .int .i64 u, .int .i64 v, .int .i64 c, .int .i64 x, .int .i64 y]] rfl HJ.out.call ?_
          rintro e X8 ⟨LD2, rfl, hq⟩
          replace HJ : Hid (Pq w0 es ((N9, X0) :: (A2, X0) :: (A1, O) :: (A, LD) :: ls) lo B M r s b o d m (n + 2 * t + 1 + 1) LD2 X8) := hq
          refine ⟨_, rfl, ⟨HJ.out.cl (A, LD) (by simp), HJ.out.cl (A1, O) (by simp)⟩, fun hH => ?_⟩
          clear hq
          show wpAnyH _ _ _ _ _ _ _ ⟨#[_, _, _, _, _, _, _, _, _, _, _, _, _, _, _, _, _, _, _, _, _, _, _, _, _, _, _, _, _, _, _, _, _, _, _, _, _, _, _, _, _, _, _, _, _, _, _, _, _, _, _, _, _, _, _, _, _, _, _, _, _, _, _, _, _, _, _, _, _, _, _, _, _, _, _, _, _, _, _, _, _, _, _, _, _, _, _, _, _, _, _, _, _, _, _, _, _, _, _, _, _, _, _, _, _, _, _, _, _, _, _, _, _, _, _, _, _, _, _, _, _, _, _, _, _, _, _, _, _, _, _, _, _, _, _, _, _, _, _, _, _, _, _, _, _, _, _, _, _, _, _, _, _, _, _, _, _, _, _, _, _, _, _, _, _, _, _, _, _, _, _, _, _, _, _, _, _, _], []⟩ _
          refine take_pure 5 (v := .tuple #[.agg LD2.toArray, .int .i64 a]) rfl (by kernel_rfl) rfl (fun w' hw => by simp [execOp, go_sem]) hH ?_
          show wpAnyH _ _ _ _ _ _ _ ⟨#[_, _, _, _, _, _, _, _, _, _, _, _, _, _, _, _, _, _, _, _, _, _, _, _, _, _, _, _, _, _, _, _, _, _, _, _, _, _, _, _, _, _, _, _, _, _, _, _, _, _, _, _, _, _, _, _, _, _, _, _, _, _, _, _, _, _, _, _, _, _, _, _, _, _, _, _, _, _, _, _, _, _, _, _, _, _, _, _, _, _, _, _, _, _, _, _, _, _, _, _, _, _, _, _, _, _, _, _, _, _, _, _, _, _, _, _, _, _, _, _, _, _, _, _, _, _, _, _, _, _, _, _, _, _, _, _, _, _, _, _, _, _, _, _, _, _, _, _, _, _, _, _, _, _, _, _, _, _, _, _, _, _, _, _, _, _, _, _, _, _, _, _, _, _, _, _, _, _], []⟩ _
          refine take_pure 6 (v := .agg LD2.toArray) rfl (by kernel_rfl) rfl (fun w' hw => by simp [execOp, go_sem]) hH ?_
          show wpAnyH _ _ _ _ _ _ _ ⟨#[_, _, _, _, _, _, _, _, _, _, _, _, _, _, _, _, _, _, _, _, _, _, _, _, _, _, _, _, _, _, _, _, _, _, _, _, _, _, _, _, _, _, _, _, _, _, _, _, _, _, _, _, _, _, _, _, _, _, _, _, _, _, _, _, _, _, _, _, _, _, _, _, _, _, _, _, _, _, _, _, _, _, _, _, _, _, _, _, _, _, _, _, _, _, _, _, _, _, _, _, _, _, _, _, _, _, _, _, _, _, _, _, _, _, _, _, _, _, _, _, _, _, _, _, _, _, _, _, _, _, _, _, _, _, _, _, _, _, _, _, _, _, _, _, _, _, _, _, _, _, _, _, _, _, _, _, _, _, _, _, _, _, _, _, _, _, _, _, _, _, _, _, _, _, _, _, _, _], []⟩ _
          refine take_pure 7 (v := .int .i64 a) rfl (by kernel_rfl) rfl (fun w' hw => by simp [execOp, go_sem]) hH ?_
          show wpAnyH _ _ _ _ _ _ _ ⟨#[_, _, _, _, _, _, _, _, _, _, _, _, _, _, _, _, _, _, _, _, _, _, _, _, _, _, _, _, _, _, _, _, _, _, _, _, _, _, _, _, _, _, _, _, _, _, _, _, _, _, _, _, _, _, _, _, _, _, _, _, _, _, _, _, _, _, _, _, _, _, _, _, _, _, _, _, _, _, _, _, _, _, _, _, _, _, _, _, _, _, _, _, _, _, _, _, _, _, _, _, _, _, _, _, _, _, _, _, _, _, _, _, _, _, _, _, _, _, _, _, _, _, _, _, _, _, _, _, _, _, _, _, _, _, _, _, _, _, _, _, _, _, _, _, _, _, _, _, _, _, _, _, _, _, _, _, _, _, _, _, _, _, _, _, _, _, _, _, _, _, _, _, _, _, _, _, _, _], []⟩ _
          refine take_one 9 rfl rfl (by kernel_rfl) ?_
          obtain ⟨hq, ht⟩ := HJ.out.put (L := LD2) HN9.out.2 (by
            intro z hz9
            have h1 := HA.out
            have h2 := HN9.out
            simp only [List.mem_cons] at hz9
            rcases hz9 with rfl | rfl | rfl | hz9
            · show A2 ≠ N9; omega
            · show A1 ≠ N9; omega
            · show A ≠ N9; omega
            · have := HL.out z hz9; omega) (by rw [HJ.out.ll, lX])
          have j9 : (Try.prog.info? 34).map (·.size) = some LD2.toArray.size := by rw [List.size_toArray, HJ.out.ll]; exact infoD12
          have o9 := HJ.out.one
          refine wp_store_mid 34 _ _ rfl N9 0 LD2.toArray rfl rfl ht j9 o9 ?_
          replace HJ : Hid (Pq w0 es ((N9, LD2) :: (A2, X0) :: (A1, O) :: (A, LD) :: ls) lo B M r s b o d m (n + 2 * t + 1 + 1) LD2 (X8.setCells N9 0 LD2)) := hq
          refine ⟨⟨HJ.out.cl (A, LD) (by simp), HJ.out.cl (A1, O) (by simp)⟩, fun hH => ?_⟩
          clear hq ht j9 o9
          show wpAnyH _ _ _ _ _ _ _ ⟨#[_, _, _, _, _, _, _, _, _, _, _, _, _, _, _, _, _, _, _, _, _, _, _, _, _, _, _, _, _, _, _, _, _, _, _, _, _, _, _, _, _, _, _, _, _, _, _, _, _, _, _, _, _, _, _, _, _, _, _, _, _, _, _, _, _, _, _, _, _, _, _, _, _, _, _, _, _, _, _, _, _, _, _, _, _, _, _, _, _, _, _, _, _, _, _, _, _, _, _, _, _, _, _, _, _, _, _, _, _, _, _, _, _, _, _, _, _, _, _, _, _, _, _, _, _, _, _, _, _, _, _, _, _, _, _, _, _, _, _, _, _, _, _, _, _, _, _, _, _, _, _, _, _, _, _, _, _, _, _, _, _, _, _, _, _, _, _, _, _, _, _, _, _, _, _, _, _, _], []⟩ _
          refine take_pure 10 (v := .int .i64 a) rfl (by kernel_rfl) rfl (fun w' hw => by simp [execOp, go_sem]) hH ?_
          show wpAnyH _ _ _ _ _ _ _ ⟨#[_, _, _, _, _, _, _, _, _, _, _, _, _, _, _, _, _, _, _, _, _, _, _, _, _, _, _, _, _, _, _, _, _, _, _, _, _, _, _, _, _, _, _, _, _, _, _, _, _, _, _, _, _, _, _, _, _, _, _, _, _, _, _, _, _, _, _, _, _, _, _, _, _, _, _, _, _, _, _, _, _, _, _, _, _, _, _, _, _, _, _, _, _, _, _, _, _, _, _, _, _, _, _, _, _, _, _, _, _, _, _, _, _, _, _, _, _, _, _, _, _, _, _, _, _, _, _, _, _, _, _, _, _, _, _, _, _, _, _, _, _, _, _, _, _, _, _, _, _, _, _, _, _, _, _, _, _, _, _, _, _, _, _, _, _, _, _, _, _, _, _, _, _, _, _, _, _, _], []⟩ _
          exact wpAnyH_done (by kernel_rfl) ⟨N9, LD2, rfl, HJ.out, HN9.out⟩ _
      case aft =>
        obtain ⟨N9, LD2, rfl, hq, hN9⟩ := hr
        clear HJ
        have hx9 : V3.rangeAt N9 0 LD2 := (hq.cl (N9, LD2) (by simp)).range
        have i9 : (Try.prog.info? 34).map (·.size) = some LD2.length := by rw [hq.ll]; exact infoD12
        have j9 : (Try.prog.info? 34).map (·.size) = some LD2.toArray.size := by rw [List.size_toArray, hq.ll]; exact infoD12
        have o9 := hq.one
        have lD : LD.length = 9 := by
          have h9 := iLD
          rw [infoD12] at h9
          simpa using h9.symm
        obtain ⟨h9, ht9⟩ := (hq.sub (ls' := ((A2, X0) :: (A1, O) :: (A, LD) :: ls)) fun z hz9 => List.mem_cons_of_mem _ hz9).putA HA.out.1 HA.out.2 HL.out HLO.out (L := LD2) (by rw [hq.ll, lD])
        have HR2 : Hid (∃ LD, Pq w0 es ((A2, X0) :: (A1, O) :: (A, LD) :: ls) lo B M r s b o d m (n + 2 * (t + 1)) LD (V3.setCells A 0 LD2)) := ⟨LD2, h9⟩
        clear hq h9 hN9
        have h300 := HC0.out
        go_wp2_with (first
          | refine wpList_load_mid rfl 34 _ rfl N9 0 rfl LD2 _ hx9 Try.underlying34 rfl i9 ?_
          | refine wpList_store_mid rfl 34 _ _ rfl A 0 LD2.toArray rfl rfl ht9 j9 o9 ?_)
        go_roundw
        case rel => exact ⟨t + 1, by omega, by go_num, HR2⟩
        case measure => simp [intOf]; omega
    · obtain rfl : t = q0 := by omega
      have j9 : (Try.prog.info? 34).map (·.size) = some LD.toArray.size := by rw [List.size_toArray, HQ.out.ll]; exact infoD12
      have one9 := HQ.out.one
      obtain ⟨h9, ht9⟩ := HQ.out.put3 HA.out.1 HA.out.2 HL.out HLO.out (L := LD) (by rw [HQ.out.ll, lX])
      have HQ9 : Hid (Pq w0 es ((A2, LD) :: (A1, O) :: (A, LD) :: ls) lo B M r s b o d m (n + 2 * t) LD (wr.setCells A2 0 LD)) := h9
      have cX : wr.rangeAt A 0 LD := (HQ.out.cl (A, LD) (by simp)).range
      clear h9 HQ
      go_wp2_with (first
        | refine wpList_load_mid rfl 34 _ rfl A 0 rfl LD _ cX Try.underlying34 rfl iLD ?_
        | refine wpList_store_mid rfl 34 _ _ rfl A2 0 LD.toArray rfl rfl ht9 j9 one9 ?_)
      have h300 := HC0.out
      have hld := run_loadVar_mid (P := Try.prog) _ A2 0 34 LD _ (HQ9.out.cl (A2, LD) (by simp)).range Try.underlying34 rfl iLD
      refine bodyPost_ret (v := .tuple #[.agg LD.toArray, .bool true]) ?_ rfl ⟨LD, rfl, (HQ9.out.sub fun z hz9 => by simp [hz9]).mono (by omega)⟩
      simp [results, Try.f11, asAddr, hld]
end
end Go.Proofs.Ytcpjmfemgdgplaa
