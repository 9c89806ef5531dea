/-
  A play: a step that writes.
-/
import Derived.Test.YtcpjmfemgdgplaaDrP4m
import Derived.Test.YtcpjmfemgdgplaaDrP0m
namespace Go.Proofs.Ytcpjmfemgdgplaa
open Go.RowKit Go.Shelf
open Ge (pw rt hd ix)
attribute [local go_sem] Oper.semAt_some

section
variable {W W' w0 : World} {es ls : List (Nat × List Value)} {lo B M : Nat} {r s b o d m : Int} {n : Nat} {LD : List Value} {k8 j8 : Int}
set_option maxRecDepth 100000 in
set_option maxHeartbeats 8000000 in
theorem dStep2n (h : Pq w0 es ls lo B M r s b o d m n LD W) (hm : Md m k8 j8) (hg : Ng r b o d) {O LR : List Value} {z1 z2 k p q u v c x y : Int} (ho : Oc O 2 z1 z2 k p q u v c x y LR) (hf : ∀ j, j < 8 → (Lit.int .i64 (ffn k p q u v c x y j)).wf = true) (hn : n < 800000) (hz1 : I64 z1) {F : Nat → Int} (hF : Byts 72 F) (hR : ints .u8 72 F = LR) (hx9 : hx r s b o d z1 = false) :
    Calls Try.prog 11 #[.pointer (some ⟨B, 0, none⟩), .agg LD.toArray, .agg O.toArray] W fun e w' => ∃ LD', e = .returned (.tuple #[.agg LD'.toArray, .bool true]) ∧ Pq w0 es ls lo B M r s b o d m (n + 700) LD' w' := by
  have HM : Hid (Md m k8 j8) := hm
  have HG : Hid (Ng r b o d) := hg
  have HO : Hid (Oc O 2 z1 z2 k p q u v c x y LR) := ho
  have HF : Hid (∀ j, j < 8 → (Lit.int .i64 (ffn k p q u v c x y j)).wf = true) := hf
  have HNN : Hid (n < 800000) := hn
  have HZ1 : Hid (I64 z1) := hz1
  have HR : Hid (rawV F = .agg LR.toArray ∧ Byts 72 F ∧ LR.length = 72) := ⟨by rw [← hR]; rfl, hF, by rw [← hR]; exact ints_len _ _ _⟩
  have iLR : (Try.prog.info? 40).map (·.size) = some LR.length := by rw [HR.out.2.2]; exact infoR
  clear hz1 hF hR
  have HX : Hid (hx r s b o d z1 = false) := hx9
  clear hx9
  have hz := zeroD12
  obtain ⟨X0, hX0⟩ : ∃ X, dl 0 0 0 0 0 0 (.slice none 0 0) (.slice none 0 0) (.slice none 0 0) = X := ⟨_, rfl⟩
  have lX : X0.length = 9 := by rw [← hX0]; rfl
  rw [hX0] at hz
  have HL0 : Hid (∀ x ∈ ls, x.1 < W.heap.size) := fun x hx => (h.cl x hx).lt
  have HW : Hid (Pq w0 es ls lo B M r s b o d m n LD W) := h
  clear hm hg ho hf hn hX0 h
  go_enter Try.func11, Try.ntmps11
  obtain ⟨ud, hu⟩ : ∃ u : Value, undef = u := ⟨_, rfl⟩
  rw [hu]
  clear hu
  go_upto_region 1 with (fail)
  obtain ⟨A, hA⟩ : ∃ A, W.heap.size = A := ⟨_, rfl⟩
  obtain ⟨A1, hA1⟩ : ∃ A1, A + 1 = A1 := ⟨_, rfl⟩
  obtain ⟨A2, hA2⟩ : ∃ A2, A1 + 1 = A2 := ⟨_, rfl⟩
  obtain ⟨V, hV⟩ : ∃ V, ((W.alloc (.cells LD.toArray 34)).alloc (.cells O.toArray 42)).alloc (.cells X0.toArray 34) = V := ⟨_, rfl⟩
  have HQ : Hid (Pq w0 es ((A2, X0) :: (A1, O) :: (A, LD) :: ls) lo B M r s b o d m n LD V) := by
    have h := ((HW.out.lay LD 34).lay O 42).lay X0 34
    simp only [World.size_alloc] at h
    rw [hV, hA, hA1, hA2] at h
    exact h
  have HLO : Hid (lo ≤ A) := by rw [← hA]; exact HW.out.lo_le.1
  have HL : Hid (∀ x ∈ ls, x.1 < A) := by rw [← hA]; exact HL0.out
  have HA : Hid (A + 1 = A1 ∧ A1 + 1 = A2) := ⟨hA1, hA2⟩
  rw [hV, hA, hA1, hA2]
  clear hV HW HL0 hA hA1 hA2
  obtain ⟨l1, Y, l2, Z, E, hP⟩ := HQ.out
  have HP : Hid (Pm w0 es ((A2, X0) :: (A1, O) :: (A, LD) :: ls) lo B M r s b o d m n (gE E) l1 Y l2 Z E l1 Y l2 Z LD V) := hP
  clear hP HQ
  have iLD : (Try.prog.info? 34).map (·.size) = some LD.length := by rw [HP.out.ll]; exact infoD12
  have cO := HP.out.cl (A1, O) (by simp)
  have c0 : V.cell? ⟨A1, 0, none⟩ = some (.int .i64 2) := cO.cell HO.out.c0
  have c1 : V.cell? ⟨A1, 1, none⟩ = some (.int .i64 z1) := cO.cell HO.out.c1
  have cR : V.rangeAt A1 11 LR := cO.rangeAt 11 LR HO.out.ra
  clear cO
  go_wp2_with (first | refine wpList_load_mid rfl 40 _ rfl A1 11 rfl LR _ cR Try.underlying40 rfl iLR ?_)
  rw [← HR.out.1]
  refine (pmWrite_no HP.out z1 F HX.out).mono ?_
  rintro e W3 ⟨rfl, hp⟩
  rw [HR.out.1]
  replace HP : Hid (Pm w0 es ((A2, X0) :: (A1, O) :: (A, LD) :: ls) lo B M r s b o d m n (gE E) l1 Y l2 Z E l1 Y l2 Z LD W3) := hp
  clear hp c0 c1 cR
  go_upto_region 8 with (fail)
  obtain ⟨N1, hN1⟩ : ∃ N, W3.heap.size = N := ⟨_, rfl⟩
  obtain ⟨W4, hW4⟩ : ∃ V, W3.alloc (.cells #[.int .i64 0, .bool false] 59) = V := ⟨_, rfl⟩
  have hp := HP.out.lay [.int .i64 0, .bool false] 59
  have HN : Hid (A2 < N1) := by rw [← hN1]; exact (HP.out.cl (A2, X0) (by simp)).lt
  rw [hN1, hW4] at hp
  replace HP : Hid (Pm w0 es ((N1, [.int .i64 0, .bool false]) :: (A2, X0) :: (A1, O) :: (A, LD) :: ls) lo B M r s b o d m n (gE E) l1 Y l2 Z E l1 Y l2 Z LD W4) := hp
  rw [hN1, hW4]
  clear hp hN1 hW4
  have cX : W4.rangeAt A 0 LD := (HP.out.cl (A, LD) (by simp)).range
  have cO := HP.out.cl (A1, O) (by simp)
  have c1 : W4.cell? ⟨A1, 1, none⟩ = some (.int .i64 z1) := cO.cell HO.out.c1
  clear cO
  go_wp2_with (first | refine wpList_load_mid rfl 34 _ rfl A 0 rfl LD _ cX Try.underlying34 rfl iLD ?_)
  refine (pmHas HP.out HG.out z1 HZ1.out).mono ?_
  rintro e W5 ⟨rfl, hp⟩
  rw [HX.out]
  replace HP : Hid (Pm w0 es ((N1, [.int .i64 0, .bool false]) :: (A2, X0) :: (A1, O) :: (A, LD) :: ls) lo B M r s b o d m n (gE E) l1 Y l2 Z E l1 Y l2 Z LD W5) := hp
  clear hp cX c1
  go_upto_region 9 with (fail)
  replace HP : Hid (Pm w0 es ((N1, [.int .i64 0, .bool false]) :: (A2, X0) :: (A1, O) :: (A, LD) :: ls) lo B M r s b o d m n (gE E) l1 Y l2 Z E l1 Y l2 Z LD W5.drew) := HP.out.next (below_drew1 _)
  obtain ⟨h9, ht⟩ := (HP.out.sub (ls' := ((A2, X0) :: (A1, O) :: (A, LD) :: ls)) fun z hz9 => (List.mem_cons_of_mem _ hz9)).put3 HA.out.1 HA.out.2 HL.out HLO.out (L := LD) (by rw [HP.out.ll, lX])
  have HQ9 : Hid (Pq w0 es ((A2, LD) :: (A1, O) :: (A, LD) :: ls) lo B M r s b o d m n LD (W5.drew.setCells A2 0 LD)) := ⟨_, _, _, _, _, h9⟩
  have j9 : (Try.prog.info? 34).map (·.size) = some LD.toArray.size := by rw [List.size_toArray, HP.out.ll]; exact infoD12
  have i9 : (Try.prog.info? 34).map (·.size) = some LD.length := by rw [HP.out.ll]; exact infoD12
  have o9 := HP.out.one
  have n1 := HA.out
  have n2 := HN.out
  clear h9
  refine region_ends (by kernel_rfl) (fun W' => Cb W' A LD ∧ Cb W' N1 [.int .i64 0, .bool false]) (fun a2 W' => a2 = ({ tmps := #[.pointer (some ⟨B, 0, none⟩), .agg LD.toArray, .agg O.toArray, ud, .pointer (some ⟨A, 0, none⟩), .pointer (some ⟨A1, 0, none⟩), .pointer (some ⟨A2, 0, none⟩), .bool true, ud, ud, ud, .pointer (some ⟨N1, 0, none⟩), .int .i64 12, ud, ud, ud, ud, ud, ud, ud, ud, ud, ud, ud, ud, ud, .pointer (some ⟨A1, 0, none⟩), .int .i64 2, .bool false, .bool false, ud, ud, ud, ud, ud, ud, ud, ud, ud, ud, ud, ud, ud, ud, ud, ud, .bool true, .bool true, .tuple #[.agg #[.int .i64 0, .bool false], .int .i64 12], .pointer (some ⟨B, 0, none⟩), .pointer (some ⟨A1, 1, none⟩), .int .i64 z1, .pointer (some ⟨A1, 11, none⟩), .agg LR.toArray, .tuple #[.agg #[.int .i64 0, .bool false], .int .i64 12], .agg #[.int .i64 0, .bool false], .int .i64 12, .agg LD.toArray, .pointer (some ⟨A1, 1, none⟩), .int .i64 z1, .bool false, .bool true, .agg LD.toArray, .int .i64 12, .bool true, .bool true, .agg #[.int .i64 0, .bool false], .agg #[.int .i64 0, .bool false], .bool true, .bool true, ud, ud, ud, ud, ud, ud, ud, ud, ud, ud, ud, ud, ud, ud, ud, ud, ud, ud, ud, ud, ud, ud, ud, ud, ud, ud, ud, ud, ud, ud, ud, ud, ud, ud, ud, ud, ud, ud, ud, ud, ud, ud, ud, ud, ud, ud, ud, ud, ud, ud, ud, ud, ud, ud, ud, ud, ud, ud, ud, ud, ud, ud, ud, ud, ud, ud, ud, ud, ud, ud, ud, ud, ud, ud, ud, ud, ud, ud, ud, ud, ud, ud, ud, ud, ud, ud, ud, ud, ud, ud, ud, ud, ud, ud, ud, ud, ud, ud, ud, ud, ud, ud, ud, ud, ud, ud, ud, ud], defers := [] } : Act) ∧ Pq w0 es ((A2, LD) :: (A1, O) :: (A, LD) :: ls) lo B M r s b o d m n LD W') ⟨HP.out.cl (A, LD) (by simp), HP.out.cl (N1, [.int .i64 0, .bool false]) (by simp)⟩ (fun hH => ?reg) (fun a2 V3 hr => ?aft)
  case reg =>
    refine take_if 0 (v := .agg LD.toArray) rfl (by kernel_rfl) (yieldsIf_load_mid (by rfl) _ _ rfl A 0 rfl LD _ (fun w' hw => hw.1.range) Try.underlying34 rfl iLD) hH ?_
    show wpAnyH _ _ _ _ _ _ _ ⟨#[_, _, _, _, _, _, _, _, _, _, _, _, _, _, _, _, _, _, _, _, _, _, _, _, _, _, _, _, _, _, _, _, _, _, _, _, _, _, _, _, _, _, _, _, _, _, _, _, _, _, _, _, _, _, _, _, _, _, _, _, _, _, _, _, _, _, _, _, _, _, _, _, _, _, _, _, _, _, _, _, _, _, _, _, _, _, _, _, _, _, _, _, _, _, _, _, _, _, _, _, _, _, _, _, _, _, _, _, _, _, _, _, _, _, _, _, _, _, _, _, _, _, _, _, _, _, _, _, _, _, _, _, _, _, _, _, _, _, _, _, _, _, _, _, _, _, _, _, _, _, _, _, _, _, _, _, _, _, _, _, _, _, _, _, _, _, _, _, _, _, _, _, _, _, _, _, _, _], []⟩ _
    refine take_pure 1 (v := .int .i64 12) rfl (by kernel_rfl) rfl (fun w' hw => by simp [execOp, go_sem]) hH ?_
    show wpAnyH _ _ _ _ _ _ _ ⟨#[_, _, _, _, _, _, _, _, _, _, _, _, _, _, _, _, _, _, _, _, _, _, _, _, _, _, _, _, _, _, _, _, _, _, _, _, _, _, _, _, _, _, _, _, _, _, _, _, _, _, _, _, _, _, _, _, _, _, _, _, _, _, _, _, _, _, _, _, _, _, _, _, _, _, _, _, _, _, _, _, _, _, _, _, _, _, _, _, _, _, _, _, _, _, _, _, _, _, _, _, _, _, _, _, _, _, _, _, _, _, _, _, _, _, _, _, _, _, _, _, _, _, _, _, _, _, _, _, _, _, _, _, _, _, _, _, _, _, _, _, _, _, _, _, _, _, _, _, _, _, _, _, _, _, _, _, _, _, _, _, _, _, _, _, _, _, _, _, _, _, _, _, _, _, _, _, _, _], []⟩ _
    refine take_pure 2 (v := .bool true) rfl (by kernel_rfl) rfl (fun w' hw => by simp [execOp, go_sem]) hH ?_
    show wpAnyH _ _ _ _ _ _ _ ⟨#[_, _, _, _, _, _, _, _, _, _, _, _, _, _, _, _, _, _, _, _, _, _, _, _, _, _, _, _, _, _, _, _, _, _, _, _, _, _, _, _, _, _, _, _, _, _, _, _, _, _, _, _, _, _, _, _, _, _, _, _, _, _, _, _, _, _, _, _, _, _, _, _, _, _, _, _, _, _, _, _, _, _, _, _, _, _, _, _, _, _, _, _, _, _, _, _, _, _, _, _, _, _, _, _, _, _, _, _, _, _, _, _, _, _, _, _, _, _, _, _, _, _, _, _, _, _, _, _, _, _, _, _, _, _, _, _, _, _, _, _, _, _, _, _, _, _, _, _, _, _, _, _, _, _, _, _, _, _, _, _, _, _, _, _, _, _, _, _, _, _, _, _, _, _, _, _, _, _], []⟩ _
    refine take_pure 3 (v := .bool true) rfl (by kernel_rfl) rfl (fun w' hw => by simp [execOp, go_sem]) hH ?_
    show wpAnyH _ _ _ _ _ _ _ ⟨#[_, _, _, _, _, _, _, _, _, _, _, _, _, _, _, _, _, _, _, _, _, _, _, _, _, _, _, _, _, _, _, _, _, _, _, _, _, _, _, _, _, _, _, _, _, _, _, _, _, _, _, _, _, _, _, _, _, _, _, _, _, _, _, _, _, _, _, _, _, _, _, _, _, _, _, _, _, _, _, _, _, _, _, _, _, _, _, _, _, _, _, _, _, _, _, _, _, _, _, _, _, _, _, _, _, _, _, _, _, _, _, _, _, _, _, _, _, _, _, _, _, _, _, _, _, _, _, _, _, _, _, _, _, _, _, _, _, _, _, _, _, _, _, _, _, _, _, _, _, _, _, _, _, _, _, _, _, _, _, _, _, _, _, _, _, _, _, _, _, _, _, _, _, _, _, _, _, _], []⟩ _
    refine take_if 4 (v := .agg #[.int .i64 0, .bool false]) rfl (by kernel_rfl) (yieldsIf_load_mid (by rfl) _ _ rfl N1 0 rfl [.int .i64 0, .bool false] _ (fun w' hw => hw.2.range) Try.underlying59 rfl infoWe) hH ?_
    show wpAnyH _ _ _ _ _ _ _ ⟨#[_, _, _, _, _, _, _, _, _, _, _, _, _, _, _, _, _, _, _, _, _, _, _, _, _, _, _, _, _, _, _, _, _, _, _, _, _, _, _, _, _, _, _, _, _, _, _, _, _, _, _, _, _, _, _, _, _, _, _, _, _, _, _, _, _, _, _, _, _, _, _, _, _, _, _, _, _, _, _, _, _, _, _, _, _, _, _, _, _, _, _, _, _, _, _, _, _, _, _, _, _, _, _, _, _, _, _, _, _, _, _, _, _, _, _, _, _, _, _, _, _, _, _, _, _, _, _, _, _, _, _, _, _, _, _, _, _, _, _, _, _, _, _, _, _, _, _, _, _, _, _, _, _, _, _, _, _, _, _, _, _, _, _, _, _, _, _, _, _, _, _, _, _, _, _, _, _, _], []⟩ _
    refine take_if 5 (v := .agg #[.int .i64 0, .bool false]) rfl (by kernel_rfl) (.inl ⟨by rfl, fun w' hw => exec_build12 59 rfl _ build0W12 w'⟩) hH ?_
    show wpAnyH _ _ _ _ _ _ _ ⟨#[_, _, _, _, _, _, _, _, _, _, _, _, _, _, _, _, _, _, _, _, _, _, _, _, _, _, _, _, _, _, _, _, _, _, _, _, _, _, _, _, _, _, _, _, _, _, _, _, _, _, _, _, _, _, _, _, _, _, _, _, _, _, _, _, _, _, _, _, _, _, _, _, _, _, _, _, _, _, _, _, _, _, _, _, _, _, _, _, _, _, _, _, _, _, _, _, _, _, _, _, _, _, _, _, _, _, _, _, _, _, _, _, _, _, _, _, _, _, _, _, _, _, _, _, _, _, _, _, _, _, _, _, _, _, _, _, _, _, _, _, _, _, _, _, _, _, _, _, _, _, _, _, _, _, _, _, _, _, _, _, _, _, _, _, _, _, _, _, _, _, _, _, _, _, _, _, _, _], []⟩ _
    refine take_if 6 (v := .bool true) rfl (by kernel_rfl) (.inl ⟨by rfl, fun w' hw => exec_eqlA 59 _ _ _ rfl _ _ _ rfl rfl gdW12 (fun w => by rw [eqW_eql]; simp) w'⟩) hH ?_
    show wpAnyH _ _ _ _ _ _ _ ⟨#[_, _, _, _, _, _, _, _, _, _, _, _, _, _, _, _, _, _, _, _, _, _, _, _, _, _, _, _, _, _, _, _, _, _, _, _, _, _, _, _, _, _, _, _, _, _, _, _, _, _, _, _, _, _, _, _, _, _, _, _, _, _, _, _, _, _, _, _, _, _, _, _, _, _, _, _, _, _, _, _, _, _, _, _, _, _, _, _, _, _, _, _, _, _, _, _, _, _, _, _, _, _, _, _, _, _, _, _, _, _, _, _, _, _, _, _, _, _, _, _, _, _, _, _, _, _, _, _, _, _, _, _, _, _, _, _, _, _, _, _, _, _, _, _, _, _, _, _, _, _, _, _, _, _, _, _, _, _, _, _, _, _, _, _, _, _, _, _, _, _, _, _, _, _, _, _, _, _], []⟩ _
    refine take_pure 7 (v := .bool true) rfl (by kernel_rfl) rfl (fun w' hw => by simp [execOp, go_sem]) hH ?_
    show wpAnyH _ _ _ _ _ _ _ ⟨#[_, _, _, _, _, _, _, _, _, _, _, _, _, _, _, _, _, _, _, _, _, _, _, _, _, _, _, _, _, _, _, _, _, _, _, _, _, _, _, _, _, _, _, _, _, _, _, _, _, _, _, _, _, _, _, _, _, _, _, _, _, _, _, _, _, _, _, _, _, _, _, _, _, _, _, _, _, _, _, _, _, _, _, _, _, _, _, _, _, _, _, _, _, _, _, _, _, _, _, _, _, _, _, _, _, _, _, _, _, _, _, _, _, _, _, _, _, _, _, _, _, _, _, _, _, _, _, _, _, _, _, _, _, _, _, _, _, _, _, _, _, _, _, _, _, _, _, _, _, _, _, _, _, _, _, _, _, _, _, _, _, _, _, _, _, _, _, _, _, _, _, _, _, _, _, _, _, _], []⟩ _
    refine take_one 8 rfl rfl (by kernel_rfl) ?_
    refine wp_store_mid 34 _ _ rfl A2 0 LD.toArray rfl rfl ht j9 o9 ?_
    refine ⟨⟨hH.1.putOther (by omega) 0 _, hH.2.putOther (by omega) 0 _⟩, fun hH => ?_⟩
    show wpAnyH _ _ _ _ _ _ _ ⟨#[_, _, _, _, _, _, _, _, _, _, _, _, _, _, _, _, _, _, _, _, _, _, _, _, _, _, _, _, _, _, _, _, _, _, _, _, _, _, _, _, _, _, _, _, _, _, _, _, _, _, _, _, _, _, _, _, _, _, _, _, _, _, _, _, _, _, _, _, _, _, _, _, _, _, _, _, _, _, _, _, _, _, _, _, _, _, _, _, _, _, _, _, _, _, _, _, _, _, _, _, _, _, _, _, _, _, _, _, _, _, _, _, _, _, _, _, _, _, _, _, _, _, _, _, _, _, _, _, _, _, _, _, _, _, _, _, _, _, _, _, _, _, _, _, _, _, _, _, _, _, _, _, _, _, _, _, _, _, _, _, _, _, _, _, _, _, _, _, _, _, _, _, _, _, _, _, _, _], []⟩ _
    refine take_pure 9 (v := .bool true) rfl (by kernel_rfl) rfl (fun w' hw => by simp [execOp, go_sem]) hH ?_
    show wpAnyH _ _ _ _ _ _ _ ⟨#[_, _, _, _, _, _, _, _, _, _, _, _, _, _, _, _, _, _, _, _, _, _, _, _, _, _, _, _, _, _, _, _, _, _, _, _, _, _, _, _, _, _, _, _, _, _, _, _, _, _, _, _, _, _, _, _, _, _, _, _, _, _, _, _, _, _, _, _, _, _, _, _, _, _, _, _, _, _, _, _, _, _, _, _, _, _, _, _, _, _, _, _, _, _, _, _, _, _, _, _, _, _, _, _, _, _, _, _, _, _, _, _, _, _, _, _, _, _, _, _, _, _, _, _, _, _, _, _, _, _, _, _, _, _, _, _, _, _, _, _, _, _, _, _, _, _, _, _, _, _, _, _, _, _, _, _, _, _, _, _, _, _, _, _, _, _, _, _, _, _, _, _, _, _, _, _, _, _], []⟩ _
    exact wpAnyH_done (by kernel_rfl) ⟨rfl, HQ9.out⟩ _
  case aft =>
    obtain ⟨rfl, hq9⟩ := hr
    have HQ9 : Hid (Pq w0 es ((A2, LD) :: (A1, O) :: (A, LD) :: ls) lo B M r s b o d m n LD V3) := hq9
    clear hq9 HP
    go_wp2
    have hld := run_loadVar_mid (P := Try.prog) _ A2 0 34 LD _ (HQ9.out.cl (A2, LD) (by simp)).range Try.underlying34 rfl i9
    refine bodyPost_ret (v := .tuple #[.agg LD.toArray, .bool true]) ?_ rfl ⟨LD, rfl, (HQ9.out.sub fun z hz9 => by simp [hz9]).mono (by omega)⟩
    simp [results, Try.f11, asAddr, hld]
set_option maxRecDepth 100000 in
set_option maxHeartbeats 8000000 in
theorem dStep2 (h : Pq w0 es ls lo B M r s b o d m n LD W) (hm : Md m k8 j8) (hg : Ng r b o d) {O LR : List Value} {z1 z2 k p q u v c x y : Int} (ho : Oc O 2 z1 z2 k p q u v c x y LR) (hf : ∀ j, j < 8 → (Lit.int .i64 (ffn k p q u v c x y j)).wf = true) (hn : n < 800000) (hz1 : I64 z1) {F : Nat → Int} (hF : Byts 72 F) (hR : ints .u8 72 F = LR) (hx9 : hx r s b o d z1 = true) :
    Calls Try.prog 11 #[.pointer (some ⟨B, 0, none⟩), .agg LD.toArray, .agg O.toArray] W fun e w' => ∃ LD', e = .returned (.tuple #[.agg LD'.toArray, .bool true]) ∧ Pq w0 es ls lo B M r s b o d m (n + 700) LD' w' := by
  have HM : Hid (Md m k8 j8) := hm
  have HG : Hid (Ng r b o d) := hg
  have HO : Hid (Oc O 2 z1 z2 k p q u v c x y LR) := ho
  have HF : Hid (∀ j, j < 8 → (Lit.int .i64 (ffn k p q u v c x y j)).wf = true) := hf
  have HNN : Hid (n < 800000) := hn
  have HZ1 : Hid (I64 z1) := hz1
  have HR : Hid (rawV F = .agg LR.toArray ∧ Byts 72 F ∧ LR.length = 72) := ⟨by rw [← hR]; rfl, hF, by rw [← hR]; exact ints_len _ _ _⟩
  have iLR : (Try.prog.info? 40).map (·.size) = some LR.length := by rw [HR.out.2.2]; exact infoR
  clear hz1 hF hR
  have HX : Hid (hx r s b o d z1 = true) := hx9
  clear hx9
  have hz := zeroD12
  obtain ⟨X0, hX0⟩ : ∃ X, dl 0 0 0 0 0 0 (.slice none 0 0) (.slice none 0 0) (.slice none 0 0) = X := ⟨_, rfl⟩
  have lX : X0.length = 9 := by rw [← hX0]; rfl
  rw [hX0] at hz
  have HL0 : Hid (∀ x ∈ ls, x.1 < W.heap.size) := fun x hx => (h.cl x hx).lt
  have HW : Hid (Pq w0 es ls lo B M r s b o d m n LD W) := h
  clear hm hg ho hf hn hX0 h
  go_enter Try.func11, Try.ntmps11
  obtain ⟨ud, hu⟩ : ∃ u : Value, undef = u := ⟨_, rfl⟩
  rw [hu]
  clear hu
  go_upto_region 1 with (fail)
  obtain ⟨A, hA⟩ : ∃ A, W.heap.size = A := ⟨_, rfl⟩
  obtain ⟨A1, hA1⟩ : ∃ A1, A + 1 = A1 := ⟨_, rfl⟩
  obtain ⟨A2, hA2⟩ : ∃ A2, A1 + 1 = A2 := ⟨_, rfl⟩
  obtain ⟨V, hV⟩ : ∃ V, ((W.alloc (.cells LD.toArray 34)).alloc (.cells O.toArray 42)).alloc (.cells X0.toArray 34) = V := ⟨_, rfl⟩
  have HQ : Hid (Pq w0 es ((A2, X0) :: (A1, O) :: (A, LD) :: ls) lo B M r s b o d m n LD V) := by
    have h := ((HW.out.lay LD 34).lay O 42).lay X0 34
    simp only [World.size_alloc] at h
    rw [hV, hA, hA1, hA2] at h
    exact h
  have HLO : Hid (lo ≤ A) := by rw [← hA]; exact HW.out.lo_le.1
  have HL : Hid (∀ x ∈ ls, x.1 < A) := by rw [← hA]; exact HL0.out
  have HA : Hid (A + 1 = A1 ∧ A1 + 1 = A2) := ⟨hA1, hA2⟩
  rw [hV, hA, hA1, hA2]
  clear hV HW HL0 hA hA1 hA2
  obtain ⟨l1, Y, l2, Z, E, hP⟩ := HQ.out
  have HP : Hid (Pm w0 es ((A2, X0) :: (A1, O) :: (A, LD) :: ls) lo B M r s b o d m n (gE E) l1 Y l2 Z E l1 Y l2 Z LD V) := hP
  clear hP HQ
  have iLD : (Try.prog.info? 34).map (·.size) = some LD.length := by rw [HP.out.ll]; exact infoD12
  have cO := HP.out.cl (A1, O) (by simp)
  have c0 : V.cell? ⟨A1, 0, none⟩ = some (.int .i64 2) := cO.cell HO.out.c0
  have c1 : V.cell? ⟨A1, 1, none⟩ = some (.int .i64 z1) := cO.cell HO.out.c1
  have cR : V.rangeAt A1 11 LR := cO.rangeAt 11 LR HO.out.ra
  clear cO
  go_wp2_with (first | refine wpList_load_mid rfl 40 _ rfl A1 11 rfl LR _ cR Try.underlying40 rfl iLR ?_)
  rw [← HR.out.1]
  refine (pmWrite HP.out z1 F HR.out.2.1 (by have := HNN.out; omega) HX.out).mono ?_
  rintro e W3 ⟨rfl, hp⟩
  rw [HR.out.1]
  have HOK : Hid (Okc r s b o d l2 Z) := HP.out.okc
  obtain ⟨j, hj⟩ : ∃ j, wI l2 Z z1 = j := ⟨_, rfl⟩
  obtain ⟨t, ht9⟩ : ∃ t, wD l2 Z = t := ⟨_, rfl⟩
  have HJ : Hid (0 ≤ j ∧ I64 j) := by
    have := hx_low (HP.out.wihx HX.out)
    rw [hj] at this
    exact ⟨this.1, ⟨by omega, by omega⟩⟩
  have HWD : Hid (wI l2 Z z1 = j ∧ wD l2 Z = t) := ⟨hj, ht9⟩
  rw [hj, ht9] at hp
  rw [hj, ht9]
  replace HP : Hid (Pm w0 es ((A2, X0) :: (A1, O) :: (A, LD) :: ls) lo B M r s b o d m (n + 1) (if t = true then gE E else gput (gE E) j F) l1 Y (l2 - 1) (tlZ Z) E l1 Y l2 Z LD W3) := hp
  clear hp c0 c1 cR hj ht9
  go_upto_region 8 with (fail)
  obtain ⟨N1, hN1⟩ : ∃ N, W3.heap.size = N := ⟨_, rfl⟩
  obtain ⟨W4, hW4⟩ : ∃ V, W3.alloc (.cells #[.int .i64 j, .bool t] 59) = V := ⟨_, rfl⟩
  have hp := HP.out.lay [.int .i64 j, .bool t] 59
  have HN : Hid (A2 < N1) := by rw [← hN1]; exact (HP.out.cl (A2, X0) (by simp)).lt
  rw [hN1, hW4] at hp
  replace HP : Hid (Pm w0 es ((N1, [.int .i64 j, .bool t]) :: (A2, X0) :: (A1, O) :: (A, LD) :: ls) lo B M r s b o d m (n + 1) (if t = true then gE E else gput (gE E) j F) l1 Y (l2 - 1) (tlZ Z) E l1 Y l2 Z LD W4) := hp
  rw [hN1, hW4]
  clear hp hN1 hW4
  have cX : W4.rangeAt A 0 LD := (HP.out.cl (A, LD) (by simp)).range
  have cO := HP.out.cl (A1, O) (by simp)
  have c1 : W4.cell? ⟨A1, 1, none⟩ = some (.int .i64 z1) := cO.cell HO.out.c1
  clear cO
  go_wp2_with (first | refine wpList_load_mid rfl 34 _ rfl A 0 rfl LD _ cX Try.underlying34 rfl iLD ?_)
  refine (pmHas HP.out HG.out z1 HZ1.out).mono ?_
  rintro e W5 ⟨rfl, hp⟩
  rw [HX.out]
  replace HP : Hid (Pm w0 es ((N1, [.int .i64 j, .bool t]) :: (A2, X0) :: (A1, O) :: (A, LD) :: ls) lo B M r s b o d m (n + 1) (if t = true then gE E else gput (gE E) j F) l1 Y (l2 - 1) (tlZ Z) E l1 Y l2 Z LD W5) := hp
  clear hp cX c1
  have cX : W5.rangeAt A 0 LD := (HP.out.cl (A, LD) (by simp)).range
  have cO := HP.out.cl (A1, O) (by simp)
  have c1 : W5.cell? ⟨A1, 1, none⟩ = some (.int .i64 z1) := cO.cell HO.out.c1
  clear cO
  go_wp2_with (first | refine wpList_load_mid rfl 34 _ rfl A 0 rfl LD _ cX Try.underlying34 rfl iLD ?_)
  refine (pmWent HP.out HOK.out z1).mono ?_
  rintro e W6 ⟨LD2, rfl, hp⟩
  rw [HWD.out.1, HWD.out.2]
  replace HP : Hid (Pm w0 es ((N1, [.int .i64 j, .bool t]) :: (A2, X0) :: (A1, O) :: (A, LD) :: ls) lo B M r s b o d m (n + 1) (if t = true then gE E else gput (gE E) j F) l1 Y (l2 - 1) (tlZ Z) E l1 Y (l2 - 1) (tlZ Z) LD2 W6) := hp
  clear hp cX c1
  obtain ⟨hp, ht⟩ := HP.out.layA LD2 X0 34 (by rw [HP.out.ll, lX])
  obtain ⟨N3, hN3⟩ : ∃ N, W6.heap.size = N := ⟨_, rfl⟩
  have HN3 : Hid (N1 < N3) := by rw [← hN3]; exact (HP.out.cl (N1, _) (by simp; exact .inl rfl)).lt
  have HLL : Hid (LD2.length = 9) := HP.out.ll
  have j2 : (Try.prog.info? 34).map (·.size) = some LD2.toArray.size := by rw [List.size_toArray, HP.out.ll]; exact infoD12
  have o2 := HP.out.one
  rw [hN3] at hp ht
  go_upto_region 11 with (first | refine wpList_store_mid rfl 34 _ _ rfl N3 0 LD2.toArray rfl rfl ht j2 o2 ?_)
  obtain ⟨W7, hW7⟩ : ∃ W, (W6.alloc (.cells X0.toArray 34)).setCells N3 0 LD2 = W := ⟨_, rfl⟩
  rw [hW7] at hp
  rw [hW7]
  replace HP : Hid (Pm w0 es ((N3, LD2) :: (N1, [.int .i64 j, .bool t]) :: (A2, X0) :: (A1, O) :: (A, LD) :: ls) lo B M r s b o d m (n + 1) (if t = true then gE E else gput (gE E) j F) l1 Y (l2 - 1) (tlZ Z) E l1 Y (l2 - 1) (tlZ Z) LD2 W7) := hp
  clear hp hW7 ht j2 o2 hN3
  cases t with
  | true =>
    replace HP : Hid (Pm w0 es ((N3, LD2) :: (N1, [.int .i64 j, .bool true]) :: (A2, X0) :: (A1, O) :: (A, LD) :: ls) lo B M r s b o d m (n + 1) (gE E) l1 Y (l2 - 1) (tlZ Z) E l1 Y (l2 - 1) (tlZ Z) LD2 W7) := HP.out
    go_upto_region 13 with (fail)
    replace HP : Hid (Pm w0 es ((N3, LD2) :: (N1, [.int .i64 j, .bool true]) :: (A2, X0) :: (A1, O) :: (A, LD) :: ls) lo B M r s b o d m (n + 1) (gE E) l1 Y (l2 - 1) (tlZ Z) E l1 Y (l2 - 1) (tlZ Z) LD2 W7.drew) := HP.out.next (below_drew1 _)
    obtain ⟨h9, ht⟩ := (HP.out.sub (ls' := ((A2, X0) :: (A1, O) :: (A, LD) :: ls)) fun z hz9 => (List.mem_cons_of_mem _ (List.mem_cons_of_mem _ hz9))).put3 HA.out.1 HA.out.2 HL.out HLO.out (L := LD2) (by rw [HP.out.ll, lX])
    have HQ9 : Hid (Pq w0 es ((A2, LD2) :: (A1, O) :: (A, LD) :: ls) lo B M r s b o d m (n + 1) LD2 (W7.drew.setCells A2 0 LD2)) := ⟨_, _, _, _, _, h9⟩
    have j9 : (Try.prog.info? 34).map (·.size) = some LD2.toArray.size := by rw [List.size_toArray, HP.out.ll]; exact infoD12
    have i9 : (Try.prog.info? 34).map (·.size) = some LD2.length := by rw [HP.out.ll]; exact infoD12
    have o9 := HP.out.one
    have n1 := HA.out
    have n2 := HN.out
    clear h9
    refine region_ends (by kernel_rfl) (fun W' => Cb W' N3 LD2 ∧ Cb W' N1 [.int .i64 j, .bool true]) (fun a2 W' => a2 = ({ tmps := #[.pointer (some ⟨B, 0, none⟩), .agg LD.toArray, .agg O.toArray, ud, .pointer (some ⟨A, 0, none⟩), .pointer (some ⟨A1, 0, none⟩), .pointer (some ⟨A2, 0, none⟩), .bool true, ud, ud, ud, .pointer (some ⟨N1, 0, none⟩), .int .i64 0, .pointer (some ⟨N3, 0, none⟩), .int .i64 j, .bool true, ud, ud, ud, ud, ud, ud, ud, ud, ud, ud, .pointer (some ⟨A1, 0, none⟩), .int .i64 2, .bool false, .bool false, ud, ud, ud, ud, ud, ud, ud, ud, ud, ud, ud, ud, ud, ud, ud, ud, .bool true, .bool true, .tuple #[.agg #[.int .i64 j, .bool true], .int .i64 0], .pointer (some ⟨B, 0, none⟩), .pointer (some ⟨A1, 1, none⟩), .int .i64 z1, .pointer (some ⟨A1, 11, none⟩), .agg LR.toArray, .tuple #[.agg #[.int .i64 j, .bool true], .int .i64 0], .agg #[.int .i64 j, .bool true], .int .i64 0, .agg LD.toArray, .pointer (some ⟨A1, 1, none⟩), .int .i64 z1, .bool true, .bool false, ud, ud, ud, ud, ud, ud, ud, ud, .tuple #[.agg LD2.toArray, .int .i64 j, .bool true], .agg LD.toArray, .pointer (some ⟨A1, 1, none⟩), .int .i64 z1, .tuple #[.agg LD2.toArray, .int .i64 j, .bool true], .agg LD2.toArray, .int .i64 j, .bool true, .bool true, .bool false, ud, ud, ud, ud, ud, .agg LD2.toArray, .int .i64 0, .bool true, .bool true, .agg #[.int .i64 j, .bool true], .int .i64 j, .bool true, .agg #[.int .i64 j, .bool true], .bool true, .bool true, ud, ud, ud, ud, ud, ud, ud, ud, ud, ud, ud, ud, ud, ud, ud, ud, ud, ud, ud, ud, ud, ud, ud, ud, ud, ud, ud, ud, ud, ud, ud, ud, ud, ud, ud, ud, ud, ud, ud, ud, ud, ud, ud, ud, ud, ud, ud, ud, ud, ud, ud, ud, ud, ud, ud, ud, ud, ud, ud, ud, ud, ud, ud, ud, ud, ud, ud, ud, ud, ud, ud, ud, ud, ud, ud, ud, ud, ud, ud, ud, ud, ud, ud], defers := [] } : Act) ∧ Pq w0 es ((A2, LD2) :: (A1, O) :: (A, LD) :: ls) lo B M r s b o d m (n + 1) LD2 W') ⟨HP.out.cl (N3, LD2) (by simp), HP.out.cl (N1, [.int .i64 j, .bool true]) (by simp)⟩ (fun hH => ?reg) (fun a2 V3 hr => ?aft)
    case reg =>
      refine take_if 0 (v := .agg LD2.toArray) rfl (by kernel_rfl) (yieldsIf_load_mid (by rfl) _ _ rfl N3 0 rfl LD2 _ (fun w' hw => hw.1.range) Try.underlying34 rfl i9) hH ?_
      show wpAnyH _ _ _ _ _ _ _ ⟨#[_, _, _, _, _, _, _, _, _, _, _, _, _, _, _, _, _, _, _, _, _, _, _, _, _, _, _, _, _, _, _, _, _, _, _, _, _, _, _, _, _, _, _, _, _, _, _, _, _, _, _, _, _, _, _, _, _, _, _, _, _, _, _, _, _, _, _, _, _, _, _, _, _, _, _, _, _, _, _, _, _, _, _, _, _, _, _, _, _, _, _, _, _, _, _, _, _, _, _, _, _, _, _, _, _, _, _, _, _, _, _, _, _, _, _, _, _, _, _, _, _, _, _, _, _, _, _, _, _, _, _, _, _, _, _, _, _, _, _, _, _, _, _, _, _, _, _, _, _, _, _, _, _, _, _, _, _, _, _, _, _, _, _, _, _, _, _, _, _, _, _, _, _, _, _, _, _, _], []⟩ _
      refine take_pure 1 (v := .int .i64 0) rfl (by kernel_rfl) rfl (fun w' hw => by simp [execOp, go_sem]) hH ?_
      show wpAnyH _ _ _ _ _ _ _ ⟨#[_, _, _, _, _, _, _, _, _, _, _, _, _, _, _, _, _, _, _, _, _, _, _, _, _, _, _, _, _, _, _, _, _, _, _, _, _, _, _, _, _, _, _, _, _, _, _, _, _, _, _, _, _, _, _, _, _, _, _, _, _, _, _, _, _, _, _, _, _, _, _, _, _, _, _, _, _, _, _, _, _, _, _, _, _, _, _, _, _, _, _, _, _, _, _, _, _, _, _, _, _, _, _, _, _, _, _, _, _, _, _, _, _, _, _, _, _, _, _, _, _, _, _, _, _, _, _, _, _, _, _, _, _, _, _, _, _, _, _, _, _, _, _, _, _, _, _, _, _, _, _, _, _, _, _, _, _, _, _, _, _, _, _, _, _, _, _, _, _, _, _, _, _, _, _, _, _, _], []⟩ _
      refine take_pure 2 (v := .bool true) rfl (by kernel_rfl) rfl (fun w' hw => by simp [execOp, go_sem]) hH ?_
      show wpAnyH _ _ _ _ _ _ _ ⟨#[_, _, _, _, _, _, _, _, _, _, _, _, _, _, _, _, _, _, _, _, _, _, _, _, _, _, _, _, _, _, _, _, _, _, _, _, _, _, _, _, _, _, _, _, _, _, _, _, _, _, _, _, _, _, _, _, _, _, _, _, _, _, _, _, _, _, _, _, _, _, _, _, _, _, _, _, _, _, _, _, _, _, _, _, _, _, _, _, _, _, _, _, _, _, _, _, _, _, _, _, _, _, _, _, _, _, _, _, _, _, _, _, _, _, _, _, _, _, _, _, _, _, _, _, _, _, _, _, _, _, _, _, _, _, _, _, _, _, _, _, _, _, _, _, _, _, _, _, _, _, _, _, _, _, _, _, _, _, _, _, _, _, _, _, _, _, _, _, _, _, _, _, _, _, _, _, _, _], []⟩ _
      refine take_pure 3 (v := .bool true) rfl (by kernel_rfl) rfl (fun w' hw => by simp [execOp, go_sem]) hH ?_
      show wpAnyH _ _ _ _ _ _ _ ⟨#[_, _, _, _, _, _, _, _, _, _, _, _, _, _, _, _, _, _, _, _, _, _, _, _, _, _, _, _, _, _, _, _, _, _, _, _, _, _, _, _, _, _, _, _, _, _, _, _, _, _, _, _, _, _, _, _, _, _, _, _, _, _, _, _, _, _, _, _, _, _, _, _, _, _, _, _, _, _, _, _, _, _, _, _, _, _, _, _, _, _, _, _, _, _, _, _, _, _, _, _, _, _, _, _, _, _, _, _, _, _, _, _, _, _, _, _, _, _, _, _, _, _, _, _, _, _, _, _, _, _, _, _, _, _, _, _, _, _, _, _, _, _, _, _, _, _, _, _, _, _, _, _, _, _, _, _, _, _, _, _, _, _, _, _, _, _, _, _, _, _, _, _, _, _, _, _, _, _], []⟩ _
      refine take_if 4 (v := .agg #[.int .i64 j, .bool true]) rfl (by kernel_rfl) (yieldsIf_load_mid (by rfl) _ _ rfl N1 0 rfl [.int .i64 j, .bool true] _ (fun w' hw => hw.2.range) Try.underlying59 rfl infoWe) hH ?_
      show wpAnyH _ _ _ _ _ _ _ ⟨#[_, _, _, _, _, _, _, _, _, _, _, _, _, _, _, _, _, _, _, _, _, _, _, _, _, _, _, _, _, _, _, _, _, _, _, _, _, _, _, _, _, _, _, _, _, _, _, _, _, _, _, _, _, _, _, _, _, _, _, _, _, _, _, _, _, _, _, _, _, _, _, _, _, _, _, _, _, _, _, _, _, _, _, _, _, _, _, _, _, _, _, _, _, _, _, _, _, _, _, _, _, _, _, _, _, _, _, _, _, _, _, _, _, _, _, _, _, _, _, _, _, _, _, _, _, _, _, _, _, _, _, _, _, _, _, _, _, _, _, _, _, _, _, _, _, _, _, _, _, _, _, _, _, _, _, _, _, _, _, _, _, _, _, _, _, _, _, _, _, _, _, _, _, _, _, _, _, _], []⟩ _
      refine take_if 5 (v := .int .i64 j) rfl (by kernel_rfl) (.inl ⟨by rfl, fun w' hw => by simp [execOp, go_sem]⟩) hH ?_
      show wpAnyH _ _ _ _ _ _ _ ⟨#[_, _, _, _, _, _, _, _, _, _, _, _, _, _, _, _, _, _, _, _, _, _, _, _, _, _, _, _, _, _, _, _, _, _, _, _, _, _, _, _, _, _, _, _, _, _, _, _, _, _, _, _, _, _, _, _, _, _, _, _, _, _, _, _, _, _, _, _, _, _, _, _, _, _, _, _, _, _, _, _, _, _, _, _, _, _, _, _, _, _, _, _, _, _, _, _, _, _, _, _, _, _, _, _, _, _, _, _, _, _, _, _, _, _, _, _, _, _, _, _, _, _, _, _, _, _, _, _, _, _, _, _, _, _, _, _, _, _, _, _, _, _, _, _, _, _, _, _, _, _, _, _, _, _, _, _, _, _, _, _, _, _, _, _, _, _, _, _, _, _, _, _, _, _, _, _, _, _], []⟩ _
      refine take_if 6 (v := .bool true) rfl (by kernel_rfl) (.inl ⟨by rfl, fun w' hw => by simp [execOp, go_sem]⟩) hH ?_
      show wpAnyH _ _ _ _ _ _ _ ⟨#[_, _, _, _, _, _, _, _, _, _, _, _, _, _, _, _, _, _, _, _, _, _, _, _, _, _, _, _, _, _, _, _, _, _, _, _, _, _, _, _, _, _, _, _, _, _, _, _, _, _, _, _, _, _, _, _, _, _, _, _, _, _, _, _, _, _, _, _, _, _, _, _, _, _, _, _, _, _, _, _, _, _, _, _, _, _, _, _, _, _, _, _, _, _, _, _, _, _, _, _, _, _, _, _, _, _, _, _, _, _, _, _, _, _, _, _, _, _, _, _, _, _, _, _, _, _, _, _, _, _, _, _, _, _, _, _, _, _, _, _, _, _, _, _, _, _, _, _, _, _, _, _, _, _, _, _, _, _, _, _, _, _, _, _, _, _, _, _, _, _, _, _, _, _, _, _, _, _], []⟩ _
      refine take_if 7 (v := .agg #[.int .i64 j, .bool true]) rfl (by kernel_rfl) (.inl ⟨by rfl, fun w' hw => by simp [execOp, go_sem]⟩) hH ?_
      show wpAnyH _ _ _ _ _ _ _ ⟨#[_, _, _, _, _, _, _, _, _, _, _, _, _, _, _, _, _, _, _, _, _, _, _, _, _, _, _, _, _, _, _, _, _, _, _, _, _, _, _, _, _, _, _, _, _, _, _, _, _, _, _, _, _, _, _, _, _, _, _, _, _, _, _, _, _, _, _, _, _, _, _, _, _, _, _, _, _, _, _, _, _, _, _, _, _, _, _, _, _, _, _, _, _, _, _, _, _, _, _, _, _, _, _, _, _, _, _, _, _, _, _, _, _, _, _, _, _, _, _, _, _, _, _, _, _, _, _, _, _, _, _, _, _, _, _, _, _, _, _, _, _, _, _, _, _, _, _, _, _, _, _, _, _, _, _, _, _, _, _, _, _, _, _, _, _, _, _, _, _, _, _, _, _, _, _, _, _, _], []⟩ _
      refine take_if 8 (v := .bool true) rfl (by kernel_rfl) (.inl ⟨by rfl, fun w' hw => exec_eqlA 59 _ _ _ rfl _ _ _ rfl rfl gdW12 (fun w => by rw [eqW_eql]; simp) w'⟩) hH ?_
      show wpAnyH _ _ _ _ _ _ _ ⟨#[_, _, _, _, _, _, _, _, _, _, _, _, _, _, _, _, _, _, _, _, _, _, _, _, _, _, _, _, _, _, _, _, _, _, _, _, _, _, _, _, _, _, _, _, _, _, _, _, _, _, _, _, _, _, _, _, _, _, _, _, _, _, _, _, _, _, _, _, _, _, _, _, _, _, _, _, _, _, _, _, _, _, _, _, _, _, _, _, _, _, _, _, _, _, _, _, _, _, _, _, _, _, _, _, _, _, _, _, _, _, _, _, _, _, _, _, _, _, _, _, _, _, _, _, _, _, _, _, _, _, _, _, _, _, _, _, _, _, _, _, _, _, _, _, _, _, _, _, _, _, _, _, _, _, _, _, _, _, _, _, _, _, _, _, _, _, _, _, _, _, _, _, _, _, _, _, _, _], []⟩ _
      refine take_pure 9 (v := .bool true) rfl (by kernel_rfl) rfl (fun w' hw => by simp [execOp, go_sem]) hH ?_
      show wpAnyH _ _ _ _ _ _ _ ⟨#[_, _, _, _, _, _, _, _, _, _, _, _, _, _, _, _, _, _, _, _, _, _, _, _, _, _, _, _, _, _, _, _, _, _, _, _, _, _, _, _, _, _, _, _, _, _, _, _, _, _, _, _, _, _, _, _, _, _, _, _, _, _, _, _, _, _, _, _, _, _, _, _, _, _, _, _, _, _, _, _, _, _, _, _, _, _, _, _, _, _, _, _, _, _, _, _, _, _, _, _, _, _, _, _, _, _, _, _, _, _, _, _, _, _, _, _, _, _, _, _, _, _, _, _, _, _, _, _, _, _, _, _, _, _, _, _, _, _, _, _, _, _, _, _, _, _, _, _, _, _, _, _, _, _, _, _, _, _, _, _, _, _, _, _, _, _, _, _, _, _, _, _, _, _, _, _, _, _], []⟩ _
      refine take_one 10 rfl rfl (by kernel_rfl) ?_
      refine wp_store_mid 34 _ _ rfl A2 0 LD2.toArray rfl rfl ht j9 o9 ?_
      refine ⟨⟨hH.1.putOther (by have := HN3.out; omega) 0 _, hH.2.putOther (by omega) 0 _⟩, fun hH => ?_⟩
      show wpAnyH _ _ _ _ _ _ _ ⟨#[_, _, _, _, _, _, _, _, _, _, _, _, _, _, _, _, _, _, _, _, _, _, _, _, _, _, _, _, _, _, _, _, _, _, _, _, _, _, _, _, _, _, _, _, _, _, _, _, _, _, _, _, _, _, _, _, _, _, _, _, _, _, _, _, _, _, _, _, _, _, _, _, _, _, _, _, _, _, _, _, _, _, _, _, _, _, _, _, _, _, _, _, _, _, _, _, _, _, _, _, _, _, _, _, _, _, _, _, _, _, _, _, _, _, _, _, _, _, _, _, _, _, _, _, _, _, _, _, _, _, _, _, _, _, _, _, _, _, _, _, _, _, _, _, _, _, _, _, _, _, _, _, _, _, _, _, _, _, _, _, _, _, _, _, _, _, _, _, _, _, _, _, _, _, _, _, _, _], []⟩ _
      refine take_pure 11 (v := .bool true) rfl (by kernel_rfl) rfl (fun w' hw => by simp [execOp, go_sem]) hH ?_
      show wpAnyH _ _ _ _ _ _ _ ⟨#[_, _, _, _, _, _, _, _, _, _, _, _, _, _, _, _, _, _, _, _, _, _, _, _, _, _, _, _, _, _, _, _, _, _, _, _, _, _, _, _, _, _, _, _, _, _, _, _, _, _, _, _, _, _, _, _, _, _, _, _, _, _, _, _, _, _, _, _, _, _, _, _, _, _, _, _, _, _, _, _, _, _, _, _, _, _, _, _, _, _, _, _, _, _, _, _, _, _, _, _, _, _, _, _, _, _, _, _, _, _, _, _, _, _, _, _, _, _, _, _, _, _, _, _, _, _, _, _, _, _, _, _, _, _, _, _, _, _, _, _, _, _, _, _, _, _, _, _, _, _, _, _, _, _, _, _, _, _, _, _, _, _, _, _, _, _, _, _, _, _, _, _, _, _, _, _, _, _], []⟩ _
      exact wpAnyH_done (by kernel_rfl) ⟨rfl, HQ9.out⟩ _
    case aft =>
      obtain ⟨rfl, hq9⟩ := hr
      have HQ9 : Hid (Pq w0 es ((A2, LD2) :: (A1, O) :: (A, LD) :: ls) lo B M r s b o d m (n + 1) LD2 V3) := hq9
      clear hq9 HP
      go_wp2
      have hld := run_loadVar_mid (P := Try.prog) _ A2 0 34 LD2 _ (HQ9.out.cl (A2, LD2) (by simp)).range Try.underlying34 rfl i9
      refine bodyPost_ret (v := .tuple #[.agg LD2.toArray, .bool true]) ?_ rfl ⟨LD2, rfl, (HQ9.out.sub fun z hz9 => by simp [hz9]).mono (by omega)⟩
      simp [results, Try.f11, asAddr, hld]
  | false =>
    have cY : W7.rangeAt N3 0 LD2 := (HP.out.cl (N3, LD2) (by simp)).range
    have i2 : (Try.prog.info? 34).map (·.size) = some LD2.length := by rw [HP.out.ll]; exact infoD12
    have cO := HP.out.cl (A1, O) (by simp)
    have cR : W7.rangeAt A1 11 LR := cO.rangeAt 11 LR HO.out.ra
    clear cO
    go_wp2_with (first
      | refine wpList_load_mid rfl 34 _ rfl N3 0 rfl LD2 _ cY Try.underlying34 rfl i2 ?_
      | refine wpList_load_mid rfl 40 _ rfl A1 11 rfl LR _ cR Try.underlying40 rfl iLR ?_)
    rw [← HR.out.1]
    refine (pmPut HP.out j HJ.out.2 F HR.out.2.1 (by have := HNN.out; omega)).mono ?_
    rintro e W8 ⟨LD3, rfl, hp⟩
    rw [HR.out.1]
    replace HP : Hid (Pm w0 es ((N3, LD2) :: (N1, [.int .i64 j, .bool false]) :: (A2, X0) :: (A1, O) :: (A, LD) :: ls) lo B M r s b o d m (n + 1 + 1) (gE (pE E j F)) l1 Y (l2 - 1) (tlZ Z) (pE E j F) l1 Y (l2 - 1) (tlZ Z) LD3 W8) := hp.gcongr (fun i9 hi9 q9 hq9 => by
      rw [if_neg (by simp), gE_pE]
      by_cases e9 : j = i9
      · subst e9
        rw [gput_same, if_pos rfl]
      · rw [gput_other _ _ _ _ (fun h => e9 h.symm), if_neg e9]) (gE_byt _ fun e he => (hp.wfE e he).2)
    clear hp cY cR i2
    obtain ⟨hp, ht⟩ := HP.out.put (L := LD3) (by have h1 := HA.out; have h2 := HN.out; have h3 := HN3.out; have h4 := HLO.out; omega) (by
      intro z hz9
      have h1 := HA.out
      have h2 := HN.out
      have h3 := HN3.out
      simp only [List.mem_cons] at hz9
      rcases hz9 with rfl | rfl | rfl | rfl | hz9
      · show N1 ≠ N3; omega
      · show A2 ≠ N3; omega
      · show A1 ≠ N3; omega
      · show A ≠ N3; omega
      · have := HL.out z hz9; omega) (by rw [HP.out.ll]; exact HLL.out.symm)
    have j3 : (Try.prog.info? 34).map (·.size) = some LD3.toArray.size := by rw [List.size_toArray, HP.out.ll]; exact infoD12
    have o3 := HP.out.one
    replace HP : Hid (Pm w0 es ((N3, LD3) :: (N1, [.int .i64 j, .bool false]) :: (A2, X0) :: (A1, O) :: (A, LD) :: ls) lo B M r s b o d m (n + 1 + 1) (gE (pE E j F)) l1 Y (l2 - 1) (tlZ Z) (pE E j F) l1 Y (l2 - 1) (tlZ Z) LD3 (W8.setCells N3 0 LD3)) := hp
    clear hp
    go_upto_region 13 with (first | refine wpList_store_mid rfl 34 _ _ rfl N3 0 LD3.toArray rfl rfl ht j3 o3 ?_)
    obtain ⟨W9, hW9⟩ : ∃ W, W8.setCells N3 0 LD3 = W := ⟨_, rfl⟩
    rw [hW9] at HP
    rw [hW9]
    clear hW9 ht j3 o3
    replace HP : Hid (Pm w0 es ((N3, LD3) :: (N1, [.int .i64 j, .bool false]) :: (A2, X0) :: (A1, O) :: (A, LD) :: ls) lo B M r s b o d m (n + 1 + 1) (gE (pE E j F)) l1 Y (l2 - 1) (tlZ Z) (pE E j F) l1 Y (l2 - 1) (tlZ Z) LD3 W9.drew) := HP.out.next (below_drew1 _)
    obtain ⟨h9, ht⟩ := (HP.out.sub (ls' := ((A2, X0) :: (A1, O) :: (A, LD) :: ls)) fun z hz9 => (List.mem_cons_of_mem _ (List.mem_cons_of_mem _ hz9))).put3 HA.out.1 HA.out.2 HL.out HLO.out (L := LD3) (by rw [HP.out.ll, lX])
    have HQ9 : Hid (Pq w0 es ((A2, LD3) :: (A1, O) :: (A, LD) :: ls) lo B M r s b o d m (n + 1 + 1) LD3 (W9.drew.setCells A2 0 LD3)) := ⟨_, _, _, _, _, h9⟩
    have j9 : (Try.prog.info? 34).map (·.size) = some LD3.toArray.size := by rw [List.size_toArray, HP.out.ll]; exact infoD12
    have i9 : (Try.prog.info? 34).map (·.size) = some LD3.length := by rw [HP.out.ll]; exact infoD12
    have o9 := HP.out.one
    have n1 := HA.out
    have n2 := HN.out
    clear h9
    refine region_ends (by kernel_rfl) (fun W' => Cb W' N3 LD3 ∧ Cb W' N1 [.int .i64 j, .bool false]) (fun a2 W' => a2 = ({ tmps := #[.pointer (some ⟨B, 0, none⟩), .agg LD.toArray, .agg O.toArray, ud, .pointer (some ⟨A, 0, none⟩), .pointer (some ⟨A1, 0, none⟩), .pointer (some ⟨A2, 0, none⟩), .bool true, ud, ud, ud, .pointer (some ⟨N1, 0, none⟩), .int .i64 0, .pointer (some ⟨N3, 0, none⟩), .int .i64 j, .bool false, ud, ud, ud, ud, ud, ud, ud, ud, ud, ud, .pointer (some ⟨A1, 0, none⟩), .int .i64 2, .bool false, .bool false, ud, ud, ud, ud, ud, ud, ud, ud, ud, ud, ud, ud, ud, ud, ud, ud, .bool true, .bool true, .tuple #[.agg #[.int .i64 j, .bool false], .int .i64 0], .pointer (some ⟨B, 0, none⟩), .pointer (some ⟨A1, 1, none⟩), .int .i64 z1, .pointer (some ⟨A1, 11, none⟩), .agg LR.toArray, .tuple #[.agg #[.int .i64 j, .bool false], .int .i64 0], .agg #[.int .i64 j, .bool false], .int .i64 0, .agg LD.toArray, .pointer (some ⟨A1, 1, none⟩), .int .i64 z1, .bool true, .bool false, ud, ud, ud, ud, ud, ud, ud, ud, .tuple #[.agg LD2.toArray, .int .i64 j, .bool false], .agg LD.toArray, .pointer (some ⟨A1, 1, none⟩), .int .i64 z1, .tuple #[.agg LD2.toArray, .int .i64 j, .bool false], .agg LD2.toArray, .int .i64 j, .bool false, .bool false, .bool true, .agg LD2.toArray, .int .i64 j, .pointer (some ⟨A1, 11, none⟩), .agg LR.toArray, .agg LD3.toArray, .agg LD3.toArray, .int .i64 0, .bool true, .bool true, .agg #[.int .i64 j, .bool false], .int .i64 j, .bool false, .agg #[.int .i64 j, .bool false], .bool true, .bool true, ud, ud, ud, ud, ud, ud, ud, ud, ud, ud, ud, ud, ud, ud, ud, ud, ud, ud, ud, ud, ud, ud, ud, ud, ud, ud, ud, ud, ud, ud, ud, ud, ud, ud, ud, ud, ud, ud, ud, ud, ud, ud, ud, ud, ud, ud, ud, ud, ud, ud, ud, ud, ud, ud, ud, ud, ud, ud, ud, ud, ud, ud, ud, ud, ud, ud, ud, ud, ud, ud, ud, ud, ud, ud, ud, ud, ud, ud, ud, ud, ud, ud, ud], defers := [] } : Act) ∧ Pq w0 es ((A2, LD3) :: (A1, O) :: (A, LD) :: ls) lo B M r s b o d m (n + 1 + 1) LD3 W') ⟨HP.out.cl (N3, LD3) (by simp), HP.out.cl (N1, [.int .i64 j, .bool false]) (by simp)⟩ (fun hH => ?reg) (fun a2 V3 hr => ?aft)
    case reg =>
      refine take_if 0 (v := .agg LD3.toArray) rfl (by kernel_rfl) (yieldsIf_load_mid (by rfl) _ _ rfl N3 0 rfl LD3 _ (fun w' hw => hw.1.range) Try.underlying34 rfl i9) hH ?_
      show wpAnyH _ _ _ _ _ _ _ ⟨#[_, _, _, _, _, _, _, _, _, _, _, _, _, _, _, _, _, _, _, _, _, _, _, _, _, _, _, _, _, _, _, _, _, _, _, _, _, _, _, _, _, _, _, _, _, _, _, _, _, _, _, _, _, _, _, _, _, _, _, _, _, _, _, _, _, _, _, _, _, _, _, _, _, _, _, _, _, _, _, _, _, _, _, _, _, _, _, _, _, _, _, _, _, _, _, _, _, _, _, _, _, _, _, _, _, _, _, _, _, _, _, _, _, _, _, _, _, _, _, _, _, _, _, _, _, _, _, _, _, _, _, _, _, _, _, _, _, _, _, _, _, _, _, _, _, _, _, _, _, _, _, _, _, _, _, _, _, _, _, _, _, _, _, _, _, _, _, _, _, _, _, _, _, _, _, _, _, _], []⟩ _
      refine take_pure 1 (v := .int .i64 0) rfl (by kernel_rfl) rfl (fun w' hw => by simp [execOp, go_sem]) hH ?_
      show wpAnyH _ _ _ _ _ _ _ ⟨#[_, _, _, _, _, _, _, _, _, _, _, _, _, _, _, _, _, _, _, _, _, _, _, _, _, _, _, _, _, _, _, _, _, _, _, _, _, _, _, _, _, _, _, _, _, _, _, _, _, _, _, _, _, _, _, _, _, _, _, _, _, _, _, _, _, _, _, _, _, _, _, _, _, _, _, _, _, _, _, _, _, _, _, _, _, _, _, _, _, _, _, _, _, _, _, _, _, _, _, _, _, _, _, _, _, _, _, _, _, _, _, _, _, _, _, _, _, _, _, _, _, _, _, _, _, _, _, _, _, _, _, _, _, _, _, _, _, _, _, _, _, _, _, _, _, _, _, _, _, _, _, _, _, _, _, _, _, _, _, _, _, _, _, _, _, _, _, _, _, _, _, _, _, _, _, _, _, _], []⟩ _
      refine take_pure 2 (v := .bool true) rfl (by kernel_rfl) rfl (fun w' hw => by simp [execOp, go_sem]) hH ?_
      show wpAnyH _ _ _ _ _ _ _ ⟨#[_, _, _, _, _, _, _, _, _, _, _, _, _, _, _, _, _, _, _, _, _, _, _, _, _, _, _, _, _, _, _, _, _, _, _, _, _, _, _, _, _, _, _, _, _, _, _, _, _, _, _, _, _, _, _, _, _, _, _, _, _, _, _, _, _, _, _, _, _, _, _, _, _, _, _, _, _, _, _, _, _, _, _, _, _, _, _, _, _, _, _, _, _, _, _, _, _, _, _, _, _, _, _, _, _, _, _, _, _, _, _, _, _, _, _, _, _, _, _, _, _, _, _, _, _, _, _, _, _, _, _, _, _, _, _, _, _, _, _, _, _, _, _, _, _, _, _, _, _, _, _, _, _, _, _, _, _, _, _, _, _, _, _, _, _, _, _, _, _, _, _, _, _, _, _, _, _, _], []⟩ _
      refine take_pure 3 (v := .bool true) rfl (by kernel_rfl) rfl (fun w' hw => by simp [execOp, go_sem]) hH ?_
      show wpAnyH _ _ _ _ _ _ _ ⟨#[_, _, _, _, _, _, _, _, _, _, _, _, _, _, _, _, _, _, _, _, _, _, _, _, _, _, _, _, _, _, _, _, _, _, _, _, _, _, _, _, _, _, _, _, _, _, _, _, _, _, _, _, _, _, _, _, _, _, _, _, _, _, _, _, _, _, _, _, _, _, _, _, _, _, _, _, _, _, _, _, _, _, _, _, _, _, _, _, _, _, _, _, _, _, _, _, _, _, _, _, _, _, _, _, _, _, _, _, _, _, _, _, _, _, _, _, _, _, _, _, _, _, _, _, _, _, _, _, _, _, _, _, _, _, _, _, _, _, _, _, _, _, _, _, _, _, _, _, _, _, _, _, _, _, _, _, _, _, _, _, _, _, _, _, _, _, _, _, _, _, _, _, _, _, _, _, _, _], []⟩ _
      refine take_if 4 (v := .agg #[.int .i64 j, .bool false]) rfl (by kernel_rfl) (yieldsIf_load_mid (by rfl) _ _ rfl N1 0 rfl [.int .i64 j, .bool false] _ (fun w' hw => hw.2.range) Try.underlying59 rfl infoWe) hH ?_
      show wpAnyH _ _ _ _ _ _ _ ⟨#[_, _, _, _, _, _, _, _, _, _, _, _, _, _, _, _, _, _, _, _, _, _, _, _, _, _, _, _, _, _, _, _, _, _, _, _, _, _, _, _, _, _, _, _, _, _, _, _, _, _, _, _, _, _, _, _, _, _, _, _, _, _, _, _, _, _, _, _, _, _, _, _, _, _, _, _, _, _, _, _, _, _, _, _, _, _, _, _, _, _, _, _, _, _, _, _, _, _, _, _, _, _, _, _, _, _, _, _, _, _, _, _, _, _, _, _, _, _, _, _, _, _, _, _, _, _, _, _, _, _, _, _, _, _, _, _, _, _, _, _, _, _, _, _, _, _, _, _, _, _, _, _, _, _, _, _, _, _, _, _, _, _, _, _, _, _, _, _, _, _, _, _, _, _, _, _, _, _], []⟩ _
      refine take_if 5 (v := .int .i64 j) rfl (by kernel_rfl) (.inl ⟨by rfl, fun w' hw => by simp [execOp, go_sem]⟩) hH ?_
      show wpAnyH _ _ _ _ _ _ _ ⟨#[_, _, _, _, _, _, _, _, _, _, _, _, _, _, _, _, _, _, _, _, _, _, _, _, _, _, _, _, _, _, _, _, _, _, _, _, _, _, _, _, _, _, _, _, _, _, _, _, _, _, _, _, _, _, _, _, _, _, _, _, _, _, _, _, _, _, _, _, _, _, _, _, _, _, _, _, _, _, _, _, _, _, _, _, _, _, _, _, _, _, _, _, _, _, _, _, _, _, _, _, _, _, _, _, _, _, _, _, _, _, _, _, _, _, _, _, _, _, _, _, _, _, _, _, _, _, _, _, _, _, _, _, _, _, _, _, _, _, _, _, _, _, _, _, _, _, _, _, _, _, _, _, _, _, _, _, _, _, _, _, _, _, _, _, _, _, _, _, _, _, _, _, _, _, _, _, _, _], []⟩ _
      refine take_if 6 (v := .bool false) rfl (by kernel_rfl) (.inl ⟨by rfl, fun w' hw => by simp [execOp, go_sem]⟩) hH ?_
      show wpAnyH _ _ _ _ _ _ _ ⟨#[_, _, _, _, _, _, _, _, _, _, _, _, _, _, _, _, _, _, _, _, _, _, _, _, _, _, _, _, _, _, _, _, _, _, _, _, _, _, _, _, _, _, _, _, _, _, _, _, _, _, _, _, _, _, _, _, _, _, _, _, _, _, _, _, _, _, _, _, _, _, _, _, _, _, _, _, _, _, _, _, _, _, _, _, _, _, _, _, _, _, _, _, _, _, _, _, _, _, _, _, _, _, _, _, _, _, _, _, _, _, _, _, _, _, _, _, _, _, _, _, _, _, _, _, _, _, _, _, _, _, _, _, _, _, _, _, _, _, _, _, _, _, _, _, _, _, _, _, _, _, _, _, _, _, _, _, _, _, _, _, _, _, _, _, _, _, _, _, _, _, _, _, _, _, _, _, _, _], []⟩ _
      refine take_if 7 (v := .agg #[.int .i64 j, .bool false]) rfl (by kernel_rfl) (.inl ⟨by rfl, fun w' hw => by simp [execOp, go_sem]⟩) hH ?_
      show wpAnyH _ _ _ _ _ _ _ ⟨#[_, _, _, _, _, _, _, _, _, _, _, _, _, _, _, _, _, _, _, _, _, _, _, _, _, _, _, _, _, _, _, _, _, _, _, _, _, _, _, _, _, _, _, _, _, _, _, _, _, _, _, _, _, _, _, _, _, _, _, _, _, _, _, _, _, _, _, _, _, _, _, _, _, _, _, _, _, _, _, _, _, _, _, _, _, _, _, _, _, _, _, _, _, _, _, _, _, _, _, _, _, _, _, _, _, _, _, _, _, _, _, _, _, _, _, _, _, _, _, _, _, _, _, _, _, _, _, _, _, _, _, _, _, _, _, _, _, _, _, _, _, _, _, _, _, _, _, _, _, _, _, _, _, _, _, _, _, _, _, _, _, _, _, _, _, _, _, _, _, _, _, _, _, _, _, _, _, _], []⟩ _
      refine take_if 8 (v := .bool true) rfl (by kernel_rfl) (.inl ⟨by rfl, fun w' hw => exec_eqlA 59 _ _ _ rfl _ _ _ rfl rfl gdW12 (fun w => by rw [eqW_eql]; simp) w'⟩) hH ?_
      show wpAnyH _ _ _ _ _ _ _ ⟨#[_, _, _, _, _, _, _, _, _, _, _, _, _, _, _, _, _, _, _, _, _, _, _, _, _, _, _, _, _, _, _, _, _, _, _, _, _, _, _, _, _, _, _, _, _, _, _, _, _, _, _, _, _, _, _, _, _, _, _, _, _, _, _, _, _, _, _, _, _, _, _, _, _, _, _, _, _, _, _, _, _, _, _, _, _, _, _, _, _, _, _, _, _, _, _, _, _, _, _, _, _, _, _, _, _, _, _, _, _, _, _, _, _, _, _, _, _, _, _, _, _, _, _, _, _, _, _, _, _, _, _, _, _, _, _, _, _, _, _, _, _, _, _, _, _, _, _, _, _, _, _, _, _, _, _, _, _, _, _, _, _, _, _, _, _, _, _, _, _, _, _, _, _, _, _, _, _, _], []⟩ _
      refine take_pure 9 (v := .bool true) rfl (by kernel_rfl) rfl (fun w' hw => by simp [execOp, go_sem]) hH ?_
      show wpAnyH _ _ _ _ _ _ _ ⟨#[_, _, _, _, _, _, _, _, _, _, _, _, _, _, _, _, _, _, _, _, _, _, _, _, _, _, _, _, _, _, _, _, _, _, _, _, _, _, _, _, _, _, _, _, _, _, _, _, _, _, _, _, _, _, _, _, _, _, _, _, _, _, _, _, _, _, _, _, _, _, _, _, _, _, _, _, _, _, _, _, _, _, _, _, _, _, _, _, _, _, _, _, _, _, _, _, _, _, _, _, _, _, _, _, _, _, _, _, _, _, _, _, _, _, _, _, _, _, _, _, _, _, _, _, _, _, _, _, _, _, _, _, _, _, _, _, _, _, _, _, _, _, _, _, _, _, _, _, _, _, _, _, _, _, _, _, _, _, _, _, _, _, _, _, _, _, _, _, _, _, _, _, _, _, _, _, _, _], []⟩ _
      refine take_one 10 rfl rfl (by kernel_rfl) ?_
      refine wp_store_mid 34 _ _ rfl A2 0 LD3.toArray rfl rfl ht j9 o9 ?_
      refine ⟨⟨hH.1.putOther (by have := HN3.out; omega) 0 _, hH.2.putOther (by omega) 0 _⟩, fun hH => ?_⟩
      show wpAnyH _ _ _ _ _ _ _ ⟨#[_, _, _, _, _, _, _, _, _, _, _, _, _, _, _, _, _, _, _, _, _, _, _, _, _, _, _, _, _, _, _, _, _, _, _, _, _, _, _, _, _, _, _, _, _, _, _, _, _, _, _, _, _, _, _, _, _, _, _, _, _, _, _, _, _, _, _, _, _, _, _, _, _, _, _, _, _, _, _, _, _, _, _, _, _, _, _, _, _, _, _, _, _, _, _, _, _, _, _, _, _, _, _, _, _, _, _, _, _, _, _, _, _, _, _, _, _, _, _, _, _, _, _, _, _, _, _, _, _, _, _, _, _, _, _, _, _, _, _, _, _, _, _, _, _, _, _, _, _, _, _, _, _, _, _, _, _, _, _, _, _, _, _, _, _, _, _, _, _, _, _, _, _, _, _, _, _, _], []⟩ _
      refine take_pure 11 (v := .bool true) rfl (by kernel_rfl) rfl (fun w' hw => by simp [execOp, go_sem]) hH ?_
      show wpAnyH _ _ _ _ _ _ _ ⟨#[_, _, _, _, _, _, _, _, _, _, _, _, _, _, _, _, _, _, _, _, _, _, _, _, _, _, _, _, _, _, _, _, _, _, _, _, _, _, _, _, _, _, _, _, _, _, _, _, _, _, _, _, _, _, _, _, _, _, _, _, _, _, _, _, _, _, _, _, _, _, _, _, _, _, _, _, _, _, _, _, _, _, _, _, _, _, _, _, _, _, _, _, _, _, _, _, _, _, _, _, _, _, _, _, _, _, _, _, _, _, _, _, _, _, _, _, _, _, _, _, _, _, _, _, _, _, _, _, _, _, _, _, _, _, _, _, _, _, _, _, _, _, _, _, _, _, _, _, _, _, _, _, _, _, _, _, _, _, _, _, _, _, _, _, _, _, _, _, _, _, _, _, _, _, _, _, _, _], []⟩ _
      exact wpAnyH_done (by kernel_rfl) ⟨rfl, HQ9.out⟩ _
    case aft =>
      obtain ⟨rfl, hq9⟩ := hr
      have HQ9 : Hid (Pq w0 es ((A2, LD3) :: (A1, O) :: (A, LD) :: ls) lo B M r s b o d m (n + 1 + 1) LD3 V3) := hq9
      clear hq9 HP
      go_wp2
      have hld := run_loadVar_mid (P := Try.prog) _ A2 0 34 LD3 _ (HQ9.out.cl (A2, LD3) (by simp)).range Try.underlying34 rfl i9
      refine bodyPost_ret (v := .tuple #[.agg LD3.toArray, .bool true]) ?_ rfl ⟨LD3, rfl, (HQ9.out.sub fun z hz9 => by simp [hz9]).mono (by omega)⟩
      simp [results, Try.f11, asAddr, hld]
end
end Go.Proofs.Ytcpjmfemgdgplaa
