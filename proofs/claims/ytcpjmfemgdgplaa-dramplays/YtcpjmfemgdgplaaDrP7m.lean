/-
  A play: a step that reads.
-/
import Derived.Test.YtcpjmfemgdgplaaDrP4m
import Derived.Test.YtcpjmfemgdgplaaDrP0m
namespace Go.Proofs.Ytcpjmfemgdgplaa
open Go.RowKit Go.Shelf
open Ge (pw rt hd ix)
attribute [local go_sem] Oper.semAt_some

section
variable {W W' w0 : World} {es ls : List (Nat × List Value)} {lo B M : Nat} {r s b o d m : Int} {n : Nat} {LD : List Value} {k8 j8 : Int}
set_option maxRecDepth 100000 in
set_option maxHeartbeats 8000000 in
theorem dStep3n (h : Pq w0 es ls lo B M r s b o d m n LD W) (hm : Md m k8 j8) (hg : Ng r b o d) {O LR : List Value} {z1 z2 k p q u v c x y : Int} (ho : Oc O 3 z1 z2 k p q u v c x y LR) (hf : ∀ j, j < 8 → (Lit.int .i64 (ffn k p q u v c x y j)).wf = true) (hn : n < 800000) (hz1 : I64 z1) (hx9 : hx r s b o d z1 = false) :
    Calls Try.prog 11 #[.pointer (some ⟨B, 0, none⟩), .agg LD.toArray, .agg O.toArray] W fun e w' => ∃ LD', e = .returned (.tuple #[.agg LD'.toArray, .bool true]) ∧ Pq w0 es ls lo B M r s b o d m (n + 700) LD' w' := by
  have HM : Hid (Md m k8 j8) := hm
  have HG : Hid (Ng r b o d) := hg
  have HO : Hid (Oc O 3 z1 z2 k p q u v c x y LR) := ho
  have HF : Hid (∀ j, j < 8 → (Lit.int .i64 (ffn k p q u v c x y j)).wf = true) := hf
  have HNN : Hid (n < 800000) := hn
  have HZ1 : Hid (I64 z1) := hz1
  clear hz1
  have hzr := zeroR
  have hza := zeroA9
  have hzb := build0R12
  obtain ⟨T0, hT0⟩ : ∃ L, (ints .u8 72 fun _ => 0) = L := ⟨_, rfl⟩
  have HT0 : Hid ((ints .u8 72 fun _ => 0) = T0) := hT0
  have lT : T0.length = 72 := by rw [← hT0]; exact ints_len _ _ _
  rw [hT0] at hzr hza hzb
  have iT : (Try.prog.info? 40).map (·.size) = some T0.length := by rw [lT]; exact infoR
  have jT : (Try.prog.info? 40).map (·.size) = some T0.toArray.size := by rw [List.size_toArray, lT]; exact infoR
  have oT : T0.toArray.all (·.oneCell') = true := by rw [← hT0]; exact ints_one .u8 72 _
  clear hT0
  have j1 := jT
  have o1 := oT
  have HX : Hid (hx r s b o d z1 = false) := hx9
  clear hx9
  have hz := zeroD12
  obtain ⟨X0, hX0⟩ : ∃ X, dl 0 0 0 0 0 0 (.slice none 0 0) (.slice none 0 0) (.slice none 0 0) = X := ⟨_, rfl⟩
  have lX : X0.length = 9 := by rw [← hX0]; rfl
  rw [hX0] at hz
  have HL0 : Hid (∀ x ∈ ls, x.1 < W.heap.size) := fun x hx => (h.cl x hx).lt
  have HW : Hid (Pq w0 es ls lo B M r s b o d m n LD W) := h
  clear hm hg ho hf hn hX0 h
  go_enter Try.func11, Try.ntmps11
  obtain ⟨ud, hu⟩ : ∃ u : Value, undef = u := ⟨_, rfl⟩
  rw [hu]
  clear hu
  go_upto_region 1 with (fail)
  obtain ⟨A, hA⟩ : ∃ A, W.heap.size = A := ⟨_, rfl⟩
  obtain ⟨A1, hA1⟩ : ∃ A1, A + 1 = A1 := ⟨_, rfl⟩
  obtain ⟨A2, hA2⟩ : ∃ A2, A1 + 1 = A2 := ⟨_, rfl⟩
  obtain ⟨V, hV⟩ : ∃ V, ((W.alloc (.cells LD.toArray 34)).alloc (.cells O.toArray 42)).alloc (.cells X0.toArray 34) = V := ⟨_, rfl⟩
  have HQ : Hid (Pq w0 es ((A2, X0) :: (A1, O) :: (A, LD) :: ls) lo B M r s b o d m n LD V) := by
    have h := ((HW.out.lay LD 34).lay O 42).lay X0 34
    simp only [World.size_alloc] at h
    rw [hV, hA, hA1, hA2] at h
    exact h
  have HLO : Hid (lo ≤ A) := by rw [← hA]; exact HW.out.lo_le.1
  have HL : Hid (∀ x ∈ ls, x.1 < A) := by rw [← hA]; exact HL0.out
  have HA : Hid (A + 1 = A1 ∧ A1 + 1 = A2) := ⟨hA1, hA2⟩
  rw [hV, hA, hA1, hA2]
  clear hV HW HL0 hA hA1 hA2
  obtain ⟨l1, Y, l2, Z, E, hP⟩ := HQ.out
  have HP : Hid (Pm w0 es ((A2, X0) :: (A1, O) :: (A, LD) :: ls) lo B M r s b o d m n (gE E) l1 Y l2 Z E l1 Y l2 Z LD V) := hP
  clear hP HQ
  have iLD : (Try.prog.info? 34).map (·.size) = some LD.length := by rw [HP.out.ll]; exact infoD12
  have cO := HP.out.cl (A1, O) (by simp)
  have c0 : V.cell? ⟨A1, 0, none⟩ = some (.int .i64 3) := cO.cell HO.out.c0
  have c1 : V.cell? ⟨A1, 1, none⟩ = some (.int .i64 z1) := cO.cell HO.out.c1
  clear cO
  go_wp2_with fail
  refine (pmRead_no HP.out z1 HX.out).mono ?_
  rintro e W3 ⟨rfl, hp⟩
  have hv : rawV (fun _ => 0) = .agg T0.toArray := by unfold rawV; rw [HT0.out]
  rw [hv]
  replace HP : Hid (Pm w0 es ((A2, X0) :: (A1, O) :: (A, LD) :: ls) lo B M r s b o d m n (gE E) l1 Y l2 Z E l1 Y l2 Z LD W3) := hp
  clear hp c0 c1 hv
  obtain ⟨hp, ht, ht2⟩ := HP.out.layRW T0 T0 40 59 0 false (by rw [lT])
  have on : (#[.int .i64 0, .bool false] : Array Value).all (·.oneCell') = true := one_we _ _
  obtain ⟨N1, hN1⟩ : ∃ N, W3.heap.size = N := ⟨_, rfl⟩
  obtain ⟨N2, hN2⟩ : ∃ N, N1 + 1 = N := ⟨_, rfl⟩
  have HN : Hid (A2 < N1 ∧ N1 + 1 = N2) := ⟨by rw [← hN1]; exact (HP.out.cl (A2, X0) (by simp)).lt, hN2⟩
  rw [hN1, hN2] at hp ht2
  rw [hN1] at ht
  go_upto_region 16 with (first
    | refine wpList_store_mid rfl 40 _ _ rfl N1 0 T0.toArray rfl rfl ht j1 o1 ?_
    | refine wpList_store_mid rfl 59 _ _ rfl N2 0 #[.int .i64 0, .bool false] rfl rfl ht2 infoWe on ?_)
  obtain ⟨W4, hW4⟩ : ∃ W, (((W3.alloc (.cells T0.toArray 40)).alloc (.cells #[.int .i64 0, .bool false] 59)).setCells N1 0 T0).setCells N2 0 [.int .i64 0, .bool false] = W := ⟨_, rfl⟩
  rw [hW4] at hp
  rw [hW4]
  replace HP : Hid (Pm w0 es ((N2, [.int .i64 0, .bool false]) :: (N1, T0) :: (A2, X0) :: (A1, O) :: (A, LD) :: ls) lo B M r s b o d m n (gE E) l1 Y l2 Z E l1 Y l2 Z LD W4) := hp
  clear hp hW4 ht ht2 on hN1 hN2
  have cX : W4.rangeAt A 0 LD := (HP.out.cl (A, LD) (by simp)).range
  have cO := HP.out.cl (A1, O) (by simp)
  have c1 : W4.cell? ⟨A1, 1, none⟩ = some (.int .i64 z1) := cO.cell HO.out.c1
  clear cO
  go_wp2_with (first | refine wpList_load_mid rfl 34 _ rfl A 0 rfl LD _ cX Try.underlying34 rfl iLD ?_)
  refine (pmHas HP.out HG.out z1 HZ1.out).mono ?_
  rintro e W5 ⟨rfl, hp⟩
  rw [HX.out]
  replace HP : Hid (Pm w0 es ((N2, [.int .i64 0, .bool false]) :: (N1, T0) :: (A2, X0) :: (A1, O) :: (A, LD) :: ls) lo B M r s b o d m n (gE E) l1 Y l2 Z E l1 Y l2 Z LD W5) := hp
  clear hp cX c1
  go_upto_region 17 with (fail)
  replace HP : Hid (Pm w0 es ((N2, [.int .i64 0, .bool false]) :: (N1, T0) :: (A2, X0) :: (A1, O) :: (A, LD) :: ls) lo B M r s b o d m n (gE E) l1 Y l2 Z E l1 Y l2 Z LD W5.drew) := HP.out.next (below_drew1 _)
  obtain ⟨h9, ht⟩ := (HP.out.sub (ls' := ((A2, X0) :: (A1, O) :: (A, LD) :: ls)) fun z hz9 => (List.mem_cons_of_mem _ (List.mem_cons_of_mem _ hz9))).put3 HA.out.1 HA.out.2 HL.out HLO.out (L := LD) (by rw [HP.out.ll, lX])
  have HQ9 : Hid (Pq w0 es ((A2, LD) :: (A1, O) :: (A, LD) :: ls) lo B M r s b o d m n LD (W5.drew.setCells A2 0 LD)) := ⟨_, _, _, _, _, h9⟩
  have j9 : (Try.prog.info? 34).map (·.size) = some LD.toArray.size := by rw [List.size_toArray, HP.out.ll]; exact infoD12
  have i9 : (Try.prog.info? 34).map (·.size) = some LD.length := by rw [HP.out.ll]; exact infoD12
  have o9 := HP.out.one
  have n1 := HA.out
  have n2 := HN.out
  clear h9
  refine region_ends (by kernel_rfl) (fun W' => Cb W' A LD ∧ Cb W' N2 [.int .i64 0, .bool false] ∧ Cb W' N1 T0) (fun a2 W' => a2 = ({ tmps := #[.pointer (some ⟨B, 0, none⟩), .agg LD.toArray, .agg O.toArray, ud, .pointer (some ⟨A, 0, none⟩), .pointer (some ⟨A1, 0, none⟩), .pointer (some ⟨A2, 0, none⟩), .bool true, ud, ud, ud, ud, ud, ud, ud, ud, .pointer (some ⟨N1, 0, none⟩), .pointer (some ⟨N2, 0, none⟩), .int .i64 12, ud, ud, ud, ud, ud, ud, ud, .pointer (some ⟨A1, 0, none⟩), .int .i64 3, .bool false, .bool false, ud, ud, ud, ud, ud, ud, ud, ud, ud, ud, ud, ud, ud, ud, ud, ud, .bool false, .bool false, ud, ud, ud, ud, ud, ud, ud, ud, ud, ud, ud, ud, ud, ud, ud, ud, ud, ud, ud, ud, ud, ud, ud, ud, ud, ud, ud, ud, ud, ud, ud, ud, ud, ud, ud, ud, ud, ud, ud, ud, ud, ud, ud, ud, ud, ud, ud, .bool true, .bool true, .tuple #[.agg T0.toArray, .agg #[.int .i64 0, .bool false], .int .i64 12], .pointer (some ⟨B, 0, none⟩), .pointer (some ⟨A1, 1, none⟩), .int .i64 z1, .tuple #[.agg T0.toArray, .agg #[.int .i64 0, .bool false], .int .i64 12], .agg T0.toArray, .agg #[.int .i64 0, .bool false], .int .i64 12, .agg LD.toArray, .pointer (some ⟨A1, 1, none⟩), .int .i64 z1, .bool false, .bool true, .agg LD.toArray, .int .i64 12, .bool true, .bool true, .agg #[.int .i64 0, .bool false], .agg #[.int .i64 0, .bool false], .bool true, .bool true, .bool true, .agg T0.toArray, .agg T0.toArray, .bool true, .bool true, ud, ud, ud, ud, ud, ud, ud, ud, ud, ud, ud, ud, ud, ud, ud, ud, ud, ud, ud, ud, ud, ud, ud, ud, ud, ud, ud, ud, ud, ud, ud, ud, ud, ud, ud, ud, ud, ud, ud, ud, ud, ud, ud, ud, ud, ud, ud, ud, ud, ud, ud, ud, ud, ud, ud], defers := [] } : Act) ∧ Pq w0 es ((A2, LD) :: (A1, O) :: (A, LD) :: ls) lo B M r s b o d m n LD W') ⟨HP.out.cl (A, LD) (by simp), HP.out.cl (N2, [.int .i64 0, .bool false]) (by simp), HP.out.cl (N1, T0) (by simp)⟩ (fun hH => ?reg) (fun a2 V3 hr => ?aft)
  case reg =>
    refine take_if 0 (v := .agg LD.toArray) rfl (by kernel_rfl) (yieldsIf_load_mid (by rfl) _ _ rfl A 0 rfl LD _ (fun w' hw => hw.1.range) Try.underlying34 rfl iLD) hH ?_
    show wpAnyH _ _ _ _ _ _ _ ⟨#[_, _, _, _, _, _, _, _, _, _, _, _, _, _, _, _, _, _, _, _, _, _, _, _, _, _, _, _, _, _, _, _, _, _, _, _, _, _, _, _, _, _, _, _, _, _, _, _, _, _, _, _, _, _, _, _, _, _, _, _, _, _, _, _, _, _, _, _, _, _, _, _, _, _, _, _, _, _, _, _, _, _, _, _, _, _, _, _, _, _, _, _, _, _, _, _, _, _, _, _, _, _, _, _, _, _, _, _, _, _, _, _, _, _, _, _, _, _, _, _, _, _, _, _, _, _, _, _, _, _, _, _, _, _, _, _, _, _, _, _, _, _, _, _, _, _, _, _, _, _, _, _, _, _, _, _, _, _, _, _, _, _, _, _, _, _, _, _, _, _, _, _, _, _, _, _, _, _], []⟩ _
    refine take_pure 1 (v := .int .i64 12) rfl (by kernel_rfl) rfl (fun w' hw => by simp [execOp, go_sem]) hH ?_
    show wpAnyH _ _ _ _ _ _ _ ⟨#[_, _, _, _, _, _, _, _, _, _, _, _, _, _, _, _, _, _, _, _, _, _, _, _, _, _, _, _, _, _, _, _, _, _, _, _, _, _, _, _, _, _, _, _, _, _, _, _, _, _, _, _, _, _, _, _, _, _, _, _, _, _, _, _, _, _, _, _, _, _, _, _, _, _, _, _, _, _, _, _, _, _, _, _, _, _, _, _, _, _, _, _, _, _, _, _, _, _, _, _, _, _, _, _, _, _, _, _, _, _, _, _, _, _, _, _, _, _, _, _, _, _, _, _, _, _, _, _, _, _, _, _, _, _, _, _, _, _, _, _, _, _, _, _, _, _, _, _, _, _, _, _, _, _, _, _, _, _, _, _, _, _, _, _, _, _, _, _, _, _, _, _, _, _, _, _, _, _], []⟩ _
    refine take_pure 2 (v := .bool true) rfl (by kernel_rfl) rfl (fun w' hw => by simp [execOp, go_sem]) hH ?_
    show wpAnyH _ _ _ _ _ _ _ ⟨#[_, _, _, _, _, _, _, _, _, _, _, _, _, _, _, _, _, _, _, _, _, _, _, _, _, _, _, _, _, _, _, _, _, _, _, _, _, _, _, _, _, _, _, _, _, _, _, _, _, _, _, _, _, _, _, _, _, _, _, _, _, _, _, _, _, _, _, _, _, _, _, _, _, _, _, _, _, _, _, _, _, _, _, _, _, _, _, _, _, _, _, _, _, _, _, _, _, _, _, _, _, _, _, _, _, _, _, _, _, _, _, _, _, _, _, _, _, _, _, _, _, _, _, _, _, _, _, _, _, _, _, _, _, _, _, _, _, _, _, _, _, _, _, _, _, _, _, _, _, _, _, _, _, _, _, _, _, _, _, _, _, _, _, _, _, _, _, _, _, _, _, _, _, _, _, _, _, _], []⟩ _
    refine take_pure 3 (v := .bool true) rfl (by kernel_rfl) rfl (fun w' hw => by simp [execOp, go_sem]) hH ?_
    show wpAnyH _ _ _ _ _ _ _ ⟨#[_, _, _, _, _, _, _, _, _, _, _, _, _, _, _, _, _, _, _, _, _, _, _, _, _, _, _, _, _, _, _, _, _, _, _, _, _, _, _, _, _, _, _, _, _, _, _, _, _, _, _, _, _, _, _, _, _, _, _, _, _, _, _, _, _, _, _, _, _, _, _, _, _, _, _, _, _, _, _, _, _, _, _, _, _, _, _, _, _, _, _, _, _, _, _, _, _, _, _, _, _, _, _, _, _, _, _, _, _, _, _, _, _, _, _, _, _, _, _, _, _, _, _, _, _, _, _, _, _, _, _, _, _, _, _, _, _, _, _, _, _, _, _, _, _, _, _, _, _, _, _, _, _, _, _, _, _, _, _, _, _, _, _, _, _, _, _, _, _, _, _, _, _, _, _, _, _, _], []⟩ _
    refine take_if 4 (v := .agg #[.int .i64 0, .bool false]) rfl (by kernel_rfl) (yieldsIf_load_mid (by rfl) _ _ rfl N2 0 rfl [.int .i64 0, .bool false] _ (fun w' hw => hw.2.1.range) Try.underlying59 rfl infoWe) hH ?_
    show wpAnyH _ _ _ _ _ _ _ ⟨#[_, _, _, _, _, _, _, _, _, _, _, _, _, _, _, _, _, _, _, _, _, _, _, _, _, _, _, _, _, _, _, _, _, _, _, _, _, _, _, _, _, _, _, _, _, _, _, _, _, _, _, _, _, _, _, _, _, _, _, _, _, _, _, _, _, _, _, _, _, _, _, _, _, _, _, _, _, _, _, _, _, _, _, _, _, _, _, _, _, _, _, _, _, _, _, _, _, _, _, _, _, _, _, _, _, _, _, _, _, _, _, _, _, _, _, _, _, _, _, _, _, _, _, _, _, _, _, _, _, _, _, _, _, _, _, _, _, _, _, _, _, _, _, _, _, _, _, _, _, _, _, _, _, _, _, _, _, _, _, _, _, _, _, _, _, _, _, _, _, _, _, _, _, _, _, _, _, _], []⟩ _
    refine take_if 5 (v := .agg #[.int .i64 0, .bool false]) rfl (by kernel_rfl) (.inl ⟨by rfl, fun w' hw => exec_build12 59 rfl _ build0W12 w'⟩) hH ?_
    show wpAnyH _ _ _ _ _ _ _ ⟨#[_, _, _, _, _, _, _, _, _, _, _, _, _, _, _, _, _, _, _, _, _, _, _, _, _, _, _, _, _, _, _, _, _, _, _, _, _, _, _, _, _, _, _, _, _, _, _, _, _, _, _, _, _, _, _, _, _, _, _, _, _, _, _, _, _, _, _, _, _, _, _, _, _, _, _, _, _, _, _, _, _, _, _, _, _, _, _, _, _, _, _, _, _, _, _, _, _, _, _, _, _, _, _, _, _, _, _, _, _, _, _, _, _, _, _, _, _, _, _, _, _, _, _, _, _, _, _, _, _, _, _, _, _, _, _, _, _, _, _, _, _, _, _, _, _, _, _, _, _, _, _, _, _, _, _, _, _, _, _, _, _, _, _, _, _, _, _, _, _, _, _, _, _, _, _, _, _, _], []⟩ _
    refine take_if 6 (v := .bool true) rfl (by kernel_rfl) (.inl ⟨by rfl, fun w' hw => exec_eqlA 59 _ _ _ rfl _ _ _ rfl rfl gdW12 (fun w => by rw [eqW_eql]; simp) w'⟩) hH ?_
    show wpAnyH _ _ _ _ _ _ _ ⟨#[_, _, _, _, _, _, _, _, _, _, _, _, _, _, _, _, _, _, _, _, _, _, _, _, _, _, _, _, _, _, _, _, _, _, _, _, _, _, _, _, _, _, _, _, _, _, _, _, _, _, _, _, _, _, _, _, _, _, _, _, _, _, _, _, _, _, _, _, _, _, _, _, _, _, _, _, _, _, _, _, _, _, _, _, _, _, _, _, _, _, _, _, _, _, _, _, _, _, _, _, _, _, _, _, _, _, _, _, _, _, _, _, _, _, _, _, _, _, _, _, _, _, _, _, _, _, _, _, _, _, _, _, _, _, _, _, _, _, _, _, _, _, _, _, _, _, _, _, _, _, _, _, _, _, _, _, _, _, _, _, _, _, _, _, _, _, _, _, _, _, _, _, _, _, _, _, _, _], []⟩ _
    refine take_pure 7 (v := .bool true) rfl (by kernel_rfl) rfl (fun w' hw => by simp [execOp, go_sem]) hH ?_
    show wpAnyH _ _ _ _ _ _ _ ⟨#[_, _, _, _, _, _, _, _, _, _, _, _, _, _, _, _, _, _, _, _, _, _, _, _, _, _, _, _, _, _, _, _, _, _, _, _, _, _, _, _, _, _, _, _, _, _, _, _, _, _, _, _, _, _, _, _, _, _, _, _, _, _, _, _, _, _, _, _, _, _, _, _, _, _, _, _, _, _, _, _, _, _, _, _, _, _, _, _, _, _, _, _, _, _, _, _, _, _, _, _, _, _, _, _, _, _, _, _, _, _, _, _, _, _, _, _, _, _, _, _, _, _, _, _, _, _, _, _, _, _, _, _, _, _, _, _, _, _, _, _, _, _, _, _, _, _, _, _, _, _, _, _, _, _, _, _, _, _, _, _, _, _, _, _, _, _, _, _, _, _, _, _, _, _, _, _, _, _], []⟩ _
    refine take_pure 8 (v := .bool true) rfl (by kernel_rfl) rfl (fun w' hw => by simp [execOp, go_sem]) hH ?_
    show wpAnyH _ _ _ _ _ _ _ ⟨#[_, _, _, _, _, _, _, _, _, _, _, _, _, _, _, _, _, _, _, _, _, _, _, _, _, _, _, _, _, _, _, _, _, _, _, _, _, _, _, _, _, _, _, _, _, _, _, _, _, _, _, _, _, _, _, _, _, _, _, _, _, _, _, _, _, _, _, _, _, _, _, _, _, _, _, _, _, _, _, _, _, _, _, _, _, _, _, _, _, _, _, _, _, _, _, _, _, _, _, _, _, _, _, _, _, _, _, _, _, _, _, _, _, _, _, _, _, _, _, _, _, _, _, _, _, _, _, _, _, _, _, _, _, _, _, _, _, _, _, _, _, _, _, _, _, _, _, _, _, _, _, _, _, _, _, _, _, _, _, _, _, _, _, _, _, _, _, _, _, _, _, _, _, _, _, _, _, _], []⟩ _
    refine take_if 9 (v := .agg T0.toArray) rfl (by kernel_rfl) (yieldsIf_load_mid (by rfl) _ _ rfl N1 0 rfl T0 _ (fun w' hw => hw.2.2.range) Try.underlying40 rfl iT) hH ?_
    show wpAnyH _ _ _ _ _ _ _ ⟨#[_, _, _, _, _, _, _, _, _, _, _, _, _, _, _, _, _, _, _, _, _, _, _, _, _, _, _, _, _, _, _, _, _, _, _, _, _, _, _, _, _, _, _, _, _, _, _, _, _, _, _, _, _, _, _, _, _, _, _, _, _, _, _, _, _, _, _, _, _, _, _, _, _, _, _, _, _, _, _, _, _, _, _, _, _, _, _, _, _, _, _, _, _, _, _, _, _, _, _, _, _, _, _, _, _, _, _, _, _, _, _, _, _, _, _, _, _, _, _, _, _, _, _, _, _, _, _, _, _, _, _, _, _, _, _, _, _, _, _, _, _, _, _, _, _, _, _, _, _, _, _, _, _, _, _, _, _, _, _, _, _, _, _, _, _, _, _, _, _, _, _, _, _, _, _, _, _, _], []⟩ _
    refine take_if 10 (v := .agg T0.toArray) rfl (by kernel_rfl) (.inl ⟨by rfl, fun w' hw => exec_build12 40 rfl _ hzb w'⟩) hH ?_
    show wpAnyH _ _ _ _ _ _ _ ⟨#[_, _, _, _, _, _, _, _, _, _, _, _, _, _, _, _, _, _, _, _, _, _, _, _, _, _, _, _, _, _, _, _, _, _, _, _, _, _, _, _, _, _, _, _, _, _, _, _, _, _, _, _, _, _, _, _, _, _, _, _, _, _, _, _, _, _, _, _, _, _, _, _, _, _, _, _, _, _, _, _, _, _, _, _, _, _, _, _, _, _, _, _, _, _, _, _, _, _, _, _, _, _, _, _, _, _, _, _, _, _, _, _, _, _, _, _, _, _, _, _, _, _, _, _, _, _, _, _, _, _, _, _, _, _, _, _, _, _, _, _, _, _, _, _, _, _, _, _, _, _, _, _, _, _, _, _, _, _, _, _, _, _, _, _, _, _, _, _, _, _, _, _, _, _, _, _, _, _], []⟩ _
    refine take_if 11 (v := .bool true) rfl (by kernel_rfl) (.inl ⟨by rfl, fun w' hw => exec_eqlA 40 _ _ _ rfl T0.toArray T0.toArray _ rfl rfl gdR12 (fun w => by rw [← HT0.out]; exact eqlR _ _ (fun _ _ => ⟨by simp, by simp⟩) (fun _ _ => ⟨by simp, by simp⟩) true (by simp) w) w'⟩) hH ?_
    show wpAnyH _ _ _ _ _ _ _ ⟨#[_, _, _, _, _, _, _, _, _, _, _, _, _, _, _, _, _, _, _, _, _, _, _, _, _, _, _, _, _, _, _, _, _, _, _, _, _, _, _, _, _, _, _, _, _, _, _, _, _, _, _, _, _, _, _, _, _, _, _, _, _, _, _, _, _, _, _, _, _, _, _, _, _, _, _, _, _, _, _, _, _, _, _, _, _, _, _, _, _, _, _, _, _, _, _, _, _, _, _, _, _, _, _, _, _, _, _, _, _, _, _, _, _, _, _, _, _, _, _, _, _, _, _, _, _, _, _, _, _, _, _, _, _, _, _, _, _, _, _, _, _, _, _, _, _, _, _, _, _, _, _, _, _, _, _, _, _, _, _, _, _, _, _, _, _, _, _, _, _, _, _, _, _, _, _, _, _, _], []⟩ _
    refine take_pure 12 (v := .bool true) rfl (by kernel_rfl) rfl (fun w' hw => by simp [execOp, go_sem]) hH ?_
    show wpAnyH _ _ _ _ _ _ _ ⟨#[_, _, _, _, _, _, _, _, _, _, _, _, _, _, _, _, _, _, _, _, _, _, _, _, _, _, _, _, _, _, _, _, _, _, _, _, _, _, _, _, _, _, _, _, _, _, _, _, _, _, _, _, _, _, _, _, _, _, _, _, _, _, _, _, _, _, _, _, _, _, _, _, _, _, _, _, _, _, _, _, _, _, _, _, _, _, _, _, _, _, _, _, _, _, _, _, _, _, _, _, _, _, _, _, _, _, _, _, _, _, _, _, _, _, _, _, _, _, _, _, _, _, _, _, _, _, _, _, _, _, _, _, _, _, _, _, _, _, _, _, _, _, _, _, _, _, _, _, _, _, _, _, _, _, _, _, _, _, _, _, _, _, _, _, _, _, _, _, _, _, _, _, _, _, _, _, _, _], []⟩ _
    refine take_one 13 rfl rfl (by kernel_rfl) ?_
    refine wp_store_mid 34 _ _ rfl A2 0 LD.toArray rfl rfl ht j9 o9 ?_
    refine ⟨⟨hH.1.putOther (by omega) 0 _, hH.2.1.putOther (by omega) 0 _, hH.2.2.putOther (by omega) 0 _⟩, fun hH => ?_⟩
    show wpAnyH _ _ _ _ _ _ _ ⟨#[_, _, _, _, _, _, _, _, _, _, _, _, _, _, _, _, _, _, _, _, _, _, _, _, _, _, _, _, _, _, _, _, _, _, _, _, _, _, _, _, _, _, _, _, _, _, _, _, _, _, _, _, _, _, _, _, _, _, _, _, _, _, _, _, _, _, _, _, _, _, _, _, _, _, _, _, _, _, _, _, _, _, _, _, _, _, _, _, _, _, _, _, _, _, _, _, _, _, _, _, _, _, _, _, _, _, _, _, _, _, _, _, _, _, _, _, _, _, _, _, _, _, _, _, _, _, _, _, _, _, _, _, _, _, _, _, _, _, _, _, _, _, _, _, _, _, _, _, _, _, _, _, _, _, _, _, _, _, _, _, _, _, _, _, _, _, _, _, _, _, _, _, _, _, _, _, _, _], []⟩ _
    refine take_pure 14 (v := .bool true) rfl (by kernel_rfl) rfl (fun w' hw => by simp [execOp, go_sem]) hH ?_
    show wpAnyH _ _ _ _ _ _ _ ⟨#[_, _, _, _, _, _, _, _, _, _, _, _, _, _, _, _, _, _, _, _, _, _, _, _, _, _, _, _, _, _, _, _, _, _, _, _, _, _, _, _, _, _, _, _, _, _, _, _, _, _, _, _, _, _, _, _, _, _, _, _, _, _, _, _, _, _, _, _, _, _, _, _, _, _, _, _, _, _, _, _, _, _, _, _, _, _, _, _, _, _, _, _, _, _, _, _, _, _, _, _, _, _, _, _, _, _, _, _, _, _, _, _, _, _, _, _, _, _, _, _, _, _, _, _, _, _, _, _, _, _, _, _, _, _, _, _, _, _, _, _, _, _, _, _, _, _, _, _, _, _, _, _, _, _, _, _, _, _, _, _, _, _, _, _, _, _, _, _, _, _, _, _, _, _, _, _, _, _], []⟩ _
    exact wpAnyH_done (by kernel_rfl) ⟨rfl, HQ9.out⟩ _
  case aft =>
    obtain ⟨rfl, hq9⟩ := hr
    have HQ9 : Hid (Pq w0 es ((A2, LD) :: (A1, O) :: (A, LD) :: ls) lo B M r s b o d m n LD V3) := hq9
    clear hq9 HP
    go_wp2
    have hld := run_loadVar_mid (P := Try.prog) _ A2 0 34 LD _ (HQ9.out.cl (A2, LD) (by simp)).range Try.underlying34 rfl i9
    refine bodyPost_ret (v := .tuple #[.agg LD.toArray, .bool true]) ?_ rfl ⟨LD, rfl, (HQ9.out.sub fun z hz9 => by simp [hz9]).mono (by omega)⟩
    simp [results, Try.f11, asAddr, hld]
set_option maxRecDepth 100000 in
set_option maxHeartbeats 8000000 in
theorem dStep3 (h : Pq w0 es ls lo B M r s b o d m n LD W) (hm : Md m k8 j8) (hg : Ng r b o d) {O LR : List Value} {z1 z2 k p q u v c x y : Int} (ho : Oc O 3 z1 z2 k p q u v c x y LR) (hf : ∀ j, j < 8 → (Lit.int .i64 (ffn k p q u v c x y j)).wf = true) (hn : n < 800000) (hz1 : I64 z1) (hx9 : hx r s b o d z1 = true) :
    Calls Try.prog 11 #[.pointer (some ⟨B, 0, none⟩), .agg LD.toArray, .agg O.toArray] W fun e w' => ∃ LD', e = .returned (.tuple #[.agg LD'.toArray, .bool true]) ∧ Pq w0 es ls lo B M r s b o d m (n + 700) LD' w' := by
  have HM : Hid (Md m k8 j8) := hm
  have HG : Hid (Ng r b o d) := hg
  have HO : Hid (Oc O 3 z1 z2 k p q u v c x y LR) := ho
  have HF : Hid (∀ j, j < 8 → (Lit.int .i64 (ffn k p q u v c x y j)).wf = true) := hf
  have HNN : Hid (n < 800000) := hn
  have HZ1 : Hid (I64 z1) := hz1
  clear hz1
  have hzr := zeroR
  have hza := zeroA9
  have hzb := build0R12
  obtain ⟨T0, hT0⟩ : ∃ L, (ints .u8 72 fun _ => 0) = L := ⟨_, rfl⟩
  have HT0 : Hid ((ints .u8 72 fun _ => 0) = T0) := hT0
  have lT : T0.length = 72 := by rw [← hT0]; exact ints_len _ _ _
  rw [hT0] at hzr hza hzb
  have iT : (Try.prog.info? 40).map (·.size) = some T0.length := by rw [lT]; exact infoR
  have jT : (Try.prog.info? 40).map (·.size) = some T0.toArray.size := by rw [List.size_toArray, lT]; exact infoR
  have oT : T0.toArray.all (·.oneCell') = true := by rw [← hT0]; exact ints_one .u8 72 _
  clear hT0
  have HX : Hid (hx r s b o d z1 = true) := hx9
  clear hx9
  have hz := zeroD12
  obtain ⟨X0, hX0⟩ : ∃ X, dl 0 0 0 0 0 0 (.slice none 0 0) (.slice none 0 0) (.slice none 0 0) = X := ⟨_, rfl⟩
  have lX : X0.length = 9 := by rw [← hX0]; rfl
  rw [hX0] at hz
  have HL0 : Hid (∀ x ∈ ls, x.1 < W.heap.size) := fun x hx => (h.cl x hx).lt
  have HW : Hid (Pq w0 es ls lo B M r s b o d m n LD W) := h
  clear hm hg ho hf hn hX0 h
  go_enter Try.func11, Try.ntmps11
  obtain ⟨ud, hu⟩ : ∃ u : Value, undef = u := ⟨_, rfl⟩
  rw [hu]
  clear hu
  go_upto_region 1 with (fail)
  obtain ⟨A, hA⟩ : ∃ A, W.heap.size = A := ⟨_, rfl⟩
  obtain ⟨A1, hA1⟩ : ∃ A1, A + 1 = A1 := ⟨_, rfl⟩
  obtain ⟨A2, hA2⟩ : ∃ A2, A1 + 1 = A2 := ⟨_, rfl⟩
  obtain ⟨V, hV⟩ : ∃ V, ((W.alloc (.cells LD.toArray 34)).alloc (.cells O.toArray 42)).alloc (.cells X0.toArray 34) = V := ⟨_, rfl⟩
  have HQ : Hid (Pq w0 es ((A2, X0) :: (A1, O) :: (A, LD) :: ls) lo B M r s b o d m n LD V) := by
    have h := ((HW.out.lay LD 34).lay O 42).lay X0 34
    simp only [World.size_alloc] at h
    rw [hV, hA, hA1, hA2] at h
    exact h
  have HLO : Hid (lo ≤ A) := by rw [← hA]; exact HW.out.lo_le.1
  have HL : Hid (∀ x ∈ ls, x.1 < A) := by rw [← hA]; exact HL0.out
  have HA : Hid (A + 1 = A1 ∧ A1 + 1 = A2) := ⟨hA1, hA2⟩
  rw [hV, hA, hA1, hA2]
  clear hV HW HL0 hA hA1 hA2
  obtain ⟨l1, Y, l2, Z, E, hP⟩ := HQ.out
  have HP : Hid (Pm w0 es ((A2, X0) :: (A1, O) :: (A, LD) :: ls) lo B M r s b o d m n (gE E) l1 Y l2 Z E l1 Y l2 Z LD V) := hP
  clear hP HQ
  have iLD : (Try.prog.info? 34).map (·.size) = some LD.length := by rw [HP.out.ll]; exact infoD12
  have cO := HP.out.cl (A1, O) (by simp)
  have c0 : V.cell? ⟨A1, 0, none⟩ = some (.int .i64 3) := cO.cell HO.out.c0
  have c1 : V.cell? ⟨A1, 1, none⟩ = some (.int .i64 z1) := cO.cell HO.out.c1
  clear cO
  go_wp2_with fail
  refine (pmRead HP.out HM.out z1 HX.out).mono ?_
  rintro e W3 ⟨rfl, hp⟩
  have HOK : Hid (Okc r s b o d l2 Z) := HP.out.okc
  obtain ⟨j, hj⟩ : ∃ j, wI l2 Z z1 = j := ⟨_, rfl⟩
  obtain ⟨t, ht9⟩ : ∃ t, wD l2 Z = t := ⟨_, rfl⟩
  have HJ : Hid (0 ≤ j ∧ I64 j) := by
    have := hx_low (HP.out.wihx HX.out)
    rw [hj] at this
    exact ⟨this.1, ⟨by omega, by omega⟩⟩
  have HWD : Hid (wI l2 Z z1 = j ∧ wD l2 Z = t) := ⟨hj, ht9⟩
  rw [hj, ht9]
  obtain ⟨R, hR⟩ : ∃ R, (if t = true then (fun _ => 0) else (ovF k8 Y (j / 1048576) (j / 65536 % 16) (j / 64 % 1024) (j % 64) (gE E j) l1)) = R := ⟨_, rfl⟩
  have HRB : Hid (Byts 72 R ∧ (t = true → ints .u8 72 R = T0) ∧ (t = false → (ovF k8 Y (j / 1048576) (j / 65536 % 16) (j / 64 % 1024) (j % 64) (gE E j) l1) = R)) := by
    rw [← hR]
    refine ⟨?_, fun h => ?_, fun h => ?_⟩
    · split
      · exact fun _ _ => ⟨by simp, by simp⟩
      · exact ovF_byt _ _ _ _ _ _ _ (gE_byt E (fun e he => (HP.out.wfE e he).2) j) _
    · rw [if_pos h]; exact HT0.out
    · rw [if_neg (by rw [h]; simp)]
  rw [hR]
  obtain ⟨L1, hL1⟩ : ∃ L, ints .u8 72 R = L := ⟨_, rfl⟩
  have HL1 : Hid (ints .u8 72 R = L1) := hL1
  have hv : rawV R = .agg L1.toArray := by unfold rawV; rw [hL1]
  have lL : L1.length = 72 := by rw [← hL1]; exact ints_len _ _ _
  have i1 : (Try.prog.info? 40).map (·.size) = some L1.length := by rw [lL]; exact infoR
  have iA1 : (Try.prog.info? 39).map (·.size) = some L1.length := by rw [lL]; exact infoA9
  have j1 : (Try.prog.info? 40).map (·.size) = some L1.toArray.size := by rw [List.size_toArray, lL]; exact infoR
  have jA1 : (Try.prog.info? 39).map (·.size) = some L1.toArray.size := by rw [List.size_toArray, lL]; exact infoA9
  have o1 : L1.toArray.all (·.oneCell') = true := by rw [← hL1]; exact ints_one .u8 72 _
  have he1 : ∀ w, (binOp .eql 39 (.agg L1.toArray) (.agg L1.toArray)).run Try.prog w = .ok (.bool true) w := fun w => by rw [← hL1]; exact eqlB12 R R HRB.out.1 HRB.out.1 true (by simp) w
  rw [hv]
  replace HP : Hid (Pm w0 es ((A2, X0) :: (A1, O) :: (A, LD) :: ls) lo B M r s b o d m n (gE E) l1 Y (l2 - 1) (tlZ Z) E l1 Y l2 Z LD W3) := hp
  clear hp c0 c1 hv hj ht9 hR hL1
  obtain ⟨hp, ht, ht2⟩ := HP.out.layRW L1 T0 40 59 j t (by rw [lL, lT])
  have on : (#[.int .i64 j, .bool t] : Array Value).all (·.oneCell') = true := one_we _ _
  obtain ⟨N1, hN1⟩ : ∃ N, W3.heap.size = N := ⟨_, rfl⟩
  obtain ⟨N2, hN2⟩ : ∃ N, N1 + 1 = N := ⟨_, rfl⟩
  have HN : Hid (A2 < N1 ∧ N1 + 1 = N2) := ⟨by rw [← hN1]; exact (HP.out.cl (A2, X0) (by simp)).lt, hN2⟩
  rw [hN1, hN2] at hp ht2
  rw [hN1] at ht
  go_upto_region 16 with (first
    | refine wpList_store_mid rfl 40 _ _ rfl N1 0 L1.toArray rfl rfl ht j1 o1 ?_
    | refine wpList_store_mid rfl 59 _ _ rfl N2 0 #[.int .i64 j, .bool t] rfl rfl ht2 infoWe on ?_)
  obtain ⟨W4, hW4⟩ : ∃ W, (((W3.alloc (.cells T0.toArray 40)).alloc (.cells #[.int .i64 0, .bool false] 59)).setCells N1 0 L1).setCells N2 0 [.int .i64 j, .bool t] = W := ⟨_, rfl⟩
  rw [hW4] at hp
  rw [hW4]
  replace HP : Hid (Pm w0 es ((N2, [.int .i64 j, .bool t]) :: (N1, L1) :: (A2, X0) :: (A1, O) :: (A, LD) :: ls) lo B M r s b o d m n (gE E) l1 Y (l2 - 1) (tlZ Z) E l1 Y l2 Z LD W4) := hp
  clear hp hW4 ht ht2 on hN1 hN2
  have cX : W4.rangeAt A 0 LD := (HP.out.cl (A, LD) (by simp)).range
  have cO := HP.out.cl (A1, O) (by simp)
  have c1 : W4.cell? ⟨A1, 1, none⟩ = some (.int .i64 z1) := cO.cell HO.out.c1
  clear cO
  go_wp2_with (first | refine wpList_load_mid rfl 34 _ rfl A 0 rfl LD _ cX Try.underlying34 rfl iLD ?_)
  refine (pmHas HP.out HG.out z1 HZ1.out).mono ?_
  rintro e W5 ⟨rfl, hp⟩
  rw [HX.out]
  replace HP : Hid (Pm w0 es ((N2, [.int .i64 j, .bool t]) :: (N1, L1) :: (A2, X0) :: (A1, O) :: (A, LD) :: ls) lo B M r s b o d m n (gE E) l1 Y (l2 - 1) (tlZ Z) E l1 Y l2 Z LD W5) := hp
  clear hp cX c1
  have cX : W5.rangeAt A 0 LD := (HP.out.cl (A, LD) (by simp)).range
  have cO := HP.out.cl (A1, O) (by simp)
  have c1 : W5.cell? ⟨A1, 1, none⟩ = some (.int .i64 z1) := cO.cell HO.out.c1
  clear cO
  go_wp2_with (first | refine wpList_load_mid rfl 34 _ rfl A 0 rfl LD _ cX Try.underlying34 rfl iLD ?_)
  refine (pmWent HP.out HOK.out z1).mono ?_
  rintro e W6 ⟨LD2, rfl, hp⟩
  rw [HWD.out.1, HWD.out.2]
  replace HP : Hid (Pm w0 es ((N2, [.int .i64 j, .bool t]) :: (N1, L1) :: (A2, X0) :: (A1, O) :: (A, LD) :: ls) lo B M r s b o d m n (gE E) l1 Y (l2 - 1) (tlZ Z) E l1 Y (l2 - 1) (tlZ Z) LD2 W6) := hp
  clear hp cX c1
  obtain ⟨hp, ht⟩ := HP.out.layA LD2 X0 34 (by rw [HP.out.ll, lX])
  obtain ⟨N3, hN3⟩ : ∃ N, W6.heap.size = N := ⟨_, rfl⟩
  have HN3 : Hid (N2 < N3) := by rw [← hN3]; exact (HP.out.cl (N2, _) (by simp; exact .inl rfl)).lt
  have HLL : Hid (LD2.length = 9) := HP.out.ll
  have j2 : (Try.prog.info? 34).map (·.size) = some LD2.toArray.size := by rw [List.size_toArray, HP.out.ll]; exact infoD12
  have o2 := HP.out.one
  rw [hN3] at hp ht
  go_upto_region 19 with (first | refine wpList_store_mid rfl 34 _ _ rfl N3 0 LD2.toArray rfl rfl ht j2 o2 ?_)
  obtain ⟨W7, hW7⟩ : ∃ W, (W6.alloc (.cells X0.toArray 34)).setCells N3 0 LD2 = W := ⟨_, rfl⟩
  rw [hW7] at hp
  rw [hW7]
  replace HP : Hid (Pm w0 es ((N3, LD2) :: (N2, [.int .i64 j, .bool t]) :: (N1, L1) :: (A2, X0) :: (A1, O) :: (A, LD) :: ls) lo B M r s b o d m n (gE E) l1 Y (l2 - 1) (tlZ Z) E l1 Y (l2 - 1) (tlZ Z) LD2 W7) := hp
  clear hp hW7 ht j2 o2 hN3
  go_upto_region 20 with (fail)
  obtain ⟨N4, hN4⟩ : ∃ N, W7.heap.size = N := ⟨_, rfl⟩
  obtain ⟨W8, hW8⟩ : ∃ V, W7.alloc (.cells T0.toArray 39) = V := ⟨_, rfl⟩
  have hp := HP.out.lay T0 39
  have HN4 : Hid (N3 < N4) := by rw [← hN4]; exact (HP.out.cl (N3, LD2) (by simp)).lt
  rw [hN4, hW8] at hp
  rw [hN4, hW8]
  replace HP : Hid (Pm w0 es ((N4, T0) :: (N3, LD2) :: (N2, [.int .i64 j, .bool t]) :: (N1, L1) :: (A2, X0) :: (A1, O) :: (A, LD) :: ls) lo B M r s b o d m n (gE E) l1 Y (l2 - 1) (tlZ Z) E l1 Y (l2 - 1) (tlZ Z) LD2 W8) := hp
  clear hp hN4 hW8
  cases t with
  | true =>
    obtain rfl : L1 = T0 := HL1.out.symm.trans (HRB.out.2.1 rfl)
    go_upto_region 22 with (fail)
    replace HP : Hid (Pm w0 es ((N4, L1) :: (N3, LD2) :: (N2, [.int .i64 j, .bool true]) :: (N1, L1) :: (A2, X0) :: (A1, O) :: (A, LD) :: ls) lo B M r s b o d m n (gE E) l1 Y (l2 - 1) (tlZ Z) E l1 Y (l2 - 1) (tlZ Z) LD2 W8.drew) := HP.out.next (below_drew1 _)
    obtain ⟨h9, ht⟩ := (HP.out.sub (ls' := ((A2, X0) :: (A1, O) :: (A, LD) :: ls)) fun z hz9 => (List.mem_cons_of_mem _ (List.mem_cons_of_mem _ (List.mem_cons_of_mem _ (List.mem_cons_of_mem _ hz9))))).put3 HA.out.1 HA.out.2 HL.out HLO.out (L := LD2) (by rw [HP.out.ll, lX])
    have HQ9 : Hid (Pq w0 es ((A2, LD2) :: (A1, O) :: (A, LD) :: ls) lo B M r s b o d m n LD2 (W8.drew.setCells A2 0 LD2)) := ⟨_, _, _, _, _, h9⟩
    have j9 : (Try.prog.info? 34).map (·.size) = some LD2.toArray.size := by rw [List.size_toArray, HP.out.ll]; exact infoD12
    have i9 : (Try.prog.info? 34).map (·.size) = some LD2.length := by rw [HP.out.ll]; exact infoD12
    have o9 := HP.out.one
    have n1 := HA.out
    have n2 := HN.out
    clear h9
    refine region_ends (by kernel_rfl) (fun W' => Cb W' N3 LD2 ∧ Cb W' N2 [.int .i64 j, .bool true] ∧ Cb W' N1 L1 ∧ Cb W' N4 L1) (fun a2 W' => a2 = ({ tmps := #[.pointer (some ⟨B, 0, none⟩), .agg LD.toArray, .agg O.toArray, ud, .pointer (some ⟨A, 0, none⟩), .pointer (some ⟨A1, 0, none⟩), .pointer (some ⟨A2, 0, none⟩), .bool true, ud, ud, ud, ud, ud, ud, ud, ud, .pointer (some ⟨N1, 0, none⟩), .pointer (some ⟨N2, 0, none⟩), .int .i64 0, .pointer (some ⟨N3, 0, none⟩), .int .i64 j, .bool true, .pointer (some ⟨N4, 0, none⟩), ud, ud, ud, .pointer (some ⟨A1, 0, none⟩), .int .i64 3, .bool false, .bool false, ud, ud, ud, ud, ud, ud, ud, ud, ud, ud, ud, ud, ud, ud, ud, ud, .bool false, .bool false, ud, ud, ud, ud, ud, ud, ud, ud, ud, ud, ud, ud, ud, ud, ud, ud, ud, ud, ud, ud, ud, ud, ud, ud, ud, ud, ud, ud, ud, ud, ud, ud, ud, ud, ud, ud, ud, ud, ud, ud, ud, ud, ud, ud, ud, ud, ud, .bool true, .bool true, .tuple #[.agg L1.toArray, .agg #[.int .i64 j, .bool true], .int .i64 0], .pointer (some ⟨B, 0, none⟩), .pointer (some ⟨A1, 1, none⟩), .int .i64 z1, .tuple #[.agg L1.toArray, .agg #[.int .i64 j, .bool true], .int .i64 0], .agg L1.toArray, .agg #[.int .i64 j, .bool true], .int .i64 0, .agg LD.toArray, .pointer (some ⟨A1, 1, none⟩), .int .i64 z1, .bool true, .bool false, ud, ud, ud, ud, ud, ud, ud, ud, ud, ud, ud, ud, ud, .tuple #[.agg LD2.toArray, .int .i64 j, .bool true], .agg LD.toArray, .pointer (some ⟨A1, 1, none⟩), .int .i64 z1, .tuple #[.agg LD2.toArray, .int .i64 j, .bool true], .agg LD2.toArray, .int .i64 j, .bool true, .bool true, .bool false, ud, ud, ud, .agg LD2.toArray, .int .i64 0, .bool true, .bool true, .agg #[.int .i64 j, .bool true], .int .i64 j, .bool true, .agg #[.int .i64 j, .bool true], .bool true, .bool true, .bool true, .agg L1.toArray, .agg L1.toArray, .bool true, .bool true, ud, ud, ud, ud, ud, ud, ud, ud, ud, ud, ud, ud, ud, ud, ud, ud, ud, ud, ud, ud, ud, ud, ud, ud, ud, ud, ud], defers := [] } : Act) ∧ Pq w0 es ((A2, LD2) :: (A1, O) :: (A, LD) :: ls) lo B M r s b o d m n LD2 W') ⟨HP.out.cl (N3, LD2) (by simp), HP.out.cl (N2, [.int .i64 j, .bool true]) (by simp), HP.out.cl (N1, L1) (by simp), HP.out.cl (N4, L1) (by simp)⟩ (fun hH => ?reg) (fun a2 V3 hr => ?aft)
    case reg =>
      refine take_if 0 (v := .agg LD2.toArray) rfl (by kernel_rfl) (yieldsIf_load_mid (by rfl) _ _ rfl N3 0 rfl LD2 _ (fun w' hw => hw.1.range) Try.underlying34 rfl i9) hH ?_
      show wpAnyH _ _ _ _ _ _ _ ⟨#[_, _, _, _, _, _, _, _, _, _, _, _, _, _, _, _, _, _, _, _, _, _, _, _, _, _, _, _, _, _, _, _, _, _, _, _, _, _, _, _, _, _, _, _, _, _, _, _, _, _, _, _, _, _, _, _, _, _, _, _, _, _, _, _, _, _, _, _, _, _, _, _, _, _, _, _, _, _, _, _, _, _, _, _, _, _, _, _, _, _, _, _, _, _, _, _, _, _, _, _, _, _, _, _, _, _, _, _, _, _, _, _, _, _, _, _, _, _, _, _, _, _, _, _, _, _, _, _, _, _, _, _, _, _, _, _, _, _, _, _, _, _, _, _, _, _, _, _, _, _, _, _, _, _, _, _, _, _, _, _, _, _, _, _, _, _, _, _, _, _, _, _, _, _, _, _, _, _], []⟩ _
      refine take_pure 1 (v := .int .i64 0) rfl (by kernel_rfl) rfl (fun w' hw => by simp [execOp, go_sem]) hH ?_
      show wpAnyH _ _ _ _ _ _ _ ⟨#[_, _, _, _, _, _, _, _, _, _, _, _, _, _, _, _, _, _, _, _, _, _, _, _, _, _, _, _, _, _, _, _, _, _, _, _, _, _, _, _, _, _, _, _, _, _, _, _, _, _, _, _, _, _, _, _, _, _, _, _, _, _, _, _, _, _, _, _, _, _, _, _, _, _, _, _, _, _, _, _, _, _, _, _, _, _, _, _, _, _, _, _, _, _, _, _, _, _, _, _, _, _, _, _, _, _, _, _, _, _, _, _, _, _, _, _, _, _, _, _, _, _, _, _, _, _, _, _, _, _, _, _, _, _, _, _, _, _, _, _, _, _, _, _, _, _, _, _, _, _, _, _, _, _, _, _, _, _, _, _, _, _, _, _, _, _, _, _, _, _, _, _, _, _, _, _, _, _], []⟩ _
      refine take_pure 2 (v := .bool true) rfl (by kernel_rfl) rfl (fun w' hw => by simp [execOp, go_sem]) hH ?_
      show wpAnyH _ _ _ _ _ _ _ ⟨#[_, _, _, _, _, _, _, _, _, _, _, _, _, _, _, _, _, _, _, _, _, _, _, _, _, _, _, _, _, _, _, _, _, _, _, _, _, _, _, _, _, _, _, _, _, _, _, _, _, _, _, _, _, _, _, _, _, _, _, _, _, _, _, _, _, _, _, _, _, _, _, _, _, _, _, _, _, _, _, _, _, _, _, _, _, _, _, _, _, _, _, _, _, _, _, _, _, _, _, _, _, _, _, _, _, _, _, _, _, _, _, _, _, _, _, _, _, _, _, _, _, _, _, _, _, _, _, _, _, _, _, _, _, _, _, _, _, _, _, _, _, _, _, _, _, _, _, _, _, _, _, _, _, _, _, _, _, _, _, _, _, _, _, _, _, _, _, _, _, _, _, _, _, _, _, _, _, _], []⟩ _
      refine take_pure 3 (v := .bool true) rfl (by kernel_rfl) rfl (fun w' hw => by simp [execOp, go_sem]) hH ?_
      show wpAnyH _ _ _ _ _ _ _ ⟨#[_, _, _, _, _, _, _, _, _, _, _, _, _, _, _, _, _, _, _, _, _, _, _, _, _, _, _, _, _, _, _, _, _, _, _, _, _, _, _, _, _, _, _, _, _, _, _, _, _, _, _, _, _, _, _, _, _, _, _, _, _, _, _, _, _, _, _, _, _, _, _, _, _, _, _, _, _, _, _, _, _, _, _, _, _, _, _, _, _, _, _, _, _, _, _, _, _, _, _, _, _, _, _, _, _, _, _, _, _, _, _, _, _, _, _, _, _, _, _, _, _, _, _, _, _, _, _, _, _, _, _, _, _, _, _, _, _, _, _, _, _, _, _, _, _, _, _, _, _, _, _, _, _, _, _, _, _, _, _, _, _, _, _, _, _, _, _, _, _, _, _, _, _, _, _, _, _, _], []⟩ _
      refine take_if 4 (v := .agg #[.int .i64 j, .bool true]) rfl (by kernel_rfl) (yieldsIf_load_mid (by rfl) _ _ rfl N2 0 rfl [.int .i64 j, .bool true] _ (fun w' hw => hw.2.1.range) Try.underlying59 rfl infoWe) hH ?_
      show wpAnyH _ _ _ _ _ _ _ ⟨#[_, _, _, _, _, _, _, _, _, _, _, _, _, _, _, _, _, _, _, _, _, _, _, _, _, _, _, _, _, _, _, _, _, _, _, _, _, _, _, _, _, _, _, _, _, _, _, _, _, _, _, _, _, _, _, _, _, _, _, _, _, _, _, _, _, _, _, _, _, _, _, _, _, _, _, _, _, _, _, _, _, _, _, _, _, _, _, _, _, _, _, _, _, _, _, _, _, _, _, _, _, _, _, _, _, _, _, _, _, _, _, _, _, _, _, _, _, _, _, _, _, _, _, _, _, _, _, _, _, _, _, _, _, _, _, _, _, _, _, _, _, _, _, _, _, _, _, _, _, _, _, _, _, _, _, _, _, _, _, _, _, _, _, _, _, _, _, _, _, _, _, _, _, _, _, _, _, _], []⟩ _
      refine take_if 5 (v := .int .i64 j) rfl (by kernel_rfl) (.inl ⟨by rfl, fun w' hw => by simp [execOp, go_sem]⟩) hH ?_
      show wpAnyH _ _ _ _ _ _ _ ⟨#[_, _, _, _, _, _, _, _, _, _, _, _, _, _, _, _, _, _, _, _, _, _, _, _, _, _, _, _, _, _, _, _, _, _, _, _, _, _, _, _, _, _, _, _, _, _, _, _, _, _, _, _, _, _, _, _, _, _, _, _, _, _, _, _, _, _, _, _, _, _, _, _, _, _, _, _, _, _, _, _, _, _, _, _, _, _, _, _, _, _, _, _, _, _, _, _, _, _, _, _, _, _, _, _, _, _, _, _, _, _, _, _, _, _, _, _, _, _, _, _, _, _, _, _, _, _, _, _, _, _, _, _, _, _, _, _, _, _, _, _, _, _, _, _, _, _, _, _, _, _, _, _, _, _, _, _, _, _, _, _, _, _, _, _, _, _, _, _, _, _, _, _, _, _, _, _, _, _], []⟩ _
      refine take_if 6 (v := .bool true) rfl (by kernel_rfl) (.inl ⟨by rfl, fun w' hw => by simp [execOp, go_sem]⟩) hH ?_
      show wpAnyH _ _ _ _ _ _ _ ⟨#[_, _, _, _, _, _, _, _, _, _, _, _, _, _, _, _, _, _, _, _, _, _, _, _, _, _, _, _, _, _, _, _, _, _, _, _, _, _, _, _, _, _, _, _, _, _, _, _, _, _, _, _, _, _, _, _, _, _, _, _, _, _, _, _, _, _, _, _, _, _, _, _, _, _, _, _, _, _, _, _, _, _, _, _, _, _, _, _, _, _, _, _, _, _, _, _, _, _, _, _, _, _, _, _, _, _, _, _, _, _, _, _, _, _, _, _, _, _, _, _, _, _, _, _, _, _, _, _, _, _, _, _, _, _, _, _, _, _, _, _, _, _, _, _, _, _, _, _, _, _, _, _, _, _, _, _, _, _, _, _, _, _, _, _, _, _, _, _, _, _, _, _, _, _, _, _, _, _], []⟩ _
      refine take_if 7 (v := .agg #[.int .i64 j, .bool true]) rfl (by kernel_rfl) (.inl ⟨by rfl, fun w' hw => by simp [execOp, go_sem]⟩) hH ?_
      show wpAnyH _ _ _ _ _ _ _ ⟨#[_, _, _, _, _, _, _, _, _, _, _, _, _, _, _, _, _, _, _, _, _, _, _, _, _, _, _, _, _, _, _, _, _, _, _, _, _, _, _, _, _, _, _, _, _, _, _, _, _, _, _, _, _, _, _, _, _, _, _, _, _, _, _, _, _, _, _, _, _, _, _, _, _, _, _, _, _, _, _, _, _, _, _, _, _, _, _, _, _, _, _, _, _, _, _, _, _, _, _, _, _, _, _, _, _, _, _, _, _, _, _, _, _, _, _, _, _, _, _, _, _, _, _, _, _, _, _, _, _, _, _, _, _, _, _, _, _, _, _, _, _, _, _, _, _, _, _, _, _, _, _, _, _, _, _, _, _, _, _, _, _, _, _, _, _, _, _, _, _, _, _, _, _, _, _, _, _, _], []⟩ _
      refine take_if 8 (v := .bool true) rfl (by kernel_rfl) (.inl ⟨by rfl, fun w' hw => exec_eqlA 59 _ _ _ rfl _ _ _ rfl rfl gdW12 (fun w => by rw [eqW_eql]; simp) w'⟩) hH ?_
      show wpAnyH _ _ _ _ _ _ _ ⟨#[_, _, _, _, _, _, _, _, _, _, _, _, _, _, _, _, _, _, _, _, _, _, _, _, _, _, _, _, _, _, _, _, _, _, _, _, _, _, _, _, _, _, _, _, _, _, _, _, _, _, _, _, _, _, _, _, _, _, _, _, _, _, _, _, _, _, _, _, _, _, _, _, _, _, _, _, _, _, _, _, _, _, _, _, _, _, _, _, _, _, _, _, _, _, _, _, _, _, _, _, _, _, _, _, _, _, _, _, _, _, _, _, _, _, _, _, _, _, _, _, _, _, _, _, _, _, _, _, _, _, _, _, _, _, _, _, _, _, _, _, _, _, _, _, _, _, _, _, _, _, _, _, _, _, _, _, _, _, _, _, _, _, _, _, _, _, _, _, _, _, _, _, _, _, _, _, _, _], []⟩ _
      refine take_pure 9 (v := .bool true) rfl (by kernel_rfl) rfl (fun w' hw => by simp [execOp, go_sem]) hH ?_
      show wpAnyH _ _ _ _ _ _ _ ⟨#[_, _, _, _, _, _, _, _, _, _, _, _, _, _, _, _, _, _, _, _, _, _, _, _, _, _, _, _, _, _, _, _, _, _, _, _, _, _, _, _, _, _, _, _, _, _, _, _, _, _, _, _, _, _, _, _, _, _, _, _, _, _, _, _, _, _, _, _, _, _, _, _, _, _, _, _, _, _, _, _, _, _, _, _, _, _, _, _, _, _, _, _, _, _, _, _, _, _, _, _, _, _, _, _, _, _, _, _, _, _, _, _, _, _, _, _, _, _, _, _, _, _, _, _, _, _, _, _, _, _, _, _, _, _, _, _, _, _, _, _, _, _, _, _, _, _, _, _, _, _, _, _, _, _, _, _, _, _, _, _, _, _, _, _, _, _, _, _, _, _, _, _, _, _, _, _, _, _], []⟩ _
      refine take_pure 10 (v := .bool true) rfl (by kernel_rfl) rfl (fun w' hw => by simp [execOp, go_sem]) hH ?_
      show wpAnyH _ _ _ _ _ _ _ ⟨#[_, _, _, _, _, _, _, _, _, _, _, _, _, _, _, _, _, _, _, _, _, _, _, _, _, _, _, _, _, _, _, _, _, _, _, _, _, _, _, _, _, _, _, _, _, _, _, _, _, _, _, _, _, _, _, _, _, _, _, _, _, _, _, _, _, _, _, _, _, _, _, _, _, _, _, _, _, _, _, _, _, _, _, _, _, _, _, _, _, _, _, _, _, _, _, _, _, _, _, _, _, _, _, _, _, _, _, _, _, _, _, _, _, _, _, _, _, _, _, _, _, _, _, _, _, _, _, _, _, _, _, _, _, _, _, _, _, _, _, _, _, _, _, _, _, _, _, _, _, _, _, _, _, _, _, _, _, _, _, _, _, _, _, _, _, _, _, _, _, _, _, _, _, _, _, _, _, _], []⟩ _
      refine take_if 11 (v := .agg L1.toArray) rfl (by kernel_rfl) (yieldsIf_load_mid (by rfl) _ _ rfl N1 0 rfl L1 _ (fun w' hw => hw.2.2.1.range) Try.underlying40 rfl i1) hH ?_
      show wpAnyH _ _ _ _ _ _ _ ⟨#[_, _, _, _, _, _, _, _, _, _, _, _, _, _, _, _, _, _, _, _, _, _, _, _, _, _, _, _, _, _, _, _, _, _, _, _, _, _, _, _, _, _, _, _, _, _, _, _, _, _, _, _, _, _, _, _, _, _, _, _, _, _, _, _, _, _, _, _, _, _, _, _, _, _, _, _, _, _, _, _, _, _, _, _, _, _, _, _, _, _, _, _, _, _, _, _, _, _, _, _, _, _, _, _, _, _, _, _, _, _, _, _, _, _, _, _, _, _, _, _, _, _, _, _, _, _, _, _, _, _, _, _, _, _, _, _, _, _, _, _, _, _, _, _, _, _, _, _, _, _, _, _, _, _, _, _, _, _, _, _, _, _, _, _, _, _, _, _, _, _, _, _, _, _, _, _, _, _], []⟩ _
      refine take_if 12 (v := .agg L1.toArray) rfl (by kernel_rfl) (yieldsIf_load_mid (by rfl) _ _ rfl N4 0 rfl L1 _ (fun w' hw => hw.2.2.2.range) Try.underlying39 rfl iA1) hH ?_
      show wpAnyH _ _ _ _ _ _ _ ⟨#[_, _, _, _, _, _, _, _, _, _, _, _, _, _, _, _, _, _, _, _, _, _, _, _, _, _, _, _, _, _, _, _, _, _, _, _, _, _, _, _, _, _, _, _, _, _, _, _, _, _, _, _, _, _, _, _, _, _, _, _, _, _, _, _, _, _, _, _, _, _, _, _, _, _, _, _, _, _, _, _, _, _, _, _, _, _, _, _, _, _, _, _, _, _, _, _, _, _, _, _, _, _, _, _, _, _, _, _, _, _, _, _, _, _, _, _, _, _, _, _, _, _, _, _, _, _, _, _, _, _, _, _, _, _, _, _, _, _, _, _, _, _, _, _, _, _, _, _, _, _, _, _, _, _, _, _, _, _, _, _, _, _, _, _, _, _, _, _, _, _, _, _, _, _, _, _, _, _], []⟩ _
      refine take_if 13 (v := .bool true) rfl (by kernel_rfl) (.inl ⟨by rfl, fun w' hw => exec_eqlA 39 _ _ _ rfl L1.toArray L1.toArray _ rfl rfl gdB12 he1 w'⟩) hH ?_
      show wpAnyH _ _ _ _ _ _ _ ⟨#[_, _, _, _, _, _, _, _, _, _, _, _, _, _, _, _, _, _, _, _, _, _, _, _, _, _, _, _, _, _, _, _, _, _, _, _, _, _, _, _, _, _, _, _, _, _, _, _, _, _, _, _, _, _, _, _, _, _, _, _, _, _, _, _, _, _, _, _, _, _, _, _, _, _, _, _, _, _, _, _, _, _, _, _, _, _, _, _, _, _, _, _, _, _, _, _, _, _, _, _, _, _, _, _, _, _, _, _, _, _, _, _, _, _, _, _, _, _, _, _, _, _, _, _, _, _, _, _, _, _, _, _, _, _, _, _, _, _, _, _, _, _, _, _, _, _, _, _, _, _, _, _, _, _, _, _, _, _, _, _, _, _, _, _, _, _, _, _, _, _, _, _, _, _, _, _, _, _], []⟩ _
      refine take_pure 14 (v := .bool true) rfl (by kernel_rfl) rfl (fun w' hw => by simp [execOp, go_sem]) hH ?_
      show wpAnyH _ _ _ _ _ _ _ ⟨#[_, _, _, _, _, _, _, _, _, _, _, _, _, _, _, _, _, _, _, _, _, _, _, _, _, _, _, _, _, _, _, _, _, _, _, _, _, _, _, _, _, _, _, _, _, _, _, _, _, _, _, _, _, _, _, _, _, _, _, _, _, _, _, _, _, _, _, _, _, _, _, _, _, _, _, _, _, _, _, _, _, _, _, _, _, _, _, _, _, _, _, _, _, _, _, _, _, _, _, _, _, _, _, _, _, _, _, _, _, _, _, _, _, _, _, _, _, _, _, _, _, _, _, _, _, _, _, _, _, _, _, _, _, _, _, _, _, _, _, _, _, _, _, _, _, _, _, _, _, _, _, _, _, _, _, _, _, _, _, _, _, _, _, _, _, _, _, _, _, _, _, _, _, _, _, _, _, _], []⟩ _
      refine take_one 15 rfl rfl (by kernel_rfl) ?_
      refine wp_store_mid 34 _ _ rfl A2 0 LD2.toArray rfl rfl ht j9 o9 ?_
      refine ⟨⟨hH.1.putOther (by have := HN3.out; omega) 0 _, hH.2.1.putOther (by omega) 0 _, hH.2.2.1.putOther (by omega) 0 _, hH.2.2.2.putOther (by have := HN3.out; have := HN4.out; omega) 0 _⟩, fun hH => ?_⟩
      show wpAnyH _ _ _ _ _ _ _ ⟨#[_, _, _, _, _, _, _, _, _, _, _, _, _, _, _, _, _, _, _, _, _, _, _, _, _, _, _, _, _, _, _, _, _, _, _, _, _, _, _, _, _, _, _, _, _, _, _, _, _, _, _, _, _, _, _, _, _, _, _, _, _, _, _, _, _, _, _, _, _, _, _, _, _, _, _, _, _, _, _, _, _, _, _, _, _, _, _, _, _, _, _, _, _, _, _, _, _, _, _, _, _, _, _, _, _, _, _, _, _, _, _, _, _, _, _, _, _, _, _, _, _, _, _, _, _, _, _, _, _, _, _, _, _, _, _, _, _, _, _, _, _, _, _, _, _, _, _, _, _, _, _, _, _, _, _, _, _, _, _, _, _, _, _, _, _, _, _, _, _, _, _, _, _, _, _, _, _, _], []⟩ _
      refine take_pure 16 (v := .bool true) rfl (by kernel_rfl) rfl (fun w' hw => by simp [execOp, go_sem]) hH ?_
      show wpAnyH _ _ _ _ _ _ _ ⟨#[_, _, _, _, _, _, _, _, _, _, _, _, _, _, _, _, _, _, _, _, _, _, _, _, _, _, _, _, _, _, _, _, _, _, _, _, _, _, _, _, _, _, _, _, _, _, _, _, _, _, _, _, _, _, _, _, _, _, _, _, _, _, _, _, _, _, _, _, _, _, _, _, _, _, _, _, _, _, _, _, _, _, _, _, _, _, _, _, _, _, _, _, _, _, _, _, _, _, _, _, _, _, _, _, _, _, _, _, _, _, _, _, _, _, _, _, _, _, _, _, _, _, _, _, _, _, _, _, _, _, _, _, _, _, _, _, _, _, _, _, _, _, _, _, _, _, _, _, _, _, _, _, _, _, _, _, _, _, _, _, _, _, _, _, _, _, _, _, _, _, _, _, _, _, _, _, _, _], []⟩ _
      exact wpAnyH_done (by kernel_rfl) ⟨rfl, HQ9.out⟩ _
    case aft =>
      obtain ⟨rfl, hq9⟩ := hr
      have HQ9 : Hid (Pq w0 es ((A2, LD2) :: (A1, O) :: (A, LD) :: ls) lo B M r s b o d m n LD2 V3) := hq9
      clear hq9 HP
      go_wp2
      have hld := run_loadVar_mid (P := Try.prog) _ A2 0 34 LD2 _ (HQ9.out.cl (A2, LD2) (by simp)).range Try.underlying34 rfl i9
      refine bodyPost_ret (v := .tuple #[.agg LD2.toArray, .bool true]) ?_ rfl ⟨LD2, rfl, (HQ9.out.sub fun z hz9 => by simp [hz9]).mono (by omega)⟩
      simp [results, Try.f11, asAddr, hld]
  | false =>
    have cY : W8.rangeAt N3 0 LD2 := (HP.out.cl (N3, LD2) (by simp)).range
    have i2 : (Try.prog.info? 34).map (·.size) = some LD2.length := by rw [HP.out.ll]; exact infoD12
    go_wp2_with (first
      | refine wpList_load_mid rfl 34 _ rfl N3 0 rfl LD2 _ cY Try.underlying34 rfl i2 ?_)
    refine (pmSees HP.out HM.out j HJ.out.1 HJ.out.2).mono ?_
    rintro e W9 ⟨rfl, hp⟩
    rw [HRB.out.2.2 (by first | rfl | trivial)]
    have hv : rawV R = .agg L1.toArray := by unfold rawV; rw [HL1.out]
    rw [hv]
    replace HP : Hid (Pm w0 es ((N4, T0) :: (N3, LD2) :: (N2, [.int .i64 j, .bool false]) :: (N1, L1) :: (A2, X0) :: (A1, O) :: (A, LD) :: ls) lo B M r s b o d m n (gE E) l1 Y (l2 - 1) (tlZ Z) E l1 Y (l2 - 1) (tlZ Z) LD2 W9) := hp
    clear hp cY i2 hv
    obtain ⟨hp, ht⟩ := HP.out.put (L := L1) (by have h1 := HA.out; have h2 := HN.out; have h3 := HN3.out; have h4 := HLO.out; have h5 := HN4.out; omega) (by
      intro z hz9
      have h1 := HA.out
      have h2 := HN.out
      have h3 := HN3.out
      have h5 := HN4.out
      simp only [List.mem_cons] at hz9
      rcases hz9 with rfl | rfl | rfl | rfl | rfl | rfl | hz9
      · show N3 ≠ N4; omega
      · show N2 ≠ N4; omega
      · show N1 ≠ N4; omega
      · show A2 ≠ N4; omega
      · show A1 ≠ N4; omega
      · show A ≠ N4; omega
      · have := HL.out z hz9; omega) (by rw [lL, lT])
    go_upto_region 22 with (first | refine wpList_store_mid rfl 39 _ _ rfl N4 0 L1.toArray rfl rfl ht jA1 o1 ?_)
    obtain ⟨W10, hW9⟩ : ∃ W, W9.setCells N4 0 L1 = W := ⟨_, rfl⟩
    rw [hW9] at hp
    rw [hW9]
    replace HP : Hid (Pm w0 es ((N4, L1) :: (N3, LD2) :: (N2, [.int .i64 j, .bool false]) :: (N1, L1) :: (A2, X0) :: (A1, O) :: (A, LD) :: ls) lo B M r s b o d m n (gE E) l1 Y (l2 - 1) (tlZ Z) E l1 Y (l2 - 1) (tlZ Z) LD2 W10) := hp
    clear hp hW9 ht
    replace HP : Hid (Pm w0 es ((N4, L1) :: (N3, LD2) :: (N2, [.int .i64 j, .bool false]) :: (N1, L1) :: (A2, X0) :: (A1, O) :: (A, LD) :: ls) lo B M r s b o d m n (gE E) l1 Y (l2 - 1) (tlZ Z) E l1 Y (l2 - 1) (tlZ Z) LD2 W10.drew) := HP.out.next (below_drew1 _)
    obtain ⟨h9, ht⟩ := (HP.out.sub (ls' := ((A2, X0) :: (A1, O) :: (A, LD) :: ls)) fun z hz9 => (List.mem_cons_of_mem _ (List.mem_cons_of_mem _ (List.mem_cons_of_mem _ (List.mem_cons_of_mem _ hz9))))).put3 HA.out.1 HA.out.2 HL.out HLO.out (L := LD2) (by rw [HP.out.ll, lX])
    have HQ9 : Hid (Pq w0 es ((A2, LD2) :: (A1, O) :: (A, LD) :: ls) lo B M r s b o d m n LD2 (W10.drew.setCells A2 0 LD2)) := ⟨_, _, _, _, _, h9⟩
    have j9 : (Try.prog.info? 34).map (·.size) = some LD2.toArray.size := by rw [List.size_toArray, HP.out.ll]; exact infoD12
    have i9 : (Try.prog.info? 34).map (·.size) = some LD2.length := by rw [HP.out.ll]; exact infoD12
    have o9 := HP.out.one
    have n1 := HA.out
    have n2 := HN.out
    clear h9
    refine region_ends (by kernel_rfl) (fun W' => Cb W' N3 LD2 ∧ Cb W' N2 [.int .i64 j, .bool false] ∧ Cb W' N1 L1 ∧ Cb W' N4 L1) (fun a2 W' => a2 = ({ tmps := #[.pointer (some ⟨B, 0, none⟩), .agg LD.toArray, .agg O.toArray, ud, .pointer (some ⟨A, 0, none⟩), .pointer (some ⟨A1, 0, none⟩), .pointer (some ⟨A2, 0, none⟩), .bool true, ud, ud, ud, ud, ud, ud, ud, ud, .pointer (some ⟨N1, 0, none⟩), .pointer (some ⟨N2, 0, none⟩), .int .i64 0, .pointer (some ⟨N3, 0, none⟩), .int .i64 j, .bool false, .pointer (some ⟨N4, 0, none⟩), ud, ud, ud, .pointer (some ⟨A1, 0, none⟩), .int .i64 3, .bool false, .bool false, ud, ud, ud, ud, ud, ud, ud, ud, ud, ud, ud, ud, ud, ud, ud, ud, .bool false, .bool false, ud, ud, ud, ud, ud, ud, ud, ud, ud, ud, ud, ud, ud, ud, ud, ud, ud, ud, ud, ud, ud, ud, ud, ud, ud, ud, ud, ud, ud, ud, ud, ud, ud, ud, ud, ud, ud, ud, ud, ud, ud, ud, ud, ud, ud, ud, ud, .bool true, .bool true, .tuple #[.agg L1.toArray, .agg #[.int .i64 j, .bool false], .int .i64 0], .pointer (some ⟨B, 0, none⟩), .pointer (some ⟨A1, 1, none⟩), .int .i64 z1, .tuple #[.agg L1.toArray, .agg #[.int .i64 j, .bool false], .int .i64 0], .agg L1.toArray, .agg #[.int .i64 j, .bool false], .int .i64 0, .agg LD.toArray, .pointer (some ⟨A1, 1, none⟩), .int .i64 z1, .bool true, .bool false, ud, ud, ud, ud, ud, ud, ud, ud, ud, ud, ud, ud, ud, .tuple #[.agg LD2.toArray, .int .i64 j, .bool false], .agg LD.toArray, .pointer (some ⟨A1, 1, none⟩), .int .i64 z1, .tuple #[.agg LD2.toArray, .int .i64 j, .bool false], .agg LD2.toArray, .int .i64 j, .bool false, .bool false, .bool true, .agg LD2.toArray, .int .i64 j, .agg L1.toArray, .agg LD2.toArray, .int .i64 0, .bool true, .bool true, .agg #[.int .i64 j, .bool false], .int .i64 j, .bool false, .agg #[.int .i64 j, .bool false], .bool true, .bool true, .bool true, .agg L1.toArray, .agg L1.toArray, .bool true, .bool true, ud, ud, ud, ud, ud, ud, ud, ud, ud, ud, ud, ud, ud, ud, ud, ud, ud, ud, ud, ud, ud, ud, ud, ud, ud, ud, ud], defers := [] } : Act) ∧ Pq w0 es ((A2, LD2) :: (A1, O) :: (A, LD) :: ls) lo B M r s b o d m n LD2 W') ⟨HP.out.cl (N3, LD2) (by simp), HP.out.cl (N2, [.int .i64 j, .bool false]) (by simp), HP.out.cl (N1, L1) (by simp), HP.out.cl (N4, L1) (by simp)⟩ (fun hH => ?reg) (fun a2 V3 hr => ?aft)
    case reg =>
      refine take_if 0 (v := .agg LD2.toArray) rfl (by kernel_rfl) (yieldsIf_load_mid (by rfl) _ _ rfl N3 0 rfl LD2 _ (fun w' hw => hw.1.range) Try.underlying34 rfl i9) hH ?_
      show wpAnyH _ _ _ _ _ _ _ ⟨#[_, _, _, _, _, _, _, _, _, _, _, _, _, _, _, _, _, _, _, _, _, _, _, _, _, _, _, _, _, _, _, _, _, _, _, _, _, _, _, _, _, _, _, _, _, _, _, _, _, _, _, _, _, _, _, _, _, _, _, _, _, _, _, _, _, _, _, _, _, _, _, _, _, _, _, _, _, _, _, _, _, _, _, _, _, _, _, _, _, _, _, _, _, _, _, _, _, _, _, _, _, _, _, _, _, _, _, _, _, _, _, _, _, _, _, _, _, _, _, _, _, _, _, _, _, _, _, _, _, _, _, _, _, _, _, _, _, _, _, _, _, _, _, _, _, _, _, _, _, _, _, _, _, _, _, _, _, _, _, _, _, _, _, _, _, _, _, _, _, _, _, _, _, _, _, _, _, _], []⟩ _
      refine take_pure 1 (v := .int .i64 0) rfl (by kernel_rfl) rfl (fun w' hw => by simp [execOp, go_sem]) hH ?_
      show wpAnyH _ _ _ _ _ _ _ ⟨#[_, _, _, _, _, _, _, _, _, _, _, _, _, _, _, _, _, _, _, _, _, _, _, _, _, _, _, _, _, _, _, _, _, _, _, _, _, _, _, _, _, _, _, _, _, _, _, _, _, _, _, _, _, _, _, _, _, _, _, _, _, _, _, _, _, _, _, _, _, _, _, _, _, _, _, _, _, _, _, _, _, _, _, _, _, _, _, _, _, _, _, _, _, _, _, _, _, _, _, _, _, _, _, _, _, _, _, _, _, _, _, _, _, _, _, _, _, _, _, _, _, _, _, _, _, _, _, _, _, _, _, _, _, _, _, _, _, _, _, _, _, _, _, _, _, _, _, _, _, _, _, _, _, _, _, _, _, _, _, _, _, _, _, _, _, _, _, _, _, _, _, _, _, _, _, _, _, _], []⟩ _
      refine take_pure 2 (v := .bool true) rfl (by kernel_rfl) rfl (fun w' hw => by simp [execOp, go_sem]) hH ?_
      show wpAnyH _ _ _ _ _ _ _ ⟨#[_, _, _, _, _, _, _, _, _, _, _, _, _, _, _, _, _, _, _, _, _, _, _, _, _, _, _, _, _, _, _, _, _, _, _, _, _, _, _, _, _, _, _, _, _, _, _, _, _, _, _, _, _, _, _, _, _, _, _, _, _, _, _, _, _, _, _, _, _, _, _, _, _, _, _, _, _, _, _, _, _, _, _, _, _, _, _, _, _, _, _, _, _, _, _, _, _, _, _, _, _, _, _, _, _, _, _, _, _, _, _, _, _, _, _, _, _, _, _, _, _, _, _, _, _, _, _, _, _, _, _, _, _, _, _, _, _, _, _, _, _, _, _, _, _, _, _, _, _, _, _, _, _, _, _, _, _, _, _, _, _, _, _, _, _, _, _, _, _, _, _, _, _, _, _, _, _, _], []⟩ _
      refine take_pure 3 (v := .bool true) rfl (by kernel_rfl) rfl (fun w' hw => by simp [execOp, go_sem]) hH ?_
      show wpAnyH _ _ _ _ _ _ _ ⟨#[_, _, _, _, _, _, _, _, _, _, _, _, _, _, _, _, _, _, _, _, _, _, _, _, _, _, _, _, _, _, _, _, _, _, _, _, _, _, _, _, _, _, _, _, _, _, _, _, _, _, _, _, _, _, _, _, _, _, _, _, _, _, _, _, _, _, _, _, _, _, _, _, _, _, _, _, _, _, _, _, _, _, _, _, _, _, _, _, _, _, _, _, _, _, _, _, _, _, _, _, _, _, _, _, _, _, _, _, _, _, _, _, _, _, _, _, _, _, _, _, _, _, _, _, _, _, _, _, _, _, _, _, _, _, _, _, _, _, _, _, _, _, _, _, _, _, _, _, _, _, _, _, _, _, _, _, _, _, _, _, _, _, _, _, _, _, _, _, _, _, _, _, _, _, _, _, _, _], []⟩ _
      refine take_if 4 (v := .agg #[.int .i64 j, .bool false]) rfl (by kernel_rfl) (yieldsIf_load_mid (by rfl) _ _ rfl N2 0 rfl [.int .i64 j, .bool false] _ (fun w' hw => hw.2.1.range) Try.underlying59 rfl infoWe) hH ?_
      show wpAnyH _ _ _ _ _ _ _ ⟨#[_, _, _, _, _, _, _, _, _, _, _, _, _, _, _, _, _, _, _, _, _, _, _, _, _, _, _, _, _, _, _, _, _, _, _, _, _, _, _, _, _, _, _, _, _, _, _, _, _, _, _, _, _, _, _, _, _, _, _, _, _, _, _, _, _, _, _, _, _, _, _, _, _, _, _, _, _, _, _, _, _, _, _, _, _, _, _, _, _, _, _, _, _, _, _, _, _, _, _, _, _, _, _, _, _, _, _, _, _, _, _, _, _, _, _, _, _, _, _, _, _, _, _, _, _, _, _, _, _, _, _, _, _, _, _, _, _, _, _, _, _, _, _, _, _, _, _, _, _, _, _, _, _, _, _, _, _, _, _, _, _, _, _, _, _, _, _, _, _, _, _, _, _, _, _, _, _, _], []⟩ _
      refine take_if 5 (v := .int .i64 j) rfl (by kernel_rfl) (.inl ⟨by rfl, fun w' hw => by simp [execOp, go_sem]⟩) hH ?_
      show wpAnyH _ _ _ _ _ _ _ ⟨#[_, _, _, _, _, _, _, _, _, _, _, _, _, _, _, _, _, _, _, _, _, _, _, _, _, _, _, _, _, _, _, _, _, _, _, _, _, _, _, _, _, _, _, _, _, _, _, _, _, _, _, _, _, _, _, _, _, _, _, _, _, _, _, _, _, _, _, _, _, _, _, _, _, _, _, _, _, _, _, _, _, _, _, _, _, _, _, _, _, _, _, _, _, _, _, _, _, _, _, _, _, _, _, _, _, _, _, _, _, _, _, _, _, _, _, _, _, _, _, _, _, _, _, _, _, _, _, _, _, _, _, _, _, _, _, _, _, _, _, _, _, _, _, _, _, _, _, _, _, _, _, _, _, _, _, _, _, _, _, _, _, _, _, _, _, _, _, _, _, _, _, _, _, _, _, _, _, _], []⟩ _
      refine take_if 6 (v := .bool false) rfl (by kernel_rfl) (.inl ⟨by rfl, fun w' hw => by simp [execOp, go_sem]⟩) hH ?_
      show wpAnyH _ _ _ _ _ _ _ ⟨#[_, _, _, _, _, _, _, _, _, _, _, _, _, _, _, _, _, _, _, _, _, _, _, _, _, _, _, _, _, _, _, _, _, _, _, _, _, _, _, _, _, _, _, _, _, _, _, _, _, _, _, _, _, _, _, _, _, _, _, _, _, _, _, _, _, _, _, _, _, _, _, _, _, _, _, _, _, _, _, _, _, _, _, _, _, _, _, _, _, _, _, _, _, _, _, _, _, _, _, _, _, _, _, _, _, _, _, _, _, _, _, _, _, _, _, _, _, _, _, _, _, _, _, _, _, _, _, _, _, _, _, _, _, _, _, _, _, _, _, _, _, _, _, _, _, _, _, _, _, _, _, _, _, _, _, _, _, _, _, _, _, _, _, _, _, _, _, _, _, _, _, _, _, _, _, _, _, _], []⟩ _
      refine take_if 7 (v := .agg #[.int .i64 j, .bool false]) rfl (by kernel_rfl) (.inl ⟨by rfl, fun w' hw => by simp [execOp, go_sem]⟩) hH ?_
      show wpAnyH _ _ _ _ _ _ _ ⟨#[_, _, _, _, _, _, _, _, _, _, _, _, _, _, _, _, _, _, _, _, _, _, _, _, _, _, _, _, _, _, _, _, _, _, _, _, _, _, _, _, _, _, _, _, _, _, _, _, _, _, _, _, _, _, _, _, _, _, _, _, _, _, _, _, _, _, _, _, _, _, _, _, _, _, _, _, _, _, _, _, _, _, _, _, _, _, _, _, _, _, _, _, _, _, _, _, _, _, _, _, _, _, _, _, _, _, _, _, _, _, _, _, _, _, _, _, _, _, _, _, _, _, _, _, _, _, _, _, _, _, _, _, _, _, _, _, _, _, _, _, _, _, _, _, _, _, _, _, _, _, _, _, _, _, _, _, _, _, _, _, _, _, _, _, _, _, _, _, _, _, _, _, _, _, _, _, _, _], []⟩ _
      refine take_if 8 (v := .bool true) rfl (by kernel_rfl) (.inl ⟨by rfl, fun w' hw => exec_eqlA 59 _ _ _ rfl _ _ _ rfl rfl gdW12 (fun w => by rw [eqW_eql]; simp) w'⟩) hH ?_
      show wpAnyH _ _ _ _ _ _ _ ⟨#[_, _, _, _, _, _, _, _, _, _, _, _, _, _, _, _, _, _, _, _, _, _, _, _, _, _, _, _, _, _, _, _, _, _, _, _, _, _, _, _, _, _, _, _, _, _, _, _, _, _, _, _, _, _, _, _, _, _, _, _, _, _, _, _, _, _, _, _, _, _, _, _, _, _, _, _, _, _, _, _, _, _, _, _, _, _, _, _, _, _, _, _, _, _, _, _, _, _, _, _, _, _, _, _, _, _, _, _, _, _, _, _, _, _, _, _, _, _, _, _, _, _, _, _, _, _, _, _, _, _, _, _, _, _, _, _, _, _, _, _, _, _, _, _, _, _, _, _, _, _, _, _, _, _, _, _, _, _, _, _, _, _, _, _, _, _, _, _, _, _, _, _, _, _, _, _, _, _], []⟩ _
      refine take_pure 9 (v := .bool true) rfl (by kernel_rfl) rfl (fun w' hw => by simp [execOp, go_sem]) hH ?_
      show wpAnyH _ _ _ _ _ _ _ ⟨#[_, _, _, _, _, _, _, _, _, _, _, _, _, _, _, _, _, _, _, _, _, _, _, _, _, _, _, _, _, _, _, _, _, _, _, _, _, _, _, _, _, _, _, _, _, _, _, _, _, _, _, _, _, _, _, _, _, _, _, _, _, _, _, _, _, _, _, _, _, _, _, _, _, _, _, _, _, _, _, _, _, _, _, _, _, _, _, _, _, _, _, _, _, _, _, _, _, _, _, _, _, _, _, _, _, _, _, _, _, _, _, _, _, _, _, _, _, _, _, _, _, _, _, _, _, _, _, _, _, _, _, _, _, _, _, _, _, _, _, _, _, _, _, _, _, _, _, _, _, _, _, _, _, _, _, _, _, _, _, _, _, _, _, _, _, _, _, _, _, _, _, _, _, _, _, _, _, _], []⟩ _
      refine take_pure 10 (v := .bool true) rfl (by kernel_rfl) rfl (fun w' hw => by simp [execOp, go_sem]) hH ?_
      show wpAnyH _ _ _ _ _ _ _ ⟨#[_, _, _, _, _, _, _, _, _, _, _, _, _, _, _, _, _, _, _, _, _, _, _, _, _, _, _, _, _, _, _, _, _, _, _, _, _, _, _, _, _, _, _, _, _, _, _, _, _, _, _, _, _, _, _, _, _, _, _, _, _, _, _, _, _, _, _, _, _, _, _, _, _, _, _, _, _, _, _, _, _, _, _, _, _, _, _, _, _, _, _, _, _, _, _, _, _, _, _, _, _, _, _, _, _, _, _, _, _, _, _, _, _, _, _, _, _, _, _, _, _, _, _, _, _, _, _, _, _, _, _, _, _, _, _, _, _, _, _, _, _, _, _, _, _, _, _, _, _, _, _, _, _, _, _, _, _, _, _, _, _, _, _, _, _, _, _, _, _, _, _, _, _, _, _, _, _, _], []⟩ _
      refine take_if 11 (v := .agg L1.toArray) rfl (by kernel_rfl) (yieldsIf_load_mid (by rfl) _ _ rfl N1 0 rfl L1 _ (fun w' hw => hw.2.2.1.range) Try.underlying40 rfl i1) hH ?_
      show wpAnyH _ _ _ _ _ _ _ ⟨#[_, _, _, _, _, _, _, _, _, _, _, _, _, _, _, _, _, _, _, _, _, _, _, _, _, _, _, _, _, _, _, _, _, _, _, _, _, _, _, _, _, _, _, _, _, _, _, _, _, _, _, _, _, _, _, _, _, _, _, _, _, _, _, _, _, _, _, _, _, _, _, _, _, _, _, _, _, _, _, _, _, _, _, _, _, _, _, _, _, _, _, _, _, _, _, _, _, _, _, _, _, _, _, _, _, _, _, _, _, _, _, _, _, _, _, _, _, _, _, _, _, _, _, _, _, _, _, _, _, _, _, _, _, _, _, _, _, _, _, _, _, _, _, _, _, _, _, _, _, _, _, _, _, _, _, _, _, _, _, _, _, _, _, _, _, _, _, _, _, _, _, _, _, _, _, _, _, _], []⟩ _
      refine take_if 12 (v := .agg L1.toArray) rfl (by kernel_rfl) (yieldsIf_load_mid (by rfl) _ _ rfl N4 0 rfl L1 _ (fun w' hw => hw.2.2.2.range) Try.underlying39 rfl iA1) hH ?_
      show wpAnyH _ _ _ _ _ _ _ ⟨#[_, _, _, _, _, _, _, _, _, _, _, _, _, _, _, _, _, _, _, _, _, _, _, _, _, _, _, _, _, _, _, _, _, _, _, _, _, _, _, _, _, _, _, _, _, _, _, _, _, _, _, _, _, _, _, _, _, _, _, _, _, _, _, _, _, _, _, _, _, _, _, _, _, _, _, _, _, _, _, _, _, _, _, _, _, _, _, _, _, _, _, _, _, _, _, _, _, _, _, _, _, _, _, _, _, _, _, _, _, _, _, _, _, _, _, _, _, _, _, _, _, _, _, _, _, _, _, _, _, _, _, _, _, _, _, _, _, _, _, _, _, _, _, _, _, _, _, _, _, _, _, _, _, _, _, _, _, _, _, _, _, _, _, _, _, _, _, _, _, _, _, _, _, _, _, _, _, _], []⟩ _
      refine take_if 13 (v := .bool true) rfl (by kernel_rfl) (.inl ⟨by rfl, fun w' hw => exec_eqlA 39 _ _ _ rfl L1.toArray L1.toArray _ rfl rfl gdB12 he1 w'⟩) hH ?_
      show wpAnyH _ _ _ _ _ _ _ ⟨#[_, _, _, _, _, _, _, _, _, _, _, _, _, _, _, _, _, _, _, _, _, _, _, _, _, _, _, _, _, _, _, _, _, _, _, _, _, _, _, _, _, _, _, _, _, _, _, _, _, _, _, _, _, _, _, _, _, _, _, _, _, _, _, _, _, _, _, _, _, _, _, _, _, _, _, _, _, _, _, _, _, _, _, _, _, _, _, _, _, _, _, _, _, _, _, _, _, _, _, _, _, _, _, _, _, _, _, _, _, _, _, _, _, _, _, _, _, _, _, _, _, _, _, _, _, _, _, _, _, _, _, _, _, _, _, _, _, _, _, _, _, _, _, _, _, _, _, _, _, _, _, _, _, _, _, _, _, _, _, _, _, _, _, _, _, _, _, _, _, _, _, _, _, _, _, _, _, _], []⟩ _
      refine take_pure 14 (v := .bool true) rfl (by kernel_rfl) rfl (fun w' hw => by simp [execOp, go_sem]) hH ?_
      show wpAnyH _ _ _ _ _ _ _ ⟨#[_, _, _, _, _, _, _, _, _, _, _, _, _, _, _, _, _, _, _, _, _, _, _, _, _, _, _, _, _, _, _, _, _, _, _, _, _, _, _, _, _, _, _, _, _, _, _, _, _, _, _, _, _, _, _, _, _, _, _, _, _, _, _, _, _, _, _, _, _, _, _, _, _, _, _, _, _, _, _, _, _, _, _, _, _, _, _, _, _, _, _, _, _, _, _, _, _, _, _, _, _, _, _, _, _, _, _, _, _, _, _, _, _, _, _, _, _, _, _, _, _, _, _, _, _, _, _, _, _, _, _, _, _, _, _, _, _, _, _, _, _, _, _, _, _, _, _, _, _, _, _, _, _, _, _, _, _, _, _, _, _, _, _, _, _, _, _, _, _, _, _, _, _, _, _, _, _, _], []⟩ _
      refine take_one 15 rfl rfl (by kernel_rfl) ?_
      refine wp_store_mid 34 _ _ rfl A2 0 LD2.toArray rfl rfl ht j9 o9 ?_
      refine ⟨⟨hH.1.putOther (by have := HN3.out; omega) 0 _, hH.2.1.putOther (by omega) 0 _, hH.2.2.1.putOther (by omega) 0 _, hH.2.2.2.putOther (by have := HN3.out; have := HN4.out; omega) 0 _⟩, fun hH => ?_⟩
      show wpAnyH _ _ _ _ _ _ _ ⟨#[_, _, _, _, _, _, _, _, _, _, _, _, _, _, _, _, _, _, _, _, _, _, _, _, _, _, _, _, _, _, _, _, _, _, _, _, _, _, _, _, _, _, _, _, _, _, _, _, _, _, _, _, _, _, _, _, _, _, _, _, _, _, _, _, _, _, _, _, _, _, _, _, _, _, _, _, _, _, _, _, _, _, _, _, _, _, _, _, _, _, _, _, _, _, _, _, _, _, _, _, _, _, _, _, _, _, _, _, _, _, _, _, _, _, _, _, _, _, _, _, _, _, _, _, _, _, _, _, _, _, _, _, _, _, _, _, _, _, _, _, _, _, _, _, _, _, _, _, _, _, _, _, _, _, _, _, _, _, _, _, _, _, _, _, _, _, _, _, _, _, _, _, _, _, _, _, _, _], []⟩ _
      refine take_pure 16 (v := .bool true) rfl (by kernel_rfl) rfl (fun w' hw => by simp [execOp, go_sem]) hH ?_
      show wpAnyH _ _ _ _ _ _ _ ⟨#[_, _, _, _, _, _, _, _, _, _, _, _, _, _, _, _, _, _, _, _, _, _, _, _, _, _, _, _, _, _, _, _, _, _, _, _, _, _, _, _, _, _, _, _, _, _, _, _, _, _, _, _, _, _, _, _, _, _, _, _, _, _, _, _, _, _, _, _, _, _, _, _, _, _, _, _, _, _, _, _, _, _, _, _, _, _, _, _, _, _, _, _, _, _, _, _, _, _, _, _, _, _, _, _, _, _, _, _, _, _, _, _, _, _, _, _, _, _, _, _, _, _, _, _, _, _, _, _, _, _, _, _, _, _, _, _, _, _, _, _, _, _, _, _, _, _, _, _, _, _, _, _, _, _, _, _, _, _, _, _, _, _, _, _, _, _, _, _, _, _, _, _, _, _, _, _, _, _], []⟩ _
      exact wpAnyH_done (by kernel_rfl) ⟨rfl, HQ9.out⟩ _
    case aft =>
      obtain ⟨rfl, hq9⟩ := hr
      have HQ9 : Hid (Pq w0 es ((A2, LD2) :: (A1, O) :: (A, LD) :: ls) lo B M r s b o d m n LD2 V3) := hq9
      clear hq9 HP
      go_wp2
      have hld := run_loadVar_mid (P := Try.prog) _ A2 0 34 LD2 _ (HQ9.out.cl (A2, LD2) (by simp)).range Try.underlying34 rfl i9
      refine bodyPost_ret (v := .tuple #[.agg LD2.toArray, .bool true]) ?_ rfl ⟨LD2, rfl, (HQ9.out.sub fun z hz9 => by simp [hz9]).mono (by omega)⟩
      simp [results, Try.f11, asAddr, hld]
end
end Go.Proofs.Ytcpjmfemgdgplaa
