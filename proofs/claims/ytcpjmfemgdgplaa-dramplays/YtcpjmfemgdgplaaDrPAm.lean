/-
  The law DramPlays: every play of chips is the document's.
-/
import Derived.Test.YtcpjmfemgdgplaaDrP9m
namespace Go.Proofs.Ytcpjmfemgdgplaa
open Go.RowKit Go.Shelf
open Ge (pw rt hd ix)
attribute [local go_sem] Oper.semAt_some

set_option maxRecDepth 100000 in
set_option maxHeartbeats 8000000 in
theorem dramPlays_core (r s b o d m : Int) (a2 : Option Addr) (len cap : Nat) (Z : Nat → Nat → Int) (idx : Int) (hidx : I64 idx) (hgn : Ng r b o d) (w : World) (hz2 : IsMix KS12 w a2 len cap Z) :
    Calls Try.prog 3 #[.agg #[.int .i64 r, .int .i64 s, .int .i64 b, .int .i64 o, .int .i64 d], .int .i64 m, .slice a2 len cap, .int .i64 idx] w fun e w' => e = .returned (.bool true) ∧ Below w.heap.size w w' := by
  obtain ⟨k8, j8, hm⟩ := md_any m
  have HM : Hid (Md m k8 j8) := hm
  have HI : Hid (I64 idx) := hidx
  have HG : Hid (Ng r b o d) := hgn
  have HS : Hid (IsMix KS12 w a2 len cap Z) := hz2
  clear hm hidx hz2 hgn
  go_enter Try.func3, Try.ntmps3
  go_upto_region 1 with (fail)
  obtain ⟨A, hA⟩ : ∃ A, w.heap.size = A := ⟨_, rfl⟩
  obtain ⟨V, hV⟩ : ∃ V, w.alloc (.cells #[.int .i64 r, .int .i64 s, .int .i64 b, .int .i64 o, .int .i64 d] 23) = V := ⟨_, rfl⟩
  have HP : Hid (Pre w [(A, [.int .i64 r, .int .i64 s, .int .i64 b, .int .i64 o, .int .i64 d])] V) := by
    have h := (Pre.start w).lay [.int .i64 r, .int .i64 s, .int .i64 b, .int .i64 o, .int .i64 d] 23
    rw [hV, hA] at h
    exact h
  rw [hV, hA]
  clear hV
  go_wp2_with fail
  refine (anchor12_any _).mono ?_
  rintro e W1 ⟨rfl, b1⟩
  replace HP : Hid (Pre w [(A, [.int .i64 r, .int .i64 s, .int .i64 b, .int .i64 o, .int .i64 d])] W1) := HP.out.next b1
  clear b1
  by_cases hlen : (len : Int) > 40
  · have HZ : Hid (Below w.heap.size w W1) := HP.out.n
    clear HP
    go_wp2
    go_ret
    exact ⟨rfl, by first | exact HZ.out | (rw [hA] at HZ; exact HZ.out)⟩
  have hlen2 : len ≤ 40 := by omega
  have hg : W1.rangeAt A 0 [.int .i64 r, .int .i64 s, .int .i64 b, .int .i64 o, .int .i64 d] := HP.out.c0.range
  have hzd := zeroD12
  obtain ⟨X0, hX0⟩ : ∃ X, dl 0 0 0 0 0 0 (.slice none 0 0) (.slice none 0 0) (.slice none 0 0) = X := ⟨_, rfl⟩
  have lX : X0.length = 9 := by rw [← hX0]; rfl
  rw [hX0] at hzd
  obtain ⟨LD0, hLD⟩ : ∃ X, dl r s b o d m (.slice none 0 0) (.slice none 0 0) (.slice none 0 0) = X := ⟨_, rfl⟩
  have lD : LD0.length = 9 := by rw [← hLD]; rfl
  have HD : Hid ((LD0.drop 0).take 5 = [.int .i64 r, .int .i64 s, .int .i64 b, .int .i64 o, .int .i64 d] ∧ LD0.toArray.all (·.oneCell') = true ∧ dl r s b o d m (.slice none 0 0) (.slice none 0 0) (.slice none 0 0) = LD0) := by
    rw [← hLD]
    exact ⟨rfl, dl_one r s b o d m _ _ _ rfl rfl rfl, rfl⟩
  clear hX0 hLD
  go_wp2_with (first | refine wpList_load_mid rfl 23 _ rfl A 0 rfl [.int .i64 r, .int .i64 s, .int .i64 b, .int .i64 o, .int .i64 d] _ hg Try.underlying23 rfl infoGm ?_)
  by_cases hr : rt r s b o d = true
  case neg =>
    have hr0 : rt r s b o d = false := by simpa using hr
    refine (dNew_geom r s b o d m hr0 _).mono ?_
    rintro e W2 ⟨rfl, b2⟩
    replace HP : Hid (Pre w [(A, [.int .i64 r, .int .i64 s, .int .i64 b, .int .i64 o, .int .i64 d])] W2) := HP.out.next b2
    clear hg b2
    have hg : W2.rangeAt A 0 [.int .i64 r, .int .i64 s, .int .i64 b, .int .i64 o, .int .i64 d] := HP.out.c0.range
    have HX : Hid (∀ (op : Oper) (a : Act) (x y : Nat), op.op = .build 34 #[(0, .tmp x), (1, .tmp y)] → a.eval (.tmp x) = .agg #[.int .i64 r, .int .i64 s, .int .i64 b, .int .i64 o, .int .i64 d] → a.eval (.tmp y) = .int .i64 m → ∀ w, (execOp a.eval op).run Try.prog w = .ok (.value (.agg LD0.toArray)) w) := fun op a x y h1 h2 h3 w => by rw [← HD.out.2.2]; exact exec_d12 x y h1 r s b o d m h2 h3 w
    have iLX : (Try.prog.info? 34).map (·.size) = some LD0.toArray.size := by rw [List.size_toArray, lD]; exact infoD12
    have oneD := HD.out.2.1
    obtain ⟨h9, ht⟩ := HP.out.layA LD0 X0 34 (by rw [lD, lX])
    obtain ⟨K, hK⟩ : ∃ K, W2.heap.size = K := ⟨_, rfl⟩
    rw [hK] at h9 ht
    go_upto_region 7 with (first
      | refine wpList_load_mid rfl 23 _ rfl A 0 rfl [.int .i64 r, .int .i64 s, .int .i64 b, .int .i64 o, .int .i64 d] _ hg Try.underlying23 rfl infoGm ?_
      | refine wpList_known_g (by rfl) (.agg LD0.toArray) (HX.out _ _ _ _ rfl rfl rfl _) ?_
      | refine wpList_store_mid rfl 34 _ _ rfl K 0 LD0.toArray rfl rfl ht iLX oneD ?_)
    obtain ⟨W3, hW3⟩ : ∃ W, (W2.alloc (.cells X0.toArray 34)).setCells K 0 LD0 = W := ⟨_, rfl⟩
    rw [hW3] at h9 ⊢
    clear hW3 HX iLX oneD ht hK
    replace HP : Hid (Pre w [(K, LD0), (A, [.int .i64 r, .int .i64 s, .int .i64 b, .int .i64 o, .int .i64 d])] W3) := h9
    clear h9 hg
    have hg : W3.rangeAt K 0 [.int .i64 r, .int .i64 s, .int .i64 b, .int .i64 o, .int .i64 d] := HP.out.c0.rangeAt 0 [.int .i64 r, .int .i64 s, .int .i64 b, .int .i64 o, .int .i64 d] HD.out.1
    go_wp2_with (first | refine wpList_load_mid rfl 30 _ rfl K 0 rfl [.int .i64 r, .int .i64 s, .int .i64 b, .int .i64 o, .int .i64 d] _ hg Try.underlying30 rfl infoG12 ?_)
    refine (refRight_any r s b o d HG.out.1 HG.out.2.1 HG.out.2.2.1 HG.out.2.2.2 _).mono ?_
    rintro e W4 ⟨rfl, b4⟩
    clear hg
    have HZ : Hid (Below w.heap.size w W4) := (HP.out.next b4).n
    rw [hr0]
    clear HP b4 hr hr0
    go_wp2
    go_ret
    exact ⟨rfl, by first | exact HZ.out | (rw [hA] at HZ; exact HZ.out)⟩
  by_cases hk : 0 < k8
  case neg =>
    have hm1 : m ≠ 1 := by rcases HM.out with ⟨_, h, _⟩ | ⟨_, h, _⟩ | ⟨h1, h2, _⟩; omega; omega; exact h1
    have hm2 : m ≠ 2 := by rcases HM.out with ⟨_, h, _⟩ | ⟨_, h, _⟩ | ⟨h1, h2, _⟩; omega; omega; exact h2
    refine (dNew_mode r s b o d m hr (Md.none m hm1 hm2) _).mono ?_
    rintro e W2 ⟨rfl, b2⟩
    replace HP : Hid (Pre w [(A, [.int .i64 r, .int .i64 s, .int .i64 b, .int .i64 o, .int .i64 d])] W2) := HP.out.next b2
    clear hg b2
    have hg : W2.rangeAt A 0 [.int .i64 r, .int .i64 s, .int .i64 b, .int .i64 o, .int .i64 d] := HP.out.c0.range
    have HX : Hid (∀ (op : Oper) (a : Act) (x y : Nat), op.op = .build 34 #[(0, .tmp x), (1, .tmp y)] → a.eval (.tmp x) = .agg #[.int .i64 r, .int .i64 s, .int .i64 b, .int .i64 o, .int .i64 d] → a.eval (.tmp y) = .int .i64 m → ∀ w, (execOp a.eval op).run Try.prog w = .ok (.value (.agg LD0.toArray)) w) := fun op a x y h1 h2 h3 w => by rw [← HD.out.2.2]; exact exec_d12 x y h1 r s b o d m h2 h3 w
    have iLX : (Try.prog.info? 34).map (·.size) = some LD0.toArray.size := by rw [List.size_toArray, lD]; exact infoD12
    have oneD := HD.out.2.1
    obtain ⟨h9, ht⟩ := HP.out.layA LD0 X0 34 (by rw [lD, lX])
    obtain ⟨K, hK⟩ : ∃ K, W2.heap.size = K := ⟨_, rfl⟩
    rw [hK] at h9 ht
    go_upto_region 7 with (first
      | refine wpList_load_mid rfl 23 _ rfl A 0 rfl [.int .i64 r, .int .i64 s, .int .i64 b, .int .i64 o, .int .i64 d] _ hg Try.underlying23 rfl infoGm ?_
      | refine wpList_known_g (by rfl) (.agg LD0.toArray) (HX.out _ _ _ _ rfl rfl rfl _) ?_
      | refine wpList_store_mid rfl 34 _ _ rfl K 0 LD0.toArray rfl rfl ht iLX oneD ?_)
    obtain ⟨W3, hW3⟩ : ∃ W, (W2.alloc (.cells X0.toArray 34)).setCells K 0 LD0 = W := ⟨_, rfl⟩
    rw [hW3] at h9 ⊢
    clear hW3 HX iLX oneD ht hK
    replace HP : Hid (Pre w [(K, LD0), (A, [.int .i64 r, .int .i64 s, .int .i64 b, .int .i64 o, .int .i64 d])] W3) := h9
    clear h9 hg
    have hg : W3.rangeAt K 0 [.int .i64 r, .int .i64 s, .int .i64 b, .int .i64 o, .int .i64 d] := HP.out.c0.rangeAt 0 [.int .i64 r, .int .i64 s, .int .i64 b, .int .i64 o, .int .i64 d] HD.out.1
    go_wp2_with (first | refine wpList_load_mid rfl 30 _ rfl K 0 rfl [.int .i64 r, .int .i64 s, .int .i64 b, .int .i64 o, .int .i64 d] _ hg Try.underlying30 rfl infoG12 ?_)
    refine (refRight_any r s b o d HG.out.1 HG.out.2.1 HG.out.2.2.1 HG.out.2.2.2 _).mono ?_
    rintro e W4 ⟨rfl, b4⟩
    clear hg
    have HZ : Hid (Below w.heap.size w W4) := (HP.out.next b4).n
    rw [hr]
    have e1 : (m != 1) = true := by simpa using hm1
    have e2 : (m != 2) = true := by simpa using hm2
    clear HP b4 hr
    go_wp2
    go_ret
    exact ⟨rfl, by first | exact HZ.out | (rw [hA] at HZ; exact HZ.out)⟩
  have hm12 : m = 1 ∨ m = 2 := by
    rcases HM.out with ⟨h, _⟩ | ⟨h, _⟩ | ⟨_, _, h, _⟩
    · exact .inl h
    · exact .inr h
    · omega
  refine (lwNew HP.out hr HM.out hk).mono ?_
  rintro e W2 ⟨B, M, rfl, h2⟩
  obtain ⟨lo, hlo⟩ : ∃ lo, W1.heap.size = lo := ⟨_, rfl⟩
  rw [hlo] at h2
  have HQ : Hid (Pq w [(A, [.int .i64 r, .int .i64 s, .int .i64 b, .int .i64 o, .int .i64 d])] [] lo B M r s b o d m (0) LD0 W2) := by rw [← HD.out.2.2]; exact pqNew h2
  clear h2 HP hg hlo
  have hg : W2.rangeAt A 0 [.int .i64 r, .int .i64 s, .int .i64 b, .int .i64 o, .int .i64 d] := (HQ.out.ce (A, [.int .i64 r, .int .i64 s, .int .i64 b, .int .i64 o, .int .i64 d]) (by simp)).range
  have HX : Hid (∀ (op : Oper) (a : Act) (x y : Nat), op.op = .build 34 #[(0, .tmp x), (1, .tmp y)] → a.eval (.tmp x) = .agg #[.int .i64 r, .int .i64 s, .int .i64 b, .int .i64 o, .int .i64 d] → a.eval (.tmp y) = .int .i64 m → ∀ w, (execOp a.eval op).run Try.prog w = .ok (.value (.agg LD0.toArray)) w) := fun op a x y h1 h2 h3 w => by rw [← HD.out.2.2]; exact exec_d12 x y h1 r s b o d m h2 h3 w
  have iLX : (Try.prog.info? 34).map (·.size) = some LD0.toArray.size := by rw [List.size_toArray, lD]; exact infoD12
  have oneD := HD.out.2.1
  obtain ⟨h9, ht⟩ := HQ.out.layA LD0 X0 34 (by rw [lD, lX])
  obtain ⟨K, hK⟩ : ∃ K, W2.heap.size = K := ⟨_, rfl⟩
  have HLK : Hid (lo ≤ K) := by rw [← hK]; exact HQ.out.lo_le.1
  rw [hK] at h9 ht
  go_upto_region 7 with (first
    | refine wpList_load_mid rfl 23 _ rfl A 0 rfl [.int .i64 r, .int .i64 s, .int .i64 b, .int .i64 o, .int .i64 d] _ hg Try.underlying23 rfl infoGm ?_
    | refine wpList_known_g (by rfl) (.agg LD0.toArray) (HX.out _ _ _ _ rfl rfl rfl _) ?_
    | refine wpList_store_mid rfl 34 _ _ rfl K 0 LD0.toArray rfl rfl ht iLX oneD ?_)
  obtain ⟨W3, hW3⟩ : ∃ W, (W2.alloc (.cells X0.toArray 34)).setCells K 0 LD0 = W := ⟨_, rfl⟩
  rw [hW3] at h9 ⊢
  clear hW3 HX iLX oneD ht hK
  replace HQ : Hid (Pq w [(A, [.int .i64 r, .int .i64 s, .int .i64 b, .int .i64 o, .int .i64 d])] [(K, LD0)] lo B M r s b o d m (0) LD0 W3) := h9
  clear h9 hg
  have hg : W3.rangeAt K 0 [.int .i64 r, .int .i64 s, .int .i64 b, .int .i64 o, .int .i64 d] := (HQ.out.cl (K, LD0) (by simp)).rangeAt 0 [.int .i64 r, .int .i64 s, .int .i64 b, .int .i64 o, .int .i64 d] HD.out.1
  go_wp2_with (first | refine wpList_load_mid rfl 30 _ rfl K 0 rfl [.int .i64 r, .int .i64 s, .int .i64 b, .int .i64 o, .int .i64 d] _ hg Try.underlying30 rfl infoG12 ?_)
  refine (refRight_any r s b o d HG.out.1 HG.out.2.1 HG.out.2.2.1 HG.out.2.2.2 _).mono ?_
  rintro e W4 ⟨rfl, b4⟩
  clear hg
  replace HQ : Hid (Pq w [(A, [.int .i64 r, .int .i64 s, .int .i64 b, .int .i64 o, .int .i64 d])] [(K, LD0)] lo B M r s b o d m (0) LD0 W4) := HQ.out.next b4
  rw [hr]
  clear b4 hr hk
  go_upto_region 9 with (fail)
  go_cut [52] (fun a wx => a = .bool false ∧ wx = W4)
  case first =>
    rcases hm12 with rfl | rfl
    all_goals
      go_wp2
      go_meet
      case rel => exact ⟨rfl, rfl⟩
  obtain ⟨rfl, hwc⟩ := hcut
  rw [hwc]
  clear hwc
  go_step
  have hzr := zeroR
  obtain ⟨T0, hT0⟩ : ∃ Z, (ints .u8 72 fun _ => 0) = Z := ⟨_, rfl⟩
  have HT0 : Hid ((ints .u8 72 fun _ => 0) = T0 ∧ T0.length = 72) := ⟨hT0, by rw [← hT0]; exact ints_len _ _ _⟩
  rw [hT0] at hzr
  have hzo := zeroOp
  obtain ⟨O0, hO0⟩ : ∃ Z, (oc12 fun _ => 0) = Z := ⟨_, rfl⟩
  have lo0 : O0.length = 83 := by rw [← hO0]; exact oc12_len _
  rw [hO0] at hzo
  have HR0 : Hid (∃ LD, Pq w [(A, [.int .i64 r, .int .i64 s, .int .i64 b, .int .i64 o, .int .i64 d])] [(K, LD)] lo B M r s b o d m (700 * 0) LD W4) := ⟨LD0, HQ.out⟩
  have HSL : Hid (0 < len → ∃ pb po, a2 = some ⟨pb, po, none⟩ ∧ ∀ W, Below w.heap.size w W → ∀ t, t < len → W.rangeAt pb (po + t * 83) (oc12 (Z t)) ∧ (∀ j, j < 11 → I64 (Z t j)) ∧ Byts 72 fun j => Z t (j + 11)) := mix_open HS.out
  clear HS HQ HD lD hT0 hO0 hzd lX hm12
  go_wp2
  go_loopw [67] (fun i wr => ∃ t : Nat, t ≤ len ∧ i = .int .i64 (t : Int) ∧ Hid (∃ LD, Pq w [(A, [.int .i64 r, .int .i64 s, .int .i64 b, .int .i64 o, .int .i64 d])] [(K, LD)] lo B M r s b o d m (700 * t) LD wr)) (fun i _ => len - (intOf i).toNat)
  case atStart => exact ⟨0, by omega, rfl, HR0⟩
  case round =>
    clear HR0
    obtain ⟨t, ht, rfl, HR⟩ := hrel
    obtain ⟨LD, hq⟩ := HR.out
    by_cases hlt : t < len
    · obtain ⟨pb, po, rfl, HO⟩ := HSL.out (by omega)
      obtain ⟨hop, hi11, hrb⟩ := HO wr hq.bel t hlt
      have CS : Hid (∀ ls W, Pq w [(A, [.int .i64 r, .int .i64 s, .int .i64 b, .int .i64 o, .int .i64 d])] ls lo B M r s b o d m (700 * t) LD W → Calls Try.prog 11 #[.pointer (some ⟨B, 0, none⟩), .agg LD.toArray, .agg (oc12 (Z t)).toArray] W fun e w' => ∃ LD', e = .returned (.tuple #[.agg LD'.toArray, .bool true]) ∧ Pq w [(A, [.int .i64 r, .int .i64 s, .int .i64 b, .int .i64 o, .int .i64 d])] ls lo B M r s b o d m (700 * t + 700) LD' w') := fun ls W h => dStep_any h HM.out HG.out (Z t) hi11 hrb (by omega)
      obtain ⟨O, hO⟩ : ∃ O, oc12 (Z t) = O := ⟨_, rfl⟩
      have HO2 : Hid (O.length = 83 ∧ O.toArray.all (·.oneCell') = true) := by
        rw [← hO]
        exact ⟨oc12_len _, all_oneCell_toArray (oc12_one _)⟩
      rw [hO] at hop CS
      have iO : (Try.prog.info? 42).map (·.size) = some O.length := by rw [HO2.out.1]; exact infoOp
      have iOX : (Try.prog.info? 42).map (·.size) = some O.toArray.size := by rw [List.size_toArray, HO2.out.1]; exact infoOp
      have oneO := HO2.out.2
      obtain ⟨h9, htO⟩ := hq.layA O O0 42 (by rw [HO2.out.1, lo0])
      obtain ⟨C, hC⟩ : ∃ C, wr.heap.size = C := ⟨_, rfl⟩
      rw [hC] at h9 htO
      clear hO hi11 hrb HO HR
      go_upto_region 16 with (first
        | refine wpList_load_mid rfl 42 _ rfl pb (po + t * 83) rfl O _ hop Try.underlying42 rfl iO ?_
        | refine wpList_store_mid rfl 42 _ _ rfl C 0 O.toArray rfl rfl htO iOX oneO ?_)
      obtain ⟨W6, hW6⟩ : ∃ W, (wr.alloc (.cells O0.toArray 42)).setCells C 0 O = W := ⟨_, rfl⟩
      rw [hW6] at h9 ⊢
      have HQ : Hid (Pq w [(A, [.int .i64 r, .int .i64 s, .int .i64 b, .int .i64 o, .int .i64 d])] [(C, O), (K, LD)] lo B M r s b o d m (700 * t) LD W6) := h9
      clear hW6 h9 htO hC hq hop
      have hOr : W6.rangeAt C 0 O := (HQ.out.cl (C, O) (by simp)).range
      have hDr : W6.rangeAt K 0 LD := (HQ.out.cl (K, LD) (by simp)).range
      have iLD : (Try.prog.info? 34).map (·.size) = some LD.length := by rw [HQ.out.ll]; exact infoD12
      go_wp2_with (first
        | refine wpList_load_mid rfl 42 _ rfl C 0 rfl O _ hOr Try.underlying42 rfl iO ?_
        | refine wpList_load_mid rfl 34 _ rfl K 0 rfl LD _ hDr Try.underlying34 rfl iLD ?_)
      refine (CS.out _ _ HQ.out).mono ?_
      rintro e W7 ⟨LD2, rfl, h7⟩
      obtain ⟨h8, ht8⟩ := (h7.sub (ls' := [(K, LD)]) (by simp)).put (L := LD2) HLK.out (fun x hx => by simp at hx) (by rw [h7.ll, HQ.out.ll])
      have iL2 : (Try.prog.info? 34).map (·.size) = some LD2.toArray.size := by rw [List.size_toArray, h7.ll]; exact infoD12
      have one2 := h7.one
      have HR2 : Hid (∃ LD, Pq w [(A, [.int .i64 r, .int .i64 s, .int .i64 b, .int .i64 o, .int .i64 d])] [(K, LD)] lo B M r s b o d m (700 * (t + 1)) LD (W7.setCells K 0 LD2)) := ⟨LD2, h8⟩
      clear h8 h7 hOr hDr HQ CS HO2 iO iOX oneO iLD
      go_upto_region 18 with (first | refine wpList_store_mid rfl 34 _ _ rfl K 0 LD2.toArray rfl rfl ht8 iL2 one2 ?_)
      clear ht8 iL2 one2
      go_wp2
      go_roundw
      case rel => exact ⟨t + 1, by omega, by go_num, HR2⟩
      case measure => simp [intOf]; omega
    · obtain rfl : t = len := by omega
      clear HSL HR hzo lo0
      obtain ⟨l1, Y, l2, Zc, E, hp⟩ := hq
      obtain ⟨N1, hN1⟩ : ∃ N1, 700 * t = N1 := ⟨_, rfl⟩
      rw [hN1] at hp
      clear hN1 hlt
      go_wp2_with fail
      refine (pmFaults hp).mono ?_
      rintro e W6 ⟨fa, fc, rfl, hf6, _, hp6⟩
      go_wp2_with fail
      refine (pmComing hp6).mono ?_
      rintro e W7 ⟨ca, cc, rfl, hc7, b7, hp7⟩
      obtain ⟨a1, c1, x2, c2, e7, e8, hl7, hl8⟩ := hp7.las
      have HY : Hid (Ly w [(A, [.int .i64 r, .int .i64 s, .int .i64 b, .int .i64 o, .int .i64 d])] K lo B M r s b o d m N1 l1 Y l2 Zc E LD fa fc ca cc a1 c1 x2 c2 W7) := ⟨hp7, hf6.below b7, hc7, hl7, hl8, e7, e8⟩
      obtain ⟨hle1, hle2⟩ := hp7.le
      clear hp hp6 hf6 hc7 b7 hp7 e7 e8 hl7 hl8
      go_upto_region 22 with (fail)
      refine region_calm (by kernel_rfl) (by kernel_rfl) (fun W => Below W7.heap.size W7 W) (below_drew1 W7) ?_
      intro U hU f hf hof
      have HN : Hid (∀ u W, Below (f u).heap.size (f u) W → ∃ x, W = f x) := fun u W h => hof W ((hf u).trans (h.mono (hf u).size))
      have HE : Hid (∀ y, Ly w [(A, [.int .i64 r, .int .i64 s, .int .i64 b, .int .i64 o, .int .i64 d])] K lo B M r s b o d m N1 l1 Y l2 Zc E LD fa fc ca cc a1 c1 x2 c2 (f y)) := fun y => HY.out.next (hf y)
      have d7 : ∀ y, (f y).cell? ⟨K, 7, none⟩ = some (.slice a1 l1 c1) := fun y => (HE.out y).d7
      have d8 : ∀ y, (f y).cell? ⟨K, 8, none⟩ = some (.slice x2 l2 c2) := fun y => (HE.out y).d8
      clear hf hof HY
      go_big_quiet_step (fail)
      go_big_quiet_step (fail)
      go_big_quiet_step (fail)
      go_big_quiet_step (fail)
      go_big_quiet_step (fail)
      go_big_quiet_step (fail)
      go_big_quiet_step (fail)
      go_big_quiet_step (fail)
      go_big_quiet_step (fail)
      go_big_quiet_step (fail)
      go_big_quiet_step (fail)
      go_big_quiet_step (fail)
      go_big_quiet_step (fail)
      go_big_quiet_step (fail)
      go_big_quiet_step (fail)
      go_big_quiet_step (fail)
      go_big_quiet_step ((go_at_call 14; exact calm_next HN.out (HE.out _).pm.geomB))
      refine quiet_load (by rfl) 23 _ rfl A 0 rfl [.int .i64 r, .int .i64 s, .int .i64 b, .int .i64 o, .int .i64 d] _ (by rintro _ ⟨y, rfl⟩; exact ((HE.out y).pm.ce (A, [.int .i64 r, .int .i64 s, .int .i64 b, .int .i64 o, .int .i64 d]) (by simp)).range) Try.underlying23 rfl infoGm ?_
      simp only [Act.put, List.setIfInBounds_toArray, List.set_cons_zero, List.set_cons_succ]
      refine quiet_one (by rfl) (.bool false) (exec_neqA 23 _ _ _ rfl _ _ _ rfl rfl eqGm_gd (eqGm_neq r s b o d)) ?_
      simp only [Act.put, List.setIfInBounds_toArray, List.set_cons_zero, List.set_cons_succ]
      go_big_quiet_step (fail)
      go_big_quiet_step (fail)
      go_big_quiet_step (fail)
      go_big_quiet_step ((go_at_call 15; exact calm_next HN.out (HE.out _).pm.modeB))
      go_big_quiet_step (fail)
      go_big_quiet_step (fail)
      go_big_quiet_step (fail)
      refine wpQuiet_nil ?_
      rintro _ ⟨y, rfl⟩
      have HY : Hid (Ly w [(A, [.int .i64 r, .int .i64 s, .int .i64 b, .int .i64 o, .int .i64 d])] K lo B M r s b o d m N1 l1 Y l2 Zc E LD fa fc ca cc a1 c1 x2 c2 (f y)) := HE.out y
      obtain ⟨W8, hW8⟩ : ∃ W, f y = W := ⟨_, rfl⟩
      rw [hW8] at HY ⊢
      clear hW8 HE HN d7 d8 hU
      go_wp2
      go_loopw [113] (fun i wr => ∃ t : Nat, t ≤ l1 ∧ i = .int .i64 (t : Int) ∧ Hid (Ly w [(A, [.int .i64 r, .int .i64 s, .int .i64 b, .int .i64 o, .int .i64 d])] K lo B M r s b o d m N1 l1 Y l2 Zc E LD fa fc ca cc a1 c1 x2 c2 wr)) (fun i _ => l1 - (intOf i).toNat)
      case atStart => exact ⟨0, by omega, rfl, HY⟩
      case round =>
        clear HY
        obtain ⟨t2, ht2, rfl, HY⟩ := hrel
        by_cases hlt : t2 < l1
        · obtain ⟨fb, fo, rfl, _, _⟩ := HY.out.fa.at_ (by omega)
          obtain ⟨b1, o1, rfl, _, _⟩ := HY.out.la.at_ (by omega)
          have hr := fs_rg HY.out.fa hlt
          have HL : Hid (∀ W, Ly w [(A, [.int .i64 r, .int .i64 s, .int .i64 b, .int .i64 o, .int .i64 d])] K lo B M r s b o d m N1 l1 Y l2 Zc E LD (some ⟨fb, fo, none⟩) fc ca cc (some ⟨b1, o1, none⟩) c1 x2 c2 W → W.rangeAt b1 (o1 + t2 * 8) [.int .i64 (Y t2 0), .int .i64 (Y t2 1), .int .i64 (Y t2 2), .int .i64 (Y t2 3), .int .i64 (Y t2 4), .int .i64 (Y t2 5), .int .i64 (Y t2 6), .int .i64 (Y t2 7)]) := fun W h => fs_rg h.la hlt
          obtain ⟨z0, hz0⟩ : ∃ z, Y t2 0 = z := ⟨_, rfl⟩
          obtain ⟨z1, hz1⟩ : ∃ z, Y t2 1 = z := ⟨_, rfl⟩
          obtain ⟨z2, hz2⟩ : ∃ z, Y t2 2 = z := ⟨_, rfl⟩
          obtain ⟨z3, hz3⟩ : ∃ z, Y t2 3 = z := ⟨_, rfl⟩
          obtain ⟨z4, hz4⟩ : ∃ z, Y t2 4 = z := ⟨_, rfl⟩
          obtain ⟨z5, hz5⟩ : ∃ z, Y t2 5 = z := ⟨_, rfl⟩
          obtain ⟨z6, hz6⟩ : ∃ z, Y t2 6 = z := ⟨_, rfl⟩
          obtain ⟨z7, hz7⟩ : ∃ z, Y t2 7 = z := ⟨_, rfl⟩
          rw [hz0, hz1, hz2, hz3, hz4, hz5, hz6, hz7] at hr HL
          clear hz0 hz1 hz2 hz3 hz4 hz5 hz6 hz7
          have hcl : t2 < l1 := hlt
          have hcm : l1 ≤ c1 := HY.out.la.le
          go_upto_region 27 with (first | refine wpList_load_mid rfl 38 _ rfl fb (fo + t2 * 8) rfl [.int .i64 z0, .int .i64 z1, .int .i64 z2, .int .i64 z3, .int .i64 z4, .int .i64 z5, .int .i64 z6, .int .i64 z7] _ hr Try.underlying38 rfl infoFt ?_)
          obtain ⟨J, hJ⟩ : ∃ J, wr.heap.size = J := ⟨_, rfl⟩
          obtain ⟨W9, hW9⟩ : ∃ W, wr.alloc (.cells #[.int .i64 z0, .int .i64 z1, .int .i64 z2, .int .i64 z3, .int .i64 z4, .int .i64 z5, .int .i64 z6, .int .i64 z7] 38) = W := ⟨_, rfl⟩
          have HF : Hid (Ft W9 J z0 z1 z2 z3 z4 z5 z6 z7 ∧ Ly w [(A, [.int .i64 r, .int .i64 s, .int .i64 b, .int .i64 o, .int .i64 d])] K lo B M r s b o d m N1 l1 Y l2 Zc E LD (some ⟨fb, fo, none⟩) fc ca cc (some ⟨b1, o1, none⟩) c1 x2 c2 W9) := by
            rw [← hW9, ← hJ]
            exact ⟨Ft.new wr _ _ _ _ _ _ _ _ _, HY.out.next ((Below.refl _ wr).alloc (Nat.le_refl _) _)⟩
          rw [hW9, hJ]
          clear hr hW9 hJ HY
          refine region_calm (by kernel_rfl) (by kernel_rfl) (fun W => Below W9.heap.size W9 W) (below_drew1 W9) ?_
          intro U hU f hf hof
          have HN : Hid (∀ u W, Below (f u).heap.size (f u) W → ∃ x, W = f x) := fun u W h => hof W ((hf u).trans (h.mono (hf u).size))
          have HE : Hid (∀ y, Ft (f y) J z0 z1 z2 z3 z4 z5 z6 z7 ∧ Ly w [(A, [.int .i64 r, .int .i64 s, .int .i64 b, .int .i64 o, .int .i64 d])] K lo B M r s b o d m N1 l1 Y l2 Zc E LD (some ⟨fb, fo, none⟩) fc ca cc (some ⟨b1, o1, none⟩) c1 x2 c2 (f y)) := fun y => ⟨HF.out.1.next (hf y), HF.out.2.next (hf y)⟩
          have d7 : ∀ y, (f y).cell? ⟨K, 7, none⟩ = some (.slice (some ⟨b1, o1, none⟩) l1 c1) := fun y => (HE.out y).2.d7
          clear hf hof HF
          refine quiet_load rfl 38 _ rfl J 0 rfl [.int .i64 z0, .int .i64 z1, .int .i64 z2, .int .i64 z3, .int .i64 z4, .int .i64 z5, .int .i64 z6, .int .i64 z7] _ (by rintro _ ⟨y, rfl⟩; exact (HE.out y).1.range) Try.underlying38 rfl infoFt ?_
          simp only [Act.put, List.setIfInBounds_toArray, List.set_cons_zero, List.set_cons_succ]
          go_big_quiet_step ((go_at_call 16; exact calm_next HN.out (of12_any _ _ _ _ _ _ _ _ _)))
          go_big_quiet_step (fail)
          go_big_quiet_step (fail)
          go_big_quiet_step (fail)
          go_big_quiet_step (fail)
          refine quiet_load rfl 51 _ rfl b1 (o1 + t2 * 8) rfl [.int .i64 z0, .int .i64 z1, .int .i64 z2, .int .i64 z3, .int .i64 z4, .int .i64 z5, .int .i64 z6, .int .i64 z7] _ (by rintro _ ⟨y, rfl⟩; exact HL.out _ (HE.out y).2) Try.underlying51 rfl infoF12t ?_
          simp only [Act.put, List.setIfInBounds_toArray, List.set_cons_zero, List.set_cons_succ]
          refine quiet_one (by rfl) (.bool false) (exec_neqA 51 _ _ _ rfl _ _ _ rfl rfl eqH_gd (fun w => by rw [eqH_neq]; simp)) ?_
          simp only [Act.put, List.setIfInBounds_toArray, List.set_cons_zero, List.set_cons_succ]
          refine wpQuiet_nil ?_
          rintro _ ⟨y, rfl⟩
          have HY : Hid (Ly w [(A, [.int .i64 r, .int .i64 s, .int .i64 b, .int .i64 o, .int .i64 d])] K lo B M r s b o d m N1 l1 Y l2 Zc E LD (some ⟨fb, fo, none⟩) fc ca cc (some ⟨b1, o1, none⟩) c1 x2 c2 (f y)) := (HE.out y).2
          obtain ⟨W10, hW10⟩ : ∃ W, f y = W := ⟨_, rfl⟩
          rw [hW10] at HY ⊢
          clear hW10 HE HN d7 hU HL
          go_wp2
          go_roundw
          case rel => exact ⟨t2 + 1, by omega, by go_num, HY⟩
          case measure => simp [intOf]; omega
        · obtain rfl : l1 = t2 := by omega
          clear hlt
          go_wp2
          go_loopw [129] (fun i wr => ∃ t : Nat, t ≤ l2 ∧ i = .int .i64 (t : Int) ∧ Hid (Ly w [(A, [.int .i64 r, .int .i64 s, .int .i64 b, .int .i64 o, .int .i64 d])] K lo B M r s b o d m N1 l1 Y l2 Zc E LD fa fc ca cc a1 c1 x2 c2 wr)) (fun i _ => l2 - (intOf i).toNat)
          case atStart => exact ⟨0, by omega, rfl, HY⟩
          case round =>
            clear HY
            obtain ⟨t3, ht3, rfl, HY⟩ := hrel
            by_cases hlt : t3 < l2
            · obtain ⟨fb, fo, rfl, _, _⟩ := HY.out.co.at_ (by omega)
              obtain ⟨b1, o1, rfl, _, _⟩ := HY.out.lc.at_ (by omega)
              have hr := fs_rg HY.out.co hlt
              have HL : Hid (∀ W, Ly w [(A, [.int .i64 r, .int .i64 s, .int .i64 b, .int .i64 o, .int .i64 d])] K lo B M r s b o d m N1 l1 Y l2 Zc E LD fa fc (some ⟨fb, fo, none⟩) cc a1 c1 (some ⟨b1, o1, none⟩) c2 W → W.rangeAt b1 (o1 + t3 * 8) [.int .i64 (Zc t3 0), .int .i64 (Zc t3 1), .int .i64 (Zc t3 2), .int .i64 (Zc t3 3), .int .i64 (Zc t3 4), .int .i64 (Zc t3 5), .int .i64 (Zc t3 6), .int .i64 (Zc t3 7)]) := fun W h => fs_rg h.lc hlt
              obtain ⟨z0, hz0⟩ : ∃ z, Zc t3 0 = z := ⟨_, rfl⟩
              obtain ⟨z1, hz1⟩ : ∃ z, Zc t3 1 = z := ⟨_, rfl⟩
              obtain ⟨z2, hz2⟩ : ∃ z, Zc t3 2 = z := ⟨_, rfl⟩
              obtain ⟨z3, hz3⟩ : ∃ z, Zc t3 3 = z := ⟨_, rfl⟩
              obtain ⟨z4, hz4⟩ : ∃ z, Zc t3 4 = z := ⟨_, rfl⟩
              obtain ⟨z5, hz5⟩ : ∃ z, Zc t3 5 = z := ⟨_, rfl⟩
              obtain ⟨z6, hz6⟩ : ∃ z, Zc t3 6 = z := ⟨_, rfl⟩
              obtain ⟨z7, hz7⟩ : ∃ z, Zc t3 7 = z := ⟨_, rfl⟩
              rw [hz0, hz1, hz2, hz3, hz4, hz5, hz6, hz7] at hr HL
              clear hz0 hz1 hz2 hz3 hz4 hz5 hz6 hz7
              have hcl : t3 < l2 := hlt
              have hcm : l2 ≤ c2 := HY.out.lc.le
              go_upto_region 33 with (first | refine wpList_load_mid rfl 38 _ rfl fb (fo + t3 * 8) rfl [.int .i64 z0, .int .i64 z1, .int .i64 z2, .int .i64 z3, .int .i64 z4, .int .i64 z5, .int .i64 z6, .int .i64 z7] _ hr Try.underlying38 rfl infoFt ?_)
              obtain ⟨J, hJ⟩ : ∃ J, wr.heap.size = J := ⟨_, rfl⟩
              obtain ⟨W9, hW9⟩ : ∃ W, wr.alloc (.cells #[.int .i64 z0, .int .i64 z1, .int .i64 z2, .int .i64 z3, .int .i64 z4, .int .i64 z5, .int .i64 z6, .int .i64 z7] 38) = W := ⟨_, rfl⟩
              have HF : Hid (Ft W9 J z0 z1 z2 z3 z4 z5 z6 z7 ∧ Ly w [(A, [.int .i64 r, .int .i64 s, .int .i64 b, .int .i64 o, .int .i64 d])] K lo B M r s b o d m N1 l1 Y l2 Zc E LD fa fc (some ⟨fb, fo, none⟩) cc a1 c1 (some ⟨b1, o1, none⟩) c2 W9) := by
                rw [← hW9, ← hJ]
                exact ⟨Ft.new wr _ _ _ _ _ _ _ _ _, HY.out.next ((Below.refl _ wr).alloc (Nat.le_refl _) _)⟩
              rw [hW9, hJ]
              clear hr hW9 hJ HY
              refine region_calm (by kernel_rfl) (by kernel_rfl) (fun W => Below W9.heap.size W9 W) (below_drew1 W9) ?_
              intro U hU f hf hof
              have HN : Hid (∀ u W, Below (f u).heap.size (f u) W → ∃ x, W = f x) := fun u W h => hof W ((hf u).trans (h.mono (hf u).size))
              have HE : Hid (∀ y, Ft (f y) J z0 z1 z2 z3 z4 z5 z6 z7 ∧ Ly w [(A, [.int .i64 r, .int .i64 s, .int .i64 b, .int .i64 o, .int .i64 d])] K lo B M r s b o d m N1 l1 Y l2 Zc E LD fa fc (some ⟨fb, fo, none⟩) cc a1 c1 (some ⟨b1, o1, none⟩) c2 (f y)) := fun y => ⟨HF.out.1.next (hf y), HF.out.2.next (hf y)⟩
              have d8 : ∀ y, (f y).cell? ⟨K, 8, none⟩ = some (.slice (some ⟨b1, o1, none⟩) l2 c2) := fun y => (HE.out y).2.d8
              clear hf hof HF
              refine quiet_load rfl 38 _ rfl J 0 rfl [.int .i64 z0, .int .i64 z1, .int .i64 z2, .int .i64 z3, .int .i64 z4, .int .i64 z5, .int .i64 z6, .int .i64 z7] _ (by rintro _ ⟨y, rfl⟩; exact (HE.out y).1.range) Try.underlying38 rfl infoFt ?_
              simp only [Act.put, List.setIfInBounds_toArray, List.set_cons_zero, List.set_cons_succ]
              go_big_quiet_step ((go_at_call 16; exact calm_next HN.out (of12_any _ _ _ _ _ _ _ _ _)))
              go_big_quiet_step (fail)
              go_big_quiet_step (fail)
              go_big_quiet_step (fail)
              go_big_quiet_step (fail)
              refine quiet_load rfl 51 _ rfl b1 (o1 + t3 * 8) rfl [.int .i64 z0, .int .i64 z1, .int .i64 z2, .int .i64 z3, .int .i64 z4, .int .i64 z5, .int .i64 z6, .int .i64 z7] _ (by rintro _ ⟨y, rfl⟩; exact HL.out _ (HE.out y).2) Try.underlying51 rfl infoF12t ?_
              simp only [Act.put, List.setIfInBounds_toArray, List.set_cons_zero, List.set_cons_succ]
              refine quiet_one (by rfl) (.bool false) (exec_neqA 51 _ _ _ rfl _ _ _ rfl rfl eqH_gd (fun w => by rw [eqH_neq]; simp)) ?_
              simp only [Act.put, List.setIfInBounds_toArray, List.set_cons_zero, List.set_cons_succ]
              refine wpQuiet_nil ?_
              rintro _ ⟨y, rfl⟩
              have HY : Hid (Ly w [(A, [.int .i64 r, .int .i64 s, .int .i64 b, .int .i64 o, .int .i64 d])] K lo B M r s b o d m N1 l1 Y l2 Zc E LD fa fc (some ⟨fb, fo, none⟩) cc a1 c1 (some ⟨b1, o1, none⟩) c2 (f y)) := (HE.out y).2
              obtain ⟨W10, hW10⟩ : ∃ W, f y = W := ⟨_, rfl⟩
              rw [hW10] at HY ⊢
              clear hW10 HE HN d8 hU HL
              go_wp2
              go_roundw
              case rel => exact ⟨t3 + 1, by omega, by go_num, HY⟩
              case measure => simp [intOf]; omega
            · obtain rfl : l2 = t3 := by omega
              clear hlt
              by_cases hy : hx r s b o d idx = true
              · have HYx : Hid (hx r s b o d idx = true) := hy
                clear hy
                go_wp2_with fail
                obtain ⟨X, hX⟩ : ∃ X, ovF k8 Y (idx / 1048576) (idx / 65536 % 16) (idx / 64 % 1024) (idx % 64) (gE E idx) l1 = X := ⟨_, rfl⟩
                have HX : Hid (Byts 72 X ∧ ovF k8 Y (idx / 1048576) (idx / 65536 % 16) (idx / 64 % 1024) (idx % 64) (gE E idx) l1 = X) := by
                  refine ⟨?_, hX⟩
                  rw [← hX]
                  exact HY.out.pm.wfB _ _ _ _ _
                refine (pmLook HY.out.pm HM.out idx HI.out HYx.out).mono ?_
                rintro e W9 ⟨rfl, h9⟩
                rw [hX]
                clear hX
                obtain ⟨LX, hLX⟩ : ∃ L, ints .u8 72 X = L := ⟨_, rfl⟩
                have HLX : Hid (ints .u8 72 X = LX ∧ LX.length = 72 ∧ LX.toArray.all (·.oneCell') = true) := by
                  rw [← hLX]
                  exact ⟨rfl, ints_len _ _ _, ints_one .u8 72 _⟩
                rw [show rawV X = .agg LX.toArray by rw [← hLX]; rfl]
                clear hLX
                have iX : (Try.prog.info? 40).map (·.size) = some LX.toArray.size := by rw [List.size_toArray, HLX.out.2.1]; exact infoR
                have oneX := HLX.out.2.2
                obtain ⟨h10, ht⟩ := h9.layA LX T0 40 (by rw [HLX.out.2.1, HT0.out.2])
                obtain ⟨R, hR⟩ : ∃ R, W9.heap.size = R := ⟨_, rfl⟩
                rw [hR] at h10 ht
                clear h9 HY
                go_upto_region 37 with (first | refine wpList_store_mid rfl 40 _ _ rfl R 0 LX.toArray rfl rfl ht iX oneX ?_)
                obtain ⟨W10, hW10⟩ : ∃ W, (W9.alloc (.cells T0.toArray 40)).setCells R 0 LX = W := ⟨_, rfl⟩
                rw [hW10] at h10 ⊢
                have HQ : Hid (Pm w [(A, [.int .i64 r, .int .i64 s, .int .i64 b, .int .i64 o, .int .i64 d])] [(R, LX), (K, LD)] lo B M r s b o d m N1 (gE E) l1 Y l2 Zc E l1 Y l2 Zc LD  W10) := h10
                clear hW10 h10 ht iX oneX hR
                have hDr : W10.rangeAt K 0 LD := (HQ.out.cl (K, LD) (by simp)).range
                have iLD : (Try.prog.info? 34).map (·.size) = some LD.length := by rw [HQ.out.ll]; exact infoD12
                go_wp2_with (first | refine wpList_load_mid rfl 34 _ rfl K 0 rfl LD _ hDr Try.underlying34 rfl iLD ?_)
                refine (pmHas HQ.out HG.out idx HI.out).mono ?_
                rintro e W11 ⟨rfl, h11⟩
                rw [HYx.out]
                replace HQ : Hid (Pm w [(A, [.int .i64 r, .int .i64 s, .int .i64 b, .int .i64 o, .int .i64 d])] [(R, LX), (K, LD)] lo B M r s b o d m N1 (gE E) l1 Y l2 Zc E l1 Y l2 Zc LD  W11) := h11
                clear h11 hDr
                go_upto_region 39 with (fail)
                have hl0 := hx_low HYx.out
                have iX : (Try.prog.info? 40).map (·.size) = some LX.length := by rw [HLX.out.2.1]; exact infoR
                have CL : Hid (∀ W, Pm w [(A, [.int .i64 r, .int .i64 s, .int .i64 b, .int .i64 o, .int .i64 d])] [(R, LX), (K, LD)] lo B M r s b o d m N1 (gE E) l1 Y l2 Zc E l1 Y l2 Zc LD  W → Calls Try.prog 19 #[.agg LD.toArray, .int .i64 idx] W fun e w' => e = .returned (.agg LX.toArray) ∧ Below W.heap.size W w') := fun W h => by
                  have h1 := h.seesB HM.out idx hl0.1 HI.out
                  rw [HX.out.2] at h1
                  unfold rawV at h1
                  rwa [HLX.out.1] at h1
                have QE : Hid (∀ w, (binOp .eql 39 (.agg LX.toArray) (.agg LX.toArray)).run Try.prog w = .ok (.bool true) w) := fun w => by
                  rw [← HLX.out.1]
                  exact eqlB12 X X HX.out.1 HX.out.1 true (by simp) w
                refine region_calm (by kernel_rfl) (by kernel_rfl) (fun W => Below W11.heap.size W11 W) (below_drew1 W11) ?_
                intro U hU f hf hof
                have HN : Hid (∀ u W, Below (f u).heap.size (f u) W → ∃ x, W = f x) := fun u W h => hof W ((hf u).trans (h.mono (hf u).size))
                have HE : Hid (∀ y, Pm w [(A, [.int .i64 r, .int .i64 s, .int .i64 b, .int .i64 o, .int .i64 d])] [(R, LX), (K, LD)] lo B M r s b o d m N1 (gE E) l1 Y l2 Zc E l1 Y l2 Zc LD  (f y)) := fun y => HQ.out.next (hf y)
                clear hf hof HQ
                go_big_quiet_step (fail)
                go_big_quiet_step (fail)
                go_big_quiet_step (fail)
                refine quiet_load (by rfl) 40 _ rfl R 0 rfl LX _ (by rintro _ ⟨y, rfl⟩; exact ((HE.out y).cl (R, LX) (by simp)).range) Try.underlying40 rfl iX ?_
                simp only [Act.put, List.setIfInBounds_toArray, List.set_cons_zero, List.set_cons_succ]
                refine quiet_load (by rfl) 34 _ rfl K 0 rfl LD _ (by rintro _ ⟨y, rfl⟩; exact ((HE.out y).cl (K, LD) (by simp)).range) Try.underlying34 rfl iLD ?_
                simp only [Act.put, List.setIfInBounds_toArray, List.set_cons_zero, List.set_cons_succ]
                go_big_quiet_step (fail)
                go_big_quiet_step ((go_at_call 19; exact calm_next HN.out (CL.out _ (HE.out _))))
                refine quiet_one (by rfl) (.bool true) (exec_eqlA 39 _ _ _ rfl LX.toArray LX.toArray _ rfl rfl gdB12 QE.out) ?_
                simp only [Act.put, List.setIfInBounds_toArray, List.set_cons_zero, List.set_cons_succ]
                go_big_quiet_step (fail)
                go_big_quiet_step (fail)
                refine wpQuiet_nil ?_
                rintro _ ⟨y, rfl⟩
                have HZ : Hid (Below w.heap.size w (f y)) := (HE.out y).bel
                clear HE HN
                go_wp2
                go_ret
                exact ⟨rfl, by first | exact HZ.out | (rw [hA] at HZ; exact HZ.out)⟩
              · have HYx : Hid (hx r s b o d idx = false) := (by simpa using hy : hx r s b o d idx = false)
                clear hy
                go_wp2_with fail
                obtain ⟨X, hX⟩ : ∃ X : Nat → Int, (fun _ => 0) = X := ⟨_, rfl⟩
                have HX : Hid ((fun _ => 0) = X) := hX
                refine (pmLook_no HY.out.pm idx HYx.out).mono ?_
                rintro e W9 ⟨rfl, h9⟩
                rw [hX]
                clear hX
                obtain ⟨LX, hLX⟩ : ∃ L, ints .u8 72 X = L := ⟨_, rfl⟩
                have HLX : Hid (ints .u8 72 X = LX ∧ LX.length = 72 ∧ LX.toArray.all (·.oneCell') = true) := by
                  rw [← hLX]
                  exact ⟨rfl, ints_len _ _ _, ints_one .u8 72 _⟩
                rw [show rawV X = .agg LX.toArray by rw [← hLX]; rfl]
                clear hLX
                have iX : (Try.prog.info? 40).map (·.size) = some LX.toArray.size := by rw [List.size_toArray, HLX.out.2.1]; exact infoR
                have oneX := HLX.out.2.2
                obtain ⟨h10, ht⟩ := h9.layA LX T0 40 (by rw [HLX.out.2.1, HT0.out.2])
                obtain ⟨R, hR⟩ : ∃ R, W9.heap.size = R := ⟨_, rfl⟩
                rw [hR] at h10 ht
                clear h9 HY
                go_upto_region 37 with (first | refine wpList_store_mid rfl 40 _ _ rfl R 0 LX.toArray rfl rfl ht iX oneX ?_)
                obtain ⟨W10, hW10⟩ : ∃ W, (W9.alloc (.cells T0.toArray 40)).setCells R 0 LX = W := ⟨_, rfl⟩
                rw [hW10] at h10 ⊢
                have HQ : Hid (Pm w [(A, [.int .i64 r, .int .i64 s, .int .i64 b, .int .i64 o, .int .i64 d])] [(R, LX), (K, LD)] lo B M r s b o d m N1 (gE E) l1 Y l2 Zc E l1 Y l2 Zc LD  W10) := h10
                clear hW10 h10 ht iX oneX hR
                have hDr : W10.rangeAt K 0 LD := (HQ.out.cl (K, LD) (by simp)).range
                have iLD : (Try.prog.info? 34).map (·.size) = some LD.length := by rw [HQ.out.ll]; exact infoD12
                go_wp2_with (first | refine wpList_load_mid rfl 34 _ rfl K 0 rfl LD _ hDr Try.underlying34 rfl iLD ?_)
                refine (pmHas HQ.out HG.out idx HI.out).mono ?_
                rintro e W11 ⟨rfl, h11⟩
                rw [HYx.out]
                replace HQ : Hid (Pm w [(A, [.int .i64 r, .int .i64 s, .int .i64 b, .int .i64 o, .int .i64 d])] [(R, LX), (K, LD)] lo B M r s b o d m N1 (gE E) l1 Y l2 Zc E l1 Y l2 Zc LD  W11) := h11
                clear h11 hDr
                have hRr : W11.rangeAt R 0 LX := (HQ.out.cl (R, LX) (by simp)).range
                have iX : (Try.prog.info? 40).map (·.size) = some LX.length := by rw [HLX.out.2.1]; exact infoR
                have eX : LX = T0 := by rw [← HLX.out.1, ← HT0.out.1, ← HX.out]
                have QE : ∀ w, (binOp .eql 40 (.agg LX.toArray) (.agg T0.toArray)).run Try.prog w = .ok (.bool true) w := fun w => by
                  rw [eX, ← HT0.out.1]
                  exact eqlR (fun _ => 0) (fun _ => 0) (fun _ _ => by simp) (fun _ _ => by simp) true (by simp) w
                have QB : ∀ w, (Instr.build 40 #[]).run Try.prog w = .ok (.agg T0.toArray) w := fun w => by rw [← HT0.out.1]; exact build0R12 w
                have HZ : Hid (Below w.heap.size w W11) := HQ.out.bel
                clear HQ eX
                go_wp2_with (first
                  | refine wpList_load_g (by rfl) 40 _ rfl R 0 rfl LX _ hRr Try.underlying40 rfl iX ?_
                  | refine wpList_known_g (by rfl) (.agg T0.toArray) (exec_build12 40 rfl _ QB _) ?_
                  | refine wpList_known_g (by rfl) (.bool true) (exec_eqlA 40 _ _ _ rfl LX.toArray T0.toArray _ rfl rfl gdR12 QE _) ?_)
                go_ret
                exact ⟨rfl, by first | exact HZ.out | (rw [hA] at HZ; exact HZ.out)⟩
theorem dramPlays_walk (a0 : Nat → Int) (a1 : Int) (a2 : Option Addr) (len2 cap2 : Nat) (Z2 : Nat → Nat → Int) (a3 : Int) (w0 : ∀ i, i < 5 → (Lit.int .i64 (a0 i)).wf = true) (_w1 : (Lit.int .i64 a1).wf = true) (w3 : (Lit.int .i64 a3).wf = true) (w : World) (w2 : IsMix (List.replicate 11 IntKind.i64 ++ List.replicate 72 IntKind.u8) w a2 len2 cap2 Z2) :
    Calls Try.prog 3 #[.agg (ints .i64 5 a0).toArray, .int .i64 a1, .slice a2 len2 cap2, .int .i64 a3] w fun e w' => e = .returned (.bool true) ∧ Below w.heap.size w w' :=
  dramPlays_core (a0 0) (a0 1) (a0 2) (a0 3) (a0 4) a1 a2 len2 cap2 Z2 a3 (i64_wf w3) ⟨i64_wf (w0 0 (by omega)), i64_wf (w0 2 (by omega)), i64_wf (w0 3 (by omega)), i64_wf (w0 4 (by omega))⟩ w w2
end Go.Proofs.Ytcpjmfemgdgplaa
