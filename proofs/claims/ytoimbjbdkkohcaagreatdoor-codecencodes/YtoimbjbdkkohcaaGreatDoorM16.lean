/-
  Texts of one family, one behind another: CoW6.
-/
import Derived.Test.YtoimbjbdkkohcaaGreatDoorM15

/-
  A line in raw bytes of the mode 2.
-/
namespace Go.Proofs.YtoimbjbdkkohcaaGreatDoor
open Go.RowKit Go.Shelf
open Po (El toE)
open Rm (IsCode)
attribute [local go_sem] Oper.semAt_some

theorem ints_arr10 (n : Nat) (F : Nat → Int) (hF : Byts n F) : ints .u8 n F = arr n (fun i => toE (F i)) := by
  unfold ints arr
  refine List.map_congr_left fun i hi => ?_
  have h := hF i (List.mem_range.1 hi)
  rw [show oe (toE (F i)) = F i from ofE_toE _ h.1 h.2]
theorem arr_ints (n : Nat) (K : Nat → El) : arr n K = ints .u8 n (fun i => oe (K i)) := rfl
theorem isCode_congr {W U : Nat → El} (h : ∀ i, i < 39 → W i = U i) (hc : IsCode U) : IsCode W := fun j hj => by
  have e := congrFun (sy_congr h) j
  exact e.trans (hc j hj)
/-- the first k words are laid -/
structure Ec (F : Nat → Int) (G : Nat → El) (k : Nat) (X : Nat → Int) : Prop where
  b : Byts 72 X
  d : ∀ j, j < k → ∀ i, i < 32 → X (36 * j + (4 + i)) = F (32 * j + i)
  c : ∀ j, j < k → IsCode (wd (Co.rw X j) G)
/-- a word's bytes: its checks, its data -/
def wc (K : Nat → El) (H : Nat → Int) (j : Nat) : Int := if j < 4 then oe (K j) else H (j - 4)
theorem ec_zero (F : Nat → Int) (G : Nat → El) : Ec F G 0 (fun _ => 0) := ⟨fun _ _ => ⟨Int.le_refl _, by decide⟩, fun j hj => by omega, fun j hj => by omega⟩
theorem ec_all {F : Nat → Int} {G : Nat → El} {X : Nat → Int} (h : Ec F G 2 X) : Co.Enc2 F G X := ⟨h.b, h.d, h.c⟩
theorem ec_step {F : Nat → Int} (hF : Byts 64 F) {G K : Nat → El} {x : Nat} (hx : x < 2) {X : Nat → Int} (h : Ec F G x X) (hc : IsCode (wd (ck K fun i => toE (hlf F x i)) G)) : Ec F G (x + 1) (lay X (36 * x) 36 (wc K (hlf F x))) := by
  have hin : ∀ i, i < 36 → lay X (36 * x) 36 (wc K (hlf F x)) (36 * x + i) = wc K (hlf F x) i := fun i hi => by
    unfold lay; rw [if_pos (by omega), show 36 * x + i - 36 * x = i by omega]
  have hout : ∀ j, j < x → ∀ i, i < 36 → lay X (36 * x) 36 (wc K (hlf F x)) (36 * j + i) = X (36 * j + i) := fun j hj i hi => by
    unfold lay; rw [if_neg (by omega)]
  refine ⟨fun i hi => ?_, fun j hj i hi => ?_, fun j hj => ?_⟩
  · unfold lay
    split
    · unfold wc
      split
      · exact oe_bd _
      · exact hF _ (by omega)
    · exact h.b i hi
  · by_cases e : j = x
    · subst e
      rw [hin (4 + i) (by omega)]
      unfold wc
      rw [if_neg (by omega), show 4 + i - 4 = i by omega]; rfl
    · rw [hout j (by omega) (4 + i) (by omega)]
      exact h.d j (by omega) i hi
  · by_cases e : j = x
    · subst e
      refine isCode_congr (fun i hi => ?_) hc
      unfold wd
      by_cases h36 : i < 36
      · rw [if_pos h36, if_pos h36]
        unfold Co.rw
        rw [hin i h36]
        unfold wc ck
        by_cases h4 : i < 4
        · rw [if_pos h4, if_pos h4]
          exact toE_ofE (K i)
        · rw [if_neg h4, if_neg h4]
      · rw [if_neg h36, if_neg h36]
    · refine isCode_congr (fun i hi => ?_) (h.c j (by omega))
      unfold wd
      by_cases h36 : i < 36
      · rw [if_pos h36, if_pos h36]
        unfold Co.rw
        rw [hout j (by omega) i h36]
      · rw [if_neg h36, if_neg h36]
theorem EbI.putOther {B P c h r f : Nat} {ix : Int} {p : Bool} {X : Nat → Int} {w W : World} (H : EbI B P c h r f ix p X w W) {N : Nat} (hN : P < N) (o : Nat) (vs : List Value) : EbI B P c h r f ix p X w (W.setCells N o vs) := by
  have hl := H.lt
  have hk : ∀ b, b ≤ P → (W.setCells N o vs).heap[b]? = W.heap[b]? := fun b hb => heap_puts N _ o W b (by omega)
  exact ⟨H.pc.of (hk _ (by omega)), H.pi.of (hk _ (by omega)), H.pp.of (hk _ (by omega)), H.o.of (hk _ (by omega)), H.x.of (hk _ (by omega)), H.cc.of (hk _ (by omega)) (hk _ (by omega)) (hk _ (by omega)) (hk _ (by omega)), H.tab.of (hk _ (by omega)), H.lt, belows_put (by omega) _ o H.below⟩
/-- while a word is encoded: its data lie in E -/
structure CsI (B P c h r f E : Nat) (ix : Int) (p : Bool) (X H : Nat → Int) (w W2 W : World) : Prop where
  e : EbI B P c h r f ix p X w W
  q : Bk .u8 W E 32 H
  k : Keep (fun b => b = P) W2 W
theorem CsI.next {B P c h r f E : Nat} {ix : Int} {p : Bool} {X H : Nat → Int} {w W2 W W' : World} (h0 : CsI B P c h r f E ix p X H w W2 W) (k : Below W.heap.size W W') : CsI B P c h r f E ix p X H w W2 W' :=
  ⟨h0.e.next k, h0.q.next k, h0.k.trans (Keep.below k (Nat.le_refl _))⟩
theorem CsI.putNew {B P c h r f E : Nat} {ix : Int} {p : Bool} {X H : Nat → Int} {w W2 W : World} (h0 : CsI B P c h r f E ix p X H w W2 W) {N : Nat} (h1 : P < N) (h2 : E < N) (h3 : W2.heap.size ≤ N) (vs : List Value) : CsI B P c h r f E ix p X H w W2 (W.setCells N 0 vs) :=
  ⟨h0.e.putOther h1 0 vs, h0.q.putOther (by omega) 0 vs, h0.k.putsNew h3 0 vs⟩
theorem zero4c (w : World) : (zeroValue 50).run Tryz.prog w = .ok (.agg (ints .u8 4 fun _ => 0).toArray) w := by kernel_rfl
theorem cut4 (b : Nat) (w : World) : (Instr.sliceAt 50 (.pointer (some ⟨b, 0, none⟩)) none none none).run Tryz.prog w = .ok (.slice (some ⟨b, 0, none⟩) 4 4) w := by
  simp [Instr.sliceAt, go_sem]

set_option maxRecDepth 100000 in
set_option maxHeartbeats 2000000 in
theorem encodeChips_any (c h r f : Nat) (F : Nat → Int) (hF : Byts 64 F) (ix : Int) (p : Bool) (w : World) (hc : CcAt w c h r f) (hT : TabW w) :
    Calls Tryz.prog 15 #[.pointer (some ⟨c, 0, none⟩), .agg (ints .u8 64 F).toArray, .int .i64 ix, .bool p] w fun e w' => ∃ R, e = .returned (.agg (ints .u8 72 R).toArray) ∧ Co.Enc2 F (vir ix p) R ∧ Below w.heap.size w w' := by
  have hz := zeroR
  have hz4 := zero4c
  have hzq := zeroH
  have cW : Hid (∀ W : World, Calls Tryz.prog 38 #[.agg (ints .u8 64 F).toArray] W fun e w' => e = .returned (.func (.func 71) #[] #[.pointer (some ⟨W.heap.size, 0, none⟩)]) ∧ w' = W.alloc (.cells (ints .u8 64 F).toArray 23)) := halves_any F
  obtain ⟨A0, hA0⟩ : ∃ A, ints .u8 64 F = A := ⟨_, rfl⟩
  obtain ⟨Z, hZ⟩ : ∃ A, (ints .u8 72 fun _ => 0) = A := ⟨_, rfl⟩
  obtain ⟨Z4, hZ4⟩ : ∃ A, (ints .u8 4 fun _ => 0) = A := ⟨_, rfl⟩
  obtain ⟨ZQ, hZQ⟩ : ∃ A, (ints .u8 32 fun _ => 0).toArray = A := ⟨_, rfl⟩
  have i0 : (Tryz.prog.info? 23).map (·.size) = some A0.length := by rw [← hA0, ints_len]; exact infoL
  rw [hZ] at hz
  rw [hZ4] at hz4
  rw [hZQ] at hzq
  rw [hA0] at cW ⊢
  have HA : Hid (ints .u8 64 F = A0 ∧ (ints .u8 72 fun _ => 0) = Z ∧ (ints .u8 4 fun _ => 0) = Z4 ∧ (ints .u8 32 fun _ => 0).toArray = ZQ) := ⟨hA0, hZ, hZ4, hZQ⟩
  refine (callsIn_wide (n := 10)).1 ?_
  refine callsIn_of_wp_marks Tryz.func15 rfl trivial ?_ rfl
  simp only [Tryz.ntmps15, List.size_toArray, List.length_cons, List.length_nil, Nat.reduceAdd, Nat.reduceSub, Array.replicate_succ, Array.replicate_zero, List.push_toArray, List.append_toArray, List.nil_append, List.cons_append]
  refine wpIn_wide.2 ?_
  go_upto_region 2 with (fail)
  obtain ⟨B, hB⟩ : ∃ B, w.heap.size = B := ⟨_, rfl⟩
  obtain ⟨V, hV⟩ : ∃ V, (((((w.alloc (.cells #[.pointer (some ⟨c, 0, none⟩)] 24)).alloc (.cells A0.toArray 23)).alloc (.cells #[.int .i64 ix] 3)).alloc (.cells #[.bool p] 4)).alloc (.cells Z.toArray 27)).alloc (.cells Z.toArray 27) = V := ⟨_, rfl⟩
  have hV2 := hV
  rw [← HA.out.1, ← HA.out.2.1] at hV2
  obtain ⟨hI, hL⟩ := ebI_new (c := c) (h := h) (r := r) (f := f) (p := p) (ix := ix) _ _ _ _ _ _ hc hT hB hV2
  rw [hV, hB]
  obtain ⟨P, hP⟩ : ∃ P, B + 1 + 1 + 1 + 1 + 1 = P := ⟨_, rfl⟩
  rw [hP] at hI ⊢
  have hr := hL.range
  rw [HA.out.1] at hr
  have sV : V.heap.size = P + 1 := by
    rw [← hV]; simp only [World.size_alloc]; omega
  have HI : Hid (EbI B P c h r f ix p (fun _ => 0) w V) := hI
  clear hV hV2 hI hL hc hT hz hA0 hZ hZ4 hZQ
  go_wp2_with (first | refine wpList_load_mid rfl 23 _ rfl _ 0 rfl A0 _ hr Tryz.underlying23 rfl i0 ?_ | (go_at_call 38; refine (cW.out _).mono ?_; rintro e w' ⟨rfl, hw2⟩))
  have st3 : Stay V.heap.size V w' := by rw [hw2]; exact Stay.alloc _ _ _ (Nat.le_refl _)
  have hN : Bk .u8 w' (P + 1) 64 F := by
    have h := Bk.new .u8 V 64 F 23
    rw [HA.out.1, ← hw2, sV] at h; exact h
  have s3 : w'.heap.size = P + 1 + 1 := by rw [hw2, World.size_alloc, sV]
  have hI3 : ∃ X, EbI B P c h r f ix p X w w' ∧ Ec F (vir ix p) 0 X := ⟨_, HI.out.stay st3 (by omega), ec_zero _ _⟩
  try rw [sV]
  try rw [← hw2]
  clear HI hw2 st3 hr cW sV V
  refine (wpIn_wide (n := 10)).1 (rangeA rfl (enters_of Tryz.func71 (by kernel_rfl) rfl) (halves_seq (P + 1) F w' hN) (fun _ => rfl)
    (fun x => x = P) (by rintro x rfl; constructor <;> omega) (by rintro x rfl; omega)
    (fun x W => ∃ X, EbI B P c h r f ix p X w W ∧ Ec F (vir ix p) x X) (fun _ _ _ => False)
    (fun x X Y ⟨Z, hX, hE⟩ hs => ⟨Z, hX.stay hs (by omega), hE⟩)
    (fun _ _ _ _ h _ => h.elim) hI3
    (fun x W _ hp _ => absurd trivial hp) ?round ?done (fun _ _ _ _ _ _ _ h => h.elim))
  case round =>
    rintro l x W hx _ ⟨X, hI, hE⟩
    have iq : (Tryz.prog.info? 58).map (·.size) = some (ints .u8 32 (hlf F x)).length := by rw [ints_len]; exact infoH
    have oq := ints_one .u8 32 (hlf F x)
    have hb := Bk.new .u8 W 32 (fun _ => 0) 58
    rw [HA.out.2.2.2] at hb
    have ht := hb.there .u8 (hlf F x)
    have hp := hb.put (hlf F x)
    obtain ⟨LH, hLH⟩ : ∃ A, ints .u8 32 (hlf F x) = A := ⟨_, rfl⟩
    rw [hLH] at iq oq ht hp
    have HLH : Hid (ints .u8 32 (hlf F x) = LH) := hLH
    have hPW : P < W.heap.size := hI.x.lt
    have HP : Hid (Bk .u8 ((W.alloc (.cells ZQ 58)).setCells W.heap.size 0 LH) W.heap.size 32 (hlf F x) ∧ EbI B P c h r f ix p X w ((W.alloc (.cells ZQ 58)).setCells W.heap.size 0 LH)) :=
      ⟨hp, (hI.next ((Below.refl _ W).alloc (Nat.le_refl _) _)).putOther hPW _ _⟩
    have HKp : Hid (Keep (fun b => b = P) W ((W.alloc (.cells ZQ 58)).setCells W.heap.size 0 LH)) := ((Keep.refl _ W).alloc _).putsNew (Nat.le_refl _) _ _
    have HE : Hid (Ec F (vir ix p) x X) := hE
    have hwW : w'.heap.size ≤ W.heap.size ∨ True := .inr trivial
    simp only [hLH]
    clear hb hp hLH hI hE
    gi_wp2_with (refine store_round rfl 58 _ _ rfl _ 0 LH.toArray rfl rfl ht iq oq ?_)
    refine ⟨HKp.out, ?_⟩
    intro W2 sW2 zW2
    obtain ⟨E, hEe⟩ : ∃ C, W.heap.size = C := ⟨_, rfl⟩
    have hS : Hid (EbI B P c h r f ix p X w W2 ∧ Bk .u8 W2 E 32 (hlf F x)) := ⟨HP.out.2.stay sW2 (by omega), by rw [← hEe]; exact HP.out.1.stay sW2⟩
    rw [hEe] at hPW ⊢
    clear HP HKp ht sW2 zW2 hEe hN hI3
    gi_wp2
    --<REG6
    have HS2 : Hid (CsI B P c h r f E ix p X (hlf F x) w W2 W2.drew) := CsI.next ⟨hS.out.1, hS.out.2, Keep.refl _ _⟩ (below_drew1 W2)
    have cV : Hid (∀ W : World, Calls Tryz.prog 40 #[.int .i64 ix, .bool p] W fun e w' => e = .returned (.agg (arr 3 (vir ix p)).toArray) ∧ Below W.heap.size W w') := virtualOf_any ix p
    have cC : Hid (∀ W : World, CdAt W r f → Calls Tryz.prog 39 #[.pointer (some ⟨r, 0, none⟩), .agg LH.toArray, .agg (arr 3 (vir ix p)).toArray] W fun e w' => ∃ K, e = .returned (.agg (arr 4 K).toArray) ∧ IsCode (wd (ck K fun i => toE (hlf F x i)) (vir ix p)) ∧ Below W.heap.size W w') := fun W h => by
      rw [← HLH.out, ints_arr10 32 _ (hlf_byts F hF x hx)]
      exact checks_any r f _ (vir ix p) W h
    obtain ⟨LV, hLV⟩ : ∃ L, arr 3 (vir ix p) = L := ⟨_, rfl⟩
    rw [hLV] at cV cC
    clear hS hLV
    refine region_round (by kernel_rfl) (by kernel_rfl) (fun W => CsI B P c h r f E ix p X (hlf F x) w W2 W) (fun a' W' => ∃ K N, a' = ({ tmps := #[.pointer (some ⟨c, 0, none⟩), .agg A0.toArray, .int .i64 ix, .bool p, .pointer (some ⟨B, 0, none⟩), .pointer (some ⟨B + 1, 0, none⟩), .pointer (some ⟨B + 1 + 1, 0, none⟩), .pointer (some ⟨B + 1 + 1 + 1, 0, none⟩), .pointer (some ⟨B + 1 + 1 + 1 + 1, 0, none⟩), .pointer (some ⟨P, 0, none⟩), .int .i64 (x : Int), .pointer (some ⟨E, 0, none⟩), .pointer (some ⟨N, 0, none⟩), .agg A0.toArray, .func (.func 71) #[] #[.pointer (some ⟨P + 1, 0, none⟩)], .int .i64 (x : Int), .agg LH.toArray, .pointer (some ⟨c, 0, none⟩), .pointer (some ⟨c, 0, none⟩), .pointer (some ⟨c, 1, none⟩), .pointer (some ⟨r, 0, none⟩), .agg LH.toArray, .int .i64 ix, .bool p, .agg LV.toArray, .agg (arr 4 K).toArray, undef, undef, undef, undef, undef, undef, undef], defers := [] } : Act) ∧ IsCode (wd (ck K fun i => toE (hlf F x i)) (vir ix p)) ∧ Bk .u8 W' N 4 (fun i => oe (K i)) ∧ CsI B P c h r f E ix p X (hlf F x) w W2 W' ∧ (P < N ∧ E < N ∧ W2.heap.size ≤ N)) HS2.out (fun hH => ?reg) (fun a' W3 hr => ?aft)
    case aft =>
      obtain ⟨K, N, rfl, hcode, hb4, hS3, lN⟩ := hr
      have HX' := ec_step hF hx HE.out hcode
      obtain ⟨X', hX'⟩ : ∃ X', lay X (36 * x) 36 (wc K (hlf F x)) = X' := ⟨_, rfl⟩
      rw [hX'] at HX'
      have HEn : Hid (Ec F (vir ix p) (x + 1) X') := HX'
      obtain ⟨LX, hLX⟩ : ∃ L, ints .u8 72 X = L := ⟨_, rfl⟩
      obtain ⟨LN, hLN⟩ : ∃ L, ints .u8 72 X' = L := ⟨_, rfl⟩
      have iX : (Tryz.prog.info? 27).map (·.size) = some LX.length := by rw [← hLX, ints_len]; exact infoR
      have iN : (Tryz.prog.info? 27).map (·.size) = some LN.length := by rw [← hLN, ints_len]; exact infoR
      have jN : (Tryz.prog.info? 27).map (·.size) = some LN.toArray.size := by simpa using iN
      have oN : LN.toArray.all (·.oneCell') = true := by rw [← hLN]; exact ints_one .u8 72 _
      have rX : Hid (∀ W : World, EbI B P c h r f ix p X w W → W.rangeAt P 0 LX) := fun W h => by rw [← hLX]; exact h.x.range
      have CP : Hid (∀ (g cp : Nat) (W : World), (∀ j : Nat, j < 36 → W.cell? ⟨g, 0 + j, none⟩ = some (.int .u8 (wc K (hlf F x) j))) → Calls Tryz.prog 36 #[.agg LX.toArray, .int .i64 2, .int .i64 (x : Int), .slice (some ⟨g, 0, none⟩) 36 cp] W fun e w' => e = .returned (.agg LN.toArray) ∧ Below W.heap.size W w') := by
        intro g cp W hs
        have := put_yes2 X x hx g 0 cp (wc K (hlf F x)) W hs
        rw [hX', hLX, hLN] at this
        exact this
      have HN : Hid (ints .u8 72 X' = LN) := hLN
      have HS3 : Hid (CsI B P c h r f E ix p X (hlf F x) w W2 W3.drew) := hS3.next (below_drew1 W3)
      have HB4 : Hid (Bk .u8 W3.drew N 4 (fun i => oe (K i))) := hb4.drew
      clear hLX hLN iN hX' HX' hcode hb4 hS3 cV cC HS2 HE
      gi_wp2
      refine region_round (by kernel_rfl) (by kernel_rfl) (fun _ => True) (fun _ W' => Keep (fun x => x = P) W2 W' ∧ EbI B P c h r f ix p X' w W') trivial (fun hH => ?reg2) (fun a' w' hr => ?aft2)
      case aft2 =>
        gi_wp2
        exact ⟨hr.1, X', hr.2, HEn.out⟩
      refine take_pure 1 (v := .int .i64 (x : Int)) rfl (by kernel_rfl) rfl (fun w' hw => by simp [execOp, go_sem]) hH ?_
      show wpAnyH _ _ _ _ _ _ _ ({ tmps := #[.pointer (some ⟨c, 0, none⟩), .agg A0.toArray, .int .i64 ix, .bool p, .pointer (some ⟨B, 0, none⟩), .pointer (some ⟨B + 1, 0, none⟩), .pointer (some ⟨B + 1 + 1, 0, none⟩), .pointer (some ⟨B + 1 + 1 + 1, 0, none⟩), .pointer (some ⟨B + 1 + 1 + 1 + 1, 0, none⟩), .pointer (some ⟨P, 0, none⟩), .int .i64 (x : Int), .pointer (some ⟨E, 0, none⟩), .pointer (some ⟨N, 0, none⟩), .agg A0.toArray, .func (.func 71) #[] #[.pointer (some ⟨P + 1, 0, none⟩)], .int .i64 (x : Int), .agg LH.toArray, .pointer (some ⟨c, 0, none⟩), .pointer (some ⟨c, 0, none⟩), .pointer (some ⟨c, 1, none⟩), .pointer (some ⟨r, 0, none⟩), .agg LH.toArray, .int .i64 ix, .bool p, .agg LV.toArray, .agg (arr 4 K).toArray, undef, .int .i64 (x : Int), undef, undef, undef, undef, undef], defers := [] } : Act) _
      refine take_pure 2 (v := .slice (some ⟨N, 0, none⟩) 4 4) rfl (by kernel_rfl) rfl (fun w' hw => exec_slice0 _ _ rfl _ _ rfl (cut4 N) w') hH ?_
      show wpAnyH _ _ _ _ _ _ _ ({ tmps := #[.pointer (some ⟨c, 0, none⟩), .agg A0.toArray, .int .i64 ix, .bool p, .pointer (some ⟨B, 0, none⟩), .pointer (some ⟨B + 1, 0, none⟩), .pointer (some ⟨B + 1 + 1, 0, none⟩), .pointer (some ⟨B + 1 + 1 + 1, 0, none⟩), .pointer (some ⟨B + 1 + 1 + 1 + 1, 0, none⟩), .pointer (some ⟨P, 0, none⟩), .int .i64 (x : Int), .pointer (some ⟨E, 0, none⟩), .pointer (some ⟨N, 0, none⟩), .agg A0.toArray, .func (.func 71) #[] #[.pointer (some ⟨P + 1, 0, none⟩)], .int .i64 (x : Int), .agg LH.toArray, .pointer (some ⟨c, 0, none⟩), .pointer (some ⟨c, 0, none⟩), .pointer (some ⟨c, 1, none⟩), .pointer (some ⟨r, 0, none⟩), .agg LH.toArray, .int .i64 ix, .bool p, .agg LV.toArray, .agg (arr 4 K).toArray, undef, .int .i64 (x : Int), .slice (some ⟨N, 0, none⟩) 4 4, undef, undef, undef, undef], defers := [] } : Act) _
      refine take_pure 3 (v := .slice (some ⟨E, 0, none⟩) 32 32) rfl (by kernel_rfl) rfl (fun w' hw => exec_slice0 _ _ rfl _ _ rfl (cut_half E) w') hH ?_
      show wpAnyH _ _ _ _ _ _ _ ({ tmps := #[.pointer (some ⟨c, 0, none⟩), .agg A0.toArray, .int .i64 ix, .bool p, .pointer (some ⟨B, 0, none⟩), .pointer (some ⟨B + 1, 0, none⟩), .pointer (some ⟨B + 1 + 1, 0, none⟩), .pointer (some ⟨B + 1 + 1 + 1, 0, none⟩), .pointer (some ⟨B + 1 + 1 + 1 + 1, 0, none⟩), .pointer (some ⟨P, 0, none⟩), .int .i64 (x : Int), .pointer (some ⟨E, 0, none⟩), .pointer (some ⟨N, 0, none⟩), .agg A0.toArray, .func (.func 71) #[] #[.pointer (some ⟨P + 1, 0, none⟩)], .int .i64 (x : Int), .agg LH.toArray, .pointer (some ⟨c, 0, none⟩), .pointer (some ⟨c, 0, none⟩), .pointer (some ⟨c, 1, none⟩), .pointer (some ⟨r, 0, none⟩), .agg LH.toArray, .int .i64 ix, .bool p, .agg LV.toArray, .agg (arr 4 K).toArray, undef, .int .i64 (x : Int), .slice (some ⟨N, 0, none⟩) 4 4, .slice (some ⟨E, 0, none⟩) 32 32, undef, undef, undef], defers := [] } : Act) _
      refine take_two 0 4 rfl rfl rfl rfl (by kernel_rfl) ?_ ?_
      · refine wp_load_mid 27 _ rfl P 0 rfl LX _ (rX.out _ HS3.out.e) Tryz.underlying27 rfl iX ?_
        refine ⟨trivial, fun hH => ?_⟩
        show wpAnyH _ _ _ _ _ _ _ ({ tmps := #[.pointer (some ⟨c, 0, none⟩), .agg A0.toArray, .int .i64 ix, .bool p, .pointer (some ⟨B, 0, none⟩), .pointer (some ⟨B + 1, 0, none⟩), .pointer (some ⟨B + 1 + 1, 0, none⟩), .pointer (some ⟨B + 1 + 1 + 1, 0, none⟩), .pointer (some ⟨B + 1 + 1 + 1 + 1, 0, none⟩), .pointer (some ⟨P, 0, none⟩), .int .i64 (x : Int), .pointer (some ⟨E, 0, none⟩), .pointer (some ⟨N, 0, none⟩), .agg A0.toArray, .func (.func 71) #[] #[.pointer (some ⟨P + 1, 0, none⟩)], .int .i64 (x : Int), .agg LH.toArray, .pointer (some ⟨c, 0, none⟩), .pointer (some ⟨c, 0, none⟩), .pointer (some ⟨c, 1, none⟩), .pointer (some ⟨r, 0, none⟩), .agg LH.toArray, .int .i64 ix, .bool p, .agg LV.toArray, .agg (arr 4 K).toArray, .agg LX.toArray, .int .i64 (x : Int), .slice (some ⟨N, 0, none⟩) 4 4, .slice (some ⟨E, 0, none⟩) 32 32, undef, undef, undef], defers := [] } : Act) _
        refine take_one 4 rfl rfl (by kernel_rfl) ?_
        refine wp_appG _ _ rfl N 0 4 4 E 0 32 32 (fun i => oe (K i)) (hlf F x) rfl rfl (fun j hj => by rw [Nat.zero_add]; exact HB4.out.cell j hj) (fun j hj => by rw [Nat.zero_add]; exact HS3.out.q.cell j hj) (by omega) (by omega) ?_
        intro cp X51 hcl b5
        obtain ⟨gg, hgg⟩ : ∃ g, (W3.drew).heap.size = g := ⟨_, rfl⟩
        have HC : Hid (∀ j : Nat, j < 36 → X51.cell? ⟨gg, 0 + j, none⟩ = some (.int .u8 (wc K (hlf F x) j))) := fun j hj => by rw [← hgg, Nat.zero_add]; exact hcl.out j hj
        replace HS3 : Hid (CsI B P c h r f E ix p X (hlf F x) w W2 X51) := HS3.out.next b5
        rw [hgg]
        clear b5 hgg hcl HB4
        refine ⟨trivial, fun hH => ?_⟩
        show wpAnyH _ _ _ _ _ _ _ ({ tmps := #[.pointer (some ⟨c, 0, none⟩), .agg A0.toArray, .int .i64 ix, .bool p, .pointer (some ⟨B, 0, none⟩), .pointer (some ⟨B + 1, 0, none⟩), .pointer (some ⟨B + 1 + 1, 0, none⟩), .pointer (some ⟨B + 1 + 1 + 1, 0, none⟩), .pointer (some ⟨B + 1 + 1 + 1 + 1, 0, none⟩), .pointer (some ⟨P, 0, none⟩), .int .i64 (x : Int), .pointer (some ⟨E, 0, none⟩), .pointer (some ⟨N, 0, none⟩), .agg A0.toArray, .func (.func 71) #[] #[.pointer (some ⟨P + 1, 0, none⟩)], .int .i64 (x : Int), .agg LH.toArray, .pointer (some ⟨c, 0, none⟩), .pointer (some ⟨c, 0, none⟩), .pointer (some ⟨c, 1, none⟩), .pointer (some ⟨r, 0, none⟩), .agg LH.toArray, .int .i64 ix, .bool p, .agg LV.toArray, .agg (arr 4 K).toArray, .agg LX.toArray, .int .i64 (x : Int), .slice (some ⟨N, 0, none⟩) 4 4, .slice (some ⟨E, 0, none⟩) 32 32, .slice (some ⟨gg, 0, none⟩) 36 cp, undef, undef], defers := [] } : Act) _
        refine take_one 5 rfl rfl (by kernel_rfl) ?_
        refine wp_contract 36 [.tmp 26, .const (.int .i64 2), .tmp 27, .tmp 30] _ rfl (enters_of Tryz.func36 (by kernel_rfl) rfl) [.agg LX.toArray, .int .i64 2, .int .i64 (x : Int), .slice (some ⟨gg, 0, none⟩) 36 cp] rfl (CP.out gg cp _ HC.out) ?_
        rintro e X52 ⟨rfl, b5⟩
        replace HS3 : Hid (CsI B P c h r f E ix p X (hlf F x) w W2 X52) := HS3.out.next b5
        clear b5
        refine ⟨_, rfl, trivial, fun hH => ?_⟩
        show wpAnyH _ _ _ _ _ _ _ ({ tmps := #[.pointer (some ⟨c, 0, none⟩), .agg A0.toArray, .int .i64 ix, .bool p, .pointer (some ⟨B, 0, none⟩), .pointer (some ⟨B + 1, 0, none⟩), .pointer (some ⟨B + 1 + 1, 0, none⟩), .pointer (some ⟨B + 1 + 1 + 1, 0, none⟩), .pointer (some ⟨B + 1 + 1 + 1 + 1, 0, none⟩), .pointer (some ⟨P, 0, none⟩), .int .i64 (x : Int), .pointer (some ⟨E, 0, none⟩), .pointer (some ⟨N, 0, none⟩), .agg A0.toArray, .func (.func 71) #[] #[.pointer (some ⟨P + 1, 0, none⟩)], .int .i64 (x : Int), .agg LH.toArray, .pointer (some ⟨c, 0, none⟩), .pointer (some ⟨c, 0, none⟩), .pointer (some ⟨c, 1, none⟩), .pointer (some ⟨r, 0, none⟩), .agg LH.toArray, .int .i64 ix, .bool p, .agg LV.toArray, .agg (arr 4 K).toArray, .agg LX.toArray, .int .i64 (x : Int), .slice (some ⟨N, 0, none⟩) 4 4, .slice (some ⟨E, 0, none⟩) 32 32, .slice (some ⟨gg, 0, none⟩) 36 cp, .agg LN.toArray, undef], defers := [] } : Act) _
        refine take_one 6 rfl rfl (by kernel_rfl) ?_
        have ht7 : (X52).there P 0 LN.toArray.size := by rw [← HN.out]; exact HS3.out.e.x.there .u8 _
        refine wp_store_mid 27 _ _ rfl P 0 LN.toArray rfl rfl ht7 jN oN ?_
        have hE := HS3.out.e.put X'
        have hK := HS3.out.k.puts (c := P) rfl 0 LN
        rw [HN.out] at hE
        refine ⟨trivial, fun hH => ?_⟩
        show wpAnyH _ _ _ _ _ _ _ ({ tmps := #[.pointer (some ⟨c, 0, none⟩), .agg A0.toArray, .int .i64 ix, .bool p, .pointer (some ⟨B, 0, none⟩), .pointer (some ⟨B + 1, 0, none⟩), .pointer (some ⟨B + 1 + 1, 0, none⟩), .pointer (some ⟨B + 1 + 1 + 1, 0, none⟩), .pointer (some ⟨B + 1 + 1 + 1 + 1, 0, none⟩), .pointer (some ⟨P, 0, none⟩), .int .i64 (x : Int), .pointer (some ⟨E, 0, none⟩), .pointer (some ⟨N, 0, none⟩), .agg A0.toArray, .func (.func 71) #[] #[.pointer (some ⟨P + 1, 0, none⟩)], .int .i64 (x : Int), .agg LH.toArray, .pointer (some ⟨c, 0, none⟩), .pointer (some ⟨c, 0, none⟩), .pointer (some ⟨c, 1, none⟩), .pointer (some ⟨r, 0, none⟩), .agg LH.toArray, .int .i64 ix, .bool p, .agg LV.toArray, .agg (arr 4 K).toArray, .agg LX.toArray, .int .i64 (x : Int), .slice (some ⟨N, 0, none⟩) 4 4, .slice (some ⟨E, 0, none⟩) 32 32, .slice (some ⟨gg, 0, none⟩) 36 cp, .agg LN.toArray, undef], defers := [] } : Act) _
        exact wpAnyH_done (by kernel_rfl) ⟨hK, hE⟩ _
      · refine wp_appG _ _ rfl N 0 4 4 E 0 32 32 (fun i => oe (K i)) (hlf F x) rfl rfl (fun j hj => by rw [Nat.zero_add]; exact HB4.out.cell j hj) (fun j hj => by rw [Nat.zero_add]; exact HS3.out.q.cell j hj) (by omega) (by omega) ?_
        intro cp X53 hcl b5
        obtain ⟨gg, hgg⟩ : ∃ g, (W3.drew).heap.size = g := ⟨_, rfl⟩
        have HC : Hid (∀ j : Nat, j < 36 → X53.cell? ⟨gg, 0 + j, none⟩ = some (.int .u8 (wc K (hlf F x) j))) := fun j hj => by rw [← hgg, Nat.zero_add]; exact hcl.out j hj
        replace HS3 : Hid (CsI B P c h r f E ix p X (hlf F x) w W2 X53) := HS3.out.next b5
        rw [hgg]
        clear b5 hgg hcl HB4
        refine ⟨trivial, fun hH => ?_⟩
        show wpAnyH _ _ _ _ _ _ _ ({ tmps := #[.pointer (some ⟨c, 0, none⟩), .agg A0.toArray, .int .i64 ix, .bool p, .pointer (some ⟨B, 0, none⟩), .pointer (some ⟨B + 1, 0, none⟩), .pointer (some ⟨B + 1 + 1, 0, none⟩), .pointer (some ⟨B + 1 + 1 + 1, 0, none⟩), .pointer (some ⟨B + 1 + 1 + 1 + 1, 0, none⟩), .pointer (some ⟨P, 0, none⟩), .int .i64 (x : Int), .pointer (some ⟨E, 0, none⟩), .pointer (some ⟨N, 0, none⟩), .agg A0.toArray, .func (.func 71) #[] #[.pointer (some ⟨P + 1, 0, none⟩)], .int .i64 (x : Int), .agg LH.toArray, .pointer (some ⟨c, 0, none⟩), .pointer (some ⟨c, 0, none⟩), .pointer (some ⟨c, 1, none⟩), .pointer (some ⟨r, 0, none⟩), .agg LH.toArray, .int .i64 ix, .bool p, .agg LV.toArray, .agg (arr 4 K).toArray, undef, .int .i64 (x : Int), .slice (some ⟨N, 0, none⟩) 4 4, .slice (some ⟨E, 0, none⟩) 32 32, .slice (some ⟨gg, 0, none⟩) 36 cp, undef, undef], defers := [] } : Act) _
        refine take_one 0 rfl rfl (by kernel_rfl) ?_
        refine wp_load_mid 27 _ rfl P 0 rfl LX _ (rX.out _ HS3.out.e) Tryz.underlying27 rfl iX ?_
        refine ⟨trivial, fun hH => ?_⟩
        show wpAnyH _ _ _ _ _ _ _ ({ tmps := #[.pointer (some ⟨c, 0, none⟩), .agg A0.toArray, .int .i64 ix, .bool p, .pointer (some ⟨B, 0, none⟩), .pointer (some ⟨B + 1, 0, none⟩), .pointer (some ⟨B + 1 + 1, 0, none⟩), .pointer (some ⟨B + 1 + 1 + 1, 0, none⟩), .pointer (some ⟨B + 1 + 1 + 1 + 1, 0, none⟩), .pointer (some ⟨P, 0, none⟩), .int .i64 (x : Int), .pointer (some ⟨E, 0, none⟩), .pointer (some ⟨N, 0, none⟩), .agg A0.toArray, .func (.func 71) #[] #[.pointer (some ⟨P + 1, 0, none⟩)], .int .i64 (x : Int), .agg LH.toArray, .pointer (some ⟨c, 0, none⟩), .pointer (some ⟨c, 0, none⟩), .pointer (some ⟨c, 1, none⟩), .pointer (some ⟨r, 0, none⟩), .agg LH.toArray, .int .i64 ix, .bool p, .agg LV.toArray, .agg (arr 4 K).toArray, .agg LX.toArray, .int .i64 (x : Int), .slice (some ⟨N, 0, none⟩) 4 4, .slice (some ⟨E, 0, none⟩) 32 32, .slice (some ⟨gg, 0, none⟩) 36 cp, undef, undef], defers := [] } : Act) _
        refine take_one 5 rfl rfl (by kernel_rfl) ?_
        refine wp_contract 36 [.tmp 26, .const (.int .i64 2), .tmp 27, .tmp 30] _ rfl (enters_of Tryz.func36 (by kernel_rfl) rfl) [.agg LX.toArray, .int .i64 2, .int .i64 (x : Int), .slice (some ⟨gg, 0, none⟩) 36 cp] rfl (CP.out gg cp _ HC.out) ?_
        rintro e X54 ⟨rfl, b5⟩
        replace HS3 : Hid (CsI B P c h r f E ix p X (hlf F x) w W2 X54) := HS3.out.next b5
        clear b5
        refine ⟨_, rfl, trivial, fun hH => ?_⟩
        show wpAnyH _ _ _ _ _ _ _ ({ tmps := #[.pointer (some ⟨c, 0, none⟩), .agg A0.toArray, .int .i64 ix, .bool p, .pointer (some ⟨B, 0, none⟩), .pointer (some ⟨B + 1, 0, none⟩), .pointer (some ⟨B + 1 + 1, 0, none⟩), .pointer (some ⟨B + 1 + 1 + 1, 0, none⟩), .pointer (some ⟨B + 1 + 1 + 1 + 1, 0, none⟩), .pointer (some ⟨P, 0, none⟩), .int .i64 (x : Int), .pointer (some ⟨E, 0, none⟩), .pointer (some ⟨N, 0, none⟩), .agg A0.toArray, .func (.func 71) #[] #[.pointer (some ⟨P + 1, 0, none⟩)], .int .i64 (x : Int), .agg LH.toArray, .pointer (some ⟨c, 0, none⟩), .pointer (some ⟨c, 0, none⟩), .pointer (some ⟨c, 1, none⟩), .pointer (some ⟨r, 0, none⟩), .agg LH.toArray, .int .i64 ix, .bool p, .agg LV.toArray, .agg (arr 4 K).toArray, .agg LX.toArray, .int .i64 (x : Int), .slice (some ⟨N, 0, none⟩) 4 4, .slice (some ⟨E, 0, none⟩) 32 32, .slice (some ⟨gg, 0, none⟩) 36 cp, .agg LN.toArray, undef], defers := [] } : Act) _
        refine take_one 6 rfl rfl (by kernel_rfl) ?_
        have ht7 : (X54).there P 0 LN.toArray.size := by rw [← HN.out]; exact HS3.out.e.x.there .u8 _
        refine wp_store_mid 27 _ _ rfl P 0 LN.toArray rfl rfl ht7 jN oN ?_
        have hE := HS3.out.e.put X'
        have hK := HS3.out.k.puts (c := P) rfl 0 LN
        rw [HN.out] at hE
        refine ⟨trivial, fun hH => ?_⟩
        show wpAnyH _ _ _ _ _ _ _ ({ tmps := #[.pointer (some ⟨c, 0, none⟩), .agg A0.toArray, .int .i64 ix, .bool p, .pointer (some ⟨B, 0, none⟩), .pointer (some ⟨B + 1, 0, none⟩), .pointer (some ⟨B + 1 + 1, 0, none⟩), .pointer (some ⟨B + 1 + 1 + 1, 0, none⟩), .pointer (some ⟨B + 1 + 1 + 1 + 1, 0, none⟩), .pointer (some ⟨P, 0, none⟩), .int .i64 (x : Int), .pointer (some ⟨E, 0, none⟩), .pointer (some ⟨N, 0, none⟩), .agg A0.toArray, .func (.func 71) #[] #[.pointer (some ⟨P + 1, 0, none⟩)], .int .i64 (x : Int), .agg LH.toArray, .pointer (some ⟨c, 0, none⟩), .pointer (some ⟨c, 0, none⟩), .pointer (some ⟨c, 1, none⟩), .pointer (some ⟨r, 0, none⟩), .agg LH.toArray, .int .i64 ix, .bool p, .agg LV.toArray, .agg (arr 4 K).toArray, .agg LX.toArray, .int .i64 (x : Int), .slice (some ⟨N, 0, none⟩) 4 4, .slice (some ⟨E, 0, none⟩) 32 32, .slice (some ⟨gg, 0, none⟩) 36 cp, .agg LN.toArray, undef], defers := [] } : Act) _
        exact wpAnyH_done (by kernel_rfl) ⟨hK, hE⟩ _
    refine take_pure 0 (v := .pointer (some ⟨c, 0, none⟩)) rfl (by kernel_rfl) rfl (fun w' hw => by simp [execOp, go_sem, hw.e.pc.1]) hH ?_
    show wpAnyH _ _ _ _ _ _ _ ({ tmps := #[.pointer (some ⟨c, 0, none⟩), .agg A0.toArray, .int .i64 ix, .bool p, .pointer (some ⟨B, 0, none⟩), .pointer (some ⟨B + 1, 0, none⟩), .pointer (some ⟨B + 1 + 1, 0, none⟩), .pointer (some ⟨B + 1 + 1 + 1, 0, none⟩), .pointer (some ⟨B + 1 + 1 + 1 + 1, 0, none⟩), .pointer (some ⟨P, 0, none⟩), .int .i64 (x : Int), .pointer (some ⟨E, 0, none⟩), undef, .agg A0.toArray, .func (.func 71) #[] #[.pointer (some ⟨P + 1, 0, none⟩)], .int .i64 (x : Int), .agg LH.toArray, .pointer (some ⟨c, 0, none⟩), undef, undef, undef, undef, undef, undef, undef, undef, undef, undef, undef, undef, undef, undef, undef], defers := [] } : Act) _
    refine take_pure 1 (v := .pointer (some ⟨c, 0, none⟩)) rfl (by kernel_rfl) rfl (fun w' hw => by simp [execOp, go_sem]) hH ?_
    show wpAnyH _ _ _ _ _ _ _ ({ tmps := #[.pointer (some ⟨c, 0, none⟩), .agg A0.toArray, .int .i64 ix, .bool p, .pointer (some ⟨B, 0, none⟩), .pointer (some ⟨B + 1, 0, none⟩), .pointer (some ⟨B + 1 + 1, 0, none⟩), .pointer (some ⟨B + 1 + 1 + 1, 0, none⟩), .pointer (some ⟨B + 1 + 1 + 1 + 1, 0, none⟩), .pointer (some ⟨P, 0, none⟩), .int .i64 (x : Int), .pointer (some ⟨E, 0, none⟩), undef, .agg A0.toArray, .func (.func 71) #[] #[.pointer (some ⟨P + 1, 0, none⟩)], .int .i64 (x : Int), .agg LH.toArray, .pointer (some ⟨c, 0, none⟩), .pointer (some ⟨c, 0, none⟩), undef, undef, undef, undef, undef, undef, undef, undef, undef, undef, undef, undef, undef, undef], defers := [] } : Act) _
    refine take_pure 2 (v := .pointer (some ⟨c, 1, none⟩)) rfl (by kernel_rfl) rfl (fun w' hw => by simp [execOp, go_sem]) hH ?_
    show wpAnyH _ _ _ _ _ _ _ ({ tmps := #[.pointer (some ⟨c, 0, none⟩), .agg A0.toArray, .int .i64 ix, .bool p, .pointer (some ⟨B, 0, none⟩), .pointer (some ⟨B + 1, 0, none⟩), .pointer (some ⟨B + 1 + 1, 0, none⟩), .pointer (some ⟨B + 1 + 1 + 1, 0, none⟩), .pointer (some ⟨B + 1 + 1 + 1 + 1, 0, none⟩), .pointer (some ⟨P, 0, none⟩), .int .i64 (x : Int), .pointer (some ⟨E, 0, none⟩), undef, .agg A0.toArray, .func (.func 71) #[] #[.pointer (some ⟨P + 1, 0, none⟩)], .int .i64 (x : Int), .agg LH.toArray, .pointer (some ⟨c, 0, none⟩), .pointer (some ⟨c, 0, none⟩), .pointer (some ⟨c, 1, none⟩), undef, undef, undef, undef, undef, undef, undef, undef, undef, undef, undef, undef, undef], defers := [] } : Act) _
    refine take_pure 3 (v := .pointer (some ⟨r, 0, none⟩)) rfl (by kernel_rfl) rfl (fun w' hw => by simp [execOp, go_sem, hw.e.cc.c1]) hH ?_
    show wpAnyH _ _ _ _ _ _ _ ({ tmps := #[.pointer (some ⟨c, 0, none⟩), .agg A0.toArray, .int .i64 ix, .bool p, .pointer (some ⟨B, 0, none⟩), .pointer (some ⟨B + 1, 0, none⟩), .pointer (some ⟨B + 1 + 1, 0, none⟩), .pointer (some ⟨B + 1 + 1 + 1, 0, none⟩), .pointer (some ⟨B + 1 + 1 + 1 + 1, 0, none⟩), .pointer (some ⟨P, 0, none⟩), .int .i64 (x : Int), .pointer (some ⟨E, 0, none⟩), undef, .agg A0.toArray, .func (.func 71) #[] #[.pointer (some ⟨P + 1, 0, none⟩)], .int .i64 (x : Int), .agg LH.toArray, .pointer (some ⟨c, 0, none⟩), .pointer (some ⟨c, 0, none⟩), .pointer (some ⟨c, 1, none⟩), .pointer (some ⟨r, 0, none⟩), undef, undef, undef, undef, undef, undef, undef, undef, undef, undef, undef, undef], defers := [] } : Act) _
    refine take_if 4 (v := .agg LH.toArray) rfl (by kernel_rfl) (yieldsIf_load_mid (by rfl) _ _ rfl E 0 rfl LH _ (fun w' hw => by rw [← HLH.out]; exact hw.q.range) Tryz.underlying58 rfl iq) hH ?_
    show wpAnyH _ _ _ _ _ _ _ ({ tmps := #[.pointer (some ⟨c, 0, none⟩), .agg A0.toArray, .int .i64 ix, .bool p, .pointer (some ⟨B, 0, none⟩), .pointer (some ⟨B + 1, 0, none⟩), .pointer (some ⟨B + 1 + 1, 0, none⟩), .pointer (some ⟨B + 1 + 1 + 1, 0, none⟩), .pointer (some ⟨B + 1 + 1 + 1 + 1, 0, none⟩), .pointer (some ⟨P, 0, none⟩), .int .i64 (x : Int), .pointer (some ⟨E, 0, none⟩), undef, .agg A0.toArray, .func (.func 71) #[] #[.pointer (some ⟨P + 1, 0, none⟩)], .int .i64 (x : Int), .agg LH.toArray, .pointer (some ⟨c, 0, none⟩), .pointer (some ⟨c, 0, none⟩), .pointer (some ⟨c, 1, none⟩), .pointer (some ⟨r, 0, none⟩), .agg LH.toArray, undef, undef, undef, undef, undef, undef, undef, undef, undef, undef, undef], defers := [] } : Act) _
    refine take_pure 5 (v := .int .i64 ix) rfl (by kernel_rfl) rfl (fun w' hw => by simp [execOp, go_sem, hw.e.pi.1]) hH ?_
    show wpAnyH _ _ _ _ _ _ _ ({ tmps := #[.pointer (some ⟨c, 0, none⟩), .agg A0.toArray, .int .i64 ix, .bool p, .pointer (some ⟨B, 0, none⟩), .pointer (some ⟨B + 1, 0, none⟩), .pointer (some ⟨B + 1 + 1, 0, none⟩), .pointer (some ⟨B + 1 + 1 + 1, 0, none⟩), .pointer (some ⟨B + 1 + 1 + 1 + 1, 0, none⟩), .pointer (some ⟨P, 0, none⟩), .int .i64 (x : Int), .pointer (some ⟨E, 0, none⟩), undef, .agg A0.toArray, .func (.func 71) #[] #[.pointer (some ⟨P + 1, 0, none⟩)], .int .i64 (x : Int), .agg LH.toArray, .pointer (some ⟨c, 0, none⟩), .pointer (some ⟨c, 0, none⟩), .pointer (some ⟨c, 1, none⟩), .pointer (some ⟨r, 0, none⟩), .agg LH.toArray, .int .i64 ix, undef, undef, undef, undef, undef, undef, undef, undef, undef, undef], defers := [] } : Act) _
    refine take_pure 6 (v := .bool p) rfl (by kernel_rfl) rfl (fun w' hw => by simp [execOp, go_sem, hw.e.pp.1]) hH ?_
    show wpAnyH _ _ _ _ _ _ _ ({ tmps := #[.pointer (some ⟨c, 0, none⟩), .agg A0.toArray, .int .i64 ix, .bool p, .pointer (some ⟨B, 0, none⟩), .pointer (some ⟨B + 1, 0, none⟩), .pointer (some ⟨B + 1 + 1, 0, none⟩), .pointer (some ⟨B + 1 + 1 + 1, 0, none⟩), .pointer (some ⟨B + 1 + 1 + 1 + 1, 0, none⟩), .pointer (some ⟨P, 0, none⟩), .int .i64 (x : Int), .pointer (some ⟨E, 0, none⟩), undef, .agg A0.toArray, .func (.func 71) #[] #[.pointer (some ⟨P + 1, 0, none⟩)], .int .i64 (x : Int), .agg LH.toArray, .pointer (some ⟨c, 0, none⟩), .pointer (some ⟨c, 0, none⟩), .pointer (some ⟨c, 1, none⟩), .pointer (some ⟨r, 0, none⟩), .agg LH.toArray, .int .i64 ix, .bool p, undef, undef, undef, undef, undef, undef, undef, undef, undef], defers := [] } : Act) _
    refine take_two 7 9 rfl rfl rfl rfl (by kernel_rfl) ?_ ?_
    · refine wp_contract 40 [.tmp 22, .tmp 23] _ rfl (enters_of Tryz.func40 (by kernel_rfl) rfl) [.int .i64 ix, .bool p] rfl (cV.out _) ?_
      rintro e X1 ⟨rfl, b5⟩
      refine ⟨_, rfl, hH.next b5, fun hH => ?_⟩
      clear b5
      show wpAnyH _ _ _ _ _ _ _ ({ tmps := #[.pointer (some ⟨c, 0, none⟩), .agg A0.toArray, .int .i64 ix, .bool p, .pointer (some ⟨B, 0, none⟩), .pointer (some ⟨B + 1, 0, none⟩), .pointer (some ⟨B + 1 + 1, 0, none⟩), .pointer (some ⟨B + 1 + 1 + 1, 0, none⟩), .pointer (some ⟨B + 1 + 1 + 1 + 1, 0, none⟩), .pointer (some ⟨P, 0, none⟩), .int .i64 (x : Int), .pointer (some ⟨E, 0, none⟩), undef, .agg A0.toArray, .func (.func 71) #[] #[.pointer (some ⟨P + 1, 0, none⟩)], .int .i64 (x : Int), .agg LH.toArray, .pointer (some ⟨c, 0, none⟩), .pointer (some ⟨c, 0, none⟩), .pointer (some ⟨c, 1, none⟩), .pointer (some ⟨r, 0, none⟩), .agg LH.toArray, .int .i64 ix, .bool p, .agg LV.toArray, undef, undef, undef, undef, undef, undef, undef, undef], defers := [] } : Act) _
      refine take_two 8 9 rfl rfl rfl rfl (by kernel_rfl) ?_ ?_
      · refine wp_contract 39 [.tmp 20, .tmp 21, .tmp 24] _ rfl (enters_of Tryz.func39 (by kernel_rfl) rfl) [.pointer (some ⟨r, 0, none⟩), .agg LH.toArray, .agg LV.toArray] rfl (cC.out _ hH.e.cc.rs) ?_
        rintro e X2 ⟨K, rfl, hcode, b5⟩
        refine ⟨_, rfl, hH.next b5, fun hH => ?_⟩
        clear b5
        show wpAnyH _ _ _ _ _ _ _ ({ tmps := #[.pointer (some ⟨c, 0, none⟩), .agg A0.toArray, .int .i64 ix, .bool p, .pointer (some ⟨B, 0, none⟩), .pointer (some ⟨B + 1, 0, none⟩), .pointer (some ⟨B + 1 + 1, 0, none⟩), .pointer (some ⟨B + 1 + 1 + 1, 0, none⟩), .pointer (some ⟨B + 1 + 1 + 1 + 1, 0, none⟩), .pointer (some ⟨P, 0, none⟩), .int .i64 (x : Int), .pointer (some ⟨E, 0, none⟩), undef, .agg A0.toArray, .func (.func 71) #[] #[.pointer (some ⟨P + 1, 0, none⟩)], .int .i64 (x : Int), .agg LH.toArray, .pointer (some ⟨c, 0, none⟩), .pointer (some ⟨c, 0, none⟩), .pointer (some ⟨c, 1, none⟩), .pointer (some ⟨r, 0, none⟩), .agg LH.toArray, .int .i64 ix, .bool p, .agg LV.toArray, .agg (arr 4 K).toArray, undef, undef, undef, undef, undef, undef, undef], defers := [] } : Act) _
        refine take_one 9 rfl rfl (by kernel_rfl) ?_
        refine wp_alloc_agg 50 rfl _ hz4 ?_
        obtain ⟨N, hNe⟩ : ∃ N, (X2).heap.size = N := ⟨_, rfl⟩
        obtain ⟨X3, hX3⟩ : ∃ V, (X2).alloc (.cells Z4.toArray 50) = V := ⟨_, rfl⟩
        have b5 : Below (X2).heap.size (X2) X3 := by rw [← hX3]; exact (Below.refl _ _).alloc (Nat.le_refl _) _
        have HN4 : Hid (Bk .u8 X3 N 4 (fun _ => 0)) := by rw [← hX3, ← hNe, ← HA.out.2.2.1]; exact Bk.new .u8 _ 4 (fun _ => 0) _
        have lN : P < N ∧ E < N ∧ W2.heap.size ≤ N := by rw [← hNe]; exact ⟨hH.e.x.lt, hH.q.lt, hH.k.1⟩
        rw [hNe, hX3]
        refine ⟨hH.next b5, fun hH => ?_⟩
        clear b5 hNe hX3
        show wpAnyH _ _ _ _ _ _ _ ({ tmps := #[.pointer (some ⟨c, 0, none⟩), .agg A0.toArray, .int .i64 ix, .bool p, .pointer (some ⟨B, 0, none⟩), .pointer (some ⟨B + 1, 0, none⟩), .pointer (some ⟨B + 1 + 1, 0, none⟩), .pointer (some ⟨B + 1 + 1 + 1, 0, none⟩), .pointer (some ⟨B + 1 + 1 + 1 + 1, 0, none⟩), .pointer (some ⟨P, 0, none⟩), .int .i64 (x : Int), .pointer (some ⟨E, 0, none⟩), .pointer (some ⟨N, 0, none⟩), .agg A0.toArray, .func (.func 71) #[] #[.pointer (some ⟨P + 1, 0, none⟩)], .int .i64 (x : Int), .agg LH.toArray, .pointer (some ⟨c, 0, none⟩), .pointer (some ⟨c, 0, none⟩), .pointer (some ⟨c, 1, none⟩), .pointer (some ⟨r, 0, none⟩), .agg LH.toArray, .int .i64 ix, .bool p, .agg LV.toArray, .agg (arr 4 K).toArray, undef, undef, undef, undef, undef, undef, undef], defers := [] } : Act) _
        refine take_one 10 rfl rfl (by kernel_rfl) ?_
        refine wp_store_mid 50 _ _ rfl N 0 (arr 4 K).toArray rfl rfl (HN4.out.there .u8 (fun i => oe (K i))) (by rw [show (arr 4 K).toArray.size = 4 from by simp [arr_len]]; exact info4) (arr_one 4 K) ?_
        have hb4 := HN4.out.put (fun i => oe (K i))
        have hS4 := hH.putNew lN.1 lN.2.1 lN.2.2 (arr 4 K)
        refine ⟨hS4, fun hH => ?_⟩
        show wpAnyH _ _ _ _ _ _ _ ({ tmps := #[.pointer (some ⟨c, 0, none⟩), .agg A0.toArray, .int .i64 ix, .bool p, .pointer (some ⟨B, 0, none⟩), .pointer (some ⟨B + 1, 0, none⟩), .pointer (some ⟨B + 1 + 1, 0, none⟩), .pointer (some ⟨B + 1 + 1 + 1, 0, none⟩), .pointer (some ⟨B + 1 + 1 + 1 + 1, 0, none⟩), .pointer (some ⟨P, 0, none⟩), .int .i64 (x : Int), .pointer (some ⟨E, 0, none⟩), .pointer (some ⟨N, 0, none⟩), .agg A0.toArray, .func (.func 71) #[] #[.pointer (some ⟨P + 1, 0, none⟩)], .int .i64 (x : Int), .agg LH.toArray, .pointer (some ⟨c, 0, none⟩), .pointer (some ⟨c, 0, none⟩), .pointer (some ⟨c, 1, none⟩), .pointer (some ⟨r, 0, none⟩), .agg LH.toArray, .int .i64 ix, .bool p, .agg LV.toArray, .agg (arr 4 K).toArray, undef, undef, undef, undef, undef, undef, undef], defers := [] } : Act) _
        exact wpAnyH_done (by kernel_rfl) ⟨K, N, rfl, hcode, hb4, hS4, lN⟩ _
      · refine wp_alloc_agg 50 rfl _ hz4 ?_
        obtain ⟨N, hNe⟩ : ∃ N, (X1).heap.size = N := ⟨_, rfl⟩
        obtain ⟨X4, hX4⟩ : ∃ V, (X1).alloc (.cells Z4.toArray 50) = V := ⟨_, rfl⟩
        have b5 : Below (X1).heap.size (X1) X4 := by rw [← hX4]; exact (Below.refl _ _).alloc (Nat.le_refl _) _
        have HN4 : Hid (Bk .u8 X4 N 4 (fun _ => 0)) := by rw [← hX4, ← hNe, ← HA.out.2.2.1]; exact Bk.new .u8 _ 4 (fun _ => 0) _
        have lN : P < N ∧ E < N ∧ W2.heap.size ≤ N := by rw [← hNe]; exact ⟨hH.e.x.lt, hH.q.lt, hH.k.1⟩
        rw [hNe, hX4]
        refine ⟨hH.next b5, fun hH => ?_⟩
        clear b5 hNe hX4
        show wpAnyH _ _ _ _ _ _ _ ({ tmps := #[.pointer (some ⟨c, 0, none⟩), .agg A0.toArray, .int .i64 ix, .bool p, .pointer (some ⟨B, 0, none⟩), .pointer (some ⟨B + 1, 0, none⟩), .pointer (some ⟨B + 1 + 1, 0, none⟩), .pointer (some ⟨B + 1 + 1 + 1, 0, none⟩), .pointer (some ⟨B + 1 + 1 + 1 + 1, 0, none⟩), .pointer (some ⟨P, 0, none⟩), .int .i64 (x : Int), .pointer (some ⟨E, 0, none⟩), .pointer (some ⟨N, 0, none⟩), .agg A0.toArray, .func (.func 71) #[] #[.pointer (some ⟨P + 1, 0, none⟩)], .int .i64 (x : Int), .agg LH.toArray, .pointer (some ⟨c, 0, none⟩), .pointer (some ⟨c, 0, none⟩), .pointer (some ⟨c, 1, none⟩), .pointer (some ⟨r, 0, none⟩), .agg LH.toArray, .int .i64 ix, .bool p, .agg LV.toArray, undef, undef, undef, undef, undef, undef, undef, undef], defers := [] } : Act) _
        refine take_one 8 rfl rfl (by kernel_rfl) ?_
        refine wp_contract 39 [.tmp 20, .tmp 21, .tmp 24] _ rfl (enters_of Tryz.func39 (by kernel_rfl) rfl) [.pointer (some ⟨r, 0, none⟩), .agg LH.toArray, .agg LV.toArray] rfl (cC.out _ hH.e.cc.rs) ?_
        rintro e X5 ⟨K, rfl, hcode, b5⟩
        replace HN4 : Hid (Bk .u8 X5 N 4 (fun _ => 0)) := HN4.out.next b5
        refine ⟨_, rfl, hH.next b5, fun hH => ?_⟩
        clear b5
        show wpAnyH _ _ _ _ _ _ _ ({ tmps := #[.pointer (some ⟨c, 0, none⟩), .agg A0.toArray, .int .i64 ix, .bool p, .pointer (some ⟨B, 0, none⟩), .pointer (some ⟨B + 1, 0, none⟩), .pointer (some ⟨B + 1 + 1, 0, none⟩), .pointer (some ⟨B + 1 + 1 + 1, 0, none⟩), .pointer (some ⟨B + 1 + 1 + 1 + 1, 0, none⟩), .pointer (some ⟨P, 0, none⟩), .int .i64 (x : Int), .pointer (some ⟨E, 0, none⟩), .pointer (some ⟨N, 0, none⟩), .agg A0.toArray, .func (.func 71) #[] #[.pointer (some ⟨P + 1, 0, none⟩)], .int .i64 (x : Int), .agg LH.toArray, .pointer (some ⟨c, 0, none⟩), .pointer (some ⟨c, 0, none⟩), .pointer (some ⟨c, 1, none⟩), .pointer (some ⟨r, 0, none⟩), .agg LH.toArray, .int .i64 ix, .bool p, .agg LV.toArray, .agg (arr 4 K).toArray, undef, undef, undef, undef, undef, undef, undef], defers := [] } : Act) _
        refine take_one 10 rfl rfl (by kernel_rfl) ?_
        refine wp_store_mid 50 _ _ rfl N 0 (arr 4 K).toArray rfl rfl (HN4.out.there .u8 (fun i => oe (K i))) (by rw [show (arr 4 K).toArray.size = 4 from by simp [arr_len]]; exact info4) (arr_one 4 K) ?_
        have hb4 := HN4.out.put (fun i => oe (K i))
        have hS4 := hH.putNew lN.1 lN.2.1 lN.2.2 (arr 4 K)
        refine ⟨hS4, fun hH => ?_⟩
        show wpAnyH _ _ _ _ _ _ _ ({ tmps := #[.pointer (some ⟨c, 0, none⟩), .agg A0.toArray, .int .i64 ix, .bool p, .pointer (some ⟨B, 0, none⟩), .pointer (some ⟨B + 1, 0, none⟩), .pointer (some ⟨B + 1 + 1, 0, none⟩), .pointer (some ⟨B + 1 + 1 + 1, 0, none⟩), .pointer (some ⟨B + 1 + 1 + 1 + 1, 0, none⟩), .pointer (some ⟨P, 0, none⟩), .int .i64 (x : Int), .pointer (some ⟨E, 0, none⟩), .pointer (some ⟨N, 0, none⟩), .agg A0.toArray, .func (.func 71) #[] #[.pointer (some ⟨P + 1, 0, none⟩)], .int .i64 (x : Int), .agg LH.toArray, .pointer (some ⟨c, 0, none⟩), .pointer (some ⟨c, 0, none⟩), .pointer (some ⟨c, 1, none⟩), .pointer (some ⟨r, 0, none⟩), .agg LH.toArray, .int .i64 ix, .bool p, .agg LV.toArray, .agg (arr 4 K).toArray, undef, undef, undef, undef, undef, undef, undef], defers := [] } : Act) _
        exact wpAnyH_done (by kernel_rfl) ⟨K, N, rfl, hcode, hb4, hS4, lN⟩ _
    · refine wp_alloc_agg 50 rfl _ hz4 ?_
      obtain ⟨N, hNe⟩ : ∃ N, (W2.drew).heap.size = N := ⟨_, rfl⟩
      obtain ⟨X6, hX6⟩ : ∃ V, (W2.drew).alloc (.cells Z4.toArray 50) = V := ⟨_, rfl⟩
      have b5 : Below (W2.drew).heap.size (W2.drew) X6 := by rw [← hX6]; exact (Below.refl _ _).alloc (Nat.le_refl _) _
      have HN4 : Hid (Bk .u8 X6 N 4 (fun _ => 0)) := by rw [← hX6, ← hNe, ← HA.out.2.2.1]; exact Bk.new .u8 _ 4 (fun _ => 0) _
      have lN : P < N ∧ E < N ∧ W2.heap.size ≤ N := by rw [← hNe]; exact ⟨hH.e.x.lt, hH.q.lt, hH.k.1⟩
      rw [hNe, hX6]
      refine ⟨hH.next b5, fun hH => ?_⟩
      clear b5 hNe hX6
      show wpAnyH _ _ _ _ _ _ _ ({ tmps := #[.pointer (some ⟨c, 0, none⟩), .agg A0.toArray, .int .i64 ix, .bool p, .pointer (some ⟨B, 0, none⟩), .pointer (some ⟨B + 1, 0, none⟩), .pointer (some ⟨B + 1 + 1, 0, none⟩), .pointer (some ⟨B + 1 + 1 + 1, 0, none⟩), .pointer (some ⟨B + 1 + 1 + 1 + 1, 0, none⟩), .pointer (some ⟨P, 0, none⟩), .int .i64 (x : Int), .pointer (some ⟨E, 0, none⟩), .pointer (some ⟨N, 0, none⟩), .agg A0.toArray, .func (.func 71) #[] #[.pointer (some ⟨P + 1, 0, none⟩)], .int .i64 (x : Int), .agg LH.toArray, .pointer (some ⟨c, 0, none⟩), .pointer (some ⟨c, 0, none⟩), .pointer (some ⟨c, 1, none⟩), .pointer (some ⟨r, 0, none⟩), .agg LH.toArray, .int .i64 ix, .bool p, undef, undef, undef, undef, undef, undef, undef, undef, undef], defers := [] } : Act) _
      refine take_one 7 rfl rfl (by kernel_rfl) ?_
      refine wp_contract 40 [.tmp 22, .tmp 23] _ rfl (enters_of Tryz.func40 (by kernel_rfl) rfl) [.int .i64 ix, .bool p] rfl (cV.out _) ?_
      rintro e X7 ⟨rfl, b5⟩
      replace HN4 : Hid (Bk .u8 X7 N 4 (fun _ => 0)) := HN4.out.next b5
      refine ⟨_, rfl, hH.next b5, fun hH => ?_⟩
      clear b5
      show wpAnyH _ _ _ _ _ _ _ ({ tmps := #[.pointer (some ⟨c, 0, none⟩), .agg A0.toArray, .int .i64 ix, .bool p, .pointer (some ⟨B, 0, none⟩), .pointer (some ⟨B + 1, 0, none⟩), .pointer (some ⟨B + 1 + 1, 0, none⟩), .pointer (some ⟨B + 1 + 1 + 1, 0, none⟩), .pointer (some ⟨B + 1 + 1 + 1 + 1, 0, none⟩), .pointer (some ⟨P, 0, none⟩), .int .i64 (x : Int), .pointer (some ⟨E, 0, none⟩), .pointer (some ⟨N, 0, none⟩), .agg A0.toArray, .func (.func 71) #[] #[.pointer (some ⟨P + 1, 0, none⟩)], .int .i64 (x : Int), .agg LH.toArray, .pointer (some ⟨c, 0, none⟩), .pointer (some ⟨c, 0, none⟩), .pointer (some ⟨c, 1, none⟩), .pointer (some ⟨r, 0, none⟩), .agg LH.toArray, .int .i64 ix, .bool p, .agg LV.toArray, undef, undef, undef, undef, undef, undef, undef, undef], defers := [] } : Act) _
      refine take_one 8 rfl rfl (by kernel_rfl) ?_
      refine wp_contract 39 [.tmp 20, .tmp 21, .tmp 24] _ rfl (enters_of Tryz.func39 (by kernel_rfl) rfl) [.pointer (some ⟨r, 0, none⟩), .agg LH.toArray, .agg LV.toArray] rfl (cC.out _ hH.e.cc.rs) ?_
      rintro e X8 ⟨K, rfl, hcode, b5⟩
      replace HN4 : Hid (Bk .u8 X8 N 4 (fun _ => 0)) := HN4.out.next b5
      refine ⟨_, rfl, hH.next b5, fun hH => ?_⟩
      clear b5
      show wpAnyH _ _ _ _ _ _ _ ({ tmps := #[.pointer (some ⟨c, 0, none⟩), .agg A0.toArray, .int .i64 ix, .bool p, .pointer (some ⟨B, 0, none⟩), .pointer (some ⟨B + 1, 0, none⟩), .pointer (some ⟨B + 1 + 1, 0, none⟩), .pointer (some ⟨B + 1 + 1 + 1, 0, none⟩), .pointer (some ⟨B + 1 + 1 + 1 + 1, 0, none⟩), .pointer (some ⟨P, 0, none⟩), .int .i64 (x : Int), .pointer (some ⟨E, 0, none⟩), .pointer (some ⟨N, 0, none⟩), .agg A0.toArray, .func (.func 71) #[] #[.pointer (some ⟨P + 1, 0, none⟩)], .int .i64 (x : Int), .agg LH.toArray, .pointer (some ⟨c, 0, none⟩), .pointer (some ⟨c, 0, none⟩), .pointer (some ⟨c, 1, none⟩), .pointer (some ⟨r, 0, none⟩), .agg LH.toArray, .int .i64 ix, .bool p, .agg LV.toArray, .agg (arr 4 K).toArray, undef, undef, undef, undef, undef, undef, undef], defers := [] } : Act) _
      refine take_one 10 rfl rfl (by kernel_rfl) ?_
      refine wp_store_mid 50 _ _ rfl N 0 (arr 4 K).toArray rfl rfl (HN4.out.there .u8 (fun i => oe (K i))) (by rw [show (arr 4 K).toArray.size = 4 from by simp [arr_len]]; exact info4) (arr_one 4 K) ?_
      have hb4 := HN4.out.put (fun i => oe (K i))
      have hS4 := hH.putNew lN.1 lN.2.1 lN.2.2 (arr 4 K)
      refine ⟨hS4, fun hH => ?_⟩
      show wpAnyH _ _ _ _ _ _ _ ({ tmps := #[.pointer (some ⟨c, 0, none⟩), .agg A0.toArray, .int .i64 ix, .bool p, .pointer (some ⟨B, 0, none⟩), .pointer (some ⟨B + 1, 0, none⟩), .pointer (some ⟨B + 1 + 1, 0, none⟩), .pointer (some ⟨B + 1 + 1 + 1, 0, none⟩), .pointer (some ⟨B + 1 + 1 + 1 + 1, 0, none⟩), .pointer (some ⟨P, 0, none⟩), .int .i64 (x : Int), .pointer (some ⟨E, 0, none⟩), .pointer (some ⟨N, 0, none⟩), .agg A0.toArray, .func (.func 71) #[] #[.pointer (some ⟨P + 1, 0, none⟩)], .int .i64 (x : Int), .agg LH.toArray, .pointer (some ⟨c, 0, none⟩), .pointer (some ⟨c, 0, none⟩), .pointer (some ⟨c, 1, none⟩), .pointer (some ⟨r, 0, none⟩), .agg LH.toArray, .int .i64 ix, .bool p, .agg LV.toArray, .agg (arr 4 K).toArray, undef, undef, undef, undef, undef, undef, undef], defers := [] } : Act) _
      exact wpAnyH_done (by kernel_rfl) ⟨K, N, rfl, hcode, hb4, hS4, lN⟩ _
    --REG6>
  case done =>
    rintro D W hD ⟨X, hI, hE⟩ hdef
    obtain ⟨T, hT⟩ : ∃ T, B + 1 + 1 + 1 + 1 = T := ⟨_, rfl⟩
    have hx := hI.x
    have ho := hI.o
    have hb := hI.below
    rw [hT] at ho
    have hr := hx.range
    have ht := ho.there .u8 X
    have hp := ho.put X
    have hi9 : (Tryz.prog.info? 27).map (·.size) = some (ints .u8 72 X).length := by rw [ints_len]; exact infoR
    have hone := ints_one .u8 72 X
    obtain ⟨L, hL⟩ : ∃ L, ints .u8 72 X = L := ⟨_, rfl⟩
    rw [hL] at hr ht hi9 hone hp
    have HL : Hid (ints .u8 72 X = L ∧ Bk .u8 (W.setCells T 0 L) T 72 X ∧ Below B w (W.setCells T 0 L) ∧ (W.setCells T 0 L).heap[D]? = some (.deferred (some [])) ∧ B ≤ D) :=
      ⟨hL, hp, belows_put (by omega) _ 0 hb, (heap_puts T _ 0 W D (by omega)).trans hdef, by omega⟩
    have HEn : Hid (Co.Enc2 F (vir ix p) X) := ec_all hE
    rw [hT]
    clear hI hx ho hb hp hL hdef hD s3 hP hN hI3 hE
    go_wp2_with (first | refine wpList_load_mid rfl 27 _ rfl _ 0 rfl L _ hr Tryz.underlying27 rfl hi9 ?_ | refine wpList_store_mid rfl 27 _ _ rfl _ 0 L.toArray rfl rfl ht hi9 hone ?_)
    refine ends_any (B := B) (v := .agg (ints .u8 72 X).toArray) (S := fun W => Bk .u8 W T 72 X ∧ Below B w W) (fun W W' h k => ⟨h.1.stay k, below_stay h.2 k (Nat.le_refl _)⟩) (fun W h => ?_) (fun W h => ⟨X, rfl, HEn.out, by first | exact h.2 | (rw [hB]; exact h.2)⟩) [D] _ (by simp) (fun E hE => by obtain rfl := List.mem_singleton.1 hE; exact ⟨HL.out.2.2.2.2, HL.out.2.2.2.1⟩) ⟨HL.out.2.1, HL.out.2.2.1⟩
    have hld := run_loadVar_mid (P := Tryz.prog) W T 0 27 _ _ h.1.range Tryz.underlying27 rfl (by rw [ints_len]; exact infoR)
    simp [results, Tryz.f15, Act.put, asAddr, hld]
end Go.Proofs.YtoimbjbdkkohcaaGreatDoor
