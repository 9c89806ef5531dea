/-
  Texts of one family, one behind another: CoW5.
-/
import Derived.Test.YtoimbjbdkkohcaaGreatDoorM14

/-
  A line in raw bytes of the mode 1.
-/
namespace Go.Proofs.YtoimbjbdkkohcaaGreatDoor
open Go.RowKit Go.Shelf
open Bm (wt wtK)
open Ln (val wrd)
open Hm (syn)
open Po (El toE)
attribute [local go_sem] Oper.semAt_some

def bt (p : Bool) : Int := if p then 1 else 0
/-- the raw bytes of a line in the mode 1; of its first k words -/
def enB (F : Nat → Int) (a p : Int) (i : Nat) : Int := if i % 9 < 8 then F (8 * (i / 9) + i % 9) else (syn (wrd F (i / 9)) 0 a p : Int)
def enK (F : Nat → Int) (a p : Int) (k i : Nat) : Int := if i < 9 * k then enB F a p i else 0
theorem enB_enc (F : Nat → Int) (a p : Int) : Co.Enc1 F a p (enB F a p) := by
  constructor
  · intro k hk j hj
    unfold enB
    rw [if_pos (by omega), show (9 * k + j) / 9 = k by omega, show (9 * k + j) % 9 = j by omega]
  · intro k hk
    unfold enB
    rw [if_neg (by omega), show (9 * k + 8) / 9 = k by omega]
/-- a word's bytes: its data, its check -/
def wb (d : Nat) (y : Int) (j : Nat) : Int := if j < 8 then nb d j else y
theorem enK_step (F : Nat → Int) (hF : Byts 64 F) (a p : Int) (x : Nat) (hx : x < 8) (i : Nat) : lay (enK F a p x) (9 * x) 9 (wb (wrd F x) (syn (wrd F x) 0 a p : Int)) i = enK F a p (x + 1) i := by
  unfold lay
  by_cases h1 : 9 * x ≤ i ∧ i < 9 * x + 9
  · rw [if_pos h1]
    unfold enK
    rw [if_pos (by omega)]
    unfold wb enB
    rw [show i / 9 = x by omega]
    by_cases h2 : i - 9 * x < 8
    · rw [if_pos h2, if_pos (by omega), show i % 9 = i - 9 * x by omega]
      exact Ln.wrd_byte F x (i - 9 * x) hF hx h2
    · rw [if_neg h2, if_neg (by omega)]
  · rw [if_neg h1]
    unfold enK
    by_cases h2 : i < 9 * x
    · rw [if_pos h2, if_pos (by omega)]
    · rw [if_neg h2, if_neg (by omega)]

set_option maxRecDepth 100000 in
set_option maxHeartbeats 2000000 in
theorem encodeBits_any (c h r f : Nat) (F : Nat → Int) (hF : Byts 64 F) (ix : Int) (p : Bool) (w : World) (hc : CcAt w c h r f) (hT : TabW w) :
    Calls Tryz.prog 14 #[.pointer (some ⟨c, 0, none⟩), .agg (ints .u8 64 F).toArray, .int .i64 ix, .bool p] w fun e w' => e = .returned (.agg (ints .u8 72 (enB F (par ix) (bt p))).toArray) ∧ Below w.heap.size w w' := by
  have hz := zeroR
  have cW : Hid (∀ W : World, Calls Tryz.prog 32 #[.agg (ints .u8 64 F).toArray] W fun e w' => e = .returned (.func (.func 62) #[] #[.pointer (some ⟨W.heap.size, 0, none⟩)]) ∧ w' = W.alloc (.cells (ints .u8 64 F).toArray 23)) := words_any F
  obtain ⟨E, HE⟩ : ∃ E, Hid (enB F (par ix) (bt p) = E) := ⟨_, rfl⟩
  rw [HE.out]
  obtain ⟨A0, hA0⟩ : ∃ A, ints .u8 64 F = A := ⟨_, rfl⟩
  obtain ⟨Z, hZ⟩ : ∃ A, (ints .u8 72 fun _ => 0) = A := ⟨_, rfl⟩
  have i0 : (Tryz.prog.info? 23).map (·.size) = some A0.length := by rw [← hA0, ints_len]; exact infoL
  rw [hZ] at hz
  rw [hA0] at cW ⊢
  have HA : Hid (ints .u8 64 F = A0 ∧ (ints .u8 72 fun _ => 0) = Z) := ⟨hA0, hZ⟩
  refine (callsIn_wide (n := 10)).1 ?_
  refine callsIn_of_wp_marks Tryz.func14 rfl trivial ?_ rfl
  simp only [Tryz.ntmps14, List.size_toArray, List.length_cons, List.length_nil, Nat.reduceAdd, Nat.reduceSub, Array.replicate_succ, Array.replicate_zero, List.push_toArray, List.append_toArray, List.nil_append, List.cons_append]
  refine wpIn_wide.2 ?_
  go_upto_region 2 with (fail)
  obtain ⟨B, hB⟩ : ∃ B, w.heap.size = B := ⟨_, rfl⟩
  obtain ⟨V, hV⟩ : ∃ V, (((((w.alloc (.cells #[.pointer (some ⟨c, 0, none⟩)] 24)).alloc (.cells A0.toArray 23)).alloc (.cells #[.int .i64 ix] 3)).alloc (.cells #[.bool p] 4)).alloc (.cells Z.toArray 27)).alloc (.cells Z.toArray 27) = V := ⟨_, rfl⟩
  have hV2 := hV
  rw [← HA.out.1, ← HA.out.2] at hV2
  obtain ⟨hI, hL⟩ := ebI_new (c := c) (h := h) (r := r) (f := f) (p := p) (ix := ix) _ _ _ _ _ _ hc hT hB hV2
  rw [hV, hB]
  obtain ⟨P, hP⟩ : ∃ P, B + 1 + 1 + 1 + 1 + 1 = P := ⟨_, rfl⟩
  rw [hP] at hI ⊢
  have hr := hL.range
  rw [HA.out.1] at hr
  have sV : V.heap.size = P + 1 := by
    rw [← hV]; simp only [World.size_alloc]; omega
  have HI : Hid (EbI B P c h r f ix p (fun _ => 0) w V) := hI
  clear hV hV2 hI hL hc hT hz hA0 hZ
  go_wp2_with (first | refine wpList_load_mid rfl 23 _ rfl _ 0 rfl A0 _ hr Tryz.underlying23 rfl i0 ?_ | (go_at_call 32; refine (cW.out _).mono ?_; rintro e w' ⟨rfl, hw2⟩))
  have st3 : Stay V.heap.size V w' := by rw [hw2]; exact Stay.alloc _ _ _ (Nat.le_refl _)
  have hN : Bk .u8 w' (P + 1) 64 F := by
    have h := Bk.new .u8 V 64 F 23
    rw [HA.out.1, ← hw2, sV] at h; exact h
  have s3 : w'.heap.size = P + 1 + 1 := by rw [hw2, World.size_alloc, sV]
  have hI3 : EbI B P c h r f ix p (enK F (par ix) (bt p) 0) w w' := (HI.out.stay st3 (by omega)).congr fun i _ => by unfold enK; rw [if_neg (by omega)]
  try rw [sV]
  try rw [← hw2]
  clear HI hw2 st3 hr cW sV V
  refine (wpIn_wide (n := 10)).1 (rangeC rfl (enters_of Tryz.func62 (by kernel_rfl) rfl) (words_seq (P + 1) F hF w' hN) (fun _ => rfl)
    (fun x => x = P) (by rintro x rfl; constructor <;> omega) (by rintro x rfl; omega)
    (fun x W => EbI B P c h r f ix p (enK F (par ix) (bt p) x) w W) (fun _ _ _ => False)
    (fun x X Y hX hs => hX.stay hs (by omega))
    (fun _ _ _ _ h _ => h.elim) hI3
    (fun x W _ hp _ => absurd trivial hp) ?round ?done (fun _ _ _ _ _ _ _ h => h.elim))
  case round =>
    rintro l x W W2 hx _ hI
    obtain ⟨d, hd⟩ : ∃ d, wrd F x = d := ⟨_, rfl⟩
    have hdl : d < 18446744073709551616 := by rw [← hd]; exact Ln.wrd_lt F x hF hx
    have HS := enK_step F hF (par ix) (bt p) x hx
    rw [hd] at HS
    obtain ⟨y, hy⟩ : ∃ y, syn d 0 (par ix) (bt p) = y := ⟨_, rfl⟩
    rw [hy] at HS
    obtain ⟨X, hX⟩ : ∃ X, enK F (par ix) (bt p) x = X := ⟨_, rfl⟩
    obtain ⟨X', hX'⟩ : ∃ X, enK F (par ix) (bt p) (x + 1) = X := ⟨_, rfl⟩
    rw [hX] at HS hI
    rw [hX'] at HS
    have cP : Hid (∀ W : World, Calls Tryz.prog 34 #[.int .i64 ix] W fun e w' => e = .returned (.int .i64 (par ix)) ∧ w' = W) := parity10 ix
    have cBt : Hid (∀ W : World, Calls Tryz.prog 35 #[.bool p] W fun e w' => e = .returned (.int .i64 (bt p)) ∧ w' = W) := bitOf_any p
    have cK : Hid (∀ W : World, CodeAt W h → TabW W → Calls Tryz.prog 33 #[.pointer (some ⟨h, 0, none⟩), .int .u64 (d : Int), .int .i64 (par ix), .int .i64 (bt p)] W fun e w' => e = .returned (.int .u8 (y : Int)) ∧ Below W.heap.size W w') := fun W H HT => by
      have := check_any h d (par ix) (bt p) hdl W H HT
      rw [hy] at this; exact this
    have HI2 : Hid (EbI B P c h r f ix p X w W2) := hI
    have HSt : Hid (∀ i, lay X (9 * x) 9 (wb d (y : Int)) i = X' i) := HS
    obtain ⟨a, ha⟩ : ∃ a, par ix = a := ⟨_, rfl⟩
    obtain ⟨q, hq⟩ : ∃ q, bt p = q := ⟨_, rfl⟩
    rw [ha] at cP cK
    rw [hq] at cBt cK
    clear hI HS hX hy ha hq hN hI3
    try simp only []
    rw [hd]
    clear hd
    gi_wp2
    try (refine ⟨trivial, ?_⟩)
    try gi_wp2
    refine round_calm (by kernel_rfl) (by kernel_rfl) (by kernel_rfl) (fun W => Below W2.heap.size W2 W) (below_drew1 W2) ?_
    intro U hU fW hf hof
    have HU : Hid (∀ x W, Below (fW x).heap.size (fW x) W → ∃ y, W = fW y) := fun x W h => hof W ((hf x).trans (h.mono (hf x).size))
    have HE2 : Hid (∀ u, EbI B P c h r f ix p X w (fW u)) := fun u => HI2.out.next (hf u)
    have HK : Hid (∀ u, Keep (fun x => x = P) W2 (fW u)) := fun u => Keep.below (hf u) (Nat.le_refl _)
    have e0 : ∀ u, (fW u).cell? ⟨B, 0, none⟩ = some (.pointer (some ⟨c, 0, none⟩)) := fun u => (HE2.out u).pc.1
    have e1 : ∀ u, (fW u).cell? ⟨c, 0, none⟩ = some (.pointer (some ⟨h, 0, none⟩)) := fun u => (HE2.out u).cc.c0
    have e2 : ∀ u, (fW u).cell? ⟨B + 1 + 1, 0, none⟩ = some (.int .i64 ix) := fun u => (HE2.out u).pi.1
    have e3 : ∀ u, (fW u).cell? ⟨B + 1 + 1 + 1, 0, none⟩ = some (.bool p) := fun u => (HE2.out u).pp.1
    clear hf hof
    repeat (go_big_quiet_step ((first
      | (go_at_call 34; exact calm_same (cP.out _))
      | (go_at_call 35; exact calm_same (cBt.out _))
      | (go_at_call 33; exact calm_next HU.out (cK.out _ (HE2.out _).cc.hs (HE2.out _).tab)))))
    refine wpQuiet_nil ?_
    rintro _ ⟨u9, rfl⟩
    have HI4 : Hid (EbI B P c h r f ix p X w (fW u9) ∧ Keep (fun x => x = P) W2 (fW u9)) := ⟨HE2.out u9, HK.out u9⟩
    obtain ⟨W3, hW3⟩ : ∃ W, fW u9 = W := ⟨_, rfl⟩
    rw [hW3] at HI4 ⊢
    clear hW3 HU HK HE2 hU e0 e1 e2 e3 cP cBt cK HI2
    gi_wp2
    --<REG6
    obtain ⟨LX, hLX⟩ : ∃ L, ints .u8 72 X = L := ⟨_, rfl⟩
    obtain ⟨LN, hLN⟩ : ∃ L, ints .u8 72 X' = L := ⟨_, rfl⟩
    have iX : (Tryz.prog.info? 27).map (·.size) = some LX.length := by rw [← hLX, ints_len]; exact infoR
    have iN : (Tryz.prog.info? 27).map (·.size) = some LN.length := by rw [← hLN, ints_len]; exact infoR
    have jN : (Tryz.prog.info? 27).map (·.size) = some LN.toArray.size := by simpa using iN
    have oN : LN.toArray.all (·.oneCell') = true := by rw [← hLN]; exact ints_one .u8 72 _
    have rX : Hid (∀ W : World, EbI B P c h r f ix p X w W → W.rangeAt P 0 LX) := fun W h => by rw [← hLX]; exact h.x.range
    have CP : Hid (∀ (g cp : Nat) (W : World), (∀ j : Nat, j < 9 → W.cell? ⟨g, 0 + j, none⟩ = some (.int .u8 (wb d (y : Int) j))) → Calls Tryz.prog 36 #[.agg LX.toArray, .int .i64 1, .int .i64 (x : Int), .slice (some ⟨g, 0, none⟩) 9 cp] W fun e w' => e = .returned (.agg LN.toArray) ∧ Below W.heap.size W w') := by
      intro g cp W hs
      have := put_yes1 X x hx g 0 cp (wb d (y : Int)) W hs
      rw [ints_congr .u8 72 _ X' fun i _ => HSt.out i, hLX, hLN] at this
      exact this
    have HN : Hid (ints .u8 72 X' = LN) := hLN
    replace HI4 : Hid (EbI B P c h r f ix p X w W3.drew ∧ Keep (fun x => x = P) W2 W3.drew) := ⟨HI4.out.1.next (below_drew1 W3), HI4.out.2.drewN 1⟩
    clear hLX hLN iN
    refine region_round (by kernel_rfl) (by kernel_rfl) (fun _ => True) (fun _ W' => Keep (fun x => x = P) W2 W' ∧ EbI B P c h r f ix p X' w W') trivial (fun hH => ?reg) (fun a' w' hr => ?aft)
    case aft =>
      gi_wp2
      exact ⟨hr.1, by show EbI B P c h r f ix p (enK F (par ix) (bt p) (x + 1)) w w'; rw [hX']; exact hr.2⟩
    refine take_pure 1 (v := .int .i64 (x : Int)) rfl (by kernel_rfl) rfl (fun w' hw => by simp [execOp, go_sem]) hH ?_
    show wpAnyH _ _ _ _ _ _ _ ({ tmps := #[.pointer (some ⟨c, 0, none⟩), .agg A0.toArray, .int .i64 ix, .bool p, .pointer (some ⟨B, 0, none⟩), .pointer (some ⟨B + 1, 0, none⟩), .pointer (some ⟨B + 1 + 1, 0, none⟩), .pointer (some ⟨B + 1 + 1 + 1, 0, none⟩), .pointer (some ⟨B + 1 + 1 + 1 + 1, 0, none⟩), .pointer (some ⟨P, 0, none⟩), .int .i64 (x : Int), .int .u64 (d : Int), .int .u8 (y : Int), .agg A0.toArray, .func (.func 62) #[] #[.pointer (some ⟨P + 1, 0, none⟩)], .int .i64 (x : Int), .int .u64 (d : Int), .pointer (some ⟨c, 0, none⟩), .pointer (some ⟨c, 0, none⟩), .pointer (some ⟨c, 0, none⟩), .pointer (some ⟨h, 0, none⟩), .int .u64 (d : Int), .int .i64 ix, .int .i64 a, .bool p, .int .i64 q, .int .u8 (y : Int), undef, .int .i64 (x : Int), undef, undef, undef, undef, undef, undef, undef], defers := [] } : Act) _
    refine take_pure 2 (v := .int .u64 (d : Int)) rfl (by kernel_rfl) rfl (fun w' hw => by simp [execOp, go_sem]) hH ?_
    show wpAnyH _ _ _ _ _ _ _ ({ tmps := #[.pointer (some ⟨c, 0, none⟩), .agg A0.toArray, .int .i64 ix, .bool p, .pointer (some ⟨B, 0, none⟩), .pointer (some ⟨B + 1, 0, none⟩), .pointer (some ⟨B + 1 + 1, 0, none⟩), .pointer (some ⟨B + 1 + 1 + 1, 0, none⟩), .pointer (some ⟨B + 1 + 1 + 1 + 1, 0, none⟩), .pointer (some ⟨P, 0, none⟩), .int .i64 (x : Int), .int .u64 (d : Int), .int .u8 (y : Int), .agg A0.toArray, .func (.func 62) #[] #[.pointer (some ⟨P + 1, 0, none⟩)], .int .i64 (x : Int), .int .u64 (d : Int), .pointer (some ⟨c, 0, none⟩), .pointer (some ⟨c, 0, none⟩), .pointer (some ⟨c, 0, none⟩), .pointer (some ⟨h, 0, none⟩), .int .u64 (d : Int), .int .i64 ix, .int .i64 a, .bool p, .int .i64 q, .int .u8 (y : Int), undef, .int .i64 (x : Int), .int .u64 (d : Int), undef, undef, undef, undef, undef, undef], defers := [] } : Act) _
    refine take_pure 4 (v := .int .u8 (y : Int)) rfl (by kernel_rfl) rfl (fun w' hw => by simp [execOp, go_sem]) hH ?_
    show wpAnyH _ _ _ _ _ _ _ ({ tmps := #[.pointer (some ⟨c, 0, none⟩), .agg A0.toArray, .int .i64 ix, .bool p, .pointer (some ⟨B, 0, none⟩), .pointer (some ⟨B + 1, 0, none⟩), .pointer (some ⟨B + 1 + 1, 0, none⟩), .pointer (some ⟨B + 1 + 1 + 1, 0, none⟩), .pointer (some ⟨B + 1 + 1 + 1 + 1, 0, none⟩), .pointer (some ⟨P, 0, none⟩), .int .i64 (x : Int), .int .u64 (d : Int), .int .u8 (y : Int), .agg A0.toArray, .func (.func 62) #[] #[.pointer (some ⟨P + 1, 0, none⟩)], .int .i64 (x : Int), .int .u64 (d : Int), .pointer (some ⟨c, 0, none⟩), .pointer (some ⟨c, 0, none⟩), .pointer (some ⟨c, 0, none⟩), .pointer (some ⟨h, 0, none⟩), .int .u64 (d : Int), .int .i64 ix, .int .i64 a, .bool p, .int .i64 q, .int .u8 (y : Int), undef, .int .i64 (x : Int), .int .u64 (d : Int), undef, .int .u8 (y : Int), undef, undef, undef, undef], defers := [] } : Act) _
    refine take_three 0 3 5 rfl rfl rfl rfl rfl rfl (by kernel_rfl) ?_ ?_ ?_
    · refine wp_load_mid 27 _ rfl P 0 rfl LX _ (rX.out _ HI4.out.1) Tryz.underlying27 rfl iX ?_
      refine ⟨trivial, fun hH => ?_⟩
      show wpAnyH _ _ _ _ _ _ _ ({ tmps := #[.pointer (some ⟨c, 0, none⟩), .agg A0.toArray, .int .i64 ix, .bool p, .pointer (some ⟨B, 0, none⟩), .pointer (some ⟨B + 1, 0, none⟩), .pointer (some ⟨B + 1 + 1, 0, none⟩), .pointer (some ⟨B + 1 + 1 + 1, 0, none⟩), .pointer (some ⟨B + 1 + 1 + 1 + 1, 0, none⟩), .pointer (some ⟨P, 0, none⟩), .int .i64 (x : Int), .int .u64 (d : Int), .int .u8 (y : Int), .agg A0.toArray, .func (.func 62) #[] #[.pointer (some ⟨P + 1, 0, none⟩)], .int .i64 (x : Int), .int .u64 (d : Int), .pointer (some ⟨c, 0, none⟩), .pointer (some ⟨c, 0, none⟩), .pointer (some ⟨c, 0, none⟩), .pointer (some ⟨h, 0, none⟩), .int .u64 (d : Int), .int .i64 ix, .int .i64 a, .bool p, .int .i64 q, .int .u8 (y : Int), .agg LX.toArray, .int .i64 (x : Int), .int .u64 (d : Int), undef, .int .u8 (y : Int), undef, undef, undef, undef], defers := [] } : Act) _
      refine take_two 3 5 rfl rfl rfl rfl (by kernel_rfl) ?_ ?_
      · refine wp_contract 37 [.tmp 29] _ rfl (enters_of Tryz.func37 (by kernel_rfl) rfl) [.int .u64 (d : Int)] rfl (bytesOf_any d _) ?_
        rintro e X1 ⟨rfl, hbk, b5⟩
        replace HI4 : Hid (EbI B P c h r f ix p X w X1 ∧ Keep (fun x => x = P) W2 X1) := ⟨HI4.out.1.next b5, HI4.out.2.trans (Keep.below b5 (Nat.le_refl _))⟩
        obtain ⟨g, hg⟩ : ∃ g, (W3.drew).heap.size = g := ⟨_, rfl⟩
        have HG : Hid (Bk .u8 X1 g 8 (nb d)) := by rw [← hg]; exact hbk
        rw [hg]
        clear hbk b5 hg
        refine ⟨_, rfl, trivial, fun hH => ?_⟩
        show wpAnyH _ _ _ _ _ _ _ ({ tmps := #[.pointer (some ⟨c, 0, none⟩), .agg A0.toArray, .int .i64 ix, .bool p, .pointer (some ⟨B, 0, none⟩), .pointer (some ⟨B + 1, 0, none⟩), .pointer (some ⟨B + 1 + 1, 0, none⟩), .pointer (some ⟨B + 1 + 1 + 1, 0, none⟩), .pointer (some ⟨B + 1 + 1 + 1 + 1, 0, none⟩), .pointer (some ⟨P, 0, none⟩), .int .i64 (x : Int), .int .u64 (d : Int), .int .u8 (y : Int), .agg A0.toArray, .func (.func 62) #[] #[.pointer (some ⟨P + 1, 0, none⟩)], .int .i64 (x : Int), .int .u64 (d : Int), .pointer (some ⟨c, 0, none⟩), .pointer (some ⟨c, 0, none⟩), .pointer (some ⟨c, 0, none⟩), .pointer (some ⟨h, 0, none⟩), .int .u64 (d : Int), .int .i64 ix, .int .i64 a, .bool p, .int .i64 q, .int .u8 (y : Int), .agg LX.toArray, .int .i64 (x : Int), .int .u64 (d : Int), .slice (some ⟨g, 0, none⟩) 8 8, .int .u8 (y : Int), undef, undef, undef, undef], defers := [] } : Act) _
        refine take_one 5 rfl rfl (by kernel_rfl) ?_
        refine wp_build1 (y : Int) _ rfl rfl ?_
        obtain ⟨sb, hsb⟩ : ∃ g, (X1).heap.size = g := ⟨_, rfl⟩
        obtain ⟨X2, hX2⟩ : ∃ V, (X1).alloc (.cells #[.int .u8 (y : Int)] 5) = V := ⟨_, rfl⟩
        have b5 : Below (X1).heap.size (X1) X2 := by rw [← hX2]; exact (Below.refl _ _).alloc (Nat.le_refl _) _
        replace HI4 : Hid (EbI B P c h r f ix p X w X2 ∧ Keep (fun x => x = P) W2 X2) := ⟨HI4.out.1.next b5, HI4.out.2.trans (Keep.below b5 (Nat.le_refl _))⟩
        replace HG : Hid (Bk .u8 X2 g 8 (nb d)) := HG.out.next b5
        have HS : Hid (Bk .u8 X2 sb 1 (fun _ => (y : Int))) := by rw [← hX2, ← hsb]; exact Bk.new .u8 _ 1 (fun _ => (y : Int)) _
        rw [hsb, hX2]
        clear b5 hsb hX2
        refine ⟨trivial, fun hH => ?_⟩
        show wpAnyH _ _ _ _ _ _ _ ({ tmps := #[.pointer (some ⟨c, 0, none⟩), .agg A0.toArray, .int .i64 ix, .bool p, .pointer (some ⟨B, 0, none⟩), .pointer (some ⟨B + 1, 0, none⟩), .pointer (some ⟨B + 1 + 1, 0, none⟩), .pointer (some ⟨B + 1 + 1 + 1, 0, none⟩), .pointer (some ⟨B + 1 + 1 + 1 + 1, 0, none⟩), .pointer (some ⟨P, 0, none⟩), .int .i64 (x : Int), .int .u64 (d : Int), .int .u8 (y : Int), .agg A0.toArray, .func (.func 62) #[] #[.pointer (some ⟨P + 1, 0, none⟩)], .int .i64 (x : Int), .int .u64 (d : Int), .pointer (some ⟨c, 0, none⟩), .pointer (some ⟨c, 0, none⟩), .pointer (some ⟨c, 0, none⟩), .pointer (some ⟨h, 0, none⟩), .int .u64 (d : Int), .int .i64 ix, .int .i64 a, .bool p, .int .i64 q, .int .u8 (y : Int), .agg LX.toArray, .int .i64 (x : Int), .int .u64 (d : Int), .slice (some ⟨g, 0, none⟩) 8 8, .int .u8 (y : Int), .slice (some ⟨sb, 0, none⟩) 1 1, undef, undef, undef], defers := [] } : Act) _
        refine take_one 6 rfl rfl (by kernel_rfl) ?_
        refine wp_appG _ _ rfl g 0 8 8 sb 0 1 1 (nb d) (fun _ => (y : Int)) rfl rfl (fun j hj => by rw [Nat.zero_add]; exact HG.out.cell j hj) (fun j hj => by rw [Nat.zero_add]; exact HS.out.cell j hj) (by omega) (by omega) ?_
        intro cp X3 hcl b5
        obtain ⟨gg, hgg⟩ : ∃ g, (X2).heap.size = g := ⟨_, rfl⟩
        have HC : Hid (∀ j : Nat, j < 9 → X3.cell? ⟨gg, 0 + j, none⟩ = some (.int .u8 (wb d (y : Int) j))) := fun j hj => by rw [← hgg, Nat.zero_add]; exact hcl.out j hj
        replace HI4 : Hid (EbI B P c h r f ix p X w X3 ∧ Keep (fun x => x = P) W2 X3) := ⟨HI4.out.1.next b5, HI4.out.2.trans (Keep.below b5 (Nat.le_refl _))⟩
        rw [hgg]
        clear b5 hgg hcl HG HS
        refine ⟨trivial, fun hH => ?_⟩
        show wpAnyH _ _ _ _ _ _ _ ({ tmps := #[.pointer (some ⟨c, 0, none⟩), .agg A0.toArray, .int .i64 ix, .bool p, .pointer (some ⟨B, 0, none⟩), .pointer (some ⟨B + 1, 0, none⟩), .pointer (some ⟨B + 1 + 1, 0, none⟩), .pointer (some ⟨B + 1 + 1 + 1, 0, none⟩), .pointer (some ⟨B + 1 + 1 + 1 + 1, 0, none⟩), .pointer (some ⟨P, 0, none⟩), .int .i64 (x : Int), .int .u64 (d : Int), .int .u8 (y : Int), .agg A0.toArray, .func (.func 62) #[] #[.pointer (some ⟨P + 1, 0, none⟩)], .int .i64 (x : Int), .int .u64 (d : Int), .pointer (some ⟨c, 0, none⟩), .pointer (some ⟨c, 0, none⟩), .pointer (some ⟨c, 0, none⟩), .pointer (some ⟨h, 0, none⟩), .int .u64 (d : Int), .int .i64 ix, .int .i64 a, .bool p, .int .i64 q, .int .u8 (y : Int), .agg LX.toArray, .int .i64 (x : Int), .int .u64 (d : Int), .slice (some ⟨g, 0, none⟩) 8 8, .int .u8 (y : Int), .slice (some ⟨sb, 0, none⟩) 1 1, .slice (some ⟨gg, 0, none⟩) 9 cp, undef, undef], defers := [] } : Act) _
        refine take_one 7 rfl rfl (by kernel_rfl) ?_
        refine wp_contract 36 [.tmp 27, .const (.int .i64 1), .tmp 28, .tmp 33] _ rfl (enters_of Tryz.func36 (by kernel_rfl) rfl) [.agg LX.toArray, .int .i64 1, .int .i64 (x : Int), .slice (some ⟨gg, 0, none⟩) 9 cp] rfl (CP.out gg cp _ HC.out) ?_
        rintro e X4 ⟨rfl, b5⟩
        replace HI4 : Hid (EbI B P c h r f ix p X w X4 ∧ Keep (fun x => x = P) W2 X4) := ⟨HI4.out.1.next b5, HI4.out.2.trans (Keep.below b5 (Nat.le_refl _))⟩
        clear b5
        refine ⟨_, rfl, trivial, fun hH => ?_⟩
        show wpAnyH _ _ _ _ _ _ _ ({ tmps := #[.pointer (some ⟨c, 0, none⟩), .agg A0.toArray, .int .i64 ix, .bool p, .pointer (some ⟨B, 0, none⟩), .pointer (some ⟨B + 1, 0, none⟩), .pointer (some ⟨B + 1 + 1, 0, none⟩), .pointer (some ⟨B + 1 + 1 + 1, 0, none⟩), .pointer (some ⟨B + 1 + 1 + 1 + 1, 0, none⟩), .pointer (some ⟨P, 0, none⟩), .int .i64 (x : Int), .int .u64 (d : Int), .int .u8 (y : Int), .agg A0.toArray, .func (.func 62) #[] #[.pointer (some ⟨P + 1, 0, none⟩)], .int .i64 (x : Int), .int .u64 (d : Int), .pointer (some ⟨c, 0, none⟩), .pointer (some ⟨c, 0, none⟩), .pointer (some ⟨c, 0, none⟩), .pointer (some ⟨h, 0, none⟩), .int .u64 (d : Int), .int .i64 ix, .int .i64 a, .bool p, .int .i64 q, .int .u8 (y : Int), .agg LX.toArray, .int .i64 (x : Int), .int .u64 (d : Int), .slice (some ⟨g, 0, none⟩) 8 8, .int .u8 (y : Int), .slice (some ⟨sb, 0, none⟩) 1 1, .slice (some ⟨gg, 0, none⟩) 9 cp, .agg LN.toArray, undef], defers := [] } : Act) _
        refine take_one 8 rfl rfl (by kernel_rfl) ?_
        have ht7 : (X4).there P 0 LN.toArray.size := by rw [← HN.out]; exact HI4.out.1.x.there .u8 _
        refine wp_store_mid 27 _ _ rfl P 0 LN.toArray rfl rfl ht7 jN oN ?_
        have hE := HI4.out.1.put X'
        have hK := HI4.out.2.puts (c := P) rfl 0 LN
        rw [HN.out] at hE
        refine ⟨trivial, fun hH => ?_⟩
        show wpAnyH _ _ _ _ _ _ _ ({ tmps := #[.pointer (some ⟨c, 0, none⟩), .agg A0.toArray, .int .i64 ix, .bool p, .pointer (some ⟨B, 0, none⟩), .pointer (some ⟨B + 1, 0, none⟩), .pointer (some ⟨B + 1 + 1, 0, none⟩), .pointer (some ⟨B + 1 + 1 + 1, 0, none⟩), .pointer (some ⟨B + 1 + 1 + 1 + 1, 0, none⟩), .pointer (some ⟨P, 0, none⟩), .int .i64 (x : Int), .int .u64 (d : Int), .int .u8 (y : Int), .agg A0.toArray, .func (.func 62) #[] #[.pointer (some ⟨P + 1, 0, none⟩)], .int .i64 (x : Int), .int .u64 (d : Int), .pointer (some ⟨c, 0, none⟩), .pointer (some ⟨c, 0, none⟩), .pointer (some ⟨c, 0, none⟩), .pointer (some ⟨h, 0, none⟩), .int .u64 (d : Int), .int .i64 ix, .int .i64 a, .bool p, .int .i64 q, .int .u8 (y : Int), .agg LX.toArray, .int .i64 (x : Int), .int .u64 (d : Int), .slice (some ⟨g, 0, none⟩) 8 8, .int .u8 (y : Int), .slice (some ⟨sb, 0, none⟩) 1 1, .slice (some ⟨gg, 0, none⟩) 9 cp, .agg LN.toArray, undef], defers := [] } : Act) _
        exact wpAnyH_done (by kernel_rfl) ⟨hK, hE⟩ _
      · refine wp_build1 (y : Int) _ rfl rfl ?_
        obtain ⟨sb, hsb⟩ : ∃ g, (W3.drew).heap.size = g := ⟨_, rfl⟩
        obtain ⟨X5, hX5⟩ : ∃ V, (W3.drew).alloc (.cells #[.int .u8 (y : Int)] 5) = V := ⟨_, rfl⟩
        have b5 : Below (W3.drew).heap.size (W3.drew) X5 := by rw [← hX5]; exact (Below.refl _ _).alloc (Nat.le_refl _) _
        replace HI4 : Hid (EbI B P c h r f ix p X w X5 ∧ Keep (fun x => x = P) W2 X5) := ⟨HI4.out.1.next b5, HI4.out.2.trans (Keep.below b5 (Nat.le_refl _))⟩
        have HS : Hid (Bk .u8 X5 sb 1 (fun _ => (y : Int))) := by rw [← hX5, ← hsb]; exact Bk.new .u8 _ 1 (fun _ => (y : Int)) _
        rw [hsb, hX5]
        clear b5 hsb hX5
        refine ⟨trivial, fun hH => ?_⟩
        show wpAnyH _ _ _ _ _ _ _ ({ tmps := #[.pointer (some ⟨c, 0, none⟩), .agg A0.toArray, .int .i64 ix, .bool p, .pointer (some ⟨B, 0, none⟩), .pointer (some ⟨B + 1, 0, none⟩), .pointer (some ⟨B + 1 + 1, 0, none⟩), .pointer (some ⟨B + 1 + 1 + 1, 0, none⟩), .pointer (some ⟨B + 1 + 1 + 1 + 1, 0, none⟩), .pointer (some ⟨P, 0, none⟩), .int .i64 (x : Int), .int .u64 (d : Int), .int .u8 (y : Int), .agg A0.toArray, .func (.func 62) #[] #[.pointer (some ⟨P + 1, 0, none⟩)], .int .i64 (x : Int), .int .u64 (d : Int), .pointer (some ⟨c, 0, none⟩), .pointer (some ⟨c, 0, none⟩), .pointer (some ⟨c, 0, none⟩), .pointer (some ⟨h, 0, none⟩), .int .u64 (d : Int), .int .i64 ix, .int .i64 a, .bool p, .int .i64 q, .int .u8 (y : Int), .agg LX.toArray, .int .i64 (x : Int), .int .u64 (d : Int), undef, .int .u8 (y : Int), .slice (some ⟨sb, 0, none⟩) 1 1, undef, undef, undef], defers := [] } : Act) _
        refine take_one 3 rfl rfl (by kernel_rfl) ?_
        refine wp_contract 37 [.tmp 29] _ rfl (enters_of Tryz.func37 (by kernel_rfl) rfl) [.int .u64 (d : Int)] rfl (bytesOf_any d _) ?_
        rintro e X6 ⟨rfl, hbk, b5⟩
        replace HI4 : Hid (EbI B P c h r f ix p X w X6 ∧ Keep (fun x => x = P) W2 X6) := ⟨HI4.out.1.next b5, HI4.out.2.trans (Keep.below b5 (Nat.le_refl _))⟩
        replace HS : Hid (Bk .u8 X6 sb 1 (fun _ => (y : Int))) := HS.out.next b5
        obtain ⟨g, hg⟩ : ∃ g, (X5).heap.size = g := ⟨_, rfl⟩
        have HG : Hid (Bk .u8 X6 g 8 (nb d)) := by rw [← hg]; exact hbk
        rw [hg]
        clear hbk b5 hg
        refine ⟨_, rfl, trivial, fun hH => ?_⟩
        show wpAnyH _ _ _ _ _ _ _ ({ tmps := #[.pointer (some ⟨c, 0, none⟩), .agg A0.toArray, .int .i64 ix, .bool p, .pointer (some ⟨B, 0, none⟩), .pointer (some ⟨B + 1, 0, none⟩), .pointer (some ⟨B + 1 + 1, 0, none⟩), .pointer (some ⟨B + 1 + 1 + 1, 0, none⟩), .pointer (some ⟨B + 1 + 1 + 1 + 1, 0, none⟩), .pointer (some ⟨P, 0, none⟩), .int .i64 (x : Int), .int .u64 (d : Int), .int .u8 (y : Int), .agg A0.toArray, .func (.func 62) #[] #[.pointer (some ⟨P + 1, 0, none⟩)], .int .i64 (x : Int), .int .u64 (d : Int), .pointer (some ⟨c, 0, none⟩), .pointer (some ⟨c, 0, none⟩), .pointer (some ⟨c, 0, none⟩), .pointer (some ⟨h, 0, none⟩), .int .u64 (d : Int), .int .i64 ix, .int .i64 a, .bool p, .int .i64 q, .int .u8 (y : Int), .agg LX.toArray, .int .i64 (x : Int), .int .u64 (d : Int), .slice (some ⟨g, 0, none⟩) 8 8, .int .u8 (y : Int), .slice (some ⟨sb, 0, none⟩) 1 1, undef, undef, undef], defers := [] } : Act) _
        refine take_one 6 rfl rfl (by kernel_rfl) ?_
        refine wp_appG _ _ rfl g 0 8 8 sb 0 1 1 (nb d) (fun _ => (y : Int)) rfl rfl (fun j hj => by rw [Nat.zero_add]; exact HG.out.cell j hj) (fun j hj => by rw [Nat.zero_add]; exact HS.out.cell j hj) (by omega) (by omega) ?_
        intro cp X7 hcl b5
        obtain ⟨gg, hgg⟩ : ∃ g, (X6).heap.size = g := ⟨_, rfl⟩
        have HC : Hid (∀ j : Nat, j < 9 → X7.cell? ⟨gg, 0 + j, none⟩ = some (.int .u8 (wb d (y : Int) j))) := fun j hj => by rw [← hgg, Nat.zero_add]; exact hcl.out j hj
        replace HI4 : Hid (EbI B P c h r f ix p X w X7 ∧ Keep (fun x => x = P) W2 X7) := ⟨HI4.out.1.next b5, HI4.out.2.trans (Keep.below b5 (Nat.le_refl _))⟩
        rw [hgg]
        clear b5 hgg hcl HG HS
        refine ⟨trivial, fun hH => ?_⟩
        show wpAnyH _ _ _ _ _ _ _ ({ tmps := #[.pointer (some ⟨c, 0, none⟩), .agg A0.toArray, .int .i64 ix, .bool p, .pointer (some ⟨B, 0, none⟩), .pointer (some ⟨B + 1, 0, none⟩), .pointer (some ⟨B + 1 + 1, 0, none⟩), .pointer (some ⟨B + 1 + 1 + 1, 0, none⟩), .pointer (some ⟨B + 1 + 1 + 1 + 1, 0, none⟩), .pointer (some ⟨P, 0, none⟩), .int .i64 (x : Int), .int .u64 (d : Int), .int .u8 (y : Int), .agg A0.toArray, .func (.func 62) #[] #[.pointer (some ⟨P + 1, 0, none⟩)], .int .i64 (x : Int), .int .u64 (d : Int), .pointer (some ⟨c, 0, none⟩), .pointer (some ⟨c, 0, none⟩), .pointer (some ⟨c, 0, none⟩), .pointer (some ⟨h, 0, none⟩), .int .u64 (d : Int), .int .i64 ix, .int .i64 a, .bool p, .int .i64 q, .int .u8 (y : Int), .agg LX.toArray, .int .i64 (x : Int), .int .u64 (d : Int), .slice (some ⟨g, 0, none⟩) 8 8, .int .u8 (y : Int), .slice (some ⟨sb, 0, none⟩) 1 1, .slice (some ⟨gg, 0, none⟩) 9 cp, undef, undef], defers := [] } : Act) _
        refine take_one 7 rfl rfl (by kernel_rfl) ?_
        refine wp_contract 36 [.tmp 27, .const (.int .i64 1), .tmp 28, .tmp 33] _ rfl (enters_of Tryz.func36 (by kernel_rfl) rfl) [.agg LX.toArray, .int .i64 1, .int .i64 (x : Int), .slice (some ⟨gg, 0, none⟩) 9 cp] rfl (CP.out gg cp _ HC.out) ?_
        rintro e X8 ⟨rfl, b5⟩
        replace HI4 : Hid (EbI B P c h r f ix p X w X8 ∧ Keep (fun x => x = P) W2 X8) := ⟨HI4.out.1.next b5, HI4.out.2.trans (Keep.below b5 (Nat.le_refl _))⟩
        clear b5
        refine ⟨_, rfl, trivial, fun hH => ?_⟩
        show wpAnyH _ _ _ _ _ _ _ ({ tmps := #[.pointer (some ⟨c, 0, none⟩), .agg A0.toArray, .int .i64 ix, .bool p, .pointer (some ⟨B, 0, none⟩), .pointer (some ⟨B + 1, 0, none⟩), .pointer (some ⟨B + 1 + 1, 0, none⟩), .pointer (some ⟨B + 1 + 1 + 1, 0, none⟩), .pointer (some ⟨B + 1 + 1 + 1 + 1, 0, none⟩), .pointer (some ⟨P, 0, none⟩), .int .i64 (x : Int), .int .u64 (d : Int), .int .u8 (y : Int), .agg A0.toArray, .func (.func 62) #[] #[.pointer (some ⟨P + 1, 0, none⟩)], .int .i64 (x : Int), .int .u64 (d : Int), .pointer (some ⟨c, 0, none⟩), .pointer (some ⟨c, 0, none⟩), .pointer (some ⟨c, 0, none⟩), .pointer (some ⟨h, 0, none⟩), .int .u64 (d : Int), .int .i64 ix, .int .i64 a, .bool p, .int .i64 q, .int .u8 (y : Int), .agg LX.toArray, .int .i64 (x : Int), .int .u64 (d : Int), .slice (some ⟨g, 0, none⟩) 8 8, .int .u8 (y : Int), .slice (some ⟨sb, 0, none⟩) 1 1, .slice (some ⟨gg, 0, none⟩) 9 cp, .agg LN.toArray, undef], defers := [] } : Act) _
        refine take_one 8 rfl rfl (by kernel_rfl) ?_
        have ht7 : (X8).there P 0 LN.toArray.size := by rw [← HN.out]; exact HI4.out.1.x.there .u8 _
        refine wp_store_mid 27 _ _ rfl P 0 LN.toArray rfl rfl ht7 jN oN ?_
        have hE := HI4.out.1.put X'
        have hK := HI4.out.2.puts (c := P) rfl 0 LN
        rw [HN.out] at hE
        refine ⟨trivial, fun hH => ?_⟩
        show wpAnyH _ _ _ _ _ _ _ ({ tmps := #[.pointer (some ⟨c, 0, none⟩), .agg A0.toArray, .int .i64 ix, .bool p, .pointer (some ⟨B, 0, none⟩), .pointer (some ⟨B + 1, 0, none⟩), .pointer (some ⟨B + 1 + 1, 0, none⟩), .pointer (some ⟨B + 1 + 1 + 1, 0, none⟩), .pointer (some ⟨B + 1 + 1 + 1 + 1, 0, none⟩), .pointer (some ⟨P, 0, none⟩), .int .i64 (x : Int), .int .u64 (d : Int), .int .u8 (y : Int), .agg A0.toArray, .func (.func 62) #[] #[.pointer (some ⟨P + 1, 0, none⟩)], .int .i64 (x : Int), .int .u64 (d : Int), .pointer (some ⟨c, 0, none⟩), .pointer (some ⟨c, 0, none⟩), .pointer (some ⟨c, 0, none⟩), .pointer (some ⟨h, 0, none⟩), .int .u64 (d : Int), .int .i64 ix, .int .i64 a, .bool p, .int .i64 q, .int .u8 (y : Int), .agg LX.toArray, .int .i64 (x : Int), .int .u64 (d : Int), .slice (some ⟨g, 0, none⟩) 8 8, .int .u8 (y : Int), .slice (some ⟨sb, 0, none⟩) 1 1, .slice (some ⟨gg, 0, none⟩) 9 cp, .agg LN.toArray, undef], defers := [] } : Act) _
        exact wpAnyH_done (by kernel_rfl) ⟨hK, hE⟩ _
    · refine wp_contract 37 [.tmp 29] _ rfl (enters_of Tryz.func37 (by kernel_rfl) rfl) [.int .u64 (d : Int)] rfl (bytesOf_any d _) ?_
      rintro e X9 ⟨rfl, hbk, b5⟩
      replace HI4 : Hid (EbI B P c h r f ix p X w X9 ∧ Keep (fun x => x = P) W2 X9) := ⟨HI4.out.1.next b5, HI4.out.2.trans (Keep.below b5 (Nat.le_refl _))⟩
      obtain ⟨g, hg⟩ : ∃ g, (W3.drew).heap.size = g := ⟨_, rfl⟩
      have HG : Hid (Bk .u8 X9 g 8 (nb d)) := by rw [← hg]; exact hbk
      rw [hg]
      clear hbk b5 hg
      refine ⟨_, rfl, trivial, fun hH => ?_⟩
      show wpAnyH _ _ _ _ _ _ _ ({ tmps := #[.pointer (some ⟨c, 0, none⟩), .agg A0.toArray, .int .i64 ix, .bool p, .pointer (some ⟨B, 0, none⟩), .pointer (some ⟨B + 1, 0, none⟩), .pointer (some ⟨B + 1 + 1, 0, none⟩), .pointer (some ⟨B + 1 + 1 + 1, 0, none⟩), .pointer (some ⟨B + 1 + 1 + 1 + 1, 0, none⟩), .pointer (some ⟨P, 0, none⟩), .int .i64 (x : Int), .int .u64 (d : Int), .int .u8 (y : Int), .agg A0.toArray, .func (.func 62) #[] #[.pointer (some ⟨P + 1, 0, none⟩)], .int .i64 (x : Int), .int .u64 (d : Int), .pointer (some ⟨c, 0, none⟩), .pointer (some ⟨c, 0, none⟩), .pointer (some ⟨c, 0, none⟩), .pointer (some ⟨h, 0, none⟩), .int .u64 (d : Int), .int .i64 ix, .int .i64 a, .bool p, .int .i64 q, .int .u8 (y : Int), undef, .int .i64 (x : Int), .int .u64 (d : Int), .slice (some ⟨g, 0, none⟩) 8 8, .int .u8 (y : Int), undef, undef, undef, undef], defers := [] } : Act) _
      refine take_two 0 5 rfl rfl rfl rfl (by kernel_rfl) ?_ ?_
      · refine wp_load_mid 27 _ rfl P 0 rfl LX _ (rX.out _ HI4.out.1) Tryz.underlying27 rfl iX ?_
        refine ⟨trivial, fun hH => ?_⟩
        show wpAnyH _ _ _ _ _ _ _ ({ tmps := #[.pointer (some ⟨c, 0, none⟩), .agg A0.toArray, .int .i64 ix, .bool p, .pointer (some ⟨B, 0, none⟩), .pointer (some ⟨B + 1, 0, none⟩), .pointer (some ⟨B + 1 + 1, 0, none⟩), .pointer (some ⟨B + 1 + 1 + 1, 0, none⟩), .pointer (some ⟨B + 1 + 1 + 1 + 1, 0, none⟩), .pointer (some ⟨P, 0, none⟩), .int .i64 (x : Int), .int .u64 (d : Int), .int .u8 (y : Int), .agg A0.toArray, .func (.func 62) #[] #[.pointer (some ⟨P + 1, 0, none⟩)], .int .i64 (x : Int), .int .u64 (d : Int), .pointer (some ⟨c, 0, none⟩), .pointer (some ⟨c, 0, none⟩), .pointer (some ⟨c, 0, none⟩), .pointer (some ⟨h, 0, none⟩), .int .u64 (d : Int), .int .i64 ix, .int .i64 a, .bool p, .int .i64 q, .int .u8 (y : Int), .agg LX.toArray, .int .i64 (x : Int), .int .u64 (d : Int), .slice (some ⟨g, 0, none⟩) 8 8, .int .u8 (y : Int), undef, undef, undef, undef], defers := [] } : Act) _
        refine take_one 5 rfl rfl (by kernel_rfl) ?_
        refine wp_build1 (y : Int) _ rfl rfl ?_
        obtain ⟨sb, hsb⟩ : ∃ g, (X9).heap.size = g := ⟨_, rfl⟩
        obtain ⟨X10, hX10⟩ : ∃ V, (X9).alloc (.cells #[.int .u8 (y : Int)] 5) = V := ⟨_, rfl⟩
        have b5 : Below (X9).heap.size (X9) X10 := by rw [← hX10]; exact (Below.refl _ _).alloc (Nat.le_refl _) _
        replace HI4 : Hid (EbI B P c h r f ix p X w X10 ∧ Keep (fun x => x = P) W2 X10) := ⟨HI4.out.1.next b5, HI4.out.2.trans (Keep.below b5 (Nat.le_refl _))⟩
        replace HG : Hid (Bk .u8 X10 g 8 (nb d)) := HG.out.next b5
        have HS : Hid (Bk .u8 X10 sb 1 (fun _ => (y : Int))) := by rw [← hX10, ← hsb]; exact Bk.new .u8 _ 1 (fun _ => (y : Int)) _
        rw [hsb, hX10]
        clear b5 hsb hX10
        refine ⟨trivial, fun hH => ?_⟩
        show wpAnyH _ _ _ _ _ _ _ ({ tmps := #[.pointer (some ⟨c, 0, none⟩), .agg A0.toArray, .int .i64 ix, .bool p, .pointer (some ⟨B, 0, none⟩), .pointer (some ⟨B + 1, 0, none⟩), .pointer (some ⟨B + 1 + 1, 0, none⟩), .pointer (some ⟨B + 1 + 1 + 1, 0, none⟩), .pointer (some ⟨B + 1 + 1 + 1 + 1, 0, none⟩), .pointer (some ⟨P, 0, none⟩), .int .i64 (x : Int), .int .u64 (d : Int), .int .u8 (y : Int), .agg A0.toArray, .func (.func 62) #[] #[.pointer (some ⟨P + 1, 0, none⟩)], .int .i64 (x : Int), .int .u64 (d : Int), .pointer (some ⟨c, 0, none⟩), .pointer (some ⟨c, 0, none⟩), .pointer (some ⟨c, 0, none⟩), .pointer (some ⟨h, 0, none⟩), .int .u64 (d : Int), .int .i64 ix, .int .i64 a, .bool p, .int .i64 q, .int .u8 (y : Int), .agg LX.toArray, .int .i64 (x : Int), .int .u64 (d : Int), .slice (some ⟨g, 0, none⟩) 8 8, .int .u8 (y : Int), .slice (some ⟨sb, 0, none⟩) 1 1, undef, undef, undef], defers := [] } : Act) _
        refine take_one 6 rfl rfl (by kernel_rfl) ?_
        refine wp_appG _ _ rfl g 0 8 8 sb 0 1 1 (nb d) (fun _ => (y : Int)) rfl rfl (fun j hj => by rw [Nat.zero_add]; exact HG.out.cell j hj) (fun j hj => by rw [Nat.zero_add]; exact HS.out.cell j hj) (by omega) (by omega) ?_
        intro cp X11 hcl b5
        obtain ⟨gg, hgg⟩ : ∃ g, (X10).heap.size = g := ⟨_, rfl⟩
        have HC : Hid (∀ j : Nat, j < 9 → X11.cell? ⟨gg, 0 + j, none⟩ = some (.int .u8 (wb d (y : Int) j))) := fun j hj => by rw [← hgg, Nat.zero_add]; exact hcl.out j hj
        replace HI4 : Hid (EbI B P c h r f ix p X w X11 ∧ Keep (fun x => x = P) W2 X11) := ⟨HI4.out.1.next b5, HI4.out.2.trans (Keep.below b5 (Nat.le_refl _))⟩
        rw [hgg]
        clear b5 hgg hcl HG HS
        refine ⟨trivial, fun hH => ?_⟩
        show wpAnyH _ _ _ _ _ _ _ ({ tmps := #[.pointer (some ⟨c, 0, none⟩), .agg A0.toArray, .int .i64 ix, .bool p, .pointer (some ⟨B, 0, none⟩), .pointer (some ⟨B + 1, 0, none⟩), .pointer (some ⟨B + 1 + 1, 0, none⟩), .pointer (some ⟨B + 1 + 1 + 1, 0, none⟩), .pointer (some ⟨B + 1 + 1 + 1 + 1, 0, none⟩), .pointer (some ⟨P, 0, none⟩), .int .i64 (x : Int), .int .u64 (d : Int), .int .u8 (y : Int), .agg A0.toArray, .func (.func 62) #[] #[.pointer (some ⟨P + 1, 0, none⟩)], .int .i64 (x : Int), .int .u64 (d : Int), .pointer (some ⟨c, 0, none⟩), .pointer (some ⟨c, 0, none⟩), .pointer (some ⟨c, 0, none⟩), .pointer (some ⟨h, 0, none⟩), .int .u64 (d : Int), .int .i64 ix, .int .i64 a, .bool p, .int .i64 q, .int .u8 (y : Int), .agg LX.toArray, .int .i64 (x : Int), .int .u64 (d : Int), .slice (some ⟨g, 0, none⟩) 8 8, .int .u8 (y : Int), .slice (some ⟨sb, 0, none⟩) 1 1, .slice (some ⟨gg, 0, none⟩) 9 cp, undef, undef], defers := [] } : Act) _
        refine take_one 7 rfl rfl (by kernel_rfl) ?_
        refine wp_contract 36 [.tmp 27, .const (.int .i64 1), .tmp 28, .tmp 33] _ rfl (enters_of Tryz.func36 (by kernel_rfl) rfl) [.agg LX.toArray, .int .i64 1, .int .i64 (x : Int), .slice (some ⟨gg, 0, none⟩) 9 cp] rfl (CP.out gg cp _ HC.out) ?_
        rintro e X12 ⟨rfl, b5⟩
        replace HI4 : Hid (EbI B P c h r f ix p X w X12 ∧ Keep (fun x => x = P) W2 X12) := ⟨HI4.out.1.next b5, HI4.out.2.trans (Keep.below b5 (Nat.le_refl _))⟩
        clear b5
        refine ⟨_, rfl, trivial, fun hH => ?_⟩
        show wpAnyH _ _ _ _ _ _ _ ({ tmps := #[.pointer (some ⟨c, 0, none⟩), .agg A0.toArray, .int .i64 ix, .bool p, .pointer (some ⟨B, 0, none⟩), .pointer (some ⟨B + 1, 0, none⟩), .pointer (some ⟨B + 1 + 1, 0, none⟩), .pointer (some ⟨B + 1 + 1 + 1, 0, none⟩), .pointer (some ⟨B + 1 + 1 + 1 + 1, 0, none⟩), .pointer (some ⟨P, 0, none⟩), .int .i64 (x : Int), .int .u64 (d : Int), .int .u8 (y : Int), .agg A0.toArray, .func (.func 62) #[] #[.pointer (some ⟨P + 1, 0, none⟩)], .int .i64 (x : Int), .int .u64 (d : Int), .pointer (some ⟨c, 0, none⟩), .pointer (some ⟨c, 0, none⟩), .pointer (some ⟨c, 0, none⟩), .pointer (some ⟨h, 0, none⟩), .int .u64 (d : Int), .int .i64 ix, .int .i64 a, .bool p, .int .i64 q, .int .u8 (y : Int), .agg LX.toArray, .int .i64 (x : Int), .int .u64 (d : Int), .slice (some ⟨g, 0, none⟩) 8 8, .int .u8 (y : Int), .slice (some ⟨sb, 0, none⟩) 1 1, .slice (some ⟨gg, 0, none⟩) 9 cp, .agg LN.toArray, undef], defers := [] } : Act) _
        refine take_one 8 rfl rfl (by kernel_rfl) ?_
        have ht7 : (X12).there P 0 LN.toArray.size := by rw [← HN.out]; exact HI4.out.1.x.there .u8 _
        refine wp_store_mid 27 _ _ rfl P 0 LN.toArray rfl rfl ht7 jN oN ?_
        have hE := HI4.out.1.put X'
        have hK := HI4.out.2.puts (c := P) rfl 0 LN
        rw [HN.out] at hE
        refine ⟨trivial, fun hH => ?_⟩
        show wpAnyH _ _ _ _ _ _ _ ({ tmps := #[.pointer (some ⟨c, 0, none⟩), .agg A0.toArray, .int .i64 ix, .bool p, .pointer (some ⟨B, 0, none⟩), .pointer (some ⟨B + 1, 0, none⟩), .pointer (some ⟨B + 1 + 1, 0, none⟩), .pointer (some ⟨B + 1 + 1 + 1, 0, none⟩), .pointer (some ⟨B + 1 + 1 + 1 + 1, 0, none⟩), .pointer (some ⟨P, 0, none⟩), .int .i64 (x : Int), .int .u64 (d : Int), .int .u8 (y : Int), .agg A0.toArray, .func (.func 62) #[] #[.pointer (some ⟨P + 1, 0, none⟩)], .int .i64 (x : Int), .int .u64 (d : Int), .pointer (some ⟨c, 0, none⟩), .pointer (some ⟨c, 0, none⟩), .pointer (some ⟨c, 0, none⟩), .pointer (some ⟨h, 0, none⟩), .int .u64 (d : Int), .int .i64 ix, .int .i64 a, .bool p, .int .i64 q, .int .u8 (y : Int), .agg LX.toArray, .int .i64 (x : Int), .int .u64 (d : Int), .slice (some ⟨g, 0, none⟩) 8 8, .int .u8 (y : Int), .slice (some ⟨sb, 0, none⟩) 1 1, .slice (some ⟨gg, 0, none⟩) 9 cp, .agg LN.toArray, undef], defers := [] } : Act) _
        exact wpAnyH_done (by kernel_rfl) ⟨hK, hE⟩ _
      · refine wp_build1 (y : Int) _ rfl rfl ?_
        obtain ⟨sb, hsb⟩ : ∃ g, (X9).heap.size = g := ⟨_, rfl⟩
        obtain ⟨X13, hX13⟩ : ∃ V, (X9).alloc (.cells #[.int .u8 (y : Int)] 5) = V := ⟨_, rfl⟩
        have b5 : Below (X9).heap.size (X9) X13 := by rw [← hX13]; exact (Below.refl _ _).alloc (Nat.le_refl _) _
        replace HI4 : Hid (EbI B P c h r f ix p X w X13 ∧ Keep (fun x => x = P) W2 X13) := ⟨HI4.out.1.next b5, HI4.out.2.trans (Keep.below b5 (Nat.le_refl _))⟩
        replace HG : Hid (Bk .u8 X13 g 8 (nb d)) := HG.out.next b5
        have HS : Hid (Bk .u8 X13 sb 1 (fun _ => (y : Int))) := by rw [← hX13, ← hsb]; exact Bk.new .u8 _ 1 (fun _ => (y : Int)) _
        rw [hsb, hX13]
        clear b5 hsb hX13
        refine ⟨trivial, fun hH => ?_⟩
        show wpAnyH _ _ _ _ _ _ _ ({ tmps := #[.pointer (some ⟨c, 0, none⟩), .agg A0.toArray, .int .i64 ix, .bool p, .pointer (some ⟨B, 0, none⟩), .pointer (some ⟨B + 1, 0, none⟩), .pointer (some ⟨B + 1 + 1, 0, none⟩), .pointer (some ⟨B + 1 + 1 + 1, 0, none⟩), .pointer (some ⟨B + 1 + 1 + 1 + 1, 0, none⟩), .pointer (some ⟨P, 0, none⟩), .int .i64 (x : Int), .int .u64 (d : Int), .int .u8 (y : Int), .agg A0.toArray, .func (.func 62) #[] #[.pointer (some ⟨P + 1, 0, none⟩)], .int .i64 (x : Int), .int .u64 (d : Int), .pointer (some ⟨c, 0, none⟩), .pointer (some ⟨c, 0, none⟩), .pointer (some ⟨c, 0, none⟩), .pointer (some ⟨h, 0, none⟩), .int .u64 (d : Int), .int .i64 ix, .int .i64 a, .bool p, .int .i64 q, .int .u8 (y : Int), undef, .int .i64 (x : Int), .int .u64 (d : Int), .slice (some ⟨g, 0, none⟩) 8 8, .int .u8 (y : Int), .slice (some ⟨sb, 0, none⟩) 1 1, undef, undef, undef], defers := [] } : Act) _
        refine take_two 0 6 rfl rfl rfl rfl (by kernel_rfl) ?_ ?_
        · refine wp_load_mid 27 _ rfl P 0 rfl LX _ (rX.out _ HI4.out.1) Tryz.underlying27 rfl iX ?_
          refine ⟨trivial, fun hH => ?_⟩
          show wpAnyH _ _ _ _ _ _ _ ({ tmps := #[.pointer (some ⟨c, 0, none⟩), .agg A0.toArray, .int .i64 ix, .bool p, .pointer (some ⟨B, 0, none⟩), .pointer (some ⟨B + 1, 0, none⟩), .pointer (some ⟨B + 1 + 1, 0, none⟩), .pointer (some ⟨B + 1 + 1 + 1, 0, none⟩), .pointer (some ⟨B + 1 + 1 + 1 + 1, 0, none⟩), .pointer (some ⟨P, 0, none⟩), .int .i64 (x : Int), .int .u64 (d : Int), .int .u8 (y : Int), .agg A0.toArray, .func (.func 62) #[] #[.pointer (some ⟨P + 1, 0, none⟩)], .int .i64 (x : Int), .int .u64 (d : Int), .pointer (some ⟨c, 0, none⟩), .pointer (some ⟨c, 0, none⟩), .pointer (some ⟨c, 0, none⟩), .pointer (some ⟨h, 0, none⟩), .int .u64 (d : Int), .int .i64 ix, .int .i64 a, .bool p, .int .i64 q, .int .u8 (y : Int), .agg LX.toArray, .int .i64 (x : Int), .int .u64 (d : Int), .slice (some ⟨g, 0, none⟩) 8 8, .int .u8 (y : Int), .slice (some ⟨sb, 0, none⟩) 1 1, undef, undef, undef], defers := [] } : Act) _
          refine take_one 6 rfl rfl (by kernel_rfl) ?_
          refine wp_appG _ _ rfl g 0 8 8 sb 0 1 1 (nb d) (fun _ => (y : Int)) rfl rfl (fun j hj => by rw [Nat.zero_add]; exact HG.out.cell j hj) (fun j hj => by rw [Nat.zero_add]; exact HS.out.cell j hj) (by omega) (by omega) ?_
          intro cp X14 hcl b5
          obtain ⟨gg, hgg⟩ : ∃ g, (X13).heap.size = g := ⟨_, rfl⟩
          have HC : Hid (∀ j : Nat, j < 9 → X14.cell? ⟨gg, 0 + j, none⟩ = some (.int .u8 (wb d (y : Int) j))) := fun j hj => by rw [← hgg, Nat.zero_add]; exact hcl.out j hj
          replace HI4 : Hid (EbI B P c h r f ix p X w X14 ∧ Keep (fun x => x = P) W2 X14) := ⟨HI4.out.1.next b5, HI4.out.2.trans (Keep.below b5 (Nat.le_refl _))⟩
          rw [hgg]
          clear b5 hgg hcl HG HS
          refine ⟨trivial, fun hH => ?_⟩
          show wpAnyH _ _ _ _ _ _ _ ({ tmps := #[.pointer (some ⟨c, 0, none⟩), .agg A0.toArray, .int .i64 ix, .bool p, .pointer (some ⟨B, 0, none⟩), .pointer (some ⟨B + 1, 0, none⟩), .pointer (some ⟨B + 1 + 1, 0, none⟩), .pointer (some ⟨B + 1 + 1 + 1, 0, none⟩), .pointer (some ⟨B + 1 + 1 + 1 + 1, 0, none⟩), .pointer (some ⟨P, 0, none⟩), .int .i64 (x : Int), .int .u64 (d : Int), .int .u8 (y : Int), .agg A0.toArray, .func (.func 62) #[] #[.pointer (some ⟨P + 1, 0, none⟩)], .int .i64 (x : Int), .int .u64 (d : Int), .pointer (some ⟨c, 0, none⟩), .pointer (some ⟨c, 0, none⟩), .pointer (some ⟨c, 0, none⟩), .pointer (some ⟨h, 0, none⟩), .int .u64 (d : Int), .int .i64 ix, .int .i64 a, .bool p, .int .i64 q, .int .u8 (y : Int), .agg LX.toArray, .int .i64 (x : Int), .int .u64 (d : Int), .slice (some ⟨g, 0, none⟩) 8 8, .int .u8 (y : Int), .slice (some ⟨sb, 0, none⟩) 1 1, .slice (some ⟨gg, 0, none⟩) 9 cp, undef, undef], defers := [] } : Act) _
          refine take_one 7 rfl rfl (by kernel_rfl) ?_
          refine wp_contract 36 [.tmp 27, .const (.int .i64 1), .tmp 28, .tmp 33] _ rfl (enters_of Tryz.func36 (by kernel_rfl) rfl) [.agg LX.toArray, .int .i64 1, .int .i64 (x : Int), .slice (some ⟨gg, 0, none⟩) 9 cp] rfl (CP.out gg cp _ HC.out) ?_
          rintro e X15 ⟨rfl, b5⟩
          replace HI4 : Hid (EbI B P c h r f ix p X w X15 ∧ Keep (fun x => x = P) W2 X15) := ⟨HI4.out.1.next b5, HI4.out.2.trans (Keep.below b5 (Nat.le_refl _))⟩
          clear b5
          refine ⟨_, rfl, trivial, fun hH => ?_⟩
          show wpAnyH _ _ _ _ _ _ _ ({ tmps := #[.pointer (some ⟨c, 0, none⟩), .agg A0.toArray, .int .i64 ix, .bool p, .pointer (some ⟨B, 0, none⟩), .pointer (some ⟨B + 1, 0, none⟩), .pointer (some ⟨B + 1 + 1, 0, none⟩), .pointer (some ⟨B + 1 + 1 + 1, 0, none⟩), .pointer (some ⟨B + 1 + 1 + 1 + 1, 0, none⟩), .pointer (some ⟨P, 0, none⟩), .int .i64 (x : Int), .int .u64 (d : Int), .int .u8 (y : Int), .agg A0.toArray, .func (.func 62) #[] #[.pointer (some ⟨P + 1, 0, none⟩)], .int .i64 (x : Int), .int .u64 (d : Int), .pointer (some ⟨c, 0, none⟩), .pointer (some ⟨c, 0, none⟩), .pointer (some ⟨c, 0, none⟩), .pointer (some ⟨h, 0, none⟩), .int .u64 (d : Int), .int .i64 ix, .int .i64 a, .bool p, .int .i64 q, .int .u8 (y : Int), .agg LX.toArray, .int .i64 (x : Int), .int .u64 (d : Int), .slice (some ⟨g, 0, none⟩) 8 8, .int .u8 (y : Int), .slice (some ⟨sb, 0, none⟩) 1 1, .slice (some ⟨gg, 0, none⟩) 9 cp, .agg LN.toArray, undef], defers := [] } : Act) _
          refine take_one 8 rfl rfl (by kernel_rfl) ?_
          have ht7 : (X15).there P 0 LN.toArray.size := by rw [← HN.out]; exact HI4.out.1.x.there .u8 _
          refine wp_store_mid 27 _ _ rfl P 0 LN.toArray rfl rfl ht7 jN oN ?_
          have hE := HI4.out.1.put X'
          have hK := HI4.out.2.puts (c := P) rfl 0 LN
          rw [HN.out] at hE
          refine ⟨trivial, fun hH => ?_⟩
          show wpAnyH _ _ _ _ _ _ _ ({ tmps := #[.pointer (some ⟨c, 0, none⟩), .agg A0.toArray, .int .i64 ix, .bool p, .pointer (some ⟨B, 0, none⟩), .pointer (some ⟨B + 1, 0, none⟩), .pointer (some ⟨B + 1 + 1, 0, none⟩), .pointer (some ⟨B + 1 + 1 + 1, 0, none⟩), .pointer (some ⟨B + 1 + 1 + 1 + 1, 0, none⟩), .pointer (some ⟨P, 0, none⟩), .int .i64 (x : Int), .int .u64 (d : Int), .int .u8 (y : Int), .agg A0.toArray, .func (.func 62) #[] #[.pointer (some ⟨P + 1, 0, none⟩)], .int .i64 (x : Int), .int .u64 (d : Int), .pointer (some ⟨c, 0, none⟩), .pointer (some ⟨c, 0, none⟩), .pointer (some ⟨c, 0, none⟩), .pointer (some ⟨h, 0, none⟩), .int .u64 (d : Int), .int .i64 ix, .int .i64 a, .bool p, .int .i64 q, .int .u8 (y : Int), .agg LX.toArray, .int .i64 (x : Int), .int .u64 (d : Int), .slice (some ⟨g, 0, none⟩) 8 8, .int .u8 (y : Int), .slice (some ⟨sb, 0, none⟩) 1 1, .slice (some ⟨gg, 0, none⟩) 9 cp, .agg LN.toArray, undef], defers := [] } : Act) _
          exact wpAnyH_done (by kernel_rfl) ⟨hK, hE⟩ _
        · refine wp_appG _ _ rfl g 0 8 8 sb 0 1 1 (nb d) (fun _ => (y : Int)) rfl rfl (fun j hj => by rw [Nat.zero_add]; exact HG.out.cell j hj) (fun j hj => by rw [Nat.zero_add]; exact HS.out.cell j hj) (by omega) (by omega) ?_
          intro cp X16 hcl b5
          obtain ⟨gg, hgg⟩ : ∃ g, (X13).heap.size = g := ⟨_, rfl⟩
          have HC : Hid (∀ j : Nat, j < 9 → X16.cell? ⟨gg, 0 + j, none⟩ = some (.int .u8 (wb d (y : Int) j))) := fun j hj => by rw [← hgg, Nat.zero_add]; exact hcl.out j hj
          replace HI4 : Hid (EbI B P c h r f ix p X w X16 ∧ Keep (fun x => x = P) W2 X16) := ⟨HI4.out.1.next b5, HI4.out.2.trans (Keep.below b5 (Nat.le_refl _))⟩
          rw [hgg]
          clear b5 hgg hcl HG HS
          refine ⟨trivial, fun hH => ?_⟩
          show wpAnyH _ _ _ _ _ _ _ ({ tmps := #[.pointer (some ⟨c, 0, none⟩), .agg A0.toArray, .int .i64 ix, .bool p, .pointer (some ⟨B, 0, none⟩), .pointer (some ⟨B + 1, 0, none⟩), .pointer (some ⟨B + 1 + 1, 0, none⟩), .pointer (some ⟨B + 1 + 1 + 1, 0, none⟩), .pointer (some ⟨B + 1 + 1 + 1 + 1, 0, none⟩), .pointer (some ⟨P, 0, none⟩), .int .i64 (x : Int), .int .u64 (d : Int), .int .u8 (y : Int), .agg A0.toArray, .func (.func 62) #[] #[.pointer (some ⟨P + 1, 0, none⟩)], .int .i64 (x : Int), .int .u64 (d : Int), .pointer (some ⟨c, 0, none⟩), .pointer (some ⟨c, 0, none⟩), .pointer (some ⟨c, 0, none⟩), .pointer (some ⟨h, 0, none⟩), .int .u64 (d : Int), .int .i64 ix, .int .i64 a, .bool p, .int .i64 q, .int .u8 (y : Int), undef, .int .i64 (x : Int), .int .u64 (d : Int), .slice (some ⟨g, 0, none⟩) 8 8, .int .u8 (y : Int), .slice (some ⟨sb, 0, none⟩) 1 1, .slice (some ⟨gg, 0, none⟩) 9 cp, undef, undef], defers := [] } : Act) _
          refine take_one 0 rfl rfl (by kernel_rfl) ?_
          refine wp_load_mid 27 _ rfl P 0 rfl LX _ (rX.out _ HI4.out.1) Tryz.underlying27 rfl iX ?_
          refine ⟨trivial, fun hH => ?_⟩
          show wpAnyH _ _ _ _ _ _ _ ({ tmps := #[.pointer (some ⟨c, 0, none⟩), .agg A0.toArray, .int .i64 ix, .bool p, .pointer (some ⟨B, 0, none⟩), .pointer (some ⟨B + 1, 0, none⟩), .pointer (some ⟨B + 1 + 1, 0, none⟩), .pointer (some ⟨B + 1 + 1 + 1, 0, none⟩), .pointer (some ⟨B + 1 + 1 + 1 + 1, 0, none⟩), .pointer (some ⟨P, 0, none⟩), .int .i64 (x : Int), .int .u64 (d : Int), .int .u8 (y : Int), .agg A0.toArray, .func (.func 62) #[] #[.pointer (some ⟨P + 1, 0, none⟩)], .int .i64 (x : Int), .int .u64 (d : Int), .pointer (some ⟨c, 0, none⟩), .pointer (some ⟨c, 0, none⟩), .pointer (some ⟨c, 0, none⟩), .pointer (some ⟨h, 0, none⟩), .int .u64 (d : Int), .int .i64 ix, .int .i64 a, .bool p, .int .i64 q, .int .u8 (y : Int), .agg LX.toArray, .int .i64 (x : Int), .int .u64 (d : Int), .slice (some ⟨g, 0, none⟩) 8 8, .int .u8 (y : Int), .slice (some ⟨sb, 0, none⟩) 1 1, .slice (some ⟨gg, 0, none⟩) 9 cp, undef, undef], defers := [] } : Act) _
          refine take_one 7 rfl rfl (by kernel_rfl) ?_
          refine wp_contract 36 [.tmp 27, .const (.int .i64 1), .tmp 28, .tmp 33] _ rfl (enters_of Tryz.func36 (by kernel_rfl) rfl) [.agg LX.toArray, .int .i64 1, .int .i64 (x : Int), .slice (some ⟨gg, 0, none⟩) 9 cp] rfl (CP.out gg cp _ HC.out) ?_
          rintro e X17 ⟨rfl, b5⟩
          replace HI4 : Hid (EbI B P c h r f ix p X w X17 ∧ Keep (fun x => x = P) W2 X17) := ⟨HI4.out.1.next b5, HI4.out.2.trans (Keep.below b5 (Nat.le_refl _))⟩
          clear b5
          refine ⟨_, rfl, trivial, fun hH => ?_⟩
          show wpAnyH _ _ _ _ _ _ _ ({ tmps := #[.pointer (some ⟨c, 0, none⟩), .agg A0.toArray, .int .i64 ix, .bool p, .pointer (some ⟨B, 0, none⟩), .pointer (some ⟨B + 1, 0, none⟩), .pointer (some ⟨B + 1 + 1, 0, none⟩), .pointer (some ⟨B + 1 + 1 + 1, 0, none⟩), .pointer (some ⟨B + 1 + 1 + 1 + 1, 0, none⟩), .pointer (some ⟨P, 0, none⟩), .int .i64 (x : Int), .int .u64 (d : Int), .int .u8 (y : Int), .agg A0.toArray, .func (.func 62) #[] #[.pointer (some ⟨P + 1, 0, none⟩)], .int .i64 (x : Int), .int .u64 (d : Int), .pointer (some ⟨c, 0, none⟩), .pointer (some ⟨c, 0, none⟩), .pointer (some ⟨c, 0, none⟩), .pointer (some ⟨h, 0, none⟩), .int .u64 (d : Int), .int .i64 ix, .int .i64 a, .bool p, .int .i64 q, .int .u8 (y : Int), .agg LX.toArray, .int .i64 (x : Int), .int .u64 (d : Int), .slice (some ⟨g, 0, none⟩) 8 8, .int .u8 (y : Int), .slice (some ⟨sb, 0, none⟩) 1 1, .slice (some ⟨gg, 0, none⟩) 9 cp, .agg LN.toArray, undef], defers := [] } : Act) _
          refine take_one 8 rfl rfl (by kernel_rfl) ?_
          have ht7 : (X17).there P 0 LN.toArray.size := by rw [← HN.out]; exact HI4.out.1.x.there .u8 _
          refine wp_store_mid 27 _ _ rfl P 0 LN.toArray rfl rfl ht7 jN oN ?_
          have hE := HI4.out.1.put X'
          have hK := HI4.out.2.puts (c := P) rfl 0 LN
          rw [HN.out] at hE
          refine ⟨trivial, fun hH => ?_⟩
          show wpAnyH _ _ _ _ _ _ _ ({ tmps := #[.pointer (some ⟨c, 0, none⟩), .agg A0.toArray, .int .i64 ix, .bool p, .pointer (some ⟨B, 0, none⟩), .pointer (some ⟨B + 1, 0, none⟩), .pointer (some ⟨B + 1 + 1, 0, none⟩), .pointer (some ⟨B + 1 + 1 + 1, 0, none⟩), .pointer (some ⟨B + 1 + 1 + 1 + 1, 0, none⟩), .pointer (some ⟨P, 0, none⟩), .int .i64 (x : Int), .int .u64 (d : Int), .int .u8 (y : Int), .agg A0.toArray, .func (.func 62) #[] #[.pointer (some ⟨P + 1, 0, none⟩)], .int .i64 (x : Int), .int .u64 (d : Int), .pointer (some ⟨c, 0, none⟩), .pointer (some ⟨c, 0, none⟩), .pointer (some ⟨c, 0, none⟩), .pointer (some ⟨h, 0, none⟩), .int .u64 (d : Int), .int .i64 ix, .int .i64 a, .bool p, .int .i64 q, .int .u8 (y : Int), .agg LX.toArray, .int .i64 (x : Int), .int .u64 (d : Int), .slice (some ⟨g, 0, none⟩) 8 8, .int .u8 (y : Int), .slice (some ⟨sb, 0, none⟩) 1 1, .slice (some ⟨gg, 0, none⟩) 9 cp, .agg LN.toArray, undef], defers := [] } : Act) _
          exact wpAnyH_done (by kernel_rfl) ⟨hK, hE⟩ _
    · refine wp_build1 (y : Int) _ rfl rfl ?_
      obtain ⟨sb, hsb⟩ : ∃ g, (W3.drew).heap.size = g := ⟨_, rfl⟩
      obtain ⟨X18, hX18⟩ : ∃ V, (W3.drew).alloc (.cells #[.int .u8 (y : Int)] 5) = V := ⟨_, rfl⟩
      have b5 : Below (W3.drew).heap.size (W3.drew) X18 := by rw [← hX18]; exact (Below.refl _ _).alloc (Nat.le_refl _) _
      replace HI4 : Hid (EbI B P c h r f ix p X w X18 ∧ Keep (fun x => x = P) W2 X18) := ⟨HI4.out.1.next b5, HI4.out.2.trans (Keep.below b5 (Nat.le_refl _))⟩
      have HS : Hid (Bk .u8 X18 sb 1 (fun _ => (y : Int))) := by rw [← hX18, ← hsb]; exact Bk.new .u8 _ 1 (fun _ => (y : Int)) _
      rw [hsb, hX18]
      clear b5 hsb hX18
      refine ⟨trivial, fun hH => ?_⟩
      show wpAnyH _ _ _ _ _ _ _ ({ tmps := #[.pointer (some ⟨c, 0, none⟩), .agg A0.toArray, .int .i64 ix, .bool p, .pointer (some ⟨B, 0, none⟩), .pointer (some ⟨B + 1, 0, none⟩), .pointer (some ⟨B + 1 + 1, 0, none⟩), .pointer (some ⟨B + 1 + 1 + 1, 0, none⟩), .pointer (some ⟨B + 1 + 1 + 1 + 1, 0, none⟩), .pointer (some ⟨P, 0, none⟩), .int .i64 (x : Int), .int .u64 (d : Int), .int .u8 (y : Int), .agg A0.toArray, .func (.func 62) #[] #[.pointer (some ⟨P + 1, 0, none⟩)], .int .i64 (x : Int), .int .u64 (d : Int), .pointer (some ⟨c, 0, none⟩), .pointer (some ⟨c, 0, none⟩), .pointer (some ⟨c, 0, none⟩), .pointer (some ⟨h, 0, none⟩), .int .u64 (d : Int), .int .i64 ix, .int .i64 a, .bool p, .int .i64 q, .int .u8 (y : Int), undef, .int .i64 (x : Int), .int .u64 (d : Int), undef, .int .u8 (y : Int), .slice (some ⟨sb, 0, none⟩) 1 1, undef, undef, undef], defers := [] } : Act) _
      refine take_two 0 3 rfl rfl rfl rfl (by kernel_rfl) ?_ ?_
      · refine wp_load_mid 27 _ rfl P 0 rfl LX _ (rX.out _ HI4.out.1) Tryz.underlying27 rfl iX ?_
        refine ⟨trivial, fun hH => ?_⟩
        show wpAnyH _ _ _ _ _ _ _ ({ tmps := #[.pointer (some ⟨c, 0, none⟩), .agg A0.toArray, .int .i64 ix, .bool p, .pointer (some ⟨B, 0, none⟩), .pointer (some ⟨B + 1, 0, none⟩), .pointer (some ⟨B + 1 + 1, 0, none⟩), .pointer (some ⟨B + 1 + 1 + 1, 0, none⟩), .pointer (some ⟨B + 1 + 1 + 1 + 1, 0, none⟩), .pointer (some ⟨P, 0, none⟩), .int .i64 (x : Int), .int .u64 (d : Int), .int .u8 (y : Int), .agg A0.toArray, .func (.func 62) #[] #[.pointer (some ⟨P + 1, 0, none⟩)], .int .i64 (x : Int), .int .u64 (d : Int), .pointer (some ⟨c, 0, none⟩), .pointer (some ⟨c, 0, none⟩), .pointer (some ⟨c, 0, none⟩), .pointer (some ⟨h, 0, none⟩), .int .u64 (d : Int), .int .i64 ix, .int .i64 a, .bool p, .int .i64 q, .int .u8 (y : Int), .agg LX.toArray, .int .i64 (x : Int), .int .u64 (d : Int), undef, .int .u8 (y : Int), .slice (some ⟨sb, 0, none⟩) 1 1, undef, undef, undef], defers := [] } : Act) _
        refine take_one 3 rfl rfl (by kernel_rfl) ?_
        refine wp_contract 37 [.tmp 29] _ rfl (enters_of Tryz.func37 (by kernel_rfl) rfl) [.int .u64 (d : Int)] rfl (bytesOf_any d _) ?_
        rintro e X19 ⟨rfl, hbk, b5⟩
        replace HI4 : Hid (EbI B P c h r f ix p X w X19 ∧ Keep (fun x => x = P) W2 X19) := ⟨HI4.out.1.next b5, HI4.out.2.trans (Keep.below b5 (Nat.le_refl _))⟩
        replace HS : Hid (Bk .u8 X19 sb 1 (fun _ => (y : Int))) := HS.out.next b5
        obtain ⟨g, hg⟩ : ∃ g, (X18).heap.size = g := ⟨_, rfl⟩
        have HG : Hid (Bk .u8 X19 g 8 (nb d)) := by rw [← hg]; exact hbk
        rw [hg]
        clear hbk b5 hg
        refine ⟨_, rfl, trivial, fun hH => ?_⟩
        show wpAnyH _ _ _ _ _ _ _ ({ tmps := #[.pointer (some ⟨c, 0, none⟩), .agg A0.toArray, .int .i64 ix, .bool p, .pointer (some ⟨B, 0, none⟩), .pointer (some ⟨B + 1, 0, none⟩), .pointer (some ⟨B + 1 + 1, 0, none⟩), .pointer (some ⟨B + 1 + 1 + 1, 0, none⟩), .pointer (some ⟨B + 1 + 1 + 1 + 1, 0, none⟩), .pointer (some ⟨P, 0, none⟩), .int .i64 (x : Int), .int .u64 (d : Int), .int .u8 (y : Int), .agg A0.toArray, .func (.func 62) #[] #[.pointer (some ⟨P + 1, 0, none⟩)], .int .i64 (x : Int), .int .u64 (d : Int), .pointer (some ⟨c, 0, none⟩), .pointer (some ⟨c, 0, none⟩), .pointer (some ⟨c, 0, none⟩), .pointer (some ⟨h, 0, none⟩), .int .u64 (d : Int), .int .i64 ix, .int .i64 a, .bool p, .int .i64 q, .int .u8 (y : Int), .agg LX.toArray, .int .i64 (x : Int), .int .u64 (d : Int), .slice (some ⟨g, 0, none⟩) 8 8, .int .u8 (y : Int), .slice (some ⟨sb, 0, none⟩) 1 1, undef, undef, undef], defers := [] } : Act) _
        refine take_one 6 rfl rfl (by kernel_rfl) ?_
        refine wp_appG _ _ rfl g 0 8 8 sb 0 1 1 (nb d) (fun _ => (y : Int)) rfl rfl (fun j hj => by rw [Nat.zero_add]; exact HG.out.cell j hj) (fun j hj => by rw [Nat.zero_add]; exact HS.out.cell j hj) (by omega) (by omega) ?_
        intro cp X20 hcl b5
        obtain ⟨gg, hgg⟩ : ∃ g, (X19).heap.size = g := ⟨_, rfl⟩
        have HC : Hid (∀ j : Nat, j < 9 → X20.cell? ⟨gg, 0 + j, none⟩ = some (.int .u8 (wb d (y : Int) j))) := fun j hj => by rw [← hgg, Nat.zero_add]; exact hcl.out j hj
        replace HI4 : Hid (EbI B P c h r f ix p X w X20 ∧ Keep (fun x => x = P) W2 X20) := ⟨HI4.out.1.next b5, HI4.out.2.trans (Keep.below b5 (Nat.le_refl _))⟩
        rw [hgg]
        clear b5 hgg hcl HG HS
        refine ⟨trivial, fun hH => ?_⟩
        show wpAnyH _ _ _ _ _ _ _ ({ tmps := #[.pointer (some ⟨c, 0, none⟩), .agg A0.toArray, .int .i64 ix, .bool p, .pointer (some ⟨B, 0, none⟩), .pointer (some ⟨B + 1, 0, none⟩), .pointer (some ⟨B + 1 + 1, 0, none⟩), .pointer (some ⟨B + 1 + 1 + 1, 0, none⟩), .pointer (some ⟨B + 1 + 1 + 1 + 1, 0, none⟩), .pointer (some ⟨P, 0, none⟩), .int .i64 (x : Int), .int .u64 (d : Int), .int .u8 (y : Int), .agg A0.toArray, .func (.func 62) #[] #[.pointer (some ⟨P + 1, 0, none⟩)], .int .i64 (x : Int), .int .u64 (d : Int), .pointer (some ⟨c, 0, none⟩), .pointer (some ⟨c, 0, none⟩), .pointer (some ⟨c, 0, none⟩), .pointer (some ⟨h, 0, none⟩), .int .u64 (d : Int), .int .i64 ix, .int .i64 a, .bool p, .int .i64 q, .int .u8 (y : Int), .agg LX.toArray, .int .i64 (x : Int), .int .u64 (d : Int), .slice (some ⟨g, 0, none⟩) 8 8, .int .u8 (y : Int), .slice (some ⟨sb, 0, none⟩) 1 1, .slice (some ⟨gg, 0, none⟩) 9 cp, undef, undef], defers := [] } : Act) _
        refine take_one 7 rfl rfl (by kernel_rfl) ?_
        refine wp_contract 36 [.tmp 27, .const (.int .i64 1), .tmp 28, .tmp 33] _ rfl (enters_of Tryz.func36 (by kernel_rfl) rfl) [.agg LX.toArray, .int .i64 1, .int .i64 (x : Int), .slice (some ⟨gg, 0, none⟩) 9 cp] rfl (CP.out gg cp _ HC.out) ?_
        rintro e X21 ⟨rfl, b5⟩
        replace HI4 : Hid (EbI B P c h r f ix p X w X21 ∧ Keep (fun x => x = P) W2 X21) := ⟨HI4.out.1.next b5, HI4.out.2.trans (Keep.below b5 (Nat.le_refl _))⟩
        clear b5
        refine ⟨_, rfl, trivial, fun hH => ?_⟩
        show wpAnyH _ _ _ _ _ _ _ ({ tmps := #[.pointer (some ⟨c, 0, none⟩), .agg A0.toArray, .int .i64 ix, .bool p, .pointer (some ⟨B, 0, none⟩), .pointer (some ⟨B + 1, 0, none⟩), .pointer (some ⟨B + 1 + 1, 0, none⟩), .pointer (some ⟨B + 1 + 1 + 1, 0, none⟩), .pointer (some ⟨B + 1 + 1 + 1 + 1, 0, none⟩), .pointer (some ⟨P, 0, none⟩), .int .i64 (x : Int), .int .u64 (d : Int), .int .u8 (y : Int), .agg A0.toArray, .func (.func 62) #[] #[.pointer (some ⟨P + 1, 0, none⟩)], .int .i64 (x : Int), .int .u64 (d : Int), .pointer (some ⟨c, 0, none⟩), .pointer (some ⟨c, 0, none⟩), .pointer (some ⟨c, 0, none⟩), .pointer (some ⟨h, 0, none⟩), .int .u64 (d : Int), .int .i64 ix, .int .i64 a, .bool p, .int .i64 q, .int .u8 (y : Int), .agg LX.toArray, .int .i64 (x : Int), .int .u64 (d : Int), .slice (some ⟨g, 0, none⟩) 8 8, .int .u8 (y : Int), .slice (some ⟨sb, 0, none⟩) 1 1, .slice (some ⟨gg, 0, none⟩) 9 cp, .agg LN.toArray, undef], defers := [] } : Act) _
        refine take_one 8 rfl rfl (by kernel_rfl) ?_
        have ht7 : (X21).there P 0 LN.toArray.size := by rw [← HN.out]; exact HI4.out.1.x.there .u8 _
        refine wp_store_mid 27 _ _ rfl P 0 LN.toArray rfl rfl ht7 jN oN ?_
        have hE := HI4.out.1.put X'
        have hK := HI4.out.2.puts (c := P) rfl 0 LN
        rw [HN.out] at hE
        refine ⟨trivial, fun hH => ?_⟩
        show wpAnyH _ _ _ _ _ _ _ ({ tmps := #[.pointer (some ⟨c, 0, none⟩), .agg A0.toArray, .int .i64 ix, .bool p, .pointer (some ⟨B, 0, none⟩), .pointer (some ⟨B + 1, 0, none⟩), .pointer (some ⟨B + 1 + 1, 0, none⟩), .pointer (some ⟨B + 1 + 1 + 1, 0, none⟩), .pointer (some ⟨B + 1 + 1 + 1 + 1, 0, none⟩), .pointer (some ⟨P, 0, none⟩), .int .i64 (x : Int), .int .u64 (d : Int), .int .u8 (y : Int), .agg A0.toArray, .func (.func 62) #[] #[.pointer (some ⟨P + 1, 0, none⟩)], .int .i64 (x : Int), .int .u64 (d : Int), .pointer (some ⟨c, 0, none⟩), .pointer (some ⟨c, 0, none⟩), .pointer (some ⟨c, 0, none⟩), .pointer (some ⟨h, 0, none⟩), .int .u64 (d : Int), .int .i64 ix, .int .i64 a, .bool p, .int .i64 q, .int .u8 (y : Int), .agg LX.toArray, .int .i64 (x : Int), .int .u64 (d : Int), .slice (some ⟨g, 0, none⟩) 8 8, .int .u8 (y : Int), .slice (some ⟨sb, 0, none⟩) 1 1, .slice (some ⟨gg, 0, none⟩) 9 cp, .agg LN.toArray, undef], defers := [] } : Act) _
        exact wpAnyH_done (by kernel_rfl) ⟨hK, hE⟩ _
      · refine wp_contract 37 [.tmp 29] _ rfl (enters_of Tryz.func37 (by kernel_rfl) rfl) [.int .u64 (d : Int)] rfl (bytesOf_any d _) ?_
        rintro e X22 ⟨rfl, hbk, b5⟩
        replace HI4 : Hid (EbI B P c h r f ix p X w X22 ∧ Keep (fun x => x = P) W2 X22) := ⟨HI4.out.1.next b5, HI4.out.2.trans (Keep.below b5 (Nat.le_refl _))⟩
        replace HS : Hid (Bk .u8 X22 sb 1 (fun _ => (y : Int))) := HS.out.next b5
        obtain ⟨g, hg⟩ : ∃ g, (X18).heap.size = g := ⟨_, rfl⟩
        have HG : Hid (Bk .u8 X22 g 8 (nb d)) := by rw [← hg]; exact hbk
        rw [hg]
        clear hbk b5 hg
        refine ⟨_, rfl, trivial, fun hH => ?_⟩
        show wpAnyH _ _ _ _ _ _ _ ({ tmps := #[.pointer (some ⟨c, 0, none⟩), .agg A0.toArray, .int .i64 ix, .bool p, .pointer (some ⟨B, 0, none⟩), .pointer (some ⟨B + 1, 0, none⟩), .pointer (some ⟨B + 1 + 1, 0, none⟩), .pointer (some ⟨B + 1 + 1 + 1, 0, none⟩), .pointer (some ⟨B + 1 + 1 + 1 + 1, 0, none⟩), .pointer (some ⟨P, 0, none⟩), .int .i64 (x : Int), .int .u64 (d : Int), .int .u8 (y : Int), .agg A0.toArray, .func (.func 62) #[] #[.pointer (some ⟨P + 1, 0, none⟩)], .int .i64 (x : Int), .int .u64 (d : Int), .pointer (some ⟨c, 0, none⟩), .pointer (some ⟨c, 0, none⟩), .pointer (some ⟨c, 0, none⟩), .pointer (some ⟨h, 0, none⟩), .int .u64 (d : Int), .int .i64 ix, .int .i64 a, .bool p, .int .i64 q, .int .u8 (y : Int), undef, .int .i64 (x : Int), .int .u64 (d : Int), .slice (some ⟨g, 0, none⟩) 8 8, .int .u8 (y : Int), .slice (some ⟨sb, 0, none⟩) 1 1, undef, undef, undef], defers := [] } : Act) _
        refine take_two 0 6 rfl rfl rfl rfl (by kernel_rfl) ?_ ?_
        · refine wp_load_mid 27 _ rfl P 0 rfl LX _ (rX.out _ HI4.out.1) Tryz.underlying27 rfl iX ?_
          refine ⟨trivial, fun hH => ?_⟩
          show wpAnyH _ _ _ _ _ _ _ ({ tmps := #[.pointer (some ⟨c, 0, none⟩), .agg A0.toArray, .int .i64 ix, .bool p, .pointer (some ⟨B, 0, none⟩), .pointer (some ⟨B + 1, 0, none⟩), .pointer (some ⟨B + 1 + 1, 0, none⟩), .pointer (some ⟨B + 1 + 1 + 1, 0, none⟩), .pointer (some ⟨B + 1 + 1 + 1 + 1, 0, none⟩), .pointer (some ⟨P, 0, none⟩), .int .i64 (x : Int), .int .u64 (d : Int), .int .u8 (y : Int), .agg A0.toArray, .func (.func 62) #[] #[.pointer (some ⟨P + 1, 0, none⟩)], .int .i64 (x : Int), .int .u64 (d : Int), .pointer (some ⟨c, 0, none⟩), .pointer (some ⟨c, 0, none⟩), .pointer (some ⟨c, 0, none⟩), .pointer (some ⟨h, 0, none⟩), .int .u64 (d : Int), .int .i64 ix, .int .i64 a, .bool p, .int .i64 q, .int .u8 (y : Int), .agg LX.toArray, .int .i64 (x : Int), .int .u64 (d : Int), .slice (some ⟨g, 0, none⟩) 8 8, .int .u8 (y : Int), .slice (some ⟨sb, 0, none⟩) 1 1, undef, undef, undef], defers := [] } : Act) _
          refine take_one 6 rfl rfl (by kernel_rfl) ?_
          refine wp_appG _ _ rfl g 0 8 8 sb 0 1 1 (nb d) (fun _ => (y : Int)) rfl rfl (fun j hj => by rw [Nat.zero_add]; exact HG.out.cell j hj) (fun j hj => by rw [Nat.zero_add]; exact HS.out.cell j hj) (by omega) (by omega) ?_
          intro cp X23 hcl b5
          obtain ⟨gg, hgg⟩ : ∃ g, (X22).heap.size = g := ⟨_, rfl⟩
          have HC : Hid (∀ j : Nat, j < 9 → X23.cell? ⟨gg, 0 + j, none⟩ = some (.int .u8 (wb d (y : Int) j))) := fun j hj => by rw [← hgg, Nat.zero_add]; exact hcl.out j hj
          replace HI4 : Hid (EbI B P c h r f ix p X w X23 ∧ Keep (fun x => x = P) W2 X23) := ⟨HI4.out.1.next b5, HI4.out.2.trans (Keep.below b5 (Nat.le_refl _))⟩
          rw [hgg]
          clear b5 hgg hcl HG HS
          refine ⟨trivial, fun hH => ?_⟩
          show wpAnyH _ _ _ _ _ _ _ ({ tmps := #[.pointer (some ⟨c, 0, none⟩), .agg A0.toArray, .int .i64 ix, .bool p, .pointer (some ⟨B, 0, none⟩), .pointer (some ⟨B + 1, 0, none⟩), .pointer (some ⟨B + 1 + 1, 0, none⟩), .pointer (some ⟨B + 1 + 1 + 1, 0, none⟩), .pointer (some ⟨B + 1 + 1 + 1 + 1, 0, none⟩), .pointer (some ⟨P, 0, none⟩), .int .i64 (x : Int), .int .u64 (d : Int), .int .u8 (y : Int), .agg A0.toArray, .func (.func 62) #[] #[.pointer (some ⟨P + 1, 0, none⟩)], .int .i64 (x : Int), .int .u64 (d : Int), .pointer (some ⟨c, 0, none⟩), .pointer (some ⟨c, 0, none⟩), .pointer (some ⟨c, 0, none⟩), .pointer (some ⟨h, 0, none⟩), .int .u64 (d : Int), .int .i64 ix, .int .i64 a, .bool p, .int .i64 q, .int .u8 (y : Int), .agg LX.toArray, .int .i64 (x : Int), .int .u64 (d : Int), .slice (some ⟨g, 0, none⟩) 8 8, .int .u8 (y : Int), .slice (some ⟨sb, 0, none⟩) 1 1, .slice (some ⟨gg, 0, none⟩) 9 cp, undef, undef], defers := [] } : Act) _
          refine take_one 7 rfl rfl (by kernel_rfl) ?_
          refine wp_contract 36 [.tmp 27, .const (.int .i64 1), .tmp 28, .tmp 33] _ rfl (enters_of Tryz.func36 (by kernel_rfl) rfl) [.agg LX.toArray, .int .i64 1, .int .i64 (x : Int), .slice (some ⟨gg, 0, none⟩) 9 cp] rfl (CP.out gg cp _ HC.out) ?_
          rintro e X24 ⟨rfl, b5⟩
          replace HI4 : Hid (EbI B P c h r f ix p X w X24 ∧ Keep (fun x => x = P) W2 X24) := ⟨HI4.out.1.next b5, HI4.out.2.trans (Keep.below b5 (Nat.le_refl _))⟩
          clear b5
          refine ⟨_, rfl, trivial, fun hH => ?_⟩
          show wpAnyH _ _ _ _ _ _ _ ({ tmps := #[.pointer (some ⟨c, 0, none⟩), .agg A0.toArray, .int .i64 ix, .bool p, .pointer (some ⟨B, 0, none⟩), .pointer (some ⟨B + 1, 0, none⟩), .pointer (some ⟨B + 1 + 1, 0, none⟩), .pointer (some ⟨B + 1 + 1 + 1, 0, none⟩), .pointer (some ⟨B + 1 + 1 + 1 + 1, 0, none⟩), .pointer (some ⟨P, 0, none⟩), .int .i64 (x : Int), .int .u64 (d : Int), .int .u8 (y : Int), .agg A0.toArray, .func (.func 62) #[] #[.pointer (some ⟨P + 1, 0, none⟩)], .int .i64 (x : Int), .int .u64 (d : Int), .pointer (some ⟨c, 0, none⟩), .pointer (some ⟨c, 0, none⟩), .pointer (some ⟨c, 0, none⟩), .pointer (some ⟨h, 0, none⟩), .int .u64 (d : Int), .int .i64 ix, .int .i64 a, .bool p, .int .i64 q, .int .u8 (y : Int), .agg LX.toArray, .int .i64 (x : Int), .int .u64 (d : Int), .slice (some ⟨g, 0, none⟩) 8 8, .int .u8 (y : Int), .slice (some ⟨sb, 0, none⟩) 1 1, .slice (some ⟨gg, 0, none⟩) 9 cp, .agg LN.toArray, undef], defers := [] } : Act) _
          refine take_one 8 rfl rfl (by kernel_rfl) ?_
          have ht7 : (X24).there P 0 LN.toArray.size := by rw [← HN.out]; exact HI4.out.1.x.there .u8 _
          refine wp_store_mid 27 _ _ rfl P 0 LN.toArray rfl rfl ht7 jN oN ?_
          have hE := HI4.out.1.put X'
          have hK := HI4.out.2.puts (c := P) rfl 0 LN
          rw [HN.out] at hE
          refine ⟨trivial, fun hH => ?_⟩
          show wpAnyH _ _ _ _ _ _ _ ({ tmps := #[.pointer (some ⟨c, 0, none⟩), .agg A0.toArray, .int .i64 ix, .bool p, .pointer (some ⟨B, 0, none⟩), .pointer (some ⟨B + 1, 0, none⟩), .pointer (some ⟨B + 1 + 1, 0, none⟩), .pointer (some ⟨B + 1 + 1 + 1, 0, none⟩), .pointer (some ⟨B + 1 + 1 + 1 + 1, 0, none⟩), .pointer (some ⟨P, 0, none⟩), .int .i64 (x : Int), .int .u64 (d : Int), .int .u8 (y : Int), .agg A0.toArray, .func (.func 62) #[] #[.pointer (some ⟨P + 1, 0, none⟩)], .int .i64 (x : Int), .int .u64 (d : Int), .pointer (some ⟨c, 0, none⟩), .pointer (some ⟨c, 0, none⟩), .pointer (some ⟨c, 0, none⟩), .pointer (some ⟨h, 0, none⟩), .int .u64 (d : Int), .int .i64 ix, .int .i64 a, .bool p, .int .i64 q, .int .u8 (y : Int), .agg LX.toArray, .int .i64 (x : Int), .int .u64 (d : Int), .slice (some ⟨g, 0, none⟩) 8 8, .int .u8 (y : Int), .slice (some ⟨sb, 0, none⟩) 1 1, .slice (some ⟨gg, 0, none⟩) 9 cp, .agg LN.toArray, undef], defers := [] } : Act) _
          exact wpAnyH_done (by kernel_rfl) ⟨hK, hE⟩ _
        · refine wp_appG _ _ rfl g 0 8 8 sb 0 1 1 (nb d) (fun _ => (y : Int)) rfl rfl (fun j hj => by rw [Nat.zero_add]; exact HG.out.cell j hj) (fun j hj => by rw [Nat.zero_add]; exact HS.out.cell j hj) (by omega) (by omega) ?_
          intro cp X25 hcl b5
          obtain ⟨gg, hgg⟩ : ∃ g, (X22).heap.size = g := ⟨_, rfl⟩
          have HC : Hid (∀ j : Nat, j < 9 → X25.cell? ⟨gg, 0 + j, none⟩ = some (.int .u8 (wb d (y : Int) j))) := fun j hj => by rw [← hgg, Nat.zero_add]; exact hcl.out j hj
          replace HI4 : Hid (EbI B P c h r f ix p X w X25 ∧ Keep (fun x => x = P) W2 X25) := ⟨HI4.out.1.next b5, HI4.out.2.trans (Keep.below b5 (Nat.le_refl _))⟩
          rw [hgg]
          clear b5 hgg hcl HG HS
          refine ⟨trivial, fun hH => ?_⟩
          show wpAnyH _ _ _ _ _ _ _ ({ tmps := #[.pointer (some ⟨c, 0, none⟩), .agg A0.toArray, .int .i64 ix, .bool p, .pointer (some ⟨B, 0, none⟩), .pointer (some ⟨B + 1, 0, none⟩), .pointer (some ⟨B + 1 + 1, 0, none⟩), .pointer (some ⟨B + 1 + 1 + 1, 0, none⟩), .pointer (some ⟨B + 1 + 1 + 1 + 1, 0, none⟩), .pointer (some ⟨P, 0, none⟩), .int .i64 (x : Int), .int .u64 (d : Int), .int .u8 (y : Int), .agg A0.toArray, .func (.func 62) #[] #[.pointer (some ⟨P + 1, 0, none⟩)], .int .i64 (x : Int), .int .u64 (d : Int), .pointer (some ⟨c, 0, none⟩), .pointer (some ⟨c, 0, none⟩), .pointer (some ⟨c, 0, none⟩), .pointer (some ⟨h, 0, none⟩), .int .u64 (d : Int), .int .i64 ix, .int .i64 a, .bool p, .int .i64 q, .int .u8 (y : Int), undef, .int .i64 (x : Int), .int .u64 (d : Int), .slice (some ⟨g, 0, none⟩) 8 8, .int .u8 (y : Int), .slice (some ⟨sb, 0, none⟩) 1 1, .slice (some ⟨gg, 0, none⟩) 9 cp, undef, undef], defers := [] } : Act) _
          refine take_one 0 rfl rfl (by kernel_rfl) ?_
          refine wp_load_mid 27 _ rfl P 0 rfl LX _ (rX.out _ HI4.out.1) Tryz.underlying27 rfl iX ?_
          refine ⟨trivial, fun hH => ?_⟩
          show wpAnyH _ _ _ _ _ _ _ ({ tmps := #[.pointer (some ⟨c, 0, none⟩), .agg A0.toArray, .int .i64 ix, .bool p, .pointer (some ⟨B, 0, none⟩), .pointer (some ⟨B + 1, 0, none⟩), .pointer (some ⟨B + 1 + 1, 0, none⟩), .pointer (some ⟨B + 1 + 1 + 1, 0, none⟩), .pointer (some ⟨B + 1 + 1 + 1 + 1, 0, none⟩), .pointer (some ⟨P, 0, none⟩), .int .i64 (x : Int), .int .u64 (d : Int), .int .u8 (y : Int), .agg A0.toArray, .func (.func 62) #[] #[.pointer (some ⟨P + 1, 0, none⟩)], .int .i64 (x : Int), .int .u64 (d : Int), .pointer (some ⟨c, 0, none⟩), .pointer (some ⟨c, 0, none⟩), .pointer (some ⟨c, 0, none⟩), .pointer (some ⟨h, 0, none⟩), .int .u64 (d : Int), .int .i64 ix, .int .i64 a, .bool p, .int .i64 q, .int .u8 (y : Int), .agg LX.toArray, .int .i64 (x : Int), .int .u64 (d : Int), .slice (some ⟨g, 0, none⟩) 8 8, .int .u8 (y : Int), .slice (some ⟨sb, 0, none⟩) 1 1, .slice (some ⟨gg, 0, none⟩) 9 cp, undef, undef], defers := [] } : Act) _
          refine take_one 7 rfl rfl (by kernel_rfl) ?_
          refine wp_contract 36 [.tmp 27, .const (.int .i64 1), .tmp 28, .tmp 33] _ rfl (enters_of Tryz.func36 (by kernel_rfl) rfl) [.agg LX.toArray, .int .i64 1, .int .i64 (x : Int), .slice (some ⟨gg, 0, none⟩) 9 cp] rfl (CP.out gg cp _ HC.out) ?_
          rintro e X26 ⟨rfl, b5⟩
          replace HI4 : Hid (EbI B P c h r f ix p X w X26 ∧ Keep (fun x => x = P) W2 X26) := ⟨HI4.out.1.next b5, HI4.out.2.trans (Keep.below b5 (Nat.le_refl _))⟩
          clear b5
          refine ⟨_, rfl, trivial, fun hH => ?_⟩
          show wpAnyH _ _ _ _ _ _ _ ({ tmps := #[.pointer (some ⟨c, 0, none⟩), .agg A0.toArray, .int .i64 ix, .bool p, .pointer (some ⟨B, 0, none⟩), .pointer (some ⟨B + 1, 0, none⟩), .pointer (some ⟨B + 1 + 1, 0, none⟩), .pointer (some ⟨B + 1 + 1 + 1, 0, none⟩), .pointer (some ⟨B + 1 + 1 + 1 + 1, 0, none⟩), .pointer (some ⟨P, 0, none⟩), .int .i64 (x : Int), .int .u64 (d : Int), .int .u8 (y : Int), .agg A0.toArray, .func (.func 62) #[] #[.pointer (some ⟨P + 1, 0, none⟩)], .int .i64 (x : Int), .int .u64 (d : Int), .pointer (some ⟨c, 0, none⟩), .pointer (some ⟨c, 0, none⟩), .pointer (some ⟨c, 0, none⟩), .pointer (some ⟨h, 0, none⟩), .int .u64 (d : Int), .int .i64 ix, .int .i64 a, .bool p, .int .i64 q, .int .u8 (y : Int), .agg LX.toArray, .int .i64 (x : Int), .int .u64 (d : Int), .slice (some ⟨g, 0, none⟩) 8 8, .int .u8 (y : Int), .slice (some ⟨sb, 0, none⟩) 1 1, .slice (some ⟨gg, 0, none⟩) 9 cp, .agg LN.toArray, undef], defers := [] } : Act) _
          refine take_one 8 rfl rfl (by kernel_rfl) ?_
          have ht7 : (X26).there P 0 LN.toArray.size := by rw [← HN.out]; exact HI4.out.1.x.there .u8 _
          refine wp_store_mid 27 _ _ rfl P 0 LN.toArray rfl rfl ht7 jN oN ?_
          have hE := HI4.out.1.put X'
          have hK := HI4.out.2.puts (c := P) rfl 0 LN
          rw [HN.out] at hE
          refine ⟨trivial, fun hH => ?_⟩
          show wpAnyH _ _ _ _ _ _ _ ({ tmps := #[.pointer (some ⟨c, 0, none⟩), .agg A0.toArray, .int .i64 ix, .bool p, .pointer (some ⟨B, 0, none⟩), .pointer (some ⟨B + 1, 0, none⟩), .pointer (some ⟨B + 1 + 1, 0, none⟩), .pointer (some ⟨B + 1 + 1 + 1, 0, none⟩), .pointer (some ⟨B + 1 + 1 + 1 + 1, 0, none⟩), .pointer (some ⟨P, 0, none⟩), .int .i64 (x : Int), .int .u64 (d : Int), .int .u8 (y : Int), .agg A0.toArray, .func (.func 62) #[] #[.pointer (some ⟨P + 1, 0, none⟩)], .int .i64 (x : Int), .int .u64 (d : Int), .pointer (some ⟨c, 0, none⟩), .pointer (some ⟨c, 0, none⟩), .pointer (some ⟨c, 0, none⟩), .pointer (some ⟨h, 0, none⟩), .int .u64 (d : Int), .int .i64 ix, .int .i64 a, .bool p, .int .i64 q, .int .u8 (y : Int), .agg LX.toArray, .int .i64 (x : Int), .int .u64 (d : Int), .slice (some ⟨g, 0, none⟩) 8 8, .int .u8 (y : Int), .slice (some ⟨sb, 0, none⟩) 1 1, .slice (some ⟨gg, 0, none⟩) 9 cp, .agg LN.toArray, undef], defers := [] } : Act) _
          exact wpAnyH_done (by kernel_rfl) ⟨hK, hE⟩ _
    --REG6>
  case done =>
    rintro D W hD hI hdef
    obtain ⟨T, hT⟩ : ∃ T, B + 1 + 1 + 1 + 1 = T := ⟨_, rfl⟩
    have hx : Bk .u8 W P 72 E := hI.x.congr fun i hi => by rw [← HE.out]; unfold enK; rw [if_pos (by omega)]
    have ho := hI.o
    have hb := hI.below
    rw [hT] at ho
    have hr := hx.range
    have ht := ho.there .u8 E
    have hp := ho.put E
    have hi9 : (Tryz.prog.info? 27).map (·.size) = some (ints .u8 72 E).length := by rw [ints_len]; exact infoR
    have hone := ints_one .u8 72 E
    obtain ⟨L, hL⟩ : ∃ L, ints .u8 72 E = L := ⟨_, rfl⟩
    rw [hL] at hr ht hi9 hone hp
    have HL : Hid (ints .u8 72 E = L ∧ Bk .u8 (W.setCells T 0 L) T 72 E ∧ Below B w (W.setCells T 0 L) ∧ (W.setCells T 0 L).heap[D]? = some (.deferred (some [])) ∧ B ≤ D) :=
      ⟨hL, hp, belows_put (by omega) _ 0 hb, (heap_puts T _ 0 W D (by omega)).trans hdef, by omega⟩
    rw [hT]
    clear hI hx ho hb hp hL hdef hD s3 hP hN hI3
    go_wp2_with (first | refine wpList_load_mid rfl 27 _ rfl _ 0 rfl L _ hr Tryz.underlying27 rfl hi9 ?_ | refine wpList_store_mid rfl 27 _ _ rfl _ 0 L.toArray rfl rfl ht hi9 hone ?_)
    refine ends_any (B := B) (v := .agg (ints .u8 72 E).toArray) (S := fun W => Bk .u8 W T 72 E ∧ Below B w W) (fun W W' h k => ⟨h.1.stay k, below_stay h.2 k (Nat.le_refl _)⟩) (fun W h => ?_) (fun W h => ⟨rfl, by first | exact h.2 | (rw [hB]; exact h.2)⟩) [D] _ (by simp) (fun E hE => by obtain rfl := List.mem_singleton.1 hE; exact ⟨HL.out.2.2.2.2, HL.out.2.2.2.1⟩) ⟨HL.out.2.1, HL.out.2.2.1⟩
    have hld := run_loadVar_mid (P := Tryz.prog) W T 0 27 _ _ h.1.range Tryz.underlying27 rfl (by rw [ints_len]; exact infoR)
    simp [results, Tryz.f14, Act.put, asAddr, hld]
end Go.Proofs.YtoimbjbdkkohcaaGreatDoor
