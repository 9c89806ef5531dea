/-
  RawChips.
-/
import Derived.Test.YtkbbnpjjfhmlkaaRwL1
import Derived.Test.YtkbbnpjjfhmlkaaRwW11
namespace Go.Proofs.Ytkbbnpjjfhmlkaa
open Go.RowKit Go.Shelf
attribute [local go_sem] Oper.semAt_some

theorem chp_byts (n : Nat) (c : Int) (F : Nat → Int) (v : Int) (hF : Byts 72 F) (hv : 0 ≤ v ∧ v < 256) : Byts 72 (Rw.chp n c F v) := fun i hi => by
  unfold Rw.chp
  split
  · exact hv
  · exact hF i hi
theorem ex_col {m n k : Int} (h : Md m n k) (h0 : 0 < n) (F G : Nat → Int) (hF : Byts 72 F) (hG : Byts 72 G) (p : Nat) (hp : (p : Int) < n) (hu : ∀ i, i < 72 → i % n.toNat ≠ p → F i = G i) : (m = 1 → ex m n k F G ≤ 8) ∧ (m = 2 → ex m n k F G ≤ 1) := by
  rcases h with ⟨rfl, rfl, rfl⟩ | ⟨rfl, rfl, rfl⟩ | ⟨_, _, rfl, rfl⟩
  · exact ⟨fun _ => Rw.mx_col 1 F G 9 8 p 8 (by omega) (fun i hi hne => hu i (by omega) hne) (fun i hi => (Rw.dl_le 1 _ _ (hF i (by omega)) (hG i (by omega))).1), fun e => by omega⟩
  · exact ⟨fun e => by omega, fun _ => Rw.mx_col 2 F G 36 2 p 1 (by omega) (fun i hi hne => hu i (by omega) hne) (fun i hi => (Rw.dl_le 2 _ _ (hF i (by omega)) (hG i (by omega))).2 (by omega))⟩
  · omega

/-- what RawChips holds against one another: what it was given in B, what Chip told in P -/
structure Rc (B P : Nat) (F X : Nat → Int) (w W : World) : Prop where
  a : Bk .u8 W B 72 F
  x : Bk .u8 W P 72 X
  below : Below B w W
theorem Rc.next {B P : Nat} {F X : Nat → Int} {w W W' : World} (h : Rc B P F X w W) (k : Below W.heap.size W W') : Rc B P F X w W' :=
  ⟨h.a.next k, h.x.next k, h.below.trans (k.mono (Nat.le_of_lt h.a.lt))⟩
theorem Rc.drewN {B P : Nat} {F X : Nat → Int} {w W : World} (h : Rc B P F X w W) (q : Nat) : Rc B P F X w (W.drewN q) := h.next (below_stay (Below.refl _ W) (Stay.drewN _ W q) (Nat.le_refl _))

set_option maxRecDepth 100000 in
set_option maxHeartbeats 2000000 in
theorem rawChips_core (m c v : Int) (F : Nat → Int) (hF : Byts 72 F) (hv : 0 ≤ v ∧ v < 256) (w : World) :
    Calls Try.prog 6 #[.agg (ints .u8 72 F).toArray, .int .i64 m, .int .i64 c, .int .u8 v] w fun e w' => e = .returned (.bool true) ∧ Below w.heap.size w w' := by
  obtain ⟨n, k, hm⟩ := md_any m
  have cA : Hid (∀ W : World, Calls Try.prog 8 #[] W fun e w' => e = .returned (.bool true) ∧ Below W.heap.size W w') := anchor9_any
  have hX := chp_byts n.toNat c F v hF hv
  have cC := chipR_any hm F v c
  have cE := exposure_any hm F (Rw.chp n.toNat c F v) hF hX
  have cR : Hid (∀ W : World, Calls Try.prog 9 #[.int .i64 m] W fun e w' => e = .returned (.int .i64 n) ∧ w' = W) := refChips_any hm
  have hun : ∀ i, i < 72 → Rw.chp n.toNat c F v i ≠ F i → 0 < n ∧ ((i % n.toNat : Nat) : Int) = c := by
    intro i hi hne
    unfold Rw.chp at hne
    by_cases h : 0 < n.toNat ∧ ((i % n.toNat : Nat) : Int) = c
    · exact ⟨by omega, h.2⟩
    · rw [if_neg h] at hne; exact absurd rfl hne
  obtain ⟨X, HX⟩ : ∃ X, Hid (Rw.chp n.toNat c F v = X) := ⟨_, rfl⟩
  rw [HX.out] at hX cC cE hun
  obtain ⟨q, hq⟩ : ∃ q : Bool, q = true ↔ ∀ i, i < 72 → X i = F i := by
    by_cases h : ∀ i, i < 72 → X i = F i
    · exact ⟨true, fun _ => h, fun _ => rfl⟩
    · refine ⟨false, ?_, fun e => absurd e h⟩
      intro e; cases e
  have eq := eqlR X F hX hF q hq
  have hex : Hid (0 < n → ((ex m n k F X = 0 ↔ q = true) ∧ (0 ≤ c → c < n → (m = 1 → ex m n k F X ≤ 8) ∧ (m = 2 → ex m n k F X ≤ 1)))) := fun h0 => by
    refine ⟨(ex_zero hm h0 F X hF hX).trans ⟨fun h => hq.2 fun i hi => (h i hi).symm, fun h i hi => (hq.1 h i hi).symm⟩, fun h1 h2 => ?_⟩
    refine ex_col hm h0 F X hF hX c.toNat (by omega) fun i hi hne => ?_
    by_cases e : X i = F i
    · exact e.symm
    · have := (hun i hi e).2
      exact absurd (by omega) hne
  have hsame : ¬ (0 < n ∧ 0 ≤ c ∧ c < n) → q = true ∧ ex m n k F X = 0 := by
    intro h
    have hs : ∀ i, i < 72 → X i = F i := fun i hi => by
      by_cases e : X i = F i
      · exact e
      · obtain ⟨h1, h2⟩ := hun i hi e
        have h3 := Nat.mod_lt i (show 0 < n.toNat by omega)
        exact absurd ⟨h1, by omega, by omega⟩ h
    refine ⟨hq.2 hs, ?_⟩
    by_cases h0 : 0 < n
    · exact (ex_zero hm h0 F X hF hX).2 fun i hi => (hs i hi).symm
    · rcases md_cases hm with ⟨_, h2, _⟩ | ⟨_, h2, _⟩ | ⟨h1, h2, h3, h4⟩
      · omega
      · omega
      · subst h3 h4; rfl
  have hbd := ex_bound hm F X hF hX
  obtain ⟨x, hx⟩ : ∃ x, ex m n k F X = x := ⟨_, rfl⟩
  rw [hx] at cE hex hsame hbd
  obtain ⟨A0, hA0⟩ : ∃ A, ints .u8 72 F = A := ⟨_, rfl⟩
  obtain ⟨A1, hA1⟩ : ∃ A, ints .u8 72 X = A := ⟨_, rfl⟩
  obtain ⟨Z, hZ⟩ : ∃ A, (ints .u8 72 fun _ => 0).toArray = A := ⟨_, rfl⟩
  have i0 : (Try.prog.info? 23).map (·.size) = some A0.length := by rw [← hA0, ints_len]; exact infoR
  have i1 : (Try.prog.info? 23).map (·.size) = some A1.length := by rw [← hA1, ints_len]; exact infoR
  have o1 : A1.toArray.all (·.oneCell') = true := by rw [← hA1]; exact ints_one .u8 72 _
  have hz := zeroR
  rw [hZ] at hz
  rw [hA0, hA1] at cC cE
  rw [hA0, hA1] at eq
  have CC : Hid (∀ W : World, Calls Try.prog 22 #[.agg A0.toArray, .int .i64 m, .int .i64 c, .int .u8 v] W fun e w' => e = .returned (.agg A1.toArray) ∧ Below W.heap.size W w') := cC
  have CE : Hid (∀ W : World, Calls Try.prog 16 #[.int .i64 m, .agg A0.toArray, .agg A1.toArray] W fun e w' => e = .returned (.int .i64 (x : Int)) ∧ Below W.heap.size W w') := cE
  have HA : Hid (ints .u8 72 F = A0 ∧ ints .u8 72 X = A1 ∧ (ints .u8 72 fun _ => 0).toArray = Z) := ⟨hA0, hA1, hZ⟩
  have HU : Hid (∀ i, i < 72 → X i ≠ F i → ((i % n.toNat : Nat) : Int) = c) := fun i hi h => (hun i hi h).2
  have HQ : Hid (q = true ↔ ∀ i, i < 72 → X i = F i) := hq
  have HS : Hid (¬ (0 < n ∧ 0 ≤ c ∧ c < n) → q = true ∧ x = 0) := hsame
  have gd := gdR
  rw [hA0]
  have HN : Hid (Bk .u8 (w.alloc (.cells A0.toArray 23)) w.heap.size 72 F ∧ Below w.heap.size w (w.alloc (.cells A0.toArray 23))) := by
    rw [← hA0]
    exact ⟨Bk.new .u8 w 72 F _, (Below.refl _ w).alloc (Nat.le_refl _) _⟩
  clear cC cE hA0 hA1 hZ hx hun hq hsame hX hF HX
  go_enter Try.func6, Try.ntmps6
  go_wp2_with fail
  obtain ⟨V, hV⟩ : ∃ V, w.alloc (.cells A0.toArray 23) = V := ⟨_, rfl⟩
  obtain ⟨B, hB⟩ : ∃ B, w.heap.size = B := ⟨_, rfl⟩
  rw [hV] at HN ⊢
  rw [hB] at HN ⊢
  refine (cA.out _).mono ?_
  rintro e V1 ⟨rfl, b1⟩
  replace HN : Hid (Bk .u8 V1 B 72 F ∧ Below B w V1) := ⟨HN.out.1.next b1, HN.out.2.trans (b1.mono (Nat.le_of_lt HN.out.1.lt))⟩
  clear b1 hV V
  have r0 := HN.out.1.range
  rw [HA.out.1] at r0
  go_wp2_with (first | refine wpList_load_mid rfl 23 _ rfl B 0 rfl A0 _ r0 Try.underlying23 rfl i0 ?_)
  refine (CC.out _).mono ?_
  rintro e V2 ⟨rfl, b2⟩
  replace HN : Hid (Bk .u8 V2 B 72 F ∧ Below B w V2) := ⟨HN.out.1.next b2, HN.out.2.trans (b2.mono (Nat.le_of_lt HN.out.1.lt))⟩
  clear b2 r0 CC
  have ht : (V2.alloc (.cells Z 23)).there V2.heap.size 0 A1.toArray.size := by
    rw [← HA.out.2.2, ← HA.out.2.1]
    exact (Bk.new .u8 V2 72 (fun _ => 0) 23).there .u8 X
  have i2 : (Try.prog.info? 23).map (·.size) = some A1.toArray.size := by simpa using i1
  go_upto_region 4 with (first | refine wpList_store_mid rfl 23 _ _ rfl _ 0 A1.toArray rfl rfl ht i2 o1 ?_)
  obtain ⟨V3, hV3⟩ : ∃ V3, (V2.alloc (.cells Z 23)).setCells V2.heap.size 0 A1 = V3 := ⟨_, rfl⟩
  have HR0 : Rc B V2.heap.size F X w V3 := by
    have hlt := HN.out.1.lt
    rw [← hV3, ← HA.out.2.2, ← HA.out.2.1]
    exact ⟨(HN.out.1.alloc _).putOther (by omega) 0 _, (Bk.new .u8 V2 72 (fun _ => 0) 23).put X, belows_put (by omega) _ 0 (HN.out.2.alloc (by omega) _)⟩
  have hne : B ≠ V2.heap.size := by have := HN.out.1.lt; omega
  obtain ⟨P, hP⟩ : ∃ P, V2.heap.size = P := ⟨_, rfl⟩
  rw [hV3]
  rw [hP] at HR0 hne ⊢
  have HR : Hid (Rc B P F X w V3) := HR0
  clear HR0 hV3 ht HN hP hz i2 o1 V1 V2
  have ra : Hid (∀ W, Rc B P F X w W → W.rangeAt B 0 A0 ∧ W.rangeAt P 0 A1) := fun W h => by rw [← HA.out.1, ← HA.out.2.1]; exact ⟨h.a.range, h.x.range⟩
  go_upto_region 5 with (first
    | refine wpList_load_mid rfl 23 _ rfl B 0 rfl A0 _ (by exact (ra.out _ HR.out).1) Try.underlying23 rfl i0 ?_
    | refine wpList_load_mid rfl 23 _ rfl P 0 rfl A1 _ (by exact (ra.out _ HR.out).2) Try.underlying23 rfl i1 ?_
    | (go_at_call 16; refine (CE.out _).mono ?_; rintro e W4 ⟨rfl, b4⟩; replace HR : Hid (Rc B P F X w W4) := HR.out.next b4; clear b4))
  clear CE
  by_cases hin : 0 < n ∧ 0 ≤ c ∧ c < n
  · obtain ⟨hn0, hc0, hcn⟩ := hin
    obtain ⟨hxq, hbd2⟩ := hex.out hn0
    have hb3 := hbd2 hc0 hcn
    have hp : ((x : Int) == 0) = q := by rw [Bool.eq_iff_iff, ← hxq]; simp
    have HXQ : Hid (((x : Int) == 0) = q) := hp
    clear hxq hbd2 hex HS hp
    rcases md_cases hm with ⟨rfl, rfl, rfl⟩ | ⟨rfl, rfl, rfl⟩ | ⟨h1, h2, h3, h4⟩
    · have hcn2 : c < 9 := hcn
      have hx8 : (x : Int) ≤ 8 := by have := hb3.1 rfl; omega
      clear hcn hb3 hm hn0
      go_upto_region 9 with (go_at_call 9; refine (cR.out _).mono ?_; rintro e w' ⟨rfl, hw2⟩; rw [hw2]; clear hw2 w')
      go_loopw [11, 47] (fun uv iv wr => ∃ i u : Nat, i ≤ 72 ∧ u ≤ i ∧ Hid (u = 0 ↔ ∀ j, j < i → X j = F j) ∧ uv = .int .i64 (u : Int) ∧ iv = .int .i64 (i : Int) ∧ Hid (Rc B P F X w wr)) (fun _ iv _ => 72 - (intOf iv).toNat)
      case atStart => exact ⟨0, 0, by omega, by omega, ⟨fun _ j hj => by omega, fun _ => rfl⟩, rfl, rfl, HR⟩
      case round =>
        obtain ⟨i, u, hi, hu, Hu, rfl, rfl, HR⟩ := hrel
        by_cases hlt : i < 72
        · have cx := HR.out.x.cell i hlt
          have cf := HR.out.a.cell i hlt
          have hui := HU.out i hlt
          have hst : ∀ j, j < i + 1 ↔ j < i ∨ j = i := fun j => by omega
          obtain ⟨a, Ha⟩ : ∃ a, Hid (X i = a) := ⟨_, rfl⟩
          obtain ⟨b, Hb⟩ : ∃ b, Hid (F i = b) := ⟨_, rfl⟩
          rw [Ha.out] at cx hui
          rw [Hb.out] at cf hui
          by_cases hab : a = b
          · have hne9 : (a != b) = false := by simp [hab]
            have Hu2 : Hid (u = 0 ↔ ∀ j, j < i + 1 → X j = F j) := by
              refine Hu.out.trans ⟨fun h j hj => ?_, fun h j hj => h j (by omega)⟩
              by_cases e : j = i
              · subst e; rw [Ha.out, Hb.out, hab]
              · exact h j (by omega)
            clear hui hst Ha Hb hab
            go_wp2
            go_quiet (fail)
            go_wp2
            go_roundw
            case rel => exact ⟨i + 1, u, by omega, by omega, Hu2, rfl, by go_num, HR.out.drewN _⟩
            case measure => simp [intOf]; omega
          · have hne9 : (a != b) = true := by simp [hab]
            have hm9 : ((i % 9 : Nat) : Int) = c := hui hab
            have e2 : (i : Int).tmod 9 = c := by rw [Int.tmod_eq_emod_of_nonneg (by omega)]; omega
            have e3 : (i : Int) % 9 = c := by omega
            have Hu2 : Hid (u + 1 = 0 ↔ ∀ j, j < i + 1 → X j = F j) := ⟨fun h => by omega, fun h => absurd (by rw [← Ha.out, ← Hb.out]; exact h i (by omega)) hab⟩
            clear hui hst Ha Hb hab hm9
            go_wp2
            go_quiet (fail)
            go_wp2_with (go_at_call 9; refine (cR.out _).mono ?_; rintro e w' ⟨rfl, hw2⟩; rw [hw2]; clear hw2 w')
            go_roundw
            case rel => exact ⟨i + 1, u + 1, by omega, by omega, Hu2, by go_num, by go_num, HR.out.drewN _⟩
            case measure => simp [intOf]; omega
        · obtain rfl : i = 72 := by omega
          have hq1 := HXQ.out
          have hq2 : ((u : Int) == 0) = q := by
            rw [Bool.eq_iff_iff, HQ.out, ← Hu.out]; simp
          clear Hu HQ HXQ HU
          cases q
          all_goals
            go_wp2
            go_ret
            exact ⟨rfl, by rw [hB]; exact HR.out.below⟩
    · have hcn2 : c < 36 := hcn
      have hx8 : (x : Int) ≤ 1 := by have := hb3.2 rfl; omega
      clear hcn hb3 hm hn0
      go_upto_region 9 with (go_at_call 9; refine (cR.out _).mono ?_; rintro e w' ⟨rfl, hw2⟩; rw [hw2]; clear hw2 w')
      go_loopw [11, 47] (fun uv iv wr => ∃ i u : Nat, i ≤ 72 ∧ u ≤ i ∧ Hid (u = 0 ↔ ∀ j, j < i → X j = F j) ∧ uv = .int .i64 (u : Int) ∧ iv = .int .i64 (i : Int) ∧ Hid (Rc B P F X w wr)) (fun _ iv _ => 72 - (intOf iv).toNat)
      case atStart => exact ⟨0, 0, by omega, by omega, ⟨fun _ j hj => by omega, fun _ => rfl⟩, rfl, rfl, HR⟩
      case round =>
        obtain ⟨i, u, hi, hu, Hu, rfl, rfl, HR⟩ := hrel
        by_cases hlt : i < 72
        · have cx := HR.out.x.cell i hlt
          have cf := HR.out.a.cell i hlt
          have hui := HU.out i hlt
          have hst : ∀ j, j < i + 1 ↔ j < i ∨ j = i := fun j => by omega
          obtain ⟨a, Ha⟩ : ∃ a, Hid (X i = a) := ⟨_, rfl⟩
          obtain ⟨b, Hb⟩ : ∃ b, Hid (F i = b) := ⟨_, rfl⟩
          rw [Ha.out] at cx hui
          rw [Hb.out] at cf hui
          by_cases hab : a = b
          · have hne9 : (a != b) = false := by simp [hab]
            have Hu2 : Hid (u = 0 ↔ ∀ j, j < i + 1 → X j = F j) := by
              refine Hu.out.trans ⟨fun h j hj => ?_, fun h j hj => h j (by omega)⟩
              by_cases e : j = i
              · subst e; rw [Ha.out, Hb.out, hab]
              · exact h j (by omega)
            clear hui hst Ha Hb hab
            go_wp2
            go_quiet (fail)
            go_wp2
            go_roundw
            case rel => exact ⟨i + 1, u, by omega, by omega, Hu2, rfl, by go_num, HR.out.drewN _⟩
            case measure => simp [intOf]; omega
          · have hne9 : (a != b) = true := by simp [hab]
            have hm9 : ((i % 36 : Nat) : Int) = c := hui hab
            have e2 : (i : Int).tmod 36 = c := by rw [Int.tmod_eq_emod_of_nonneg (by omega)]; omega
            have e3 : (i : Int) % 36 = c := by omega
            have Hu2 : Hid (u + 1 = 0 ↔ ∀ j, j < i + 1 → X j = F j) := ⟨fun h => by omega, fun h => absurd (by rw [← Ha.out, ← Hb.out]; exact h i (by omega)) hab⟩
            clear hui hst Ha Hb hab hm9
            go_wp2
            go_quiet (fail)
            go_wp2_with (go_at_call 9; refine (cR.out _).mono ?_; rintro e w' ⟨rfl, hw2⟩; rw [hw2]; clear hw2 w')
            go_roundw
            case rel => exact ⟨i + 1, u + 1, by omega, by omega, Hu2, by go_num, by go_num, HR.out.drewN _⟩
            case measure => simp [intOf]; omega
        · obtain rfl : i = 72 := by omega
          have hq1 := HXQ.out
          have hq2 : ((u : Int) == 0) = q := by
            rw [Bool.eq_iff_iff, HQ.out, ← Hu.out]; simp
          clear Hu HQ HXQ HU
          cases q
          all_goals
            go_wp2
            go_ret
            exact ⟨rfl, by rw [hB]; exact HR.out.below⟩
    · omega
  · obtain ⟨rfl, rfl⟩ := HS.out hin
    clear hex HS HU HQ
    rcases md_cases hm with ⟨rfl, rfl, rfl⟩ | ⟨rfl, rfl, rfl⟩ | ⟨h1, h2, h3, h4⟩
    · by_cases hc : c < 0
      · have d1 : decide (c < 0) = true := by simpa using hc
        clear hin
        go_wp2_with (first
          | refine wpList_load_mid rfl 23 _ rfl B 0 rfl A0 _ (by exact (ra.out _ HR.out).1) Try.underlying23 rfl i0 ?_
          | refine wpList_load_mid rfl 23 _ rfl P 0 rfl A1 _ (by exact (ra.out _ HR.out).2) Try.underlying23 rfl i1 ?_
          | (go_at_call 9; refine (cR.out _).mono ?_; rintro e w' ⟨rfl, hw2⟩; rw [hw2]; clear hw2 w'))
        go_ret
        exact ⟨rfl, by rw [hB]; exact HR.out.below⟩
      · have d1 : decide (c < 0) = false := by simpa using hc
        have d2 : decide (9 ≤ c) = true := by simp; omega
        have d3 : 9 ≤ c := by omega
        clear hin
        go_wp2_with (first
          | refine wpList_load_mid rfl 23 _ rfl B 0 rfl A0 _ (by exact (ra.out _ HR.out).1) Try.underlying23 rfl i0 ?_
          | refine wpList_load_mid rfl 23 _ rfl P 0 rfl A1 _ (by exact (ra.out _ HR.out).2) Try.underlying23 rfl i1 ?_
          | (go_at_call 9; refine (cR.out _).mono ?_; rintro e w' ⟨rfl, hw2⟩; rw [hw2]; clear hw2 w'))
        go_ret
        exact ⟨rfl, by rw [hB]; exact HR.out.below⟩
    · by_cases hc : c < 0
      · have d1 : decide (c < 0) = true := by simpa using hc
        clear hin
        go_wp2_with (first
          | refine wpList_load_mid rfl 23 _ rfl B 0 rfl A0 _ (by exact (ra.out _ HR.out).1) Try.underlying23 rfl i0 ?_
          | refine wpList_load_mid rfl 23 _ rfl P 0 rfl A1 _ (by exact (ra.out _ HR.out).2) Try.underlying23 rfl i1 ?_
          | (go_at_call 9; refine (cR.out _).mono ?_; rintro e w' ⟨rfl, hw2⟩; rw [hw2]; clear hw2 w'))
        go_ret
        exact ⟨rfl, by rw [hB]; exact HR.out.below⟩
      · have d1 : decide (c < 0) = false := by simpa using hc
        have d2 : decide (36 ≤ c) = true := by simp; omega
        have d3 : 36 ≤ c := by omega
        clear hin
        go_wp2_with (first
          | refine wpList_load_mid rfl 23 _ rfl B 0 rfl A0 _ (by exact (ra.out _ HR.out).1) Try.underlying23 rfl i0 ?_
          | refine wpList_load_mid rfl 23 _ rfl P 0 rfl A1 _ (by exact (ra.out _ HR.out).2) Try.underlying23 rfl i1 ?_
          | (go_at_call 9; refine (cR.out _).mono ?_; rintro e w' ⟨rfl, hw2⟩; rw [hw2]; clear hw2 w'))
        go_ret
        exact ⟨rfl, by rw [hB]; exact HR.out.below⟩
    · have d1 : (m != 1) = true := by simpa using h1
      have d2 : (m != 2) = true := by simpa using h2
      clear hin
      go_wp2_with (first
        | refine wpList_load_mid rfl 23 _ rfl B 0 rfl A0 _ (by exact (ra.out _ HR.out).1) Try.underlying23 rfl i0 ?_
        | refine wpList_load_mid rfl 23 _ rfl P 0 rfl A1 _ (by exact (ra.out _ HR.out).2) Try.underlying23 rfl i1 ?_
        | (go_at_call 9; refine (cR.out _).mono ?_; rintro e w' ⟨rfl, hw2⟩; rw [hw2]; clear hw2 w'))
      go_ret
      exact ⟨rfl, by rw [hB]; exact HR.out.below⟩
theorem rawChips_walk (a0 : Nat → Int) (a1 a2 a3 : Int) (w0 : ∀ i, i < 72 → (Lit.int .u8 (a0 i)).wf = true) (_w1 : (Lit.int .i64 a1).wf = true) (_w2 : (Lit.int .i64 a2).wf = true) (w3 : (Lit.int .u8 a3).wf = true) (w : World) :
    Calls Try.prog 6 #[.agg (ints .u8 72 a0).toArray, .int .i64 a1, .int .i64 a2, .int .u8 a3] w fun e w' => e = .returned (.bool true) ∧ Below w.heap.size w w' :=
  rawChips_core a1 a2 a3 a0 (args_byts 72 _ w0) (by have := bounds_u8 w3; omega) w
end Go.Proofs.Ytkbbnpjjfhmlkaa
