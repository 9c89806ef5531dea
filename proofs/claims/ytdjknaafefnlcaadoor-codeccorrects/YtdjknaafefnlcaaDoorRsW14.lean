/-
  New: the generator is laid.
-/
import Derived.Test.YtdjknaafefnlcaaDoorRsW8
import Derived.Test.YtdjknaafefnlcaaDoorRsW9
import Derived.OwnWalk
import Derived.OwnWalkIn
namespace Go.Proofs.YtdjknaafefnlcaaDoor
open Go.RowKit Go.Shelf
open Gf (gI eI dI lI)
open Po (El mu pwr ev S cf toE cv Low rts)
open Rm (al sy At)
attribute [local go_sem] Oper.semAt_some

theorem rowOwn_of {W W' : World} {base e size : Nat} {g n cap : Nat} {xs : List Value} (h : W.ownsRow base e size (.slice (some ⟨g, 0, none⟩) n cap) n xs) (k : W'.heap[g]? = W.heap[g]?) : W'.ownsRow base e size (.slice (some ⟨g, 0, none⟩) n cap) n xs := by
  rcases h with ⟨h1, ⟨h2, _⟩ | ⟨g', cap', cur, h2, h3, h4, h5⟩⟩
  · cases h2
  · simp only [Value.slice.injEq, Option.some.injEq, Addr.mk.injEq, and_true, true_and] at h2
    obtain ⟨rfl, rfl⟩ := h2
    exact ⟨h1, .inr ⟨_, _, cur, rfl, h3, k.trans h4, h5⟩⟩
theorem rowOwn_stay {B : Nat} {W W' : World} {base e size : Nat} {g n cap : Nat} {xs : List Value} (h : W.ownsRow base e size (.slice (some ⟨g, 0, none⟩) n cap) n xs) (k : Stay B W W') : W'.ownsRow base e size (.slice (some ⟨g, 0, none⟩) n cap) n xs := by
  have h' := h
  rcases h with ⟨h1, ⟨h2, _⟩ | ⟨g', cap', cur, h2, h3, h4, h5⟩⟩
  · cases h2
  · simp only [Value.slice.injEq, Option.some.injEq, Addr.mk.injEq, and_true, true_and] at h2
    obtain ⟨rfl, rfl⟩ := h2
    exact rowOwn_of h' ((k.cells _ _ h4 rfl).trans h4.symm)
theorem below_grows {B : Nat} {w W W' : World} {row : Option Nat} (h : Below B w W) (k : W.grownBy W' row) (hr : ∀ g, row = some g → B ≤ g) (hB : B ≤ W.heap.size) : Below B w W' :=
  ⟨k.os.trans h.os, k.tape.trans h.tape, k.output.trans h.output, Nat.le_trans h.size k.size, fun b hb => (k.block b (by omega) (fun e => by have := hr b e.symm; omega)).trans (h.block b hb)⟩
theorem new_one (W : World) (v : Value) (t : TypeId) : ∀ j u, [v][j]? = some u → (W.alloc (.cells #[v] t)).cell? ((⟨W.heap.size, 0, none⟩ : Addr).add j) = some u := by
  intro j u hj
  cases j with
  | zero =>
    simp at hj
    subst hj
    exact (Box.new W t v).1
  | succ j => simp at hj
theorem byte_one5 (x : Int) : ∀ u ∈ [Value.int .u8 x], u.oneCell' = true := by
  intro u hu
  simp at hu
  subst hu
  rfl
theorem keep_grown {M : Nat → Prop} {X Y Z : World} {g : Nat} (h : Keep M X Y) (k : Y.grownBy Z (some g)) (hg : M g) : Keep M X Z :=
  h.trans ⟨k.size, fun b hb hm => k.block b hb (fun e => hm (by cases e; exact hg))⟩
theorem arr_snoc (n : Nat) (F : Nat → El) : arr n F ++ [.int .u8 (oe (F n))] = arr (n + 1) F := by
  unfold arr; rw [List.range_succ, List.map_append]; rfl

/-- the cells of a code whose generator is not laid yet -/
def cd0 (b : Nat) : List Value := [.pointer (some ⟨b, 0, none⟩), .int .u8 0, .int .u8 0, .int .u8 0, .int .u8 0, .int .u8 0]
theorem zero_code5 (w : World) : (zeroValue 106).run Tryd.prog w = .ok (.agg #[.pointer none, .int .u8 0, .int .u8 0, .int .u8 0, .int .u8 0, .int .u8 0]) w := by kernel_rfl
theorem cd_laid (b : Nat) : splice (cd0 b) 1 (arr 5 gen) = .pointer (some ⟨b, 0, none⟩) :: arr 5 gen := by
  unfold splice cd0
  rw [arr_len]; rfl
theorem RT_gen (i : Nat) : RT (lst 4 (pwr 2)) 4 i = gen i := by
  obtain ⟨h0, h1, h2, h3⟩ := al_nums
  have e : RT (lst 4 (pwr 2)) 4 = rts [toE (ofE (al 3)), toE (ofE (al 2)), toE (ofE (al 1)), toE (ofE (al 0))] := rfl
  rw [e, toE_ofE, toE_ofE, toE_ofE, toE_ofE, h0, h1, h2, h3]; rfl

/-- a copy of bytes into a block of whatever cells, as one step of a region that draws its order: all other blocks stand -/
theorem step_copy_cells {P : Program} {ops : Array Oper} {o : Oper} {a : Act} {w : World} {K : Act → World → Prop} {Q : Exit → Act → World → Prop} {E : Prop} (hgd : o.guard = none) (d s : Operand) (dT sT : TypeId)
    (ho : o.op = .call { callee := .builtin .copy, args := #[d, s], argTypes := #[dT, sT] }) (elem : TypeId) (hu : P.underlying dT = some (.slice elem)) (hsz : (P.info? elem).map (·.size) = some 1)
    (g off dLen dCap : Nat) (ad : Addr) (sLen sCap : Nat) (hd : a.eval d = .slice (some ⟨g, off, none⟩) dLen dCap) (hs : a.eval s = .slice (some ad) sLen sCap)
    (cur : List Value) (t : TypeId) (hg : w.heap[g]? = some (.cells cur.toArray t (0, 0))) (cs : List Value) (hn : cs.length = Nat.min sLen dLen)
    (hsrc : ∀ j v, cs[j]? = some v → w.cell? (ad.add j) = some v) (hfit : off + cs.length ≤ cur.length) (h1 : ∀ v ∈ cs, v.oneCell' = true)
    (h : ∀ w', Hid (w'.heap[g]? = some (.cells (splice cur off cs).toArray t (0, 0))) → Hid (Only g w w') → K (a.put o.dst (goInt cs.length)) w') :
    if Region.wanted o (yielded ops a.tmps) = true then Oper.wp P o a w K Q else E := by
  have hw : Region.wanted o (yielded ops a.tmps) = true := by simp [Region.wanted, hgd]
  rw [if_pos hw]
  have hrun := run_copy_row (P := P) w dT sT o.type elem g off dLen dCap ad sLen sCap cur.toArray t cs hu hsz hg hn hsrc (by simpa using hfit) h1
  unfold Oper.wp
  simp [execOp, ho, resolve, invoke, builtin, hd, hs, hrun, Result.andThen]
  refine h _ (show _ = _ from ?_) ⟨fun B w0 hb hB => below_setRow hb hB _, fun k hk => setRow_other w g k _ hk⟩
  rw [setRow_heap w g _ _ t _ hg]; simp [splice]
theorem arr_src {W : World} {g off n : Nat} {F : Nat → El} (h : ∀ j : Nat, j < n → W.cell? ⟨g, off + j, none⟩ = some (.int .u8 (oe (F j)))) : ∀ j v, (arr n F)[j]? = some v → W.cell? ((⟨g, off, none⟩ : Addr).add j) = some v := fun j v hv => by
  have hj : j < n := by have := (List.getElem?_eq_some_iff.1 hv).1; rw [arr_len] at this; exact this
  rw [arr_at n F j hj] at hv
  cases hv
  rw [Addr.add_mid]; exact h j hj
/-- the polynomial with the four roots -/
theorem roots_gen (b : Nat) (ar : Option Addr) (w : World) (hf : FldAt w b) (R : Arg w ar 4 4 (lst 4 (pwr 2))) :
    Calls Tryd.prog 58 #[.pointer (some ⟨b, 0, none⟩), .slice ar 4 4] w fun e w' => ∃ g off cp, e = .returned (.slice (some ⟨g, off, none⟩) 5 cp) ∧ (∀ j : Nat, j < 5 → w'.cell? ⟨g, off + j, none⟩ = some (.int .u8 (oe (gen j)))) ∧ Below w.heap.size w w' := by
  refine (roots_any b ar 4 4 (lst 4 (pwr 2)) w hf R (by omega)).mono ?_
  rintro e w' ⟨⟨a, n, c, l, rfl, A, ht, hcf, hn⟩, hB⟩
  have h5 : n = 5 := by
    by_cases h : n = 5
    · exact h
    · have e1 := cf_low_tl l A.byt 4 (by rw [ht]; omega)
      rw [hcf, RT_gen, gen_top] at e1
      exact absurd e1 (by decide)
  subst h5
  rcases A.sl with h | ⟨g, off, rfl, hg, hc⟩
  · have := A.len; rw [h] at this; cases this
  · refine ⟨g, off, c, rfl, fun j hj => ?_, hB⟩
    rw [hc j (by rw [A.len]; omega), ← ofE_cf l A.byt j, hcf, RT_gen]; rfl

/-- between two rounds: B the code's block, the roots' row lies in B + 1, its variable in P -/
structure NwI (B P b : Nat) (w : World) (x : Nat) (W : World) : Prop where
  code : W.heap[B]? = some (.cells (cd0 b).toArray 106 (0, 0))
  cb : Box W P (.slice (some ⟨B + 1, 0, none⟩) x 4)
  own : W.ownsRow B 5 1 (.slice (some ⟨B + 1, 0, none⟩) x 4) x (arr x (pwr 2))
  fld : FldAt W b
  below : Below B w W

set_option maxRecDepth 100000 in
set_option maxHeartbeats 2000000 in
theorem rsnew_any (b : Nat) (w : World) (hf : FldAt w b) :
    Calls Tryd.prog 27 #[.pointer (some ⟨b, 0, none⟩)] w fun e w' => e = .returned (.pointer (some ⟨w.heap.size, 0, none⟩)) ∧ CdAt w' w.heap.size b ∧ Below w.heap.size w w' := by
  obtain ⟨i, hi, hz0, hz1, hz2⟩ := info_parts info_u8
  have hz := zero_code5
  have hbl := hf.lt
  refine (callsIn_wide (n := 10)).1 ?_
  refine callsIn_of_wp_marks Tryd.func27 rfl trivial ?_ rfl
  simp only [Tryd.ntmps27, List.size_toArray, List.length_cons, List.length_nil, Nat.reduceAdd, Nat.reduceSub, Array.replicate_succ, Array.replicate_zero, List.push_toArray, List.append_toArray, List.nil_append, List.cons_append]
  refine wpIn_wide.2 ?_
  go_upto_region 3 with (at_make; refine wpList_make_own _ rfl _ _ 52 rfl w.heap.size 5 i (.int .u8 0) 1 Tryd.underlying52 hi hz0 hz1 _ _ _ 4 rfl rfl (by omega) (by rw [hz2]; omega) (by unfold maxLen; omega) (by simp) ?_; intro V1 hown hgrow)
  obtain ⟨B, hB⟩ : ∃ B, w.heap.size = B := ⟨_, rfl⟩
  obtain ⟨P, hP⟩ : ∃ P, V1.heap.size = P := ⟨_, rfl⟩
  obtain ⟨V2, hV2⟩ : ∃ V, V1.alloc (.cells #[.slice (some ⟨w.heap.size + 1, 0, none⟩) 0 4] 52) = V := ⟨_, rfl⟩
  have hV1 : B + 1 ≤ P := by have := hgrow.size; rw [World.size_alloc] at this; omega
  have hg1 : B + 1 < P := by rw [← hB, ← hP]; simpa using (hown.lt _ rfl).2
  have H2 : Hid (NwI B P b w 0 V2) := by
    rw [World.size_alloc, hB] at hown
    have b1 : Below B w V1 := by rw [← hB]; exact below_grows ((Below.refl _ w).alloc (Nat.le_refl _) _) hgrow (by simp) (by simp)
    have b2 : Below B w V2 := by rw [← hV2]; exact b1.alloc (by omega) _
    refine ⟨?_, ?_, ?_, hf.below (by rw [hB]; exact b2), b2⟩
    · rw [← hV2]
      refine (Below.heap_alloc V1 _ B (by omega)).trans ((hgrow.block B (by simp; omega) (by simp)).trans ?_)
      rw [← hB]; exact World.alloc_heap_new w _
    · rw [← hV2, ← hP, ← hB]; exact Box.new V1 _ _
    · rw [← hV2]; exact rowOwn_of hown (Below.heap_alloc V1 _ _ (by omega))
  have sV2 : Hid (V2.heap.size = P + 1) := by show _ = _; rw [← hV2, World.size_alloc, hP]
  rw [hV2]
  rw [hB] at hbl ⊢
  rw [hP]
  clear hV2 hown hgrow hP hf hz
  have q0 : V2.cell? ⟨B, 0, none⟩ = some (.pointer (some ⟨b, 0, none⟩)) := by rw [cell_of_row _ _ 0 _ _ (0, 0) H2.out.code]; rfl
  go_wp2_with (go_at_call 57; refine (roots_fn B b _ q0 H2.out.fld).mono ?_; rintro e V3 ⟨rfl, hO⟩)
  obtain ⟨N, hN⟩ : ∃ N, V2.heap.size = N := ⟨_, rfl⟩
  have eN : Hid (N = P + 1) := by show _ = _; rw [← hN]; exact sV2.out
  have hS3 := hO.stay
  have s3 := hO.size
  have c0 := hO.c0
  have c1 := hO.c1
  have c2 := hO.c2
  rw [hN] at hS3 s3 c0 c1 c2 ⊢
  have hNP : P < N := by have := eN.out; omega
  have hI3 : NwI B P b w 0 V3 := by
    obtain ⟨h1, h2, h3, h4, h5⟩ := H2.out
    exact ⟨hS3.cells _ _ h1 rfl, h2.stay hS3, rowOwn_stay h3 hS3, h4.stay hS3, below_stay h5 hS3 (by omega)⟩
  clear hO H2 q0 sV2 hN eN
  refine (wpIn_wide (n := 10)).1 (rangeC rfl (enters_of Tryd.func94 (by kernel_rfl) rfl) (powers_seq (N + 1 + 1) N (N + 1) b 4 2 (by omega) V3 c2 c0 c1 hI3.fld) (fun _ => rfl)
    (fun x => x = B + 1 ∨ x = P) (by rintro x (rfl | rfl) <;> constructor <;> omega) (by rintro x (rfl | rfl | rfl) <;> omega)
    (NwI B P b w) (fun _ _ _ => False)
    (by rintro x X Y ⟨h1, h2, h3, h4, h5⟩ hs; exact ⟨hs.cells _ _ h1 rfl, h2.stay hs, rowOwn_stay h3 hs, h4.stay hs, below_stay h5 hs (by omega)⟩)
    (fun _ _ _ _ h _ => h.elim) hI3
    (fun x W _ hp _ => absurd trivial hp) ?round ?done (fun _ _ _ _ _ _ _ h => h.elim))
  case round =>
    rintro l x W W2 hx hp ⟨h1, h2, h3, h4, h5⟩
    have q2 := h2.1
    have f2 := h2.2
    have hPW : P < W2.heap.size := h2.lt
    have hlt : x + 1 ≤ 4 := hx
    have H1 : Hid (W2.heap[B]? = some (.cells (cd0 b).toArray 106 (0, 0))) := h1
    have H2 : Hid (Box W2 P (.slice (some ⟨B + 1, 0, none⟩) x 4)) := h2
    have H3 : Hid (∀ o, (W2.alloc o).ownsRow B 5 1 (.slice (some ⟨B + 1, 0, none⟩) x 4) x (arr x (pwr 2))) := fun o => rowOwn_of h3 (Below.heap_alloc W2 o _ (by omega))
    have H4 : Hid (FldAt W2 b) := h4
    have H5 : Hid (Below B w W2) := h5
    have HA : Hid (arr x (pwr 2) ++ [.int .u8 (oe (pwr 2 x))] = arr (x + 1) (pwr 2)) := arr_snoc x (pwr 2)
    obtain ⟨p, Hp⟩ : ∃ p, Hid (pwr 2 x = p) := ⟨_, rfl⟩
    rw [Hp.out] at HA
    clear h1 h2 h3 h4 h5
    try simp only []
    rw [Hp.out]
    gi_wp2
    refine ⟨trivial, ?_⟩
    gi_wp2_with (gi_at_builtin; refine wpListIn_append_fits _ rfl _ _ 52 rfl B 5 i 1 Tryd.underlying52 hi hz1 (B + 1) x 4 (arr x (pwr 2)) rfl (H3.out _) ⟨W2.heap.size, 0, none⟩ 1 1 [.int .u8 (oe p)] rfl rfl (new_one W2 _ _) (byte_one5 _) hlt ?_)
    intro W3 hown3 hgrow3
    have b3 : Box W3 P (.slice (some ⟨B + 1, 0, none⟩) x 4) := (H2.out.alloc _).of (hgrow3.block P (by simp; omega) (by simp; omega))
    have fin : Hid (Keep (fun x => x = B + 1 ∨ x = P) W2 (W3.setCell ⟨P, 0, none⟩ (.slice (some ⟨B + 1, 0, none⟩) (x + 1) 4)) ∧ NwI B P b w (x + 1) (W3.setCell ⟨P, 0, none⟩ (.slice (some ⟨B + 1, 0, none⟩) (x + 1) 4))) := by
      refine ⟨((keep_grown ((Keep.refl _ W2).alloc _) hgrow3 (.inl rfl)).set (c := P) (.inr rfl) _), ?_⟩
      have hother : ∀ k, k < W2.heap.size → k ≠ B + 1 → W3.heap[k]? = W2.heap[k]? := fun k hk hne => (hgrow3.block k (by simp; omega) (fun e => hne (by cases e; rfl))).trans (Below.heap_alloc W2 _ k hk)
      refine ⟨?_, b3.set _, ?_, ?_, (below_grows (H5.out.alloc (by omega) _) hgrow3 (by rintro g ⟨⟩; omega) (by simp; omega)).setCell (p := ⟨P, 0, none⟩) (by simp; omega) _⟩
      · exact (Below.heap_setCell W3 ⟨P, 0, none⟩ _ B (by simp; omega)).trans ((hother B (by omega) (by omega)).trans H1.out)
      · rw [← HA.out]
        exact rowOwn_of hown3 (Below.heap_setCell W3 ⟨P, 0, none⟩ _ _ (by simp; omega))
      · exact H4.out.of fun o => World.cell?_of_block (w := W2) (a := ⟨b, o, none⟩) ((Below.heap_setCell W3 ⟨P, 0, none⟩ _ b (by simp; omega)).trans (hother b (by omega) (by omega)))
    have q4 := b3.1
    have f4 := b3.2
    clear hown3 hgrow3 b3 H1 H2 H3 H4 H5 HA q2 f2
    gi_wp2
    exact fin.out
  case done =>
    rintro D W hD ⟨h1, h2, h3, h4, h5⟩ hK
    have q2 := h2.1
    have hPl := h2.lt
    have hR : Hid (∀ k, Arg (W.drewN k) (some ⟨B + 1, 0, none⟩) 4 4 (lst 4 (pwr 2))) := fun k => by
      refine ⟨lst_len _ _, .inr ⟨B + 1, 0, rfl, (h3.lt _ rfl).2, fun j hj => ?_⟩, lst_byt _ _, Nat.le_refl _, fun e => by cases e⟩
      rw [lst_len] at hj
      have := h3.cells rfl j _ (arr_at 4 (pwr 2) j hj)
      rw [Addr.add_mid] at this
      rw [lst_get 4 _ j hj]; exact this
    have H1 : Hid (W.heap[B]? = some (.cells (cd0 b).toArray 106 (0, 0))) := h1
    have H4 : Hid (FldAt W b) := h4
    have H5 : Hid (Below B w W) := h5
    have HK : Hid (W.heap[D]? = some (.deferred (some []))) := hK
    clear h1 h2 h3 h4 h5 hK
    go_wp2
    go_region_held3 (fun w' => w'.cell? ⟨P, 0, none⟩ = some (.slice (some ⟨B + 1, 0, none⟩) 4 4)) (go_keep)
      (first | (go_at_call 58; refine (roots_gen b _ _ (by exact H4.out.drewN 1) (by exact hR.out 1)).mono ?_; rintro e V4 ⟨g, off, cp, rfl, hg, hB4⟩; have hcP := (hB4.cell (p := ⟨P, 0, none⟩) hPl).trans q2)
             | (refine step_copy_cells rfl _ _ 52 52 rfl 5 Tryd.underlying52 size_byte B 1 5 5 ⟨g, off, none⟩ 5 cp rfl rfl (cd0 b) 106 ((hB4.block B (by exact Nat.lt_trans (by omega) hPl)).trans H1.out) (arr 5 gen) (by rw [arr_len]; rfl) (arr_src hg) (by rw [arr_len]; exact Nat.le_refl 6) (arr_one' 5 gen) ?_; intro V5 g5 k5; have hcQ := (World.cell?_of_block (w := V4) (a := ⟨P, 0, none⟩) (k5.out.block P (by omega))).trans hcP))
    have hDl : D < W.heap.size := (Array.getElem?_eq_some_iff.1 HK.out).1
    have k1 : V5.heap[D]? = some (.deferred (some [])) := (k5.out.block D (by omega)).trans ((hB4.block D hDl).trans HK.out)
    have c5 : CdAt V5 B b := by
      have h := g5.out
      rw [cd_laid] at h
      refine ⟨?_, fun j hj => ?_, ?_⟩
      · rw [cell_of_row _ _ 0 _ _ (0, 0) h]; rfl
      · rw [cell_of_row _ _ (1 + j) _ _ (0, 0) h]
        have := arr_at 5 gen j hj
        rw [Nat.add_comm]; simpa using this
      · exact (H4.out.drewN 1).of fun o => (World.cell?_of_block (w := V4) (a := ⟨b, o, none⟩) (k5.out.block b (by omega))).trans (World.cell?_of_block (w := W.drew) (a := ⟨b, o, none⟩) (hB4.block b (by exact Nat.lt_trans (by omega) hPl)))
    have b5 : Below B w V5 := k5.out.below _ _ ((below_drewN H5.out 1).trans (hB4.mono (by exact Nat.le_of_lt (Nat.lt_trans (by omega) hPl)))) (Nat.le_refl _)
    have fin : Hid (V5.heap[D]? = some (.deferred (some [])) ∧ CdAt (V5.putObj D (.deferred none)) B b ∧ Below B w (V5.putObj D (.deferred none))) :=
      ⟨k1, c5.stay (Stay.putObj (B := D) _ k1 rfl (Nat.le_refl _)), below_shut k1 (by omega) b5⟩
    clear k1 c5 b5 g5 k5 hg hB4 hcP hcQ hR H1 H4 H5 HK q2
    go_wp2
    refine ⟨by simp, .inl ⟨_, _, rfl, run_takeDeferred fin.out.1, ?_⟩⟩
    exact ⟨_, results_tmp rfl _ _ _, by first | rfl | (rw [hB]; rfl), by first | exact fin.out.2 | (rw [hB]; exact fin.out.2)⟩
end Go.Proofs.YtdjknaafefnlcaaDoor
