/-
  Texts of one family, one behind another: RsW8, RsW14, RsW15, RsW16, RsW17, ArrArgs, RsL1, RsL2, CoM3.
-/
import Derived.Test.YtoimbjbdkkohcaaGreatDoorM07
import Derived.OwnWalk
import Derived.OwnWalkIn
import Derived.Test.YtoimbjbdkkohcaaGreatDoorM08
import Derived.Test.YtoimbjbdkkohcaaGreatDoorRows
import Derived.WalkKit
import Derived.ProofKit
import Derived.OpenShut
import Derived.Test.YtoimbjbdkkohcaaGreatDoorM03

/-
  The generator, told anew.
-/
namespace Go.Proofs.YtoimbjbdkkohcaaGreatDoor
open Go.RowKit Go.Shelf
open Gf (gI eI)
open Po (El mu pwr ev S cf toE cv Low rts)
open Rm (al sy)
attribute [local go_sem] Oper.semAt_some

set_option maxHeartbeats 400000 in
theorem clone_gen (c : Nat) (w : World) (hg : ∀ i : Nat, i < 5 → w.cell? ⟨c, 1 + i, none⟩ = some (.int .u8 (oe (gen i)))) :
    Calls Tryz.prog 60 #[.slice (some ⟨c, 1, none⟩) 5 5] w fun e w' => ∃ g cp, e = .returned (.slice (some ⟨g, 0, none⟩) 5 cp) ∧ (∀ i : Nat, i < 5 → w'.cell? ⟨g, i, none⟩ = some (.int .u8 (oe (gen i)))) ∧ Below w.heap.size w w' := by
  have hnil : ∀ w, (binOp .eql 69 (.slice (some ⟨c, 1, none⟩) 5 5) (.slice none 0 0)).run Tryz.prog w = .ok (.bool false) w := fun w => by kernel_rfl
  obtain ⟨i0, hi, hz0, hz1, hz2⟩ := info_parts info_u8
  obtain ⟨news, Hnews⟩ : ∃ news, Hid (news = (lst 5 gen).map (Value.int .u8)) := ⟨_, rfl⟩
  have HG : Hid (∀ i : Nat, i < 5 → w.cell? ⟨c, 1 + i, none⟩ = some (.int .u8 (oe (gen i)))) := hg
  have hcl : c < w.heap.size := cell_lt (hg 0 (by omega))
  clear hg
  go_enter Tryz.func60, Tryz.ntmps60
  go_wp2_with (at_builtin; refine wpList_append_own _ rfl _ _ 69 rfl w.heap.size 5 i0 (.int .u8 0) 1 1 Tryz.underlying69 hi hz0 hz1 hz2 rfl (by decide) _ 0 [] rfl ⟨rfl, .inr ⟨w.heap.size, 0, #[], rfl, Nat.le_refl _, World.alloc_heap_new w _, Nat.le_refl _, Nat.zero_le _, rfl, rfl⟩⟩ ⟨c, 1, none⟩ 5 5 news rfl ?c0 ?c1 ?c2 ?c3 ?c4 ?c5 ?_)
  case c0 => rw [Hnews.out]; simp [lst_len]
  case c1 =>
    intro j u hj
    rw [Hnews.out] at hj
    have hjn : j < 5 := by have := (List.getElem?_eq_some_iff.1 hj).1; simpa [lst_len] using this
    have e : u = .int .u8 (oe (gen j)) := by
      rw [List.getElem?_map] at hj
      simp [lst, hjn] at hj
      rw [← hj]; rfl
    rw [e, Addr.add_mid]
    exact (World.cell?_of_block (w := w) (a := ⟨c, 1 + j, none⟩) (Below.heap_alloc w (.cells #[] 5) c hcl)).trans (HG.out j hjn)
  case c2 => intro u hu; rw [Hnews.out] at hu; obtain ⟨y, _, rfl⟩ := List.mem_map.1 hu; rfl
  case c3 => unfold maxLen; omega
  case c4 => omega
  case c5 => simp
  intro v' w1 hown hgrow _
  have hB : Below w.heap.size w w1 := by
    have h0 : Below w.heap.size w (w.alloc (.cells #[] 5)) := (Below.refl _ _).alloc (Nat.le_refl _) _
    exact h0.grown hgrow (by simp) (fun k e => by cases e; exact Nat.le_refl _)
  have hown : w1.ownsRow w.heap.size 5 1 v' 5 ((lst 5 gen).map (Value.int .u8)) := by rw [← Hnews.out]; simpa using hown
  obtain ⟨g, c', rfl, hg, hcc, hrow⟩ := owned_row (lst_byt 5 gen) (by simp [lst_len]) (by omega) hown
  clear hown hgrow
  go_wp2
  go_ret
  refine ⟨g, c', rfl, fun i hi => ?_, hB⟩
  have := hrow.cell hi
  rw [lst_cf 5 gen i hi] at this
  exact this

end Go.Proofs.YtoimbjbdkkohcaaGreatDoor

/-
  New: the generator is laid.
-/
namespace Go.Proofs.YtoimbjbdkkohcaaGreatDoor
open Go.RowKit Go.Shelf
open Gf (gI eI dI lI)
open Po (El mu pwr ev S cf toE cv Low rts)
open Rm (al sy At)
attribute [local go_sem] Oper.semAt_some

theorem rowOwn_of {W W' : World} {base e size : Nat} {g n cap : Nat} {xs : List Value} (h : W.ownsRow base e size (.slice (some ⟨g, 0, none⟩) n cap) n xs) (k : W'.heap[g]? = W.heap[g]?) : W'.ownsRow base e size (.slice (some ⟨g, 0, none⟩) n cap) n xs := by
  rcases h with ⟨h1, ⟨h2, _⟩ | ⟨g', cap', cur, h2, h3, h4, h5⟩⟩
  · cases h2
  · simp only [Value.slice.injEq, Option.some.injEq, Addr.mk.injEq, and_true, true_and] at h2
    obtain ⟨rfl, rfl⟩ := h2
    exact ⟨h1, .inr ⟨_, _, cur, rfl, h3, k.trans h4, h5⟩⟩
theorem rowOwn_stay {B : Nat} {W W' : World} {base e size : Nat} {g n cap : Nat} {xs : List Value} (h : W.ownsRow base e size (.slice (some ⟨g, 0, none⟩) n cap) n xs) (k : Stay B W W') : W'.ownsRow base e size (.slice (some ⟨g, 0, none⟩) n cap) n xs := by
  have h' := h
  rcases h with ⟨h1, ⟨h2, _⟩ | ⟨g', cap', cur, h2, h3, h4, h5⟩⟩
  · cases h2
  · simp only [Value.slice.injEq, Option.some.injEq, Addr.mk.injEq, and_true, true_and] at h2
    obtain ⟨rfl, rfl⟩ := h2
    exact rowOwn_of h' ((k.cells _ _ h4 rfl).trans h4.symm)
theorem below_grows {B : Nat} {w W W' : World} {row : Option Nat} (h : Below B w W) (k : W.grownBy W' row) (hr : ∀ g, row = some g → B ≤ g) (hB : B ≤ W.heap.size) : Below B w W' :=
  ⟨k.os.trans h.os, k.tape.trans h.tape, k.output.trans h.output, Nat.le_trans h.size k.size, fun b hb => (k.block b (by omega) (fun e => by have := hr b e.symm; omega)).trans (h.block b hb)⟩
theorem new_one (W : World) (v : Value) (t : TypeId) : ∀ j u, [v][j]? = some u → (W.alloc (.cells #[v] t)).cell? ((⟨W.heap.size, 0, none⟩ : Addr).add j) = some u := by
  intro j u hj
  cases j with
  | zero =>
    simp at hj
    subst hj
    exact (Box.new W t v).1
  | succ j => simp at hj
theorem byte_one5 (x : Int) : ∀ u ∈ [Value.int .u8 x], u.oneCell' = true := by
  intro u hu
  simp at hu
  subst hu
  rfl
theorem keep_grown {M : Nat → Prop} {X Y Z : World} {g : Nat} (h : Keep M X Y) (k : Y.grownBy Z (some g)) (hg : M g) : Keep M X Z :=
  h.trans ⟨k.size, fun b hb hm => k.block b hb (fun e => hm (by cases e; exact hg))⟩
theorem arr_snoc (n : Nat) (F : Nat → El) : arr n F ++ [.int .u8 (oe (F n))] = arr (n + 1) F := by
  unfold arr; rw [List.range_succ, List.map_append]; rfl

/-- the cells of a code whose generator is not laid yet -/
def cd0 (b : Nat) : List Value := [.pointer (some ⟨b, 0, none⟩), .int .u8 0, .int .u8 0, .int .u8 0, .int .u8 0, .int .u8 0]
theorem zero_code5 (w : World) : (zeroValue 116).run Tryz.prog w = .ok (.agg #[.pointer none, .int .u8 0, .int .u8 0, .int .u8 0, .int .u8 0, .int .u8 0]) w := by kernel_rfl
theorem cd_laid (b : Nat) : splice (cd0 b) 1 (arr 5 gen) = .pointer (some ⟨b, 0, none⟩) :: arr 5 gen := by
  unfold splice cd0
  rw [arr_len]; rfl
theorem RT_gen (i : Nat) : RT (lst 4 (pwr 2)) 4 i = gen i := by
  obtain ⟨h0, h1, h2, h3⟩ := al_nums
  have e : RT (lst 4 (pwr 2)) 4 = rts [toE (ofE (al 3)), toE (ofE (al 2)), toE (ofE (al 1)), toE (ofE (al 0))] := rfl
  rw [e, toE_ofE, toE_ofE, toE_ofE, toE_ofE, h0, h1, h2, h3]; rfl

/-- a copy of bytes into a block of whatever cells, as one step of a region that draws its order: all other blocks stand -/
theorem step_copy_cells {P : Program} {ops : Array Oper} {o : Oper} {a : Act} {w : World} {K : Act → World → Prop} {Q : Exit → Act → World → Prop} {E : Prop} (hgd : o.guard = none) (d s : Operand) (dT sT : TypeId)
    (ho : o.op = .call { callee := .builtin .copy, args := #[d, s], argTypes := #[dT, sT] }) (elem : TypeId) (hu : P.underlying dT = some (.slice elem)) (hsz : (P.info? elem).map (·.size) = some 1)
    (g off dLen dCap : Nat) (ad : Addr) (sLen sCap : Nat) (hd : a.eval d = .slice (some ⟨g, off, none⟩) dLen dCap) (hs : a.eval s = .slice (some ad) sLen sCap)
    (cur : List Value) (t : TypeId) (hg : w.heap[g]? = some (.cells cur.toArray t (0, 0))) (cs : List Value) (hn : cs.length = Nat.min sLen dLen)
    (hsrc : ∀ j v, cs[j]? = some v → w.cell? (ad.add j) = some v) (hfit : off + cs.length ≤ cur.length) (h1 : ∀ v ∈ cs, v.oneCell' = true)
    (h : ∀ w', Hid (w'.heap[g]? = some (.cells (splice cur off cs).toArray t (0, 0))) → Hid (Only g w w') → K (a.put o.dst (goInt cs.length)) w') :
    if Region.wanted o (yielded ops a.tmps) = true then Oper.wp P o a w K Q else E := by
  have hw : Region.wanted o (yielded ops a.tmps) = true := by simp [Region.wanted, hgd]
  rw [if_pos hw]
  have hrun := run_copy_row (P := P) w dT sT o.type elem g off dLen dCap ad sLen sCap cur.toArray t cs hu hsz hg hn hsrc (by simpa using hfit) h1
  unfold Oper.wp
  simp [execOp, ho, resolve, invoke, builtin, hd, hs, hrun, Result.andThen]
  refine h _ (show _ = _ from ?_) ⟨fun B w0 hb hB => below_setRow hb hB _, fun k hk => setRow_other w g k _ hk⟩
  rw [setRow_heap w g _ _ t _ hg]; simp [splice]
theorem arr_src {W : World} {g off n : Nat} {F : Nat → El} (h : ∀ j : Nat, j < n → W.cell? ⟨g, off + j, none⟩ = some (.int .u8 (oe (F j)))) : ∀ j v, (arr n F)[j]? = some v → W.cell? ((⟨g, off, none⟩ : Addr).add j) = some v := fun j v hv => by
  have hj : j < n := by have := (List.getElem?_eq_some_iff.1 hv).1; rw [arr_len] at this; exact this
  rw [arr_at n F j hj] at hv
  cases hv
  rw [Addr.add_mid]; exact h j hj
/-- the polynomial with the four roots -/
theorem roots_gen (b : Nat) (ar : Option Addr) (w : World) (hf : FldAt w b) (R : Arg w ar 4 4 (lst 4 (pwr 2))) :
    Calls Tryz.prog 58 #[.pointer (some ⟨b, 0, none⟩), .slice ar 4 4] w fun e w' => ∃ g off cp, e = .returned (.slice (some ⟨g, off, none⟩) 5 cp) ∧ (∀ j : Nat, j < 5 → w'.cell? ⟨g, off + j, none⟩ = some (.int .u8 (oe (gen j)))) ∧ Below w.heap.size w w' := by
  refine (roots_any b ar 4 4 (lst 4 (pwr 2)) w hf R (by omega)).mono ?_
  rintro e w' ⟨⟨a, n, c, l, rfl, A, ht, hcf, hn⟩, hB⟩
  have h5 : n = 5 := by
    by_cases h : n = 5
    · exact h
    · have e1 := cf_low_tl l A.byt 4 (by rw [ht]; omega)
      rw [hcf, RT_gen, gen_top] at e1
      exact absurd e1 (by decide)
  subst h5
  rcases A.sl with h | ⟨g, off, rfl, hg, hc⟩
  · have := A.len; rw [h] at this; cases this
  · refine ⟨g, off, c, rfl, fun j hj => ?_, hB⟩
    rw [hc j (by rw [A.len]; omega), ← ofE_cf l A.byt j, hcf, RT_gen]; rfl

/-- between two rounds: B the code's block, the roots' row lies in B + 1, its variable in P -/
structure NwI (B P b : Nat) (w : World) (x : Nat) (W : World) : Prop where
  code : W.heap[B]? = some (.cells (cd0 b).toArray 116 (0, 0))
  cb : Box W P (.slice (some ⟨B + 1, 0, none⟩) x 4)
  own : W.ownsRow B 5 1 (.slice (some ⟨B + 1, 0, none⟩) x 4) x (arr x (pwr 2))
  fld : FldAt W b
  below : Below B w W

set_option maxRecDepth 100000 in
set_option maxHeartbeats 2000000 in
theorem rsnew_any (b : Nat) (w : World) (hf : FldAt w b) :
    Calls Tryz.prog 29 #[.pointer (some ⟨b, 0, none⟩)] w fun e w' => e = .returned (.pointer (some ⟨w.heap.size, 0, none⟩)) ∧ CdAt w' w.heap.size b ∧ Below w.heap.size w w' := by
  obtain ⟨i, hi, hz0, hz1, hz2⟩ := info_parts info_u8
  have hz := zero_code5
  have hbl := hf.lt
  refine (callsIn_wide (n := 10)).1 ?_
  refine callsIn_of_wp_marks Tryz.func29 rfl trivial ?_ rfl
  simp only [Tryz.ntmps29, List.size_toArray, List.length_cons, List.length_nil, Nat.reduceAdd, Nat.reduceSub, Array.replicate_succ, Array.replicate_zero, List.push_toArray, List.append_toArray, List.nil_append, List.cons_append]
  refine wpIn_wide.2 ?_
  go_upto_region 3 with (at_make; refine wpList_make_own _ rfl _ _ 69 rfl w.heap.size 5 i (.int .u8 0) 1 Tryz.underlying69 hi hz0 hz1 _ _ _ 4 rfl rfl (by omega) (by rw [hz2]; omega) (by unfold maxLen; omega) (by simp) ?_; intro V1 hown hgrow)
  obtain ⟨B, hB⟩ : ∃ B, w.heap.size = B := ⟨_, rfl⟩
  obtain ⟨P, hP⟩ : ∃ P, V1.heap.size = P := ⟨_, rfl⟩
  obtain ⟨V2, hV2⟩ : ∃ V, V1.alloc (.cells #[.slice (some ⟨w.heap.size + 1, 0, none⟩) 0 4] 69) = V := ⟨_, rfl⟩
  have hV1 : B + 1 ≤ P := by have := hgrow.size; rw [World.size_alloc] at this; omega
  have hg1 : B + 1 < P := by rw [← hB, ← hP]; simpa using (hown.lt _ rfl).2
  have H2 : Hid (NwI B P b w 0 V2) := by
    rw [World.size_alloc, hB] at hown
    have b1 : Below B w V1 := by rw [← hB]; exact below_grows ((Below.refl _ w).alloc (Nat.le_refl _) _) hgrow (by simp) (by simp)
    have b2 : Below B w V2 := by rw [← hV2]; exact b1.alloc (by omega) _
    refine ⟨?_, ?_, ?_, hf.below (by rw [hB]; exact b2), b2⟩
    · rw [← hV2]
      refine (Below.heap_alloc V1 _ B (by omega)).trans ((hgrow.block B (by simp; omega) (by simp)).trans ?_)
      rw [← hB]; exact World.alloc_heap_new w _
    · rw [← hV2, ← hP, ← hB]; exact Box.new V1 _ _
    · rw [← hV2]; exact rowOwn_of hown (Below.heap_alloc V1 _ _ (by omega))
  have sV2 : Hid (V2.heap.size = P + 1) := by show _ = _; rw [← hV2, World.size_alloc, hP]
  rw [hV2]
  rw [hB] at hbl ⊢
  rw [hP]
  clear hV2 hown hgrow hP hf hz
  have q0 : V2.cell? ⟨B, 0, none⟩ = some (.pointer (some ⟨b, 0, none⟩)) := by rw [cell_of_row _ _ 0 _ _ (0, 0) H2.out.code]; rfl
  go_wp2_with (go_at_call 57; refine (roots_fn B b _ q0 H2.out.fld).mono ?_; rintro e V3 ⟨rfl, hO⟩)
  obtain ⟨N, hN⟩ : ∃ N, V2.heap.size = N := ⟨_, rfl⟩
  have eN : Hid (N = P + 1) := by show _ = _; rw [← hN]; exact sV2.out
  have hS3 := hO.stay
  have s3 := hO.size
  have c0 := hO.c0
  have c1 := hO.c1
  have c2 := hO.c2
  rw [hN] at hS3 s3 c0 c1 c2 ⊢
  have hNP : P < N := by have := eN.out; omega
  have hI3 : NwI B P b w 0 V3 := by
    obtain ⟨h1, h2, h3, h4, h5⟩ := H2.out
    exact ⟨hS3.cells _ _ h1 rfl, h2.stay hS3, rowOwn_stay h3 hS3, h4.stay hS3, below_stay h5 hS3 (by omega)⟩
  clear hO H2 q0 sV2 hN eN
  refine (wpIn_wide (n := 10)).1 (rangeC rfl (enters_of Tryz.func101 (by kernel_rfl) rfl) (powers_seq (N + 1 + 1) N (N + 1) b 4 2 (by omega) V3 c2 c0 c1 hI3.fld) (fun _ => rfl)
    (fun x => x = B + 1 ∨ x = P) (by rintro x (rfl | rfl) <;> constructor <;> omega) (by rintro x (rfl | rfl | rfl) <;> omega)
    (NwI B P b w) (fun _ _ _ => False)
    (by rintro x X Y ⟨h1, h2, h3, h4, h5⟩ hs; exact ⟨hs.cells _ _ h1 rfl, h2.stay hs, rowOwn_stay h3 hs, h4.stay hs, below_stay h5 hs (by omega)⟩)
    (fun _ _ _ _ h _ => h.elim) hI3
    (fun x W _ hp _ => absurd trivial hp) ?round ?done (fun _ _ _ _ _ _ _ h => h.elim))
  case round =>
    rintro l x W W2 hx hp ⟨h1, h2, h3, h4, h5⟩
    have q2 := h2.1
    have f2 := h2.2
    have hPW : P < W2.heap.size := h2.lt
    have hlt : x + 1 ≤ 4 := hx
    have H1 : Hid (W2.heap[B]? = some (.cells (cd0 b).toArray 116 (0, 0))) := h1
    have H2 : Hid (Box W2 P (.slice (some ⟨B + 1, 0, none⟩) x 4)) := h2
    have H3 : Hid (∀ o, (W2.alloc o).ownsRow B 5 1 (.slice (some ⟨B + 1, 0, none⟩) x 4) x (arr x (pwr 2))) := fun o => rowOwn_of h3 (Below.heap_alloc W2 o _ (by omega))
    have H4 : Hid (FldAt W2 b) := h4
    have H5 : Hid (Below B w W2) := h5
    have HA : Hid (arr x (pwr 2) ++ [.int .u8 (oe (pwr 2 x))] = arr (x + 1) (pwr 2)) := arr_snoc x (pwr 2)
    obtain ⟨p, Hp⟩ : ∃ p, Hid (pwr 2 x = p) := ⟨_, rfl⟩
    rw [Hp.out] at HA
    clear h1 h2 h3 h4 h5
    try simp only []
    rw [Hp.out]
    gi_wp2
    refine ⟨trivial, ?_⟩
    gi_wp2_with (gi_at_builtin; refine wpListIn_append_fits _ rfl _ _ 69 rfl B 5 i 1 Tryz.underlying69 hi hz1 (B + 1) x 4 (arr x (pwr 2)) rfl (H3.out _) ⟨W2.heap.size, 0, none⟩ 1 1 [.int .u8 (oe p)] rfl rfl (new_one W2 _ _) (byte_one5 _) hlt ?_)
    intro W3 hown3 hgrow3
    have b3 : Box W3 P (.slice (some ⟨B + 1, 0, none⟩) x 4) := (H2.out.alloc _).of (hgrow3.block P (by simp; omega) (by simp; omega))
    have fin : Hid (Keep (fun x => x = B + 1 ∨ x = P) W2 (W3.setCell ⟨P, 0, none⟩ (.slice (some ⟨B + 1, 0, none⟩) (x + 1) 4)) ∧ NwI B P b w (x + 1) (W3.setCell ⟨P, 0, none⟩ (.slice (some ⟨B + 1, 0, none⟩) (x + 1) 4))) := by
      refine ⟨((keep_grown ((Keep.refl _ W2).alloc _) hgrow3 (.inl rfl)).set (c := P) (.inr rfl) _), ?_⟩
      have hother : ∀ k, k < W2.heap.size → k ≠ B + 1 → W3.heap[k]? = W2.heap[k]? := fun k hk hne => (hgrow3.block k (by simp; omega) (fun e => hne (by cases e; rfl))).trans (Below.heap_alloc W2 _ k hk)
      refine ⟨?_, b3.set _, ?_, ?_, (below_grows (H5.out.alloc (by omega) _) hgrow3 (by rintro g ⟨⟩; omega) (by simp; omega)).setCell (p := ⟨P, 0, none⟩) (by simp; omega) _⟩
      · exact (Below.heap_setCell W3 ⟨P, 0, none⟩ _ B (by simp; omega)).trans ((hother B (by omega) (by omega)).trans H1.out)
      · rw [← HA.out]
        exact rowOwn_of hown3 (Below.heap_setCell W3 ⟨P, 0, none⟩ _ _ (by simp; omega))
      · exact H4.out.of fun o => World.cell?_of_block (w := W2) (a := ⟨b, o, none⟩) ((Below.heap_setCell W3 ⟨P, 0, none⟩ _ b (by simp; omega)).trans (hother b (by omega) (by omega)))
    have q4 := b3.1
    have f4 := b3.2
    clear hown3 hgrow3 b3 H1 H2 H3 H4 H5 HA q2 f2
    gi_wp2
    exact fin.out
  case done =>
    rintro D W hD ⟨h1, h2, h3, h4, h5⟩ hK
    have q2 := h2.1
    have hPl := h2.lt
    have hR : Hid (∀ k, Arg (W.drewN k) (some ⟨B + 1, 0, none⟩) 4 4 (lst 4 (pwr 2))) := fun k => by
      refine ⟨lst_len _ _, .inr ⟨B + 1, 0, rfl, (h3.lt _ rfl).2, fun j hj => ?_⟩, lst_byt _ _, Nat.le_refl _, fun e => by cases e⟩
      rw [lst_len] at hj
      have := h3.cells rfl j _ (arr_at 4 (pwr 2) j hj)
      rw [Addr.add_mid] at this
      rw [lst_get 4 _ j hj]; exact this
    have H1 : Hid (W.heap[B]? = some (.cells (cd0 b).toArray 116 (0, 0))) := h1
    have H4 : Hid (FldAt W b) := h4
    have H5 : Hid (Below B w W) := h5
    have HK : Hid (W.heap[D]? = some (.deferred (some []))) := hK
    clear h1 h2 h3 h4 h5 hK
    go_wp2
    go_region_held3 (fun w' => w'.cell? ⟨P, 0, none⟩ = some (.slice (some ⟨B + 1, 0, none⟩) 4 4)) (go_keep)
      (first | (go_at_call 58; refine (roots_gen b _ _ (by exact H4.out.drewN 1) (by exact hR.out 1)).mono ?_; rintro e V4 ⟨g, off, cp, rfl, hg, hB4⟩; have hcP := (hB4.cell (p := ⟨P, 0, none⟩) hPl).trans q2)
             | (refine step_copy_cells rfl _ _ 69 69 rfl 5 Tryz.underlying69 size_byte B 1 5 5 ⟨g, off, none⟩ 5 cp rfl rfl (cd0 b) 116 ((hB4.block B (by exact Nat.lt_trans (by omega) hPl)).trans H1.out) (arr 5 gen) (by rw [arr_len]; rfl) (arr_src hg) (by rw [arr_len]; exact Nat.le_refl 6) (arr_one' 5 gen) ?_; intro V5 g5 k5; have hcQ := (World.cell?_of_block (w := V4) (a := ⟨P, 0, none⟩) (k5.out.block P (by omega))).trans hcP))
    have hDl : D < W.heap.size := (Array.getElem?_eq_some_iff.1 HK.out).1
    have k1 : V5.heap[D]? = some (.deferred (some [])) := (k5.out.block D (by omega)).trans ((hB4.block D hDl).trans HK.out)
    have c5 : CdAt V5 B b := by
      have h := g5.out
      rw [cd_laid] at h
      refine ⟨?_, fun j hj => ?_, ?_⟩
      · rw [cell_of_row _ _ 0 _ _ (0, 0) h]; rfl
      · rw [cell_of_row _ _ (1 + j) _ _ (0, 0) h]
        have := arr_at 5 gen j hj
        rw [Nat.add_comm]; simpa using this
      · exact (H4.out.drewN 1).of fun o => (World.cell?_of_block (w := V4) (a := ⟨b, o, none⟩) (k5.out.block b (by omega))).trans (World.cell?_of_block (w := W.drew) (a := ⟨b, o, none⟩) (hB4.block b (by exact Nat.lt_trans (by omega) hPl)))
    have b5 : Below B w V5 := k5.out.below _ _ ((below_drewN H5.out 1).trans (hB4.mono (by exact Nat.le_of_lt (Nat.lt_trans (by omega) hPl)))) (Nat.le_refl _)
    have fin : Hid (V5.heap[D]? = some (.deferred (some [])) ∧ CdAt (V5.putObj D (.deferred none)) B b ∧ Below B w (V5.putObj D (.deferred none))) :=
      ⟨k1, c5.stay (Stay.putObj (B := D) _ k1 rfl (Nat.le_refl _)), below_shut k1 (by omega) b5⟩
    clear k1 c5 b5 g5 k5 hg hB4 hcP hcQ hR H1 H4 H5 HK q2
    go_wp2
    refine ⟨by simp, .inl ⟨_, _, rfl, run_takeDeferred fin.out.1, ?_⟩⟩
    exact ⟨_, results_tmp rfl _ _ _, by first | rfl | (rw [hB]; rfl), by first | exact fin.out.2 | (rw [hB]; exact fin.out.2)⟩
end Go.Proofs.YtoimbjbdkkohcaaGreatDoor

/-
  The checks: what is left of a division by the generator.
-/
namespace Go.Proofs.YtoimbjbdkkohcaaGreatDoor
open Go.RowKit Go.Shelf
open Gf (gI eI dI lI)
open Po (El mu pwr ev S cf toE cv Low rts)
open Rm (al sy At IsCode)
attribute [local go_sem] Oper.semAt_some

/-- four checks ahead of 32 data -/
def ck (K D : Nat → El) (i : Nat) : El := if i < 4 then K i else D (i - 4)
theorem gen_root (j : Nat) (hj : j < 4) : ev 5 gen (al j) = 0 := by
  refine (Po.ev_rts [8, 4, 2, 1] (al j)).2 ?_
  obtain ⟨h0, h1, h2, h3⟩ := al_nums
  rcases (show j = 0 ∨ j = 1 ∨ j = 2 ∨ j = 3 by omega) with rfl | rfl | rfl | rfl
  · rw [h0]; simp
  · rw [h1]; simp
  · rw [h2]; simp
  · rw [h3]; simp
/-- what is left of the division, as checks, makes a code word -/
theorem left_code (D V : Nat → El) (p : Nat → El) (hp : ∀ i, p i = if i < 39 then wd (ck (fun _ => 0) D) V i else 0) (R : Nat → El) (h : Left p gen 4 R) : IsCode (wd (ck R D) V) := by
  obtain ⟨hR, T, M, hT, he⟩ := h
  have hpl : Low 39 p := fun i hi => by rw [hp, if_neg (by omega)]
  intro j hj
  have e1 : ev 39 (wd (ck R D) V) (al j) = ev 39 (fun i => p i ^^^ R i) (al j) := by
    unfold ev
    refine Po.S_congr _ _ _ fun i hi => ?_
    congr 1
    show _ = p i ^^^ R i
    rw [hp, if_pos hi]
    unfold wd ck
    by_cases h4 : i < 4
    · rw [if_pos h4, if_pos h4, if_pos (show i < 36 by omega), if_pos (show i < 36 by omega)]
      exact (Po.z0 _).symm
    · rw [hR i (by omega), Po.x0, if_neg h4]
  have e2 : ∀ n, 39 ≤ n → ev 39 (fun i => p i ^^^ R i) (al j) = ev n (fun i => p i ^^^ R i) (al j) := fun n hn => (Po.ev_more (hpl.xor (hR.mono (by omega))) hn _).symm
  rw [e1, e2 (39 + (M + 5)) (by omega)]
  have e3 : ev (39 + (M + 5)) (fun i => p i ^^^ R i) (al j) = ev (39 + (M + 5)) (cv T gen) (al j) := by
    unfold ev
    refine Po.S_congr _ _ _ fun i _ => ?_
    congr 1
    show p i ^^^ R i = _
    rw [he i, BitVec.xor_assoc, Po.xor_self', Po.x0]
  rw [e3, Po.ev_more ((Po.cv_low hT gen_low).mono (show M + 5 - 1 ≤ M + 5 by omega)) (by omega), Po.ev_cv hT gen_low, gen_root j hj, Po.mu_zero]
theorem left_congr {p q p' q' R R' : Nat → El} {k : Nat} (h : Left p q k R) (h1 : ∀ i, p i = p' i) (h2 : ∀ i, q i = q' i) (h3 : ∀ i, R i = R' i) : Left p' q' k R' := by
  rw [← funext h1, ← funext h2, ← funext h3]; exact h
theorem zero36 (w : World) : (zeroValue 49).run Tryz.prog w = .ok (.agg (arr 36 fun _ => 0).toArray) w := by kernel_rfl

theorem arr_src' {W : World} {g off n : Nat} {F : Nat → El} (h : ∀ j : Nat, j < n → W.cell? ⟨g, off + j, none⟩ = some (.int .u8 (oe (F j)))) : ∀ j v, (arr n F)[j]? = some v → W.cell? ((⟨g, off, none⟩ : Addr).add j) = some v := fun j v hv => by
  have hj : j < n := by have := (List.getElem?_eq_some_iff.1 hv).1; rw [arr_len] at this; exact this
  rw [arr_at n F j hj] at hv
  cases hv
  rw [Addr.add_mid]; exact h j hj
/-- Mod of the word by the generator -/
theorem modG_any (b c g : Nat) (X : Nat → El) (w : World) (hc : CdAt w c b) (hg : Blk w g 39 X) :
    Calls Tryz.prog 73 #[.pointer (some ⟨b, 0, none⟩), .slice (some ⟨g, 0, none⟩) 39 39, .slice (some ⟨c, 1, none⟩) 5 5] w fun e w' =>
      ∃ a n cp l, e = .returned (.tuple #[.slice a n cp, .int .i64 0]) ∧ Arg w' a n cp l ∧ n ≤ 4 ∧ Left (fun i => if i < 39 then X i else 0) gen 4 (cf l) ∧ Below w.heap.size w w' := by
  have P : Arg w (some ⟨g, 0, none⟩) 39 39 (lst 39 X) := ⟨lst_len _ _, .inr ⟨g, 0, rfl, hg.lt, fun j hj => by
    rw [lst_len] at hj
    rw [lst_get 39 X j hj, Nat.zero_add]; exact hg.arr j hj⟩, lst_byt _ _, Nat.le_refl _, fun e => by cases e⟩
  have Q : Arg w (some ⟨c, 1, none⟩) 5 5 (lst 5 gen) := ⟨lst_len _ _, .inr ⟨c, 1, rfl, hc.lt, fun j hj => by
    rw [lst_len] at hj
    rw [lst_get 5 gen j hj]; exact hc.g j hj⟩, lst_byt _ _, Nat.le_refl _, fun e => by cases e⟩
  have ht : tl (lst 5 gen) = 4 + 1 := tl_of_cf _ (lst_byt _ _) 5 (fun _ => by
    rw [lst_cf 5 gen 4 (by omega), gen_top]; decide) (fun i hi => by rw [lst_low 5 gen gen_low]; exact gen_low i hi)
  refine (mod_any b _ 39 39 (lst 39 X) _ 5 5 (lst 5 gen) 4 w hc.fld P Q (by omega) (by omega) ht).mono ?_
  rintro e w' ⟨a, n, cp, l, rfl, A, _, hn, hL, hB⟩
  refine ⟨a, n, cp, l, rfl, A, hn, left_congr hL (fun i => ?_) (lst_low 5 gen gen_low) (fun _ => rfl), hB⟩
  by_cases hi : i < 39
  · rw [if_pos hi, lst_cf 39 X i hi]
  · rw [if_neg hi]
    exact Po.cf_low _ i (by rw [lst_len]; omega)

set_option maxRecDepth 100000 in
set_option maxHeartbeats 2000000 in
theorem checks_any (c b : Nat) (D G : Nat → El) (w : World) (hc : CdAt w c b) :
    Calls Tryz.prog 39 #[.pointer (some ⟨c, 0, none⟩), .agg (arr 32 D).toArray, .agg (arr 3 G).toArray] w fun e w' => ∃ K, e = .returned (.agg (arr 4 K).toArray) ∧ IsCode (wd (ck K D) G) ∧ Below w.heap.size w w' := by
  have hz4 := zero4
  have hz36 := zero36
  have hz39 := zero39
  have cJ : Hid (∀ w, Calls Tryz.prog 72 #[.agg (arr 36 (ck (fun _ => 0) D)).toArray, .agg (arr 3 G).toArray] w fun e w' => e = .returned (.agg (arr 39 (wd (ck (fun _ => 0) D) G)).toArray) ∧ Below w.heap.size w w') := fun w => join_any _ G w
  obtain ⟨X, HX⟩ : ∃ X, Hid (wd (ck (fun _ => 0) D) G = X) := ⟨_, rfl⟩
  rw [HX.out] at cJ
  obtain ⟨A0, hA0⟩ : ∃ A, arr 32 D = A := ⟨_, rfl⟩
  obtain ⟨A1, hA1⟩ : ∃ A, arr 3 G = A := ⟨_, rfl⟩
  obtain ⟨A2, hA2⟩ : ∃ A, (arr 4 fun _ => 0) = A := ⟨_, rfl⟩
  obtain ⟨A3, hA3⟩ : ∃ A, (arr 39 fun _ => 0) = A := ⟨_, rfl⟩
  obtain ⟨A4, hA4⟩ : ∃ A, arr 39 X = A := ⟨_, rfl⟩
  obtain ⟨A5, hA5⟩ : ∃ A, (arr 36 fun _ => 0) = A := ⟨_, rfl⟩
  obtain ⟨A6, hA6⟩ : ∃ A, arr 36 (ck (fun _ => 0) D) = A := ⟨_, rfl⟩
  have i36 : (Tryz.prog.info? 49).map (·.size) = some A6.length := by rw [← hA6, arr_len]; kernel_rfl
  have i3 : (Tryz.prog.info? 54).map (·.size) = some A1.length := by rw [← hA1, arr_len]; kernel_rfl
  have i39 : (Tryz.prog.info? 52).map (·.size) = some A4.length := by rw [← hA4, arr_len]; kernel_rfl
  have o39 : A4.toArray.all (·.oneCell') = true := by rw [← hA4]; exact arr_one 39 X
  rw [hA2] at hz4
  rw [hA3] at hz39
  rw [hA5] at hz36
  rw [hA0, hA1]
  rw [hA1, hA4, hA6] at cJ
  have hcl : c < w.heap.size := hc.lt
  have hbl : b < w.heap.size := hc.fld.lt
  go_enter Tryz.func39, Tryz.ntmps39
  go_upto_region 2 with (fail)
  obtain ⟨B, hB⟩ : ∃ B, w.heap.size = B := ⟨_, rfl⟩
  obtain ⟨V0, hV0⟩ : ∃ V, (((w.alloc (.cells A0.toArray 58)).alloc (.cells A1.toArray 54)).alloc (.cells A2.toArray 50)).alloc (.cells A5.toArray 49) = V := ⟨_, rfl⟩
  have H0 : Hid (Blk V0 B 32 D ∧ Blk V0 (B + 1) 3 G ∧ Blk V0 (B + 1 + 1) 4 (fun _ => 0) ∧ Blk V0 (B + 1 + 1 + 1) 36 (fun _ => 0) ∧ Below B w V0 ∧ CdAt V0 c b) := by
    have hb : Below B w V0 := by rw [← hV0, ← hB]; exact ((((Below.refl _ w).alloc (Nat.le_refl _) _).alloc (by simp) _).alloc (by simp; omega) _).alloc (by simp; omega) _
    have h0 := Blk.new w 32 D 58
    have h1 := Blk.new (w.alloc (.cells A0.toArray 58)) 3 G 54
    have h2 := Blk.new ((w.alloc (.cells A0.toArray 58)).alloc (.cells A1.toArray 54)) 4 (fun _ => 0) 50
    have h3 := Blk.new (((w.alloc (.cells A0.toArray 58)).alloc (.cells A1.toArray 54)).alloc (.cells A2.toArray 50)) 36 (fun _ => 0) 49
    simp only [World.size_alloc] at h1 h2 h3
    rw [hA0] at h0
    rw [hA1] at h1
    rw [hA2] at h2
    rw [hA5] at h3
    rw [← hB]
    refine ⟨?_, ?_, ?_, ?_, by rw [hB]; exact hb, hc.next (by rw [hB]; exact hb)⟩ <;> rw [← hV0]
    · exact ((h0.alloc _).alloc _).alloc _
    · exact (h1.alloc _).alloc _
    · exact h2.alloc _
    · exact h3
  have sV0 : Hid (V0.heap.size = B + 1 + 1 + 1 + 1) := by show _ = _; rw [← hV0, ← hB]; simp
  rw [hV0, hB]
  rw [hB] at hcl hbl
  clear hV0 hc
  go_region_held3 (fun _ => True) (trivial)
    (first | (refine step_cpy rfl _ _ rfl (B + 1 + 1 + 1) 4 32 32 B 0 32 32 36 32 (fun _ => 0) D rfl rfl H0.out.2.2.2.1.drew rfl (fun j hj => by rw [Nat.zero_add]; exact H0.out.1.arr j hj) (by omega) ?_; intro V1 g1 k1))
  have H1 : Hid (Blk V1 (B + 1) 3 G ∧ Blk V1 (B + 1 + 1) 4 (fun _ => 0) ∧ Blk V1 (B + 1 + 1 + 1) 36 (ck (fun _ => 0) D) ∧ Below B w V1 ∧ CdAt V1 c b) := by
    obtain ⟨_, h1, h2, _, h3, h4⟩ := H0.out
    refine ⟨h1.of (k1.out.block _ (by omega)), h2.of (k1.out.block _ (by omega)), g1.out.congr fun i hi => ?_, k1.out.below _ _ (below_drewN h3 1) (by omega), h4.of (k1.out.block c (by omega)) (k1.out.block b (by omega))⟩
    unfold cpy ck
    by_cases h : i < 4
    · rw [if_neg (by omega), if_pos h]
    · rw [if_pos (by omega), if_neg h]
  have r0 : V1.rangeAt (B + 1 + 1 + 1) 0 A6 := by rw [← hA6]; exact H1.out.2.2.1.range
  have r1 : V1.rangeAt (B + 1) 0 A1 := by rw [← hA1]; exact H1.out.1.range
  have sV1 : B + 1 + 1 + 1 < V1.heap.size := H1.out.2.2.1.lt
  have n39 : Hid (∀ W : World, (W.alloc (.cells A3.toArray 52)).there W.heap.size 0 A4.toArray.size) := fun W => by
    have h := Blk.new W 39 (fun _ => 0) 52
    rw [hA3] at h
    rw [← hA4]; exact h.there
  clear H0 g1 k1 sV0
  go_upto_region 4 with (first | refine wpList_load_mid rfl 49 _ rfl _ 0 rfl A6 _ r0 Tryz.underlying49 rfl i36 ?_ | refine wpList_load_mid rfl 54 _ rfl _ 0 rfl A1 _ r1 Tryz.underlying54 rfl i3 ?_ | (go_at_call 72; refine (cJ.out _).mono ?_; rintro e V2 ⟨rfl, hB2⟩) | refine wpList_store_mid rfl 52 _ _ rfl _ 0 A4.toArray rfl rfl (n39.out _) i39 o39 ?_)
  obtain ⟨J, hJ⟩ : ∃ J, V2.heap.size = J := ⟨_, rfl⟩
  obtain ⟨V3, hV3⟩ : ∃ V, (V2.alloc (.cells A3.toArray 52)).setCells V2.heap.size 0 A4 = V := ⟨_, rfl⟩
  have sJ : B + 1 + 1 + 1 < J := by have := hB2.size; omega
  have H3 : Hid (Blk V3 (B + 1 + 1) 4 (fun _ => 0) ∧ Blk V3 J 39 X ∧ Below B w V3 ∧ CdAt V3 c b) := by
    have b3 : Below V1.heap.size V1 V3 := by rw [← hV3]; exact below_puts (hB2.alloc hB2.size _) hB2.size 0 A4
    obtain ⟨_, h1, _, h2, h3⟩ := H1.out
    refine ⟨h1.next b3, ?_, h2.trans (b3.mono (by omega)), h3.next b3⟩
    have h := Blk.new V2 39 (fun _ => 0) 52
    rw [hA3] at h
    have h2 := h.put X
    rw [hA4, hV3, hJ] at h2; exact h2
  rw [hV3, hJ]
  clear hV3 hJ hB2 H1 r0 r1 sV1 n39 cJ i36 i3 i39 o39
  have q0 := H3.out.2.2.2.f
  have hcV : c < V3.heap.size := H3.out.2.2.2.lt
  go_region_held3 (fun w' => w'.cell? ⟨c, 0, none⟩ = some (.pointer (some ⟨b, 0, none⟩))) (go_keep)
    (first | (go_at_call 73; refine (modG_any b c J X _ (by exact H3.out.2.2.2.drewN 1) (by exact H3.out.2.1.drewN 1)).mono ?_; rintro e V4 ⟨a4, n4, cp4, l4, rfl, hA, hn4, hLf, hB4⟩; have hcQ := (hB4.cell (p := ⟨c, 0, none⟩) hcV).trans q0))
  obtain ⟨R, HR⟩ : ∃ R, Hid (cf l4 = R) := ⟨_, rfl⟩
  have hcode : Hid (IsCode (wd (ck R D) G)) := by
    rw [HR.out] at hLf
    exact left_code D G _ (fun i => by rw [HX.out]) R hLf
  have b4 : Below B w V4 := H3.out.2.2.1.trans (((below_drewN (Below.refl B V3) 1).trans (hB4.mono (by exact Nat.le_of_lt (Nat.lt_trans (show B < J by omega) H3.out.2.1.lt)))))
  have r4 : Blk V4 (B + 1 + 1) 4 (fun _ => 0) := (H3.out.1.drewN 1).next hB4
  obtain ⟨T, hT⟩ : ∃ T, V4.heap.size = T := ⟨_, rfl⟩
  have sT : B + 1 + 1 < T := by rw [← hT]; exact r4.lt
  obtain ⟨V5, hV5⟩ : ∃ V, V4.alloc (.cells A2.toArray 50) = V := ⟨_, rfl⟩
  have g5 : V5.heap[T]? = some (.cells A2.toArray 50 (0, 0)) := by rw [← hV5, ← hT]; exact World.alloc_heap_new V4 _
  have b5 : Hid (Below B w V5) := by rw [← hV5]; exact b4.alloc (by omega) _
  have r5 : Hid (Blk V5 (B + 1 + 1) 4 (fun _ => 0)) := by rw [← hV5]; exact r4.alloc _
  obtain ⟨cs, hcs⟩ : ∃ cs, arr n4 R = cs := ⟨_, rfl⟩
  have lcs : cs.length = n4 := by rw [← hcs, arr_len]
  have ocs : Hid (∀ v ∈ cs, v.oneCell' = true) := by rw [← hcs]; exact arr_one' n4 R
  have src : Hid (0 < cs.length → (some ⟨T, 0, none⟩ : Option Addr) = some ⟨T, 0, none⟩ ∧ ∃ ad, a4 = some ad ∧ ∀ j v, cs[j]? = some v → V5.cell? (ad.add j) = some v) := fun h0 => by
    refine ⟨rfl, ?_⟩
    rcases hA.sl with h | ⟨g, off, rfl, hg, hcell⟩
    · have := hA.len; rw [h] at this; simp at this; omega
    · refine ⟨_, rfl, ?_⟩
      rw [← hcs]
      refine arr_src' fun j hj => ?_
      rw [← hV5]
      refine (World.cell?_of_block (w := V4) (a := ⟨g, off + j, none⟩) (Below.heap_alloc V4 _ g hg)).trans ?_
      rw [hcell j (by rw [hA.len]; exact hj), ← ofE_cf l4 hA.byt j, HR.out]; rfl
  have hsp : Hid (splice A2 0 cs = arr 4 R) := by
    show _ = _
    rw [← hA2, ← hcs, splice_arr 4 (fun _ => 0) 0 n4 R (by omega)]
    refine arr_congr 4 _ _ fun i hi => ?_
    unfold cpy
    by_cases h : i < n4
    · rw [if_pos (by omega), Nat.sub_zero]
    · rw [if_neg (by omega), ← HR.out]
      exact (Po.cf_low l4 i (by rw [hA.len]; omega)).symm
  have lA2 : A2.length = 4 := by rw [← hA2, arr_len]
  have hmin : cs.length = Nat.min n4 4 := by rw [lcs]; exact (Nat.min_eq_left hn4).symm
  clear hA hLf hB4 hcQ b4 r4 hcs H3 q0 hcV HX
  go_upto_region 6 with (fail)
  try rw [hV5]
  try rw [hT]
  go_upto_region 7 with (refine wpList_copy_splice rfl _ _ 69 69 rfl 5 Tryz.underlying69 size_byte (some ⟨T, 0, none⟩) a4 4 4 n4 cp4 rfl rfl T 0 A2 50 g5 cs hmin src.out (by omega) ocs.out T V5 (Below.refl _ _) (Nat.le_refl _) ?_; intro V6 g6 b6)
  have gT : Blk V6 T 4 R := ⟨_, by have h := g6.out; rw [hsp.out] at h; exact h⟩
  have rB : Blk V6 (B + 1 + 1) 4 (fun _ => 0) := r5.out.below b6 sT
  have HB6 : Hid (Below B w V6) := b5.out.trans (b6.mono (by omega))
  have hr := gT.range
  have ht : V6.there (B + 1 + 1) 0 (arr 4 R).toArray.size := rB.there
  have hi4 : (Tryz.prog.info? 50).map (·.size) = some (arr 4 R).length := by rw [arr_len]; exact info4
  have hone := arr_one 4 R
  obtain ⟨L, hL⟩ : ∃ L, arr 4 R = L := ⟨_, rfl⟩
  rw [hL] at hr ht hi4 hone
  have HL : Hid (arr 4 R = L) := hL
  clear g6 b6 gT rB hL g5 b5 r5 src ocs hsp
  go_wp2_with (first | refine wpList_load_mid rfl 50 _ rfl T 0 rfl L _ hr Tryz.underlying50 rfl hi4 ?_ | refine wpList_store_mid rfl 50 _ _ rfl (B + 1 + 1) 0 L.toArray rfl rfl ht hi4 hone ?_)
  have hs : (V6.setCells (B + 1 + 1) 0 L).rangeAt (B + 1 + 1) 0 L := World.rangeAt_setCells_same V6 _ 0 L (by simpa using ht)
  have hld := run_loadVar_mid (P := Tryz.prog) (V6.setCells (B + 1 + 1) 0 L) (B + 1 + 1) 0 50 L _ hs Tryz.underlying50 rfl hi4
  refine bodyPost_ret (v := .agg L.toArray) ?_ rfl ⟨R, by rw [HL.out], hcode.out, by first | exact below_put5 (by omega) L 0 HB6.out | (rw [hB]; exact below_put5 (by omega) L 0 HB6.out)⟩
  simp [results, Tryz.f39, Act.put, asAddr, hld]
end Go.Proofs.YtoimbjbdkkohcaaGreatDoor

/-
  The document's example: the code that answers it; a word's verdict.
-/
namespace Go.Proofs.YtoimbjbdkkohcaaGreatDoor
open Go.RowKit Go.Shelf
open Gf (gI eI dI lI)
open Po (El mu pwr ev S cf toE cv Low rts)
open Rm (al sy At IsCode)
attribute [local go_sem] Oper.semAt_some

theorem code_noughts {W : Nat → El} (h : IsCode W) : Nought (sy W) := ⟨h 0 (by omega), h 1 (by omega), h 2 (by omega), h 3 (by omega)⟩
theorem vd_clean {s : Nat → El} (h : Nought s) : vd s = #[.int .i64 0, .int .i64 (-1), .int .u8 0] := by
  unfold vd vk vp vv
  rw [if_pos h, if_pos h, if_pos h]; rfl
theorem vk_clean {s : Nat → El} (h : Nought s) : vk s = 0 := by unfold vk; rw [if_pos h]
theorem at_not_nought {s : Nat → El} {i : Nat} (h : At s i) : ¬ Nought s := fun n => h.1 n.1
theorem plc_at {s : Nat → El} {i : Nat} (hi : i < 39) (h : At s i) : plc s 39 0 = (i : Int) :=
  plc_some s 39 0 i (by omega) (by omega) h fun l _ hl hat => by have := Rm.at_only (by omega) hi hat h; omega
theorem v_at {s : Nat → El} {i : Nat} (hi : i < 39) (h : At s i) : vk s = (if i < 36 then 1 else 2) ∧ vp s = (i : Int) ∧ vv s = s 0 := by
  have hp := plc_at hi h
  have hn := at_not_nought h
  unfold vk vp vv
  have hm : ¬ ((i : Int) = -1) := by omega
  rw [if_neg hn, if_neg hn, if_neg hn, hp, if_neg hm, if_neg hm]
  refine ⟨?_, rfl, rfl⟩
  by_cases h36 : i < 36
  · rw [if_pos h36, if_neg (show ¬ (35 < (i : Int)) by omega)]
  · rw [if_neg h36, if_pos (show 35 < (i : Int) by omega)]
theorem v_lost {s : Nat → El} (hn : ¬ Nought s) (h : ∀ i, i < 39 → ¬ At s i) : vd s = #[.int .i64 3, .int .i64 (-1), .int .u8 0] := by
  have hp : plc s 39 0 = -1 := plc_none s 39 0 fun j _ hj => h j (by omega)
  unfold vd vk vp vv
  rw [if_neg hn, if_neg hn, if_neg hn, hp]; rfl
theorem sy_congr {W U : Nat → El} (h : ∀ i, i < 39 → W i = U i) : sy W = sy U := by
  funext j
  unfold sy ev
  exact Po.S_congr _ _ _ fun i hi => by rw [h i hi]
theorem sy_zero : Nought (sy fun _ => 0) := by
  have h : ∀ j, sy (fun _ => 0) j = 0 := fun j => Po.S_null _ _ fun i _ => Po.zero_mu _
  exact ⟨h 0, h 1, h 2, h 3⟩
/-- the example's two verdicts -/
theorem vd_noughts (F G : Nat → El) (hF : ∀ i, i < 36 → F i = 0) (hG : ∀ i, i < 3 → G i = 0) : vd (sy (wd F G)) = #[.int .i64 0, .int .i64 (-1), .int .u8 0] := by
  refine vd_clean ?_
  rw [sy_congr (U := fun _ => 0) fun i hi => ?_]
  · exact sy_zero
  · unfold wd
    by_cases h : i < 36
    · rw [if_pos h, hF i h]
    · rw [if_neg h, hG _ (by omega)]
theorem vd_nine (F G : Nat → El) (hF : ∀ i, i < 36 → F i = if i = 4 then 9 else 0) (hG : ∀ i, i < 3 → G i = 0) : vd (sy (wd F G)) = #[.int .i64 1, .int .i64 4, .int .u8 9] := by
  have e : sy (wd F G) = sy (Rm.one' 4 9) := sy_congr fun i hi => by
    unfold wd Rm.one'
    by_cases h : i < 36
    · rw [if_pos h, hF i h]
    · rw [if_neg h, hG _ (by omega), if_neg (by omega)]
  rw [e]
  have hat := Rm.sy_one 4 9 (by omega) (by decide)
  obtain ⟨h1, h2, h3⟩ := v_at (by omega) hat
  unfold vd
  rw [h1, h2, h3, Rm.sy_one0 4 9 (by omega)]; rfl
theorem decode_told (c b : Nat) (F G : Nat → El) (W : World) (h : CdAt W c b) (V : Array Value) (hV : vd (sy (wd F G)) = V) : ∃ R : List Value, R.length = 32 ∧ R.toArray.all (·.oneCell') = true ∧
    Calls Tryz.prog 48 #[.pointer (some ⟨c, 0, none⟩), .agg (arr 36 F).toArray, .agg (arr 3 G).toArray] W fun e w' => e = .returned (.tuple #[.agg R.toArray, .agg V]) ∧ Below W.heap.size W w' := by
  subst hV
  exact ⟨arr 32 fun i => mnd F (sy (wd F G)) (4 + i), arr_len _ _, arr_one _ _, decode5_any c b F G W h⟩
/-- where a pair of data and verdict is laid -/
theorem pair_t1 {A R : List Value} (hA : (arr 32 fun _ => 0) = A) (hR : R.length = 32) (W : World) (t : TypeId) (o : Obj) : ((W.alloc (.cells A.toArray t)).alloc o).there W.heap.size 0 R.toArray.size := by
  have h := (Blk.new W 32 (fun _ => 0) t).alloc o
  rw [hA] at h
  rw [show R.toArray.size = 32 from by simpa using hR]; exact h.arrW.there
theorem pair_t2 (W : World) (o : Obj) (t : TypeId) (R : List Value) (n : Nat) : (((W.alloc o).alloc (.cells #[.int .i64 0, .int .i64 0, .int .u8 0] t)).setCells n 0 R).there (W.heap.size + 1) 0 3 := by
  have h := VdAt.new (W.alloc o) (.int .i64 0) (.int .i64 0) (.int .u8 0) t
  rw [World.size_alloc] at h
  exact World.there_setCells h.there _ 0 R
theorem pair_laid (W : World) (o : Obj) (t : TypeId) (R : List Value) (x y z : Value) (X : World) (hX : (((W.alloc o).alloc (.cells #[.int .i64 0, .int .i64 0, .int .u8 0] t)).setCells W.heap.size 0 R).setCells (W.heap.size + 1) 0 [x, y, z] = X) :
    VdAt X (W.heap.size + 1) x y z ∧ Below W.heap.size W X ∧ X.heap.size = W.heap.size + 2 := by
  have hr : X.rangeAt (W.heap.size + 1) 0 [x, y, z] := by rw [← hX]; exact World.rangeAt_setCells_same _ _ 0 [x, y, z] (pair_t2 W o t R _)
  refine ⟨⟨by have := hr 0 x rfl; simpa using this, by have := hr 1 y rfl; simpa using this, by have := hr 2 z rfl; simpa using this, fun i => ?_⟩, ?_, ?_⟩
  · rw [← hX, World.frozen?_setCells, World.frozen?_setCells]
    have h := VdAt.new (W.alloc o) (.int .i64 0) (.int .i64 0) (.int .u8 0) t
    rw [World.size_alloc] at h
    exact h.f i
  · rw [← hX]
    exact below_puts (below_puts (((Below.refl _ W).alloc (Nat.le_refl _) _).alloc (by simp) _) (Nat.le_refl _) 0 R) (by omega) 0 _
  · rw [← hX, size_sets, size_sets]; simp
theorem zero3 (w : World) : (zeroValue 54).run Tryz.prog w = .ok (.agg (arr 3 fun _ => 0).toArray) w := by kernel_rfl

end Go.Proofs.YtoimbjbdkkohcaaGreatDoor

/-
  The code word of data.
-/
namespace Go.Proofs.YtoimbjbdkkohcaaGreatDoor
open Go.RowKit Go.Shelf
open Gf (gI eI dI lI)
open Po (El mu pwr ev S cf toE cv Low rts)
open Rm (al sy At IsCode)
attribute [local go_sem] Oper.semAt_some

theorem index_arr (t : TypeId) (n : Nat) (ht : Tryz.prog.underlying t = some (.array n 5)) (F : Nat → El) (x : Nat) (hx : x < n) (w : World) :
    (Instr.index t (.agg (arr n F).toArray) (.int .i64 (x : Int))).run Tryz.prog w = .ok (.int .u8 (oe (F x))) w := by
  have hc := arr_at n F x hx
  have hu := Tryz.underlying5
  have hs := size_one
  simp [Instr.index, run_underlying ht, asIntOf, go_sem, hx]
  rw [hc]; rfl

/-- while word works: B the first block of the call, X the word so far -/
structure WoS (B : Nat) (D X : Nat → El) (w W : World) : Prop where
  d : Blk W B 32 D
  r : Blk W (B + 1 + 1) 36 (fun _ => 0)
  o : Blk W (B + 1 + 1 + 1) 36 X
  below : Below B w W
theorem WoS.set {B : Nat} {D X : Nat → El} {w W : World} (h : WoS B D X w W) (i : Nat) (e : El) : WoS B D (fun k => if k = i then e else X k) w (W.setCell ⟨B + 1 + 1 + 1, i, none⟩ (.int .u8 (oe e))) :=
  ⟨h.d.other (by omega) _ _, h.r.other (by omega) _ _, h.o.set i e, h.below.setCell (p := ⟨B + 1 + 1 + 1, i, none⟩) (by simp; omega) _⟩
theorem WoS.congr {B : Nat} {D X Y : Nat → El} {w W : World} (h : WoS B D X w W) (k : ∀ i, i < 36 → X i = Y i) : WoS B D Y w W := ⟨h.d, h.r, h.o.congr k, h.below⟩

end Go.Proofs.YtoimbjbdkkohcaaGreatDoor

/-
  Arrays of integers as arguments: what a row's condition tells of one, and that it reads as it read.
-/
namespace Go.Proofs.YtoimbjbdkkohcaaGreatDoor
open Go.ChangeShapes Go.WideShapes Go.ChangeAt Go.RowKit

/-- n integers -/
def ints (k : IntKind) (n : Nat) (F : Nat → Int) : List Value := (List.range n).map fun i => Value.int k (F i)
def intsD {H : Type} (k : IntKind) (n : Nat) (F : Nat → Int) : DataW H := .agg ((List.range n).map fun i => DataW.lit (.int k (F i)))
theorem ints_len (k : IntKind) (n : Nat) (F : Nat → Int) : (ints k n F).length = n := by simp [ints]
theorem ints_at (k : IntKind) (n : Nat) (F : Nat → Int) (i : Nat) (h : i < n) : (ints k n F)[i]? = some (.int k (F i)) := by simp [ints, h]

section
variable {H : Type} {enc : TypeId × Value → H} {P : Program} {w : World} {base : Nat} {spare : Nat → Bool} {held : Bool} {t : TypeId}

theorem okWide_array {r : Reach} {b0 n : Nat} {e : TypeId} {v : Value} (ht : P.underlying t = some (.array n e)) (h : Value.okWide P w r b0 t v) : ∃ cs, v = .agg cs ∧ cs.size = P.cellsOf t := by
  simp only [Value.okWide, ht] at h
  obtain ⟨cs, h1, h2, _⟩ := h
  exact ⟨cs, h1, h2⟩
theorem open_ints {r : Reach} {b0 n : Nat} {e : TypeId} {k : IntKind} {v : Value} {d : DataW H} {ps : List MemPlace} (ht : P.underlying t = some (.array n e)) (he : P.underlying e = some (.int k)) (hce : P.cellsOf e = 1) (hct : P.cellsOf t = n)
    (hval : Value.okWide P w r b0 t v) (hd : DataW.Trod enc P w base spare held t v d ps) :
    ∃ F : Nat → Int, v = .agg (ints k n F).toArray ∧ d = intsD k n F ∧ ps = [] ∧ ∀ i, i < n → (Lit.int k (F i)).wf = true := by
  obtain ⟨cs, rfl, hsz⟩ := okWide_array ht hval
  obtain ⟨fuel, hf⟩ := hd
  obtain ⟨xs, m, _, hx, hl, hxs, hel⟩ := DataW.trod_array ht hf
  simp only [Prod.mk.injEq] at hx
  rw [hce] at hel
  have hcl : cs.toList.length = n := by rw [← hct]; simpa [Value.cells] using hl
  have each : ∀ i, i < n → ∃ z : Int, cs.toList[i]? = some (.int k z) ∧ xs[i]? = some (.lit (.int k z), []) ∧ (Lit.int k z).wf = true := by
    intro i hi
    have h1 := hel i hi
    have hxi : ∃ y, xs[i]? = some y := ⟨_, List.getElem?_eq_getElem (by omega)⟩
    obtain ⟨y, hy⟩ := hxi
    rw [hy] at h1
    obtain ⟨z, hz, hyz, hw⟩ := DataW.trod_int he h1
    have hc : cs.toList[i]? = some (.int k z) := by
      have e1 : ((cs.toList.drop (i * 1)).take 1)[0]? = cs.toList[i]? := by
        rw [List.getElem?_take, if_pos (by omega), List.getElem?_drop, Nat.mul_one, Nat.add_zero]
      have hz' : (cs.toList.drop (i * 1)).take 1 = [.int k z] := by simpa [Value.cells] using hz
      rw [← e1, hz']; rfl
    exact ⟨z, hc, by rw [hy, hyz], hw⟩
  obtain ⟨F, hF⟩ : ∃ F : Nat → Int, ∀ i, i < n → cs.toList[i]? = some (.int k (F i)) ∧ xs[i]? = some (.lit (.int k (F i)), []) ∧ (Lit.int k (F i)).wf = true :=
    ⟨fun i => if h : i < n then Classical.choose (each i h) else 0, fun i hi => by
      simp only [hi, dif_pos]
      exact Classical.choose_spec (each i hi)⟩
  refine ⟨F, ?_, ?_, ?_, fun i hi => (hF i hi).2.2⟩
  · congr 1
    apply Array.ext'
    simp only
    refine List.ext_getElem? fun i => ?_
    by_cases hi : i < n
    · rw [(hF i hi).1, ints_at k n F i hi]
    · rw [List.getElem?_eq_none (by omega), List.getElem?_eq_none (by rw [ints_len]; omega)]
  · rw [hx.1]
    unfold intsD
    congr 1
    refine List.ext_getElem? fun i => ?_
    by_cases hi : i < n
    · rw [List.getElem?_map, (hF i hi).2.1]; simp [hi]
    · rw [List.getElem?_eq_none (by simp; omega), List.getElem?_eq_none (by simp; omega)]
  · rw [hx.2]
    refine List.flatMap_eq_nil_iff.2 fun y hy => ?_
    obtain ⟨i, hi⟩ := List.mem_iff_getElem?.1 hy
    have hin : i < n := by have := (List.getElem?_eq_some_iff.1 hi).1; omega
    rw [(hF i hin).2.1] at hi
    cases hi; rfl
theorem shut_ints {n : Nat} {e : TypeId} {k : IntKind} {F : Nat → Int} (ht : P.underlying t = some (.array n e)) (he : P.underlying e = some (.int k)) (hce : P.cellsOf e = 1) (hct : P.cellsOf t = n)
    (hw : ∀ i, i < n → (Lit.int k (F i)).wf = true) : DataW.Trod enc P w base spare held t (.agg (ints k n F).toArray) (intsD k n F) [] := by
  refine ⟨2, ?_⟩
  have each : ∀ i ∈ List.range n, DataW.trod enc P w base spare held 1 e ((((ints k n F).toArray.toList).drop (i * P.cellsOf e)).take (P.cellsOf e)) = some (DataW.lit (.int k (F i)), []) := by
    intro i hi
    have hin := List.mem_range.1 hi
    have hz : (((ints k n F).toArray.toList).drop (i * P.cellsOf e)).take (P.cellsOf e) = [.int k (F i)] := by
      rw [hce, Nat.mul_one]
      refine List.ext_getElem? fun j => ?_
      cases j with
      | zero => rw [List.getElem?_take, if_pos (by omega), List.getElem?_drop, Nat.add_zero]; simpa using ints_at k n F i hin
      | succ j => rw [List.getElem?_take, if_neg (by omega)]; rfl
    rw [hz]
    simp [DataW.trod, he, hw i hin]
  have hm : (List.range n).mapM (fun i => DataW.trod enc P w base spare held 1 e ((((ints k n F).toArray.toList).drop (i * P.cellsOf e)).take (P.cellsOf e))) = some ((List.range n).map fun i => (DataW.lit (.int k (F i)), ([] : List MemPlace))) := by
    generalize List.range n = l at each
    induction l with
    | nil => rfl
    | cons a l ih =>
      rw [List.mapM_cons, each a (by simp), ih (fun i hi => each i (by simp [hi]))]
      rfl
  unfold DataW.trod
  rw [ht]
  have hlen : (Value.agg (ints k n F).toArray).cells.toList.length = P.cellsOf t := by rw [hct]; exact ints_len k n F
  show (if (Value.agg (ints k n F).toArray).cells.toList.length = P.cellsOf t then _ else none) = _
  rw [if_pos hlen]
  refine (congrArg (Option.map _) hm).trans ?_
  simp only [Option.map_some, Option.some.injEq, Prod.mk.injEq]
  constructor
  · unfold intsD
    congr 1
    rw [List.map_map]; rfl
  · refine List.flatMap_eq_nil_iff.2 fun y hy => ?_
    obtain ⟨i, _, rfl⟩ := List.mem_map.1 hy
    rfl
end
end Go.Proofs.YtoimbjbdkkohcaaGreatDoor

/-
  RsChecks.
-/
namespace Go.Proofs.YtoimbjbdkkohcaaGreatDoor
open Go.RowKit Go.Shelf
open Gf (gI eI dI lI)
open Po (El mu pwr ev S cf toE cv Low rts)
open Rm (al sy At IsCode)
attribute [local go_sem] Oper.semAt_some

/-- bytes as elements -/
def els (a : Nat → Int) (i : Nat) : El := toE (a i)
theorem ints_arr (n : Nat) (a : Nat → Int) (h : ∀ i, i < n → (Lit.int .u8 (a i)).wf = true) : ints .u8 n a = arr n (els a) := by
  unfold ints arr els
  refine List.map_congr_left fun i hi => ?_
  have hw := h i (List.mem_range.1 hi)
  have hb := bounds_u8 hw
  have : 0 ≤ a i ∧ a i < 256 := by omega
  rw [show oe (toE (a i)) = a i from ofE_toE _ this.1 this.2]

/-- while a law works over data, virtual symbols and a word, in the blocks B, B + 1, B + 2 -/
structure CkS (B c b : Nat) (D G F : Nat → El) (w W : World) : Prop where
  d : Blk W B 32 D
  v : Blk W (B + 1) 3 G
  f : Blk W (B + 1 + 1) 36 F
  code : CdAt W c b
  below : Below B w W
theorem CkS.next {B c b : Nat} {D G F : Nat → El} {w W W' : World} (h : CkS B c b D G F w W) (k : Below W.heap.size W W') : CkS B c b D G F w W' :=
  ⟨h.d.next k, h.v.next k, h.f.next k, h.code.next k, h.below.trans (k.mono (Nat.le_of_lt h.d.lt))⟩
theorem CkS.drew {B c b : Nat} {D G F : Nat → El} {w W : World} (h : CkS B c b D G F w W) : CkS B c b D G F w W.drew := h.next (below_stay (Below.refl _ W) (Stay.drewN _ W 1) (Nat.le_refl _))

/-- the generator as it was told -/
structure GnS (g : Nat) (W : World) : Prop where
  c4 : W.cell? ⟨g, 4, none⟩ = some (.int .u8 1)
  c0 : W.cell? ⟨g, 0, none⟩ = some (.int .u8 64)
theorem GnS.next {g : Nat} {W W' : World} (h : GnS g W) (k : Below W.heap.size W W') : GnS g W' :=
  ⟨(k.cell (p := ⟨g, 4, none⟩) (cell_lt h.c4)).trans h.c4, (k.cell (p := ⟨g, 0, none⟩) (cell_lt h.c0)).trans h.c0⟩
theorem gen_nums : gen 0 = 64 ∧ gen 4 = 1 := ⟨by decide +kernel, gen_top⟩
theorem mul_nums : mu 4 8 = 32 ∧ mu 2 32 = 64 := by decide +kernel
end Go.Proofs.YtoimbjbdkkohcaaGreatDoor

/-
  RsCorrects.
-/
namespace Go.Proofs.YtoimbjbdkkohcaaGreatDoor
open Go.RowKit Go.Shelf
open Gf (gI eI dI lI)
open Po (El mu pwr ev S cf toE cv Low rts)
open Rm (al sy At IsCode)
attribute [local go_sem] Oper.semAt_some

/-- a word with E added to its symbol n, and virtual symbols so -/
def adW (F : Nat → El) (n : Nat) (E : El) (i : Nat) : El := if i = n then F i ^^^ E else F i
def adV (G : Nat → El) (n : Nat) (E : El) (i : Nat) : El := if 36 + i = n then G i ^^^ E else G i
theorem wd_ad (F G : Nat → El) (n : Nat) (E : El) (i : Nat) (_ : i < 39) : wd (adW F n E) (adV G n E) i = wd F G i ^^^ Rm.one' n E i := by
  unfold wd adW adV Rm.one'
  by_cases h : i < 36
  · rw [if_pos h, if_pos h]
    by_cases e : i = n
    · rw [if_pos e, if_pos e]
    · rw [if_neg e, if_neg e, Po.x0]
  · rw [if_neg h, if_neg h, show 36 + (i - 36) = i from by omega]
    by_cases e : i = n
    · rw [if_pos e, if_pos e]
    · rw [if_neg e, if_neg e, Po.x0]
theorem sy_xor (W U : Nat → El) : sy (fun i => W i ^^^ U i) = fun j => sy W j ^^^ sy U j := by
  funext j; exact Po.ev_xor 39 W U (al j)
/-- the syndromes tell what was added to a code word -/
theorem nought_only {s u : Nat → El} (h : ∀ j, j < 4 → s j = u j) : (Nought s ↔ Nought u) ∧ (∀ i, At s i ↔ At u i) := by
  have h0 := h 0 (by omega); have h1 := h 1 (by omega); have h2 := h 2 (by omega); have h3 := h 3 (by omega)
  constructor
  · unfold Nought; rw [h0, h1, h2, h3]
  · intro i; unfold At; rw [h0, h1, h2, h3]
theorem plc_congr {s u : Nat → El} (h : ∀ j, j < 4 → s j = u j) : ∀ n i, plc s n i = plc u n i
  | 0, _ => rfl
  | n + 1, i => by
    show (if At s i then (i : Int) else plc s n (i + 1)) = if At u i then (i : Int) else plc u n (i + 1)
    by_cases ha : At s i
    · rw [if_pos ha, if_pos ((nought_only h).2 i |>.1 ha)]
    · rw [if_neg ha, if_neg (fun e => ha ((nought_only h).2 i |>.2 e)), plc_congr h n (i + 1)]
theorem v_congr {s u : Nat → El} (h : ∀ j, j < 4 → s j = u j) : vk s = vk u ∧ vp s = vp u ∧ vv s = vv u := by
  have hp := plc_congr h 39 0
  have hn := (nought_only h).1
  unfold vk vp vv
  rw [hp]
  by_cases hs : Nought s
  · have hu := hn.1 hs
    rw [if_pos hs, if_pos hs, if_pos hs, if_pos hu, if_pos hu, if_pos hu]; exact ⟨rfl, rfl, rfl⟩
  · have hu : ¬ Nought u := fun e => hs (hn.2 e)
    rw [if_neg hs, if_neg hs, if_neg hs, if_neg hu, if_neg hu, if_neg hu, h 0 (by omega)]; exact ⟨rfl, rfl, rfl⟩
theorem vd_congr {s u : Nat → El} (h : ∀ j, j < 4 → s j = u j) : vd s = vd u := by
  obtain ⟨h1, h2, h3⟩ := v_congr h
  unfold vd; rw [h1, h2, h3]
theorem mnd_congr {s u : Nat → El} (F : Nat → El) (h : ∀ j, j < 4 → s j = u j) (i : Nat) : mnd F s i = mnd F u i := by
  obtain ⟨h1, h2, h3⟩ := v_congr h
  unfold mnd; rw [h1, h2, h3]
/-- the syndromes of a code word with E added to symbol n -/
theorem sy_ad {F G : Nat → El} (hc : IsCode (wd F G)) (n : Nat) (E : El) : ∀ j, j < 4 → sy (wd (adW F n E) (adV G n E)) j = sy (Rm.one' n E) j := fun j hj => by
  rw [sy_congr (wd_ad F G n E), sy_xor]
  show sy (wd F G) j ^^^ _ = _
  rw [show sy (wd F G) j = 0 from hc j hj, Po.z0]
theorem one_zero (n : Nat) (i : Nat) : Rm.one' n 0 i = 0 := by unfold Rm.one'; split <;> rfl
/-- what is told of a code word with one symbol replaced -/
theorem told_one {K D G : Nat → El} (hc : IsCode (wd (ck K D) G)) (n : Nat) (hn : n < 39) (E : El) :
    (∀ i, i < 32 → mnd (adW (ck K D) n E) (sy (wd (adW (ck K D) n E) (adV G n E))) (4 + i) = D i) ∧
    vd (sy (wd (adW (ck K D) n E) (adV G n E))) = if E = 0 then #[.int .i64 0, .int .i64 (-1), .int .u8 0] else #[.int .i64 (if n < 36 then 1 else 2), .int .i64 (n : Int), .int .u8 (oe E)] := by
  have hs := sy_ad hc n E
  have hD : ∀ i, ck K D (4 + i) = D i := fun i => by unfold ck; rw [if_neg (by omega), show 4 + i - 4 = i from by omega]
  by_cases hE : E = 0
  · have hz : Nought (sy (Rm.one' n E)) := by
      rw [hE, sy_congr (U := fun _ => 0) fun i _ => one_zero n i]; exact sy_zero
    constructor
    · intro i _
      rw [mnd_congr _ hs]
      unfold mnd
      rw [vk_clean hz, if_neg (by omega)]
      unfold adW
      rw [hE, hD]
      split
      · exact Po.x0 _
      · rfl
    · rw [vd_congr hs, vd_clean hz, if_pos hE]
  · have hat := Rm.sy_one n E hn hE
    obtain ⟨h1, h2, h3⟩ := v_at hn hat
    rw [Rm.sy_one0 n E hn] at h3
    constructor
    · intro i hi
      rw [mnd_congr _ hs]
      unfold mnd
      rw [h1, h2, h3]
      by_cases h36 : n < 36
      · rw [if_pos h36]
        unfold adW
        by_cases e : 4 + i = n
        · rw [if_pos ⟨rfl, by rw [e]⟩, if_pos e, BitVec.xor_assoc, Po.xor_self', Po.x0, hD]
        · rw [if_neg (fun h => e (by omega)), if_neg e, hD]
      · rw [if_neg h36, if_neg (fun h => absurd h.1 (by decide))]
        unfold adW
        rw [if_neg (by omega), hD]
    · rw [vd_congr hs, if_neg hE]
      unfold vd
      rw [h1, h2, h3]

/-- while RsCorrects works: data, virtual symbols, the word in J, the verdict that is wanted in J + 1 -/
structure CoS (B J c b : Nat) (D G X : Nat → El) (x y z : Value) (w W : World) : Prop where
  d : Blk W B 32 D
  v : Blk W (B + 1) 3 G
  o : Blk W J 36 X
  t : VdAt W (J + 1) x y z
  code : CdAt W c b
  below : Below B w W
theorem CoS.next {B J c b : Nat} {D G X : Nat → El} {x y z : Value} {w W W' : World} (h : CoS B J c b D G X x y z w W) (k : Below W.heap.size W W') : CoS B J c b D G X x y z w W' :=
  ⟨h.d.next k, h.v.next k, h.o.next k, h.t.next k, h.code.next k, h.below.trans (k.mono (Nat.le_of_lt h.d.lt))⟩
theorem VdAt.set {W : World} {b : Nat} {x y z : Value} (h : VdAt W b x y z) (u : Value) : VdAt (W.setCell ⟨b, 0, none⟩ u) b u y z := by
  refine ⟨World.cell?_setCell_same' _ _ _ (by rw [h.c0]; rfl), ?_, ?_, fun i => by rw [World.frozen?_setCell]; exact h.f i⟩
  · rw [World.cell?_setCell_other _ _ _ _ (by simp)]; exact h.c1
  · rw [World.cell?_setCell_other _ _ _ _ (by simp)]; exact h.c2
theorem VdAt.put {W : World} {b : Nat} {x y z : Value} (h : VdAt W b x y z) (x' y' z' : Value) : VdAt (((W.setCell ⟨b, 0, none⟩ x').setCell ⟨b, 1, none⟩ y').setCell ⟨b, 2, none⟩ z') b x' y' z' := by
  have hr : (((W.setCell ⟨b, 0, none⟩ x').setCell ⟨b, 1, none⟩ y').setCell ⟨b, 2, none⟩ z').rangeAt b 0 [x', y', z'] := World.rangeAt_setCells_same W b 0 [x', y', z'] h.there
  exact ⟨by have := hr 0 x' rfl; simpa using this, by have := hr 1 y' rfl; simpa using this, by have := hr 2 z' rfl; simpa using this, fun i => by rw [World.frozen?_setCell, World.frozen?_setCell, World.frozen?_setCell]; exact h.f i⟩
theorem pair_range (W : World) (A R : List Value) (hA : (arr 32 fun _ => 0) = A) (hR : R.length = 32) (t t' : TypeId) (x y z : Value) (X : World) (hX : (((W.alloc (.cells A.toArray t)).alloc (.cells #[.int .i64 0, .int .i64 0, .int .u8 0] t')).setCells W.heap.size 0 R).setCells (W.heap.size + 1) 0 [x, y, z] = X) :
    X.rangeAt W.heap.size 0 R := by
  rw [← hX]
  exact World.rangeAt_setCells_apart (World.rangeAt_setCells_same _ _ 0 R (by have := pair_t1 hA hR W t (.cells #[.int .i64 0, .int .i64 0, .int .u8 0] t'); simpa using this)) _ 0 _ (.inl (by omega))

theorem new36 {A : List Value} (hA : (arr 36 fun _ => 0) = A) (W : World) (t : TypeId) (F : Nat → El) : (W.alloc (.cells A.toArray t)).there W.heap.size 0 (arr 36 F).toArray.size := by
  have h := Blk.new W 36 (fun _ => 0) t
  rw [hA] at h
  exact h.there
end Go.Proofs.YtoimbjbdkkohcaaGreatDoor

/-
  Layer 10's mathematics, mode 2, word by word: what is told of a word of 39 symbols that is unlike in up to three.
-/
namespace Go.Proofs.YtoimbjbdkkohcaaGreatDoor.Co
open Go Go.RowKit
open Po (El mu pwr ev toE)
open Rm (al sy At IsCode supp)

/-- the stored symbols of the word k -/
def rw (R : Nat → Int) (k i : Nat) : El := toE (R (36 * k + i))
/-- raw bytes are a line's, with these virtual symbols -/
structure Enc2 (F : Nat → Int) (G : Nat → El) (R : Nat → Int) : Prop where
  b : Bt 72 R
  d : ∀ k, k < 2 → ∀ i, i < 32 → R (36 * k + (4 + i)) = F (32 * k + i)
  c : ∀ k, k < 2 → IsCode (wd (rw R k) G)
/-- a word's syndromes, where it is decoded with the virtual symbols G -/
def sC (R : Nat → Int) (G : Nat → El) (k : Nat) : Nat → El := sy (wd (rw R k) G)
/-- what is unlike -/
def er (X Y G H : Nat → El) (i : Nat) : El := wd X G i ^^^ wd Y H i
theorem rw_inj {X R : Nat → Int} (hX : Bt 72 X) (hR : Bt 72 R) (k i : Nat) (hk : k < 2) (hi : i < 36) (h : rw X k i = rw R k i) : X (36 * k + i) = R (36 * k + i) := by
  have h1 := hX (36 * k + i) (by omega)
  have h2 := hR (36 * k + i) (by omega)
  exact Po.toE_inj h1.1 h1.2 h2.1 h2.2 h
theorem supp_congr (n : Nat) (W U : Nat → El) (h : ∀ i, i < n → W i = U i) : supp n W = supp n U := by
  induction n with
  | zero => rfl
  | succ n ih =>
    have e := ih fun i hi => h i (by omega)
    by_cases h0 : W n = 0
    · rw [Rm.supp_no n W h0, Rm.supp_no n U (by rw [← h n (by omega)]; exact h0), e]
    · rw [Rm.supp_yes n W h0, Rm.supp_yes n U (by rw [← h n (by omega)]; exact h0), e]
theorem supp_le (n : Nat) (W : Nat → El) : (supp n W).length ≤ (supp (n + 1) W).length ∧ (supp (n + 1) W).length ≤ (supp n W).length + 1 := by
  by_cases h : W n = 0
  · rw [Rm.supp_no n W h]; omega
  · rw [Rm.supp_yes n W h, List.length_append]; simp
theorem supp_one (n : Nat) (W : Nat → El) : (supp (n + 1) W).length = (supp n W).length + if W n = 0 then 0 else 1 := by
  by_cases h : W n = 0
  · rw [Rm.supp_no n W h, if_pos h]; omega
  · rw [Rm.supp_yes n W h, if_neg h, List.length_append]; rfl
/-- how many stored symbols are unlike -/
theorem sm_symbols {X R : Nat → Int} (hX : Bt 72 X) (hR : Bt 72 R) (k : Nat) (hk : k < 2) : ∀ n, n ≤ 36 → Rw.sm 2 X R (36 * k) n = (supp n fun i => rw X k i ^^^ rw R k i).length
  | 0, _ => rfl
  | n + 1, hn => by
    rw [Rw.sm, supp_one, sm_symbols hX hR k hk n (by omega)]
    congr 1
    unfold Rw.dl
    rw [if_neg (by decide)]
    by_cases h : X (36 * k + n) = R (36 * k + n)
    · rw [if_pos h, if_pos (by show toE _ ^^^ toE _ = 0; rw [h, Po.xor_self'])]
    · rw [if_neg h, if_neg (fun e => h (rw_inj hX hR k n hk (by omega) (Po.xor_eq_zero e)))]
/-- all 39 -/
theorem er_len {X R : Nat → Int} (hX : Bt 72 X) (hR : Bt 72 R) (k : Nat) (hk : k < 2) (G H : Nat → El) :
    (supp 39 (er (rw X k) (rw R k) G H)).length = Rw.sm 2 X R (36 * k) 36 + (if G 0 ^^^ H 0 = 0 then 0 else 1) + (if G 1 ^^^ H 1 = 0 then 0 else 1) + (if G 2 ^^^ H 2 = 0 then 0 else 1) := by
  rw [supp_one 38, supp_one 37, supp_one 36, sm_symbols hX hR k hk 36 (by omega), supp_congr 36 (er (rw X k) (rw R k) G H) (fun i => rw X k i ^^^ rw R k i) fun i hi => by
    unfold er wd; rw [if_pos hi, if_pos hi]]
  rfl
/-- a word's verdict -/
def kC (s : Nat → El) : Int := if vk s = 0 then 0 else if vk s = 1 then 1 else if vk s = 2 ∧ vp s = 38 ∧ oe (vv s) = 128 then 2 else 3
theorem sy_er {X Y G H : Nat → El} (hc : IsCode (wd X G)) : ∀ j, j < 4 → sy (wd Y H) j = sy (er X Y G H) j := fun j hj => by
  have h : sy (er X Y G H) j = sy (wd X G) j ^^^ sy (wd Y H) j := by
    have := sy_xor (wd X G) (wd Y H)
    exact congrFun this j
  rw [h, show sy (wd X G) j = 0 from hc j hj, Po.z0]
theorem supp_zero {W : Nat → El} {n : Nat} (h : (supp n W).length = 0) (i : Nat) (hi : i < n) : W i = 0 := by
  by_cases h0 : W i = 0
  · exact h0
  · have hm := (Rm.mem_supp n W i).2 ⟨hi, h0⟩
    rw [List.eq_nil_of_length_eq_zero h] at hm
    cases hm
theorem supp_single {W : Nat → El} {n : Nat} (h : (supp n W).length = 1) : ∃ q, q < n ∧ W q ≠ 0 ∧ ∀ i, i < n → i ≠ q → W i = 0 := by
  obtain ⟨q, hq⟩ : ∃ q, supp n W = [q] := by
    rcases he : supp n W with _ | ⟨q, _ | ⟨r, t⟩⟩ <;> rw [he] at h <;> simp at h
    exact ⟨q, rfl⟩
  have hm := (Rm.mem_supp n W q).1 (by rw [hq]; simp)
  refine ⟨q, hm.1, hm.2, fun i hi hne => ?_⟩
  by_cases h0 : W i = 0
  · exact h0
  · have := (Rm.mem_supp n W i).2 ⟨hi, h0⟩
    rw [hq] at this
    exact absurd (List.mem_singleton.1 this) hne
/-- what is told of a word that is unlike a code word in t symbols -/
theorem word2 {X Y G H : Nat → El} (hc : IsCode (wd X G)) :
    ((supp 39 (er X Y G H)).length = 0 → kC (sy (wd Y H)) = 0 ∧ ∀ i, i < 36 → mnd Y (sy (wd Y H)) i = X i) ∧
    ((supp 39 (er X Y G H)).length = 1 → ((∀ i, i < 3 → G i = H i) → kC (sy (wd Y H)) = 1 ∧ ∀ i, i < 36 → mnd Y (sy (wd Y H)) i = X i) ∧
      ((∃ i, i < 3 ∧ G i ≠ H i) → (kC (sy (wd Y H)) = 2 ∨ kC (sy (wd Y H)) = 3) ∧ (oe (G 2 ^^^ H 2) = 128 → kC (sy (wd Y H)) = 2) ∧ (oe (G 2 ^^^ H 2) ≠ 128 → kC (sy (wd Y H)) = 3))) ∧
    (2 ≤ (supp 39 (er X Y G H)).length → (supp 39 (er X Y G H)).length ≤ 3 → kC (sy (wd Y H)) = 3) := by
  have hs := sy_er (Y := Y) (H := H) hc
  have hv := v_congr hs
  have hstored : ∀ i, i < 36 → er X Y G H i = X i ^^^ Y i := fun i hi => by unfold er wd; rw [if_pos hi, if_pos hi]
  have hvirt : ∀ i, i < 3 → er X Y G H (36 + i) = G i ^^^ H i := fun i hi => by
    unfold er wd; rw [if_neg (by omega), if_neg (by omega), show 36 + i - 36 = i by omega]
  have hk : kC (sy (wd Y H)) = kC (sy (er X Y G H)) := by unfold kC; rw [hv.1, hv.2.1, hv.2.2]
  have hm : ∀ i, mnd Y (sy (wd Y H)) i = mnd Y (sy (er X Y G H)) i := mnd_congr Y hs
  rw [hk]
  refine ⟨fun h0 => ?_, fun h1 => ?_, fun h2 h3 => ?_⟩
  · have hz := supp_zero h0
    have hn : Nought (sy (er X Y G H)) := by rw [sy_congr (U := fun _ => 0) hz]; exact sy_zero
    have hv0 := vk_clean hn
    refine ⟨by unfold kC; rw [if_pos hv0], fun i hi => ?_⟩
    rw [hm]
    unfold mnd
    rw [hv0, if_neg (fun h => by omega)]
    have := hz i (by omega)
    rw [hstored i hi] at this
    exact (Po.xor_eq_zero this).symm
  · obtain ⟨q, hq, hne, hz⟩ := supp_single h1
    have he : ∀ i, i < 39 → er X Y G H i = Rm.one' q (er X Y G H q) i := fun i hi => by
      unfold Rm.one'
      by_cases e : i = q
      · rw [if_pos e, e]
      · rw [if_neg e]; exact hz i hi e
    have hat := Rm.sy_one q (er X Y G H q) hq hne
    have h0 := Rm.sy_one0 q (er X Y G H q) hq
    rw [← sy_congr he] at hat h0
    obtain ⟨v1, v2, v3⟩ := v_at hq hat
    rw [h0] at v3
    refine ⟨fun hGH => ?_, fun ⟨i, hi, hne2⟩ => ?_⟩
    · have hq36 : q < 36 := by
        by_cases h : q < 36
        · exact h
        · exfalso
          have := hvirt (q - 36) (by omega)
          rw [show 36 + (q - 36) = q by omega, hGH (q - 36) (by omega), Po.xor_self'] at this
          exact hne this
      rw [if_pos hq36] at v1
      refine ⟨by unfold kC; rw [v1]; rfl, fun i hi => ?_⟩
      rw [hm]
      unfold mnd
      rw [v1, v2, v3]
      by_cases e : i = q
      · rw [if_pos ⟨rfl, by rw [e]⟩, e, hstored q hq36, BitVec.xor_comm (X q), ← BitVec.xor_assoc, Po.xor_self', Po.z0]
      · rw [if_neg (fun h => e (by omega))]
        have := hz i (by omega) e
        rw [hstored i hi] at this
        exact (Po.xor_eq_zero this).symm
    · have hq2 : q = 36 + i := by
        by_cases e : q = 36 + i
        · exact e
        · exfalso
          have := hz (36 + i) (by omega) (fun h => e h.symm)
          rw [hvirt i hi] at this
          exact hne2 (Po.xor_eq_zero this)
      rw [if_neg (by omega)] at v1
      have hkc : kC (sy (er X Y G H)) = if (q : Int) = 38 ∧ oe (er X Y G H q) = 128 then 2 else 3 := by
        unfold kC
        rw [v1, v2, v3, if_neg (by decide), if_neg (by decide)]
        by_cases h : (q : Int) = 38 ∧ oe (er X Y G H q) = 128
        · rw [if_pos h, if_pos ⟨rfl, h.1, h.2⟩]
        · rw [if_neg h, if_neg (fun h' => h ⟨h'.2.1, h'.2.2⟩)]
      rw [hkc]
      refine ⟨by split <;> simp, fun h128 => ?_, fun h128 => ?_⟩
      · have hi2 : i = 2 := by
          by_cases e : i = 2
          · exact e
          · exfalso
            have := hz 38 (by omega) (by omega)
            rw [hvirt 2 (by omega)] at this
            rw [this] at h128
            exact absurd h128 (by decide)
        rw [hq2, hi2, hvirt 2 (by omega), if_pos ⟨rfl, h128⟩]
      · rw [if_neg]
        rintro ⟨h1, h2⟩
        have hi2 : i = 2 := by omega
        rw [hq2, hi2, hvirt 2 (by omega)] at h2
        exact h128 h2
  · obtain ⟨n1, n2⟩ := Rm.two_three _ h2 h3
    have hnn : ¬ Nought (sy (er X Y G H)) := fun hn => n1 fun j hj => by
      obtain ⟨a0, a1, a2, a3⟩ := hn
      rcases (show j = 0 ∨ j = 1 ∨ j = 2 ∨ j = 3 by omega) with rfl | rfl | rfl | rfl
      · exact a0
      · exact a1
      · exact a2
      · exact a3
    have hv3 : vk (sy (er X Y G H)) = 3 := by
      unfold vk
      rw [if_neg hnn, if_pos (plc_none _ 39 0 fun j _ hj => n2 j (by omega))]
    unfold kC
    rw [hv3]; rfl
theorem Enc2.same {F R R' : Nat → Int} {G : Nat → El} (h : Enc2 F G R) (h' : Enc2 F G R') : ∀ i, i < 72 → R i = R' i := by
  intro i hi
  obtain ⟨k, hk⟩ : ∃ k, k = i / 36 := ⟨_, rfl⟩
  have hk2 : k < 2 := by omega
  have hcode := Rm.checks_only (h.c k hk2) (h'.c k hk2) fun j h4 h39 => by
    unfold wd
    by_cases h36 : j < 36
    · rw [if_pos h36, if_pos h36]
      have h1 := h.d k hk2 (j - 4) (by omega)
      have h2 := h'.d k hk2 (j - 4) (by omega)
      rw [show 4 + (j - 4) = j by omega] at h1 h2
      unfold rw
      rw [h1, h2]
    · rw [if_neg h36, if_neg h36]
  have := hcode (i % 36) (by omega)
  unfold wd at this
  rw [if_pos (by omega), if_pos (by omega)] at this
  have h3 := rw_inj h.b h'.b k (i % 36) hk2 (by omega) this
  rwa [show 36 * k + i % 36 = i by omega] at h3
/-- two code words with the same virtual symbols, or with one unlike -/
theorem apart2 {X Y G H : Nat → El} (hc : IsCode (wd X G)) (hd : IsCode (wd Y H)) : (supp 39 (er X Y G H)).length = 0 ∨ 5 ≤ (supp 39 (er X Y G H)).length := by
  by_cases h : (supp 39 (er X Y G H)).length ≤ 4
  · left
    have hz := Rm.few _ (hc.xor hd) h
    have := Rm.supp_sub (er X Y G H) [] 39 (fun i hi hne => absurd (hz i hi) hne)
    simpa using this
  · right; omega
end Go.Proofs.YtoimbjbdkkohcaaGreatDoor.Co
