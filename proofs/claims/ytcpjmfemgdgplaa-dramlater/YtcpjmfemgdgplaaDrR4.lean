/-
  The document's cells: an index has some bytes.
-/
import Derived.Test.YtcpjmfemgdgplaaDrR3
import Derived.Test.YtcpjmfemgdgplaaDrR2
import Derived.Great.Walk
namespace Go.Proofs.Ytcpjmfemgdgplaa
open Go.RowKit Go.Shelf
attribute [local go_sem] Oper.semAt_some

theorem built12 (i : Int) (F : Nat → Int) : Try.prog.built 111 [(0, .int .i64 i), (1, .agg (ints .u8 72 F).toArray)] = some (ecell (i, F)).toArray := by kernel_rfl
theorem slice12 (i : Int) (F : Nat → Int) : Try.prog.builtSlice 111 1 [(0, .agg (ecell (i, F)).toArray)] = some (ecell (i, F)).toArray := by kernel_rfl
theorem infoC12 : (Try.prog.info? 111).map (·.size) = some 73 := by kernel_rfl
theorem infoC12s : (Try.prog.info? 111).map (fun i => (i.zero, i.size, i.bytes)) = some (some (.agg (ecell (0, fun _ => 0)).toArray), 73, 80) := by kernel_rfl
theorem pE_len (E : List En) (i : Int) (F : Nat → Int) : (pE E i F).length ≤ E.length + 1 := by
  unfold pE fE
  have := List.length_filter_le (fun e : En => decide (e.1 ≠ i)) E
  simp only [List.length_cons]
  omega
theorem pE_miss (E : List En) (t : Nat) (e : En) (h : E[t]? = some e) (i : Int) (F : Nat → Int) (hi : e.1 ≠ i) : pE (E.take (t + 1)) i F = pE (E.take t) i F ++ [e] := by
  unfold pE fE
  rw [List.take_add_one, h]
  simp [hi]
theorem pE_hit (E : List En) (t : Nat) (e : En) (h : E[t]? = some e) (i : Int) (F : Nat → Int) (hi : e.1 = i) : pE (E.take (t + 1)) i F = pE (E.take t) i F := by
  unfold pE fE
  rw [List.take_add_one, h]
  simp [hi]
theorem pE_wf (E : List En) (i : Int) (F : Nat → Int) (hi : I64 i) (hF : Byts 72 F) (h : ∀ e ∈ E, I64 e.1 ∧ Byts 72 e.2) : ∀ e ∈ pE E i F, I64 e.1 ∧ Byts 72 e.2 := by
  intro e he
  rcases List.mem_cons.1 he with rfl | he
  · exact ⟨hi, hF⟩
  · exact h e (List.mem_filter.1 he).1
theorem Er.of {w W : World} {a : Option Addr} {len cap : Nat} {E : List En} (h : Er w a len cap E) (k : ∀ g o, a = some ⟨g, o, none⟩ → W.heap[g]? = w.heap[g]?) : Er W a len cap E :=
  ⟨h.ln, h.le, h.cm, fun h0 => by
    obtain ⟨b, o, h1, h2, h3⟩ := h.at_ h0
    have e := k b o h1
    refine ⟨b, o, h1, ?_, fun j v hv => (World.cell?_of_block (w := w) (w' := W) (a := ⟨b, o + j, none⟩) e).trans (h3 j v hv)⟩
    rw [Array.getElem?_eq_getElem h2] at e
    exact (Array.getElem?_eq_some_iff.1 e).1, h.wf, h.nil⟩
/-- what append laid lies, entry by entry -/
theorem owned_er {w : World} {base : Nat} {t : TypeId} {v : Value} {E : List En} (hwf : ∀ e ∈ E, I64 e.1 ∧ Byts 72 e.2) (h : w.ownsRow base t 73 v E.length (ecells E)) :
    ∃ a c, v = .slice a E.length c ∧ Er w a E.length c E ∧ ∀ g o, a = some ⟨g, o, none⟩ → base ≤ g := by
  obtain ⟨h1, ⟨h2, h3⟩ | ⟨g, cap, cur, hv', hg, hh, hnc, hcm, hsz, htk⟩⟩ := h
  · exact ⟨none, 0, by rw [h2, h3], by
      have : E = [] := List.length_eq_zero_iff.1 h3
      subst this
      exact er_none w, fun g o e => by cases e⟩
  · refine ⟨some ⟨g, 0, none⟩, cap, hv', ⟨rfl, hnc, hcm, fun h0 => ⟨g, 0, rfl, (Array.getElem?_eq_some_iff.1 hh).1, fun j u hu => ?_⟩, hwf, fun e => by cases e⟩, fun g' o' e => by cases e; exact hg⟩
    have hj : j < (ecells E).length := (List.getElem?_eq_some_iff.1 hu).1
    rw [ecells_len] at hj
    rw [← htk, List.getElem?_take_of_lt hj] at hu
    rw [Nat.zero_add, cell_of_row _ _ j _ _ (0, 0) hh]
    simpa using hu
theorem exec_cell12 {op : Oper} {a : Act} (x y : Nat) (ho : op.op = .build 111 #[(0, .tmp x), (1, .tmp y)]) (i : Int) (A N : Array Value) (hx : a.eval (.tmp x) = .int .i64 i) (hy : a.eval (.tmp y) = .agg A) (hb : Try.prog.built 111 [(0, .int .i64 i), (1, .agg A)] = some N) (w : World) :
    (execOp a.eval op).run Try.prog w = .ok (.value (.agg N)) w := by
  have h := run_build (P := Try.prog) w 111 #[(0, .int .i64 i), (1, .agg A)] N hb
  simp [execOp, ho, hx, hy, h]
theorem wp_one12 {ops : Array Oper} {rest : List Oper} {o : Oper} {a : Act} {w : World} {Q : Exit → Act → World → Prop} (hg : o.guard = none) (x : Nat) (ho : o.op = .buildSlice 31 1 #[(0, .tmp x)]) (K : Nat) (hK : w.heap.size = K) (dst : Option Tmp) (hd : o.dst = dst)
    (A : Array Value) (hx : a.eval (.tmp x) = .agg A) (hb : Try.prog.builtSlice 111 1 [(0, .agg A)] = some A)
    (h : wpList Try.prog ops Q rest (a.put dst (.slice (some ⟨K, 0, none⟩) 1 1)) (w.alloc (.cells A 111))) : wpList Try.prog ops Q (o :: rest) a w :=
  Great.wpList_buildSliceTo hg 31 111 1 _ ho K hK dst hd Try.underlying31 A (by simpa [hx] using hb) h
theorem below_set12 {B b i : Nat} {w W : World} {v : Value} (hb : B ≤ b) (h : Below B w W) : Below B w (W.setCell ⟨b, i, none⟩ v) :=
  belows_put hb [v] i h
theorem dl_one (r s b o d m : Int) (va vb vc : Value) (ha : va.oneCell' = true) (hb : vb.oneCell' = true) (hc : vc.oneCell' = true) : (dl r s b o d m va vb vc).toArray.all (·.oneCell') = true := by
  simp only [List.all_toArray, dl, List.all_cons, List.all_nil, ha, hb, hc]
  rfl
/-- at work in Put -/
structure Pt12 (B R Q : Nat) (r s b o d m : Int) (va vb vc : Value) (sv : Value) (X : List En) (w W : World) : Prop where
  c : Cb W B (dl r s b o d m va vb vc)
  e : Cb W R (dl 0 0 0 0 0 0 (.slice none 0 0) (.slice none 0 0) (.slice none 0 0))
  n : Below B w W

  o : W.ownsRow Q 111 73 sv X.length (ecells X)
  q : Q ≤ W.heap.size
set_option maxRecDepth 100000 in
set_option maxHeartbeats 4000000 in
theorem put12_any (r s b o d m : Int) (a : Option Addr) (len cap : Nat) (vb vc : Value) (E : List En) (idx : Int) (F : Nat → Int) (hidx : I64 idx) (hF : Byts 72 F) (hlen : len ≤ 1000000) (hvb : vb.oneCell' = true) (hvc : vc.oneCell' = true) (w : World) (hs : Er w a len cap E) :
    Calls Try.prog 39 #[.agg #[.int .i64 r, .int .i64 s, .int .i64 b, .int .i64 o, .int .i64 d, .int .i64 m, .slice a len cap, vb, vc], .int .i64 idx, .agg (ints .u8 72 F).toArray] w fun e w' => ∃ a' c', e = .returned (.agg #[.int .i64 r, .int .i64 s, .int .i64 b, .int .i64 o, .int .i64 d, .int .i64 m, .slice a' (pE E idx F).length c', vb, vc]) ∧ Er w' a' (pE E idx F).length c' (pE E idx F) ∧ Below w.heap.size w w' ∧ ∀ g o, a' = some ⟨g, o, none⟩ → w.heap.size ≤ g := by
  obtain ⟨i0, hi, hz0, hz1, hz2⟩ := info_three infoC12s
  obtain ⟨va, hva⟩ : ∃ va, Value.slice a len cap = va := ⟨_, rfl⟩
  have hn := hs.ln
  have HW : Hid (∀ e ∈ pE E idx F, I64 e.1 ∧ Byts 72 e.2) := pE_wf E idx F hidx hF hs.wf
  have HR : Hid (0 < len → ∃ b o, a = some ⟨b, o, none⟩ ∧ ∀ W, Below w.heap.size w W → b < w.heap.size ∧ W.rangeAt b o (ecells E)) := fun h0 => by
    obtain ⟨b, o, h1, h2, h3⟩ := hs.at_ h0
    exact ⟨b, o, h1, fun W hW => ⟨h2, fun j v hv => (hW.cell (p := ⟨b, o + j, none⟩) h2).trans (h3 j v hv)⟩⟩
  have HV : Hid (vb.oneCell' = true ∧ vc.oneCell' = true) := ⟨hvb, hvc⟩
  clear hs hF hidx hvb hvc
  have HB : Hid (Try.prog.built 111 [(0, .int .i64 idx), (1, .agg (ints .u8 72 F).toArray)] = some (ecell (idx, F)).toArray ∧ Try.prog.builtSlice 111 1 [(0, .agg (ecell (idx, F)).toArray)] = some (ecell (idx, F)).toArray) := ⟨built12 idx F, slice12 idx F⟩
  obtain ⟨L, hL⟩ : ∃ L, ints .u8 72 F = L := ⟨_, rfl⟩
  obtain ⟨N0, hN0⟩ : ∃ N0, ecell (idx, F) = N0 := ⟨_, rfl⟩
  have iL : (Try.prog.info? 39).map (·.size) = some L.length := by rw [← hL, ints_len]; exact infoA9
  rw [hL, hN0] at HB
  rw [hva, hL]
  go_enter Try.func39, Try.ntmps39
  go_upto_region 1 with (fail)
  obtain ⟨B, hB⟩ : ∃ B, w.heap.size = B := ⟨_, rfl⟩
  obtain ⟨C, hC⟩ : ∃ C, B + 1 = C := ⟨_, rfl⟩
  obtain ⟨R, hR⟩ : ∃ R, C + 1 = R := ⟨_, rfl⟩
  obtain ⟨Q, hQ⟩ : ∃ Q, R + 1 = Q := ⟨_, rfl⟩
  obtain ⟨V, hV⟩ : ∃ V, ((w.alloc (.cells #[.int .i64 r, .int .i64 s, .int .i64 b, .int .i64 o, .int .i64 d, .int .i64 m, va, vb, vc] 34)).alloc (.cells L.toArray 39)).alloc (.cells #[.int .i64 0, .int .i64 0, .int .i64 0, .int .i64 0, .int .i64 0, .int .i64 0, .slice none 0 0, .slice none 0 0, .slice none 0 0] 34) = V := ⟨_, rfl⟩
  have HS : Hid (Cb V B (dl r s b o d m va vb vc) ∧ Cb V C L ∧ Cb V R (dl 0 0 0 0 0 0 (.slice none 0 0) (.slice none 0 0) (.slice none 0 0)) ∧ Below B w V ∧ V.heap.size = Q) := by
    have a1 := Cb.new (w.alloc (.cells #[.int .i64 r, .int .i64 s, .int .i64 b, .int .i64 o, .int .i64 d, .int .i64 m, va, vb, vc] 34)) L 39
    have a2 := Cb.new ((w.alloc (.cells #[.int .i64 r, .int .i64 s, .int .i64 b, .int .i64 o, .int .i64 d, .int .i64 m, va, vb, vc] 34)).alloc (.cells L.toArray 39)) (dl 0 0 0 0 0 0 (.slice none 0 0) (.slice none 0 0) (.slice none 0 0)) 34
    simp only [World.size_alloc] at a1 a2
    rw [← hV, ← hQ, ← hR, ← hC, ← hB]
    exact ⟨((Cb.new w (dl r s b o d m va vb vc) _).alloc _).alloc _, a1.alloc _, a2, (((Below.refl _ w).alloc (Nat.le_refl _) _).alloc (by simp) _).alloc (by simp; omega) _, by simp⟩
  rw [hB] at HR
  rw [hV, hB, hC, hR]
  clear hV
  have hr := HS.out.2.1.range
  have hQ2 := HS.out.2.2.2.2
  go_upto_region 2 with (first
    | refine wpList_load_mid rfl 39 _ rfl C 0 rfl L _ hr Try.underlying39 rfl iL ?_
    | refine wpList_known rfl _ (exec_cell12 9 10 rfl idx L.toArray N0.toArray rfl rfl (by exact HB.out.1) _) ?_
    | refine wp_one12 rfl 11 rfl Q (by exact hQ2) (some 12) rfl N0.toArray rfl (by exact HB.out.2) ?_)
  obtain ⟨W0, hW0⟩ : ∃ W0, V.alloc (.cells N0.toArray 111) = W0 := ⟨_, rfl⟩
  replace HS : Hid (Pt12 B R Q r s b o d m va vb vc (.slice (some ⟨Q, 0, none⟩) 1 1) (pE (E.take 0) idx F) w W0) := by
    have hl : N0.length = 73 := by rw [← hN0]; exact ecell_len _
    have hq : (V.alloc (.cells N0.toArray 111)).heap[Q]? = some (.cells N0.toArray 111 (0, 0)) := by rw [← hQ2]; exact World.alloc_heap_new V _
    rw [← hW0]
    refine ⟨HS.out.1.alloc _, HS.out.2.2.1.alloc _, HS.out.2.2.2.1.alloc (by omega) _, ⟨?_, .inr ⟨Q, 1, N0.toArray, rfl, Nat.le_refl _, hq, by simp [pE, fE], by unfold maxLen; omega, by simp [hl], ?_⟩⟩, by simp; omega⟩
    · rw [ecells_len]
    · simp [pE, fE, ecells, hN0]
      exact List.take_of_length_le (by omega)
  rw [hW0]
  clear hW0 hr hQ2 iL HB
  go_wp2
  go_loopw [7, 8] (fun v i wr => ∃ (t : Nat) (sv : Value), sv = v ∧ t ≤ len ∧ i = .int .i64 (t : Int) ∧ Hid (Pt12 B R Q r s b o d m va vb vc sv (pE (E.take t) idx F) w wr)) (fun _ i _ => len - (intOf i).toNat)
  case atStart => exact ⟨0, _, rfl, by omega, rfl, HS⟩
  case round =>
    clear HS
    obtain ⟨t, sv, rfl, ht, rfl, HS⟩ := hrel
    have hc := HS.out.c.cell (i := 6) (v := va) rfl
    rw [← hva] at hc
    by_cases hlt : t < len
    · obtain ⟨pb, po, rfl, HQ⟩ := HR.out (by omega)
      obtain ⟨hpb, HQ⟩ := HQ wr HS.out.n
      obtain ⟨⟨x, G⟩, he⟩ : ∃ e, E[t]? = some e := ⟨E[t]'(by omega), List.getElem?_eq_getElem (by omega)⟩
      obtain ⟨hx, _, hr⟩ := er_part HQ t (x, G) he
      simp only at hx
      clear HQ
      by_cases hx2 : x = idx
      · replace HS : Hid (Pt12 B R Q r s b o d m va vb vc sv (pE (E.take (t + 1)) idx F) w wr) := by rw [pE_hit E t _ he idx F hx2]; exact HS
        clear hr he HR
        go_wp2
        go_roundw
        case rel => exact ⟨t + 1, _, rfl, by omega, by go_num, HS⟩
        case measure => simp [intOf]; omega
      · have hn0 : (pE (E.take t) idx F).length ≤ 1000001 := by
          have h1 := pE_len (E.take t) idx F
          have h2 : (E.take t).length ≤ t := by simp; omega
          omega
        have HX : Hid (pE (E.take (t + 1)) idx F = pE (E.take t) idx F ++ [(x, G)]) := pE_miss E t _ he idx F hx2
        obtain ⟨X, hX⟩ : ∃ X, pE (E.take t) idx F = X := ⟨_, rfl⟩
        rw [hX] at HX HS hn0
        obtain ⟨M, hM⟩ : ∃ M, ecell (x, G) = M := ⟨_, rfl⟩
        have iM : (Try.prog.info? 111).map (·.size) = some M.length := by rw [← hM, ecell_len]; exact infoC12
        have HM : Hid (Try.prog.builtSlice 111 1 [(0, .agg M.toArray)] = some M.toArray ∧ M.length = 1 * 73 ∧ (∀ u ∈ M, u.oneCell' = true) ∧ ecells X ++ M = ecells (X ++ [(x, G)])) := by
          rw [← hM]
          exact ⟨slice12 x G, ecell_len _, ecell_one _, ecells_snoc X _⟩
        rw [hM] at hr
        clear hM he HR hX
        obtain ⟨K, hK⟩ : ∃ K, wr.heap.size = K := ⟨_, rfl⟩
        have HN : Hid (Cb (wr.alloc (.cells M.toArray 111)) K M) := by rw [← hK]; exact Cb.new wr M _
        have hzz : (Value.agg (ecell (0, fun _ => 0)).toArray).cells.size = 73 := by
          show (ecell (0, fun _ => 0)).toArray.size = 73
          rw [List.size_toArray, ecell_len]
        have hq := HS.out.q
        have hown := HS.out.o
        obtain ⟨n0, hn1⟩ : ∃ n0, X.length = n0 := ⟨_, rfl⟩
        rw [hn1] at hown hn0
        have hne : ∀ g, sv.ownBlock = some g → Q ≤ g ∧ g < wr.heap.size := fun g hg => World.ownsRow.lt hown g hg
        go_upto_region 4 with (first
          | refine wpList_load_mid rfl 111 _ rfl pb (po + t * 73) rfl M _ hr Try.underlying111 rfl iM ?_
          | refine wp_one12 rfl 33 rfl K (by exact hK) (some 34) rfl M.toArray rfl (by exact HM.out.1) ?_
          | (at_builtin; go_loud (refine wpList_append_own _ rfl _ _ 31 rfl Q 111 i0 (.agg (ecell (0, fun _ => 0)).toArray) 73 80 Try.underlying31 hi hz0 hz1 hz2 hzz (by decide) sv n0 (ecells X) rfl (World.ownsRow.alloc hown _) ⟨K, 0, none⟩ 1 1 M rfl ?d0 ?d1 ?d2 ?d3 ?d4 ?d5 ?_)))
        case d0 => exact HM.out.2.1
        try case d1 =>
          intro j u hj
          rw [Addr.add_lit, Nat.zero_add]
          exact HN.out.cell hj
        case d2 => exact HM.out.2.2.1
        case d3 => unfold maxLen; omega
        case d4 => omega
        case d5 => first | omega | exact hq | exact Nat.le_trans hq (Nat.le_of_eq (by rw [World.size_alloc]))
        intro v' w1 hown2 hgrow hiff
        rw [HM.out.2.2.2, ← HX.out] at hown2
        have hl1 : n0 + 1 = (pE (E.take (t + 1)) idx F).length := by rw [HX.out, ← hn1]; simp
        rw [hl1] at hown2
        replace HS : Hid (Pt12 B R Q r s b o d m va vb vc v' (pE (E.take (t + 1)) idx F) w w1) := by
          have hBR : ∀ g, g < Q → some g ≠ sv.ownBlock := fun g hg e => by have := (hne g e.symm).1; omega
          have hg1 := hgrow.size
          refine ⟨(HS.out.c.alloc _).of (hgrow.block B (by have := HS.out.c.lt; simp; omega) (hBR B (by omega))), (HS.out.e.alloc _).of (hgrow.block R (by have := HS.out.e.lt; simp; omega) (hBR R (by omega))), ?_, hown2, by simp at hg1; omega⟩
          exact below_grown7 (HS.out.n.alloc (by omega) _) hgrow (fun g hg => by have := (hne g hg).1; omega) (by simp; omega)
        clear hown2 hgrow hiff hr hown hzz HN HM iM
        go_wp2
        go_roundw
        case rel => exact ⟨t + 1, _, rfl, by omega, by go_num, HS⟩
        case measure => simp [intOf]; omega
    · obtain rfl : t = len := by omega
      obtain rfl : t = E.length := hn
      rw [List.take_length] at HS
      clear HR
      obtain ⟨a', c', rfl, her, hlow⟩ := owned_er HW.out HS.out.o
      obtain ⟨n1, hn1⟩ : ∃ n1, (pE E idx F).length = n1 := ⟨_, rfl⟩
      rw [hn1] at HS her ⊢
      have hf := HS.out.c.free 6
      clear hva
      have HE : Hid (Er wr a' n1 c' (pE E idx F)) := her
      clear her
      go_upto_region 8 with (fail)
      obtain ⟨sv, hsv⟩ : ∃ sv, Value.slice a' n1 c' = sv := ⟨_, rfl⟩
      have hso : sv.oneCell' = true := by rw [← hsv]; rfl
      obtain ⟨W1, hW1⟩ : ∃ W1, wr.setCell ⟨B, 6, none⟩ sv = W1 := ⟨_, rfl⟩
      replace HS : Hid (Cb W1 B (dl r s b o d m sv vb vc) ∧ Cb W1 R (dl 0 0 0 0 0 0 (.slice none 0 0) (.slice none 0 0) (.slice none 0 0)) ∧ Below B w W1 ∧ Er W1 a' n1 c' (pE E idx F)) := by
        rw [hsv] at HS
        rw [← hW1]
        refine ⟨HS.out.c.set 6 sv, HS.out.e.other (by omega) 6 sv, below_set12 (Nat.le_refl _) HS.out.n, HE.out.of fun g o e => ?_⟩
        have := hlow g o e
        exact Below.heap_setCell wr ⟨B, 6, none⟩ sv g (by show g ≠ B; omega)
      clear HE
      simp only [hsv, hW1]
      clear hW1 hf hc
      have hr1 := HS.out.1.range
      have ht : W1.there R 0 9 := HS.out.2.1.thereAt 0 9 (by simp [dl])
      obtain ⟨A9, hA9⟩ : ∃ A, dl r s b o d m sv vb vc = A := ⟨_, rfl⟩
      have i9 : (Try.prog.info? 34).map (·.size) = some A9.length := by rw [← hA9]; exact infoD12
      have j9 : (Try.prog.info? 34).map (·.size) = some A9.toArray.size := by rw [← hA9]; exact infoD12
      have ht2 : W1.there R 0 A9.toArray.size := by rw [← hA9]; exact ht
      have one1 : A9.toArray.all (·.oneCell') = true := by rw [← hA9]; exact dl_one r s b o d m sv vb vc hso HV.out.1 HV.out.2
      rw [hA9] at hr1
      go_wp2_with (first
        | refine wpList_load_mid rfl 34 _ rfl B 0 rfl A9 _ hr1 Try.underlying34 rfl i9 ?_
        | refine wpList_store_mid rfl 34 _ _ rfl R 0 A9.toArray rfl rfl ht2 j9 one1 ?_)
      have hs2 : (World.setCells W1 R 0 A9).rangeAt R 0 A9 := World.rangeAt_setCells_same W1 _ 0 A9 (by simpa using ht2)
      have hld := run_loadVar_mid (P := Try.prog) (World.setCells W1 R 0 A9) R 0 34 A9 _ hs2 Try.underlying34 rfl i9
      refine bodyPost_ret (v := .agg A9.toArray) ?_ rfl ⟨a', c', by rw [← hA9, ← hsv, ← hn1]; rfl, ?_, (by first | exact belows_put (by omega) _ 0 HS.out.2.2.1 | (rw [hB]; exact belows_put (by omega) _ 0 HS.out.2.2.1)), fun g o e => by have := hlow g o e; omega⟩
      · simp [results, Try.f39, Act.put, asAddr, hld]
      · rw [hn1]
        refine HS.out.2.2.2.of fun g o e => ?_
        have := hlow g o e
        exact heap_puts R A9 0 W1 g (by omega)
end Go.Proofs.Ytcpjmfemgdgplaa
