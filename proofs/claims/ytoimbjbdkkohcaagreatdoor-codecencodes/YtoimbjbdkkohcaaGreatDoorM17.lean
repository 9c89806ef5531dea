/-
  Texts of one family, one behind another: CoW7.
-/
import Derived.Test.YtoimbjbdkkohcaaGreatDoorM16

/-
  Raw bytes of the mode 1 are decoded.
-/
namespace Go.Proofs.YtoimbjbdkkohcaaGreatDoor
open Go.RowKit Go.Shelf
open Bm (wt wtK)
open Ln (val wrd)
open Hm (syn)
open Po (El toE)
attribute [local go_sem] Oper.semAt_some

/-- one cell is stored -/
theorem wp_store_cell {o : Oper} {a : Act} {w : World} {K : Act → World → Prop} {Q : Exit → Act → World → Prop} (ty : TypeId) (hs : ∀ w, (sizeOf ty).run Tryz.prog w = .ok 1 w) (m n : Nat) (ho : o.op = .store ty (.tmp m) (.tmp n)) (b i : Nat) (k : IntKind) (v : Int) (u : Value) (hx : a.tmps[m]?.getD undef = .pointer (some ⟨b, i, none⟩)) (hy : a.tmps[n]?.getD undef = .int k v)
    (hc : w.cell? ⟨b, i, none⟩ = some u) (hf : w.frozen? ⟨b, i, none⟩ = false) (h : K (a.put o.dst undef) (w.setCell ⟨b, i, none⟩ (.int k v))) : Oper.wp Tryz.prog o a w K Q := by
  simp [Oper.wp, execOp, ho, hx, hy, go_sem, Oper.upon, hc, hf, hs]
  exact h
theorem sz_u64 (w : World) : (sizeOf 46).run Tryz.prog w = .ok 1 w := by kernel_rfl
theorem sz_int (w : World) : (sizeOf 3).run Tryz.prog w = .ok 1 w := by kernel_rfl
theorem db_step (F : Nat → Nat) (x y : Nat) (hy : F x = y) (j : Nat) : (if j = x then (y : Int) else if j < x then (F j : Int) else 0) = if j < x + 1 then (F j : Int) else 0 := by
  by_cases e : j = x
  · rw [if_pos e, if_pos (by omega), e, hy]
  · rw [if_neg e]
    by_cases h : j < x
    · rw [if_pos h, if_pos (by omega)]
    · rw [if_neg h, if_neg (by omega)]
theorem db_step2 (F : Nat → Int) (x : Nat) (y : Int) (hy : F x = y) (j : Nat) : (if j = x then y else if j < x then F j else 0) = if j < x + 1 then F j else 0 := by
  by_cases e : j = x
  · rw [if_pos e, if_pos (by omega), e, hy]
  · rw [if_neg e]
    by_cases h : j < x
    · rw [if_pos h, if_pos (by omega)]
    · rw [if_neg h, if_neg (by omega)]
theorem cutK8 (b : Nat) (w : World) : (Instr.sliceAt 84 (.pointer (some ⟨b, 0, none⟩)) none none none).run Tryz.prog w = .ok (.slice (some ⟨b, 0, none⟩) 8 8) w := by
  simp [Instr.sliceAt, go_sem]
/-- while raw bytes are decoded: the codec's variable in B, the index's in B + 2, the results' in T and U, the words' data in P, their verdicts in Q -/
structure DbI (B T U P Q c h r f : Nat) (ix : Int) (k : IntKind) (n m : Nat) (Y K : Nat → Int) (w W : World) : Prop where
  pc : Box W B (.pointer (some ⟨c, 0, none⟩))
  pi : Box W (B + 1 + 1) (.int .i64 ix)
  out : Out2 B T U w W
  y : Bk k W P n Y
  q : Bk .i64 W Q m K
  cc : CcAt W c h r f
  tab : TabW W
  lt : c < B ∧ h < B ∧ r < B ∧ f < B ∧ 0 < B ∧ B + 1 + 1 < T ∧ T < U ∧ U < P ∧ P < Q
section
variable {B T U P Q c h r f : Nat} {ix : Int} {k : IntKind} {n m : Nat} {Y K : Nat → Int} {w W W' : World}
theorem Out2.stay {B A C : Nat} {w W W' : World} {E : Nat} (h : Out2 B A C w W) (hB : B ≤ E) (k : Stay E W W') : Out2 B A C w W' :=
  ⟨let ⟨X, hX⟩ := h.a; ⟨X, hX.stay k⟩, let ⟨Y, hY⟩ := h.c; ⟨Y, hY.stay k⟩, below_stay h.below k hB⟩
theorem Out2.of {B A C : Nat} {w W W' : World} (h : Out2 B A C w W) (k1 : W'.heap[A]? = W.heap[A]?) (k2 : W'.heap[C]? = W.heap[C]?) (k : Below B w W') : Out2 B A C w W' :=
  ⟨let ⟨X, hX⟩ := h.a; ⟨X, hX.of k1⟩, let ⟨Y, hY⟩ := h.c; ⟨Y, hY.of k2⟩, k⟩
theorem DbI.next (H : DbI B T U P Q c h r f ix k n m Y K w W) (e : Below W.heap.size W W') : DbI B T U P Q c h r f ix k n m Y K w W' :=
  ⟨H.pc.below e H.pc.lt, H.pi.below e H.pi.lt, H.out.next (by have := H.lt; omega) e, H.y.next e, H.q.next e, H.cc.next e, H.tab.next e, H.lt⟩
theorem DbI.stay {C : Nat} (H : DbI B T U P Q c h r f ix k n m Y K w W) (e : Stay C W W') (hC : B ≤ C) : DbI B T U P Q c h r f ix k n m Y K w W' :=
  ⟨H.pc.stay e, H.pi.stay e, H.out.stay hC e, H.y.stay e, H.q.stay e, H.cc.stay e, H.tab.stay e, H.lt⟩
theorem DbI.setY (H : DbI B T U P Q c h r f ix k n m Y K w W) (i : Nat) (e : Int) : DbI B T U P Q c h r f ix k n m (fun j => if j = i then e else Y j) K w (W.setCell ⟨P, i, none⟩ (.int k e)) := by
  have hl := H.lt
  have hk : ∀ b, b ≠ P → (W.setCell ⟨P, i, none⟩ (.int k e)).heap[b]? = W.heap[b]? := fun b hb => Below.heap_setCell W _ _ b hb
  exact ⟨H.pc.of (hk _ (by omega)), H.pi.of (hk _ (by omega)), H.out.of (hk _ (by omega)) (hk _ (by omega)) (H.out.below.setCell (p := ⟨P, i, none⟩) (by simp; omega) _), H.y.set i e, H.q.of (hk _ (by omega)), H.cc.of (hk _ (by omega)) (hk _ (by omega)) (hk _ (by omega)) (hk _ (by omega)), H.tab.of (hk _ (by omega)), H.lt⟩
theorem DbI.putsY (H : DbI B T U P Q c h r f ix k n m Y K w W) (o l : Nat) (G : Nat → Int) : DbI B T U P Q c h r f ix k n m (fun j => if o ≤ j ∧ j < o + l then G (j - o) else Y j) K w (W.setCells P o (ints k l G)) := by
  have hl := H.lt
  have hk : ∀ b, b ≠ P → (W.setCells P o (ints k l G)).heap[b]? = W.heap[b]? := fun b hb => heap_puts P _ o W b hb
  exact ⟨H.pc.of (hk _ (by omega)), H.pi.of (hk _ (by omega)), H.out.of (hk _ (by omega)) (hk _ (by omega)) (belows_put (by omega) _ o H.out.below), H.y.putAt o l G, H.q.of (hk _ (by omega)), H.cc.of (hk _ (by omega)) (hk _ (by omega)) (hk _ (by omega)) (hk _ (by omega)), H.tab.of (hk _ (by omega)), H.lt⟩
theorem DbI.setQ (H : DbI B T U P Q c h r f ix k n m Y K w W) (i : Nat) (e : Int) : DbI B T U P Q c h r f ix k n m Y (fun j => if j = i then e else K j) w (W.setCell ⟨Q, i, none⟩ (.int .i64 e)) := by
  have hl := H.lt
  have hk : ∀ b, b ≠ Q → (W.setCell ⟨Q, i, none⟩ (.int .i64 e)).heap[b]? = W.heap[b]? := fun b hb => Below.heap_setCell W _ _ b hb
  exact ⟨H.pc.of (hk _ (by omega)), H.pi.of (hk _ (by omega)), H.out.of (hk _ (by omega)) (hk _ (by omega)) (H.out.below.setCell (p := ⟨Q, i, none⟩) (by simp; omega) _), H.y.of (hk _ (by omega)), H.q.set i e, H.cc.of (hk _ (by omega)) (hk _ (by omega)) (hk _ (by omega)) (hk _ (by omega)), H.tab.of (hk _ (by omega)), H.lt⟩
theorem DbI.congr (H : DbI B T U P Q c h r f ix k n m Y K w W) {Y' K' : Nat → Int} (e1 : ∀ i, i < n → Y i = Y' i) (e2 : ∀ i, i < m → K i = K' i) : DbI B T U P Q c h r f ix k n m Y' K' w W := { H with y := H.y.congr e1, q := H.q.congr e2 }
theorem DbI.putT (H : DbI B T U P Q c h r f ix k n m Y K w W) (L : Nat → Int) : DbI B T U P Q c h r f ix k n m Y K w (W.setCells T 0 (ints .u8 64 L)) := by
  have hl := H.lt
  have hk : ∀ b, b ≠ T → (W.setCells T 0 (ints .u8 64 L)).heap[b]? = W.heap[b]? := fun b hb => heap_puts T _ 0 W b hb
  exact ⟨H.pc.of (hk _ (by omega)), H.pi.of (hk _ (by omega)), H.out.put1 (by omega) (by omega) L, H.y.of (hk _ (by omega)), H.q.of (hk _ (by omega)), H.cc.of (hk _ (by omega)) (hk _ (by omega)) (hk _ (by omega)) (hk _ (by omega)), H.tab.of (hk _ (by omega)), H.lt⟩
theorem DbI.putU (H : DbI B T U P Q c h r f ix k n m Y K w W) (x y : Int) : DbI B T U P Q c h r f ix k n m Y K w (W.setCells U 0 (vd2 x y)) := by
  have hl := H.lt
  have hk : ∀ b, b ≠ U → (W.setCells U 0 (vd2 x y)).heap[b]? = W.heap[b]? := fun b hb => heap_puts U _ 0 W b hb
  exact ⟨H.pc.of (hk _ (by omega)), H.pi.of (hk _ (by omega)), H.out.put2 (by omega) (by omega) x y, H.y.of (hk _ (by omega)), H.q.of (hk _ (by omega)), H.cc.of (hk _ (by omega)) (hk _ (by omega)) (hk _ (by omega)) (hk _ (by omega)), H.tab.of (hk _ (by omega)), H.lt⟩
theorem dbI_new (t0 t1 t2 t3 t4 t5 t6 : TypeId) {R : Nat → Int} (hc : CcAt w c h r f) (hT : TabW w) (hB : w.heap.size = B)
    (hV : ((((((w.alloc (.cells #[.pointer (some ⟨c, 0, none⟩)] t0)).alloc (.cells (ints .u8 72 R).toArray t1)).alloc (.cells #[.int .i64 ix] t2)).alloc (.cells (ints .u8 64 fun _ => 0).toArray t3)).alloc (.cells #[.int .i64 0, .int .i64 0] t4)).alloc (.cells (ints k n fun _ => 0).toArray t5)).alloc (.cells (ints .i64 m fun _ => 0).toArray t6) = W) :
    DbI B (B + 1 + 1 + 1) (B + 1 + 1 + 1 + 1) (B + 1 + 1 + 1 + 1 + 1) (B + 1 + 1 + 1 + 1 + 1 + 1) c h r f ix k n m (fun _ => 0) (fun _ => 0) w W ∧ Bk .u8 W (B + 1) 72 R := by
  have h0 := Box.new w t0 (.pointer (some ⟨c, 0, none⟩))
  obtain ⟨W1, hW1⟩ : ∃ W1, w.alloc (.cells #[.pointer (some ⟨c, 0, none⟩)] t0) = W1 := ⟨_, rfl⟩
  have s1 : W1.heap.size = B + 1 := by rw [← hW1, World.size_alloc, hB]
  have h1 := Bk.new .u8 W1 72 R t1
  obtain ⟨W2, hW2⟩ : ∃ W2, W1.alloc (.cells (ints .u8 72 R).toArray t1) = W2 := ⟨_, rfl⟩
  have s2 : W2.heap.size = B + 1 + 1 := by rw [← hW2, World.size_alloc, s1]
  have h2 := Box.new W2 t2 (.int .i64 ix)
  obtain ⟨W3, hW3⟩ : ∃ W3, W2.alloc (.cells #[.int .i64 ix] t2) = W3 := ⟨_, rfl⟩
  have s3 : W3.heap.size = B + 1 + 1 + 1 := by rw [← hW3, World.size_alloc, s2]
  have h3 := Bk.new .u8 W3 64 (fun _ => 0) t3
  obtain ⟨W4, hW4⟩ : ∃ W4, W3.alloc (.cells (ints .u8 64 fun _ => 0).toArray t3) = W4 := ⟨_, rfl⟩
  have s4 : W4.heap.size = B + 1 + 1 + 1 + 1 := by rw [← hW4, World.size_alloc, s3]
  have h4 := Bk.new2 W4 0 0 t4
  obtain ⟨W5, hW5⟩ : ∃ W5, W4.alloc (.cells #[.int .i64 0, .int .i64 0] t4) = W5 := ⟨_, rfl⟩
  have s5 : W5.heap.size = B + 1 + 1 + 1 + 1 + 1 := by rw [← hW5, World.size_alloc, s4]
  have h5 := Bk.new k W5 n (fun _ => 0) t5
  obtain ⟨W6, hW6⟩ : ∃ W6, W5.alloc (.cells (ints k n fun _ => 0).toArray t5) = W6 := ⟨_, rfl⟩
  have s6 : W6.heap.size = B + 1 + 1 + 1 + 1 + 1 + 1 := by rw [← hW6, World.size_alloc, s5]
  have h6 := Bk.new .i64 W6 m (fun _ => 0) t6
  rw [hW1, hW2, hW3, hW4, hW5, hW6] at hV
  rw [hW1, hB] at h0
  rw [hW2, s1] at h1
  rw [hW3, s2] at h2
  rw [hW4, s3] at h3
  rw [hW5, s4] at h4
  rw [hW6, s5] at h5
  rw [hV, s6] at h6
  have st : ∀ {X Y : World} {o : Obj}, X.alloc o = Y → Stay X.heap.size X Y := fun e => by rw [← e]; exact Stay.alloc _ _ _ (Nat.le_refl _)
  have k6 := st hV
  have k5 := (st hW6).trans (k6.mono (by omega))
  have k4 := (st hW5).trans (k5.mono (by omega))
  have k3 := (st hW4).trans (k4.mono (by omega))
  have k2 := (st hW3).trans (k3.mono (by omega))
  have k1 := (st hW2).trans (k2.mono (by omega))
  have k0 := (st hW1).trans (k1.mono (by omega))
  have hl := hc.lt
  have ht := hT.lt
  have hbl := below_stay (Below.refl w.heap.size w) k0 (Nat.le_refl _)
  rw [hB] at hbl
  exact ⟨⟨h0.stay k1, h2.stay k3, ⟨⟨_, h3.stay k4⟩, ⟨_, h4.stay k5⟩, hbl⟩, h5.stay k6, h6, hc.stay k0, hT.stay k0, by omega⟩, h1.stay k2⟩
end
/-- the data of a word, mended; its verdict -/
def fB (R : Nat → Int) (a : Int) (k : Nat) : Nat := fx (Co.dw R k) (Co.sB R a k)
def vB (R : Nat → Int) (a : Int) (k : Nat) : Int := kB (Co.sB R a k)
theorem kB_bd (s : Nat) : 0 ≤ kB s ∧ kB s ≤ 3 := by
  unfold kB
  split
  · omega
  · split
    · omega
    · split <;> omega
theorem fx_lt (d s : Nat) (hd : d < 18446744073709551616) : fx d s < 18446744073709551616 := by
  unfold fx
  split
  · rename_i h
    refine Nat.xor_lt_two_pow (n := 64) hd (Nat.pow_lt_pow_right (by omega) ?_)
    omega
  · exact hd
theorem zeroW8 (w : World) : (zeroValue 83).run Tryz.prog w = .ok (.agg (ints .u64 8 fun _ => 0).toArray) w := by kernel_rfl
theorem zeroI8 (w : World) : (zeroValue 84).run Tryz.prog w = .ok (.agg (ints .i64 8 fun _ => 0).toArray) w := by kernel_rfl

set_option maxRecDepth 100000 in
set_option maxHeartbeats 2000000 in
theorem decodeBits_any (c h r f : Nat) (R : Nat → Int) (hR : Byts 72 R) (ix : Int) (w : World) (hc : CcAt w c h r f) (hT : TabW w) :
    Calls Tryz.prog 16 #[.pointer (some ⟨c, 0, none⟩), .agg (ints .u8 72 R).toArray, .int .i64 ix] w fun e w' =>
      e = .returned (.tuple #[.agg (ints .u8 64 (tln (top (vB R (par ix)) 8) (wby (fB R (par ix))))).toArray, .agg (vd2 (top (vB R (par ix)) 8) (if top (vB R (par ix)) 8 = 1 then (cnt (vB R (par ix)) 8 : Int) else 0)).toArray]) ∧ Below w.heap.size w w' := by
  have hz := zeroL10
  have hz2 := zero10
  have hz3 := zeroW8
  have hz4 := zeroI8
  have cW : Hid (∀ W : World, Calls Tryz.prog 41 #[.int .i64 1, .agg (ints .u8 72 R).toArray] W fun e w' => e = .returned (.func (.func 75) #[] #[.pointer (some ⟨W.heap.size, 0, none⟩), .pointer (some ⟨W.heap.size + 1, 0, none⟩)]) ∧
      w' = (W.alloc (.cells #[.int .i64 1] 3)).alloc (.cells (ints .u8 72 R).toArray 27)) := wordsOf_any 1 R
  obtain ⟨RL, HRL⟩ : ∃ RL, Hid (Value.tuple #[.agg (ints .u8 64 (tln (top (vB R (par ix)) 8) (wby (fB R (par ix))))).toArray, .agg (vd2 (top (vB R (par ix)) 8) (if top (vB R (par ix)) 8 = 1 then (cnt (vB R (par ix)) 8 : Int) else 0)).toArray] = RL) := ⟨_, rfl⟩
  rw [HRL.out]
  obtain ⟨A0, hA0⟩ : ∃ A, ints .u8 72 R = A := ⟨_, rfl⟩
  obtain ⟨Z, hZ⟩ : ∃ A, (ints .u8 64 fun _ => 0) = A := ⟨_, rfl⟩
  obtain ⟨Z3, hZ3⟩ : ∃ A, (ints .u64 8 fun _ => 0) = A := ⟨_, rfl⟩
  obtain ⟨Z4, hZ4⟩ : ∃ A, (ints .i64 8 fun _ => 0) = A := ⟨_, rfl⟩
  have i0 : (Tryz.prog.info? 27).map (·.size) = some A0.length := by rw [← hA0, ints_len]; exact infoR
  rw [hZ] at hz
  rw [hZ3] at hz3
  rw [hZ4] at hz4
  rw [hA0] at cW ⊢
  have HA : Hid (ints .u8 72 R = A0 ∧ (ints .u8 64 fun _ => 0) = Z ∧ (ints .u64 8 fun _ => 0) = Z3 ∧ (ints .i64 8 fun _ => 0) = Z4) := ⟨hA0, hZ, hZ3, hZ4⟩
  refine (callsIn_wide (n := 10)).1 ?_
  refine callsIn_of_wp_marks Tryz.func16 rfl trivial ?_ rfl
  simp only [Tryz.ntmps16, List.size_toArray, List.length_cons, List.length_nil, Nat.reduceAdd, Nat.reduceSub, Array.replicate_succ, Array.replicate_zero, List.push_toArray, List.append_toArray, List.nil_append, List.cons_append]
  refine wpIn_wide.2 ?_
  go_upto_region 3 with (fail)
  obtain ⟨B, hB⟩ : ∃ B, w.heap.size = B := ⟨_, rfl⟩
  obtain ⟨V, hV⟩ : ∃ V, ((((((w.alloc (.cells #[.pointer (some ⟨c, 0, none⟩)] 24)).alloc (.cells A0.toArray 27)).alloc (.cells #[.int .i64 ix] 3)).alloc (.cells Z.toArray 23)).alloc (.cells #[.int .i64 0, .int .i64 0] 30)).alloc (.cells Z3.toArray 83)).alloc (.cells Z4.toArray 84) = V := ⟨_, rfl⟩
  have hV2 := hV
  rw [← HA.out.1, ← HA.out.2.1, ← HA.out.2.2.1, ← HA.out.2.2.2] at hV2
  obtain ⟨hI, hL⟩ := dbI_new (c := c) (h := h) (r := r) (f := f) (ix := ix) (k := .u64) (n := 8) (m := 8) _ _ _ _ _ _ _ hc hT hB hV2
  rw [hV, hB]
  obtain ⟨T, hT'⟩ : ∃ T, B + 1 + 1 + 1 = T := ⟨_, rfl⟩
  obtain ⟨U, hU⟩ : ∃ U, T + 1 = U := ⟨_, rfl⟩
  obtain ⟨P, hP⟩ : ∃ P, U + 1 = P := ⟨_, rfl⟩
  obtain ⟨Q, hQ⟩ : ∃ Q, P + 1 = Q := ⟨_, rfl⟩
  rw [hT', hU, hP, hQ] at hI
  rw [hT']
  try rw [hU]
  try rw [hP]
  try rw [hQ]
  have hr := hL.range
  rw [HA.out.1] at hr
  have sV : V.heap.size = Q + 1 := by
    rw [← hV]; simp only [World.size_alloc]; omega
  have HI : Hid (DbI B T U P Q c h r f ix .u64 8 8 (fun _ => 0) (fun _ => 0) w V) := hI
  clear hV hV2 hI hL hc hT hz hz2 hz3 hz4 hA0 hZ hZ3 hZ4
  go_wp2_with (first | refine wpList_load_mid rfl 27 _ rfl _ 0 rfl A0 _ hr Tryz.underlying27 rfl i0 ?_ | (go_at_call 41; refine (cW.out _).mono ?_; rintro e w' ⟨rfl, hw2⟩))
  have st3 : Stay V.heap.size V w' := by rw [hw2]; exact (Stay.alloc _ _ _ (Nat.le_refl _)).trans (Stay.alloc _ _ _ (by simp))
  have hN : Bk .u8 w' (Q + 1 + 1) 72 R ∧ Box w' (Q + 1) (.int .i64 1) := by
    have h1 := Box.new V 3 (.int .i64 1)
    have h := Bk.new .u8 (V.alloc (.cells #[.int .i64 1] 3)) 72 R 27
    simp only [World.size_alloc] at h
    rw [HA.out.1, ← hw2, sV] at h
    have h2 := h1.alloc (.cells A0.toArray 27)
    rw [← hw2, sV] at h2
    exact ⟨h, h2⟩
  have s3 : w'.heap.size = Q + 1 + 1 + 1 := by rw [hw2]; simp only [World.size_alloc]; omega
  have hI3 : DbI B T U P Q c h r f ix .u64 8 8 (fun j => if j < 0 then (fB R (par ix) j : Int) else 0) (fun j => if j < 0 then vB R (par ix) j else 0) w w' := (HI.out.stay st3 (by omega)).congr (fun i _ => by rw [if_neg (by omega)]) (fun i _ => by rw [if_neg (by omega)])
  try rw [sV]
  try rw [← hw2]
  clear HI hw2 st3 hr cW sV V
  refine (wpIn_wide (n := 10)).1 (rangeG rfl (enters_of Tryz.func75 (by kernel_rfl) rfl) (wordsOf_seq 1 9 8 .bits (by omega) (Q + 1) (Q + 1 + 1) R w' hN.2 hN.1 (fun x hx W => word_yes1 R x hx W)) (fun _ _ => rfl) (fun _ _ _ _ hO hs => hO.stay hs)
    (fun x => x = P ∨ x = Q) (by rintro x (rfl | rfl) <;> constructor <;> omega) (by rintro x (rfl | rfl) <;> omega)
    (fun x W => DbI B T U P Q c h r f ix .u64 8 8 (fun j => if j < x then (fB R (par ix) j : Int) else 0) (fun j => if j < x then vB R (par ix) j else 0) w W) (fun _ _ _ => False)
    (fun x X Y hX hs => hX.stay hs (by omega))
    (fun _ _ _ _ h _ => h.elim) hI3 ?round ?done (fun _ _ _ _ _ _ h => h.elim))
  case round =>
    rintro l x _ W W2 hx ⟨g, rfl, hg⟩ hI
    obtain ⟨d, hd⟩ : ∃ d, Co.dw R x = d := ⟨_, rfl⟩
    obtain ⟨ck, hck⟩ : ∃ ck, Co.cw R x = ck := ⟨_, rfl⟩
    have hdl : d < 18446744073709551616 := by rw [← hd]; exact Co.dw_lt hR x hx
    have hcl : ck < 256 := by rw [← hck]; exact Co.cw_lt hR x hx
    have hcell : R (9 * x + 8) = (ck : Int) := by
      have := hR (9 * x + 8) (by omega)
      rw [← hck]; unfold Co.cw; omega
    have hdn : dn (fun j => R (9 * x + j)) 0 = d := by
      rw [← hd]
      exact Co.val_shift _ _ 8 _ _ fun j _ => by simp
    have hfv : fB R (par ix) x = fx d (Hm.syn d ck (par ix) 0) ∧ vB R (par ix) x = kB (Hm.syn d ck (par ix) 0) := by
      unfold fB vB Co.sB
      rw [hd, hck]; exact ⟨rfl, rfl⟩
    have cP : Hid (∀ W : World, Calls Tryz.prog 34 #[.int .i64 ix] W fun e w' => e = .returned (.int .i64 (par ix)) ∧ w' = W) := parity10 ix
    have cDo : Hid (∀ W : World, Bk .u8 W g 9 (fun j => R (9 * x + j)) → Calls Tryz.prog 43 #[.slice (some ⟨g, 0, none⟩) 8 9] W fun e w' => e = .returned (.int .u64 (d : Int)) ∧ w' = W) := fun W hb => by
      have := dataOf_any g 9 (fun j => R (9 * x + j)) (fun j hj => hR _ (by omega)) W (fun j hj => hb.cell j (by omega))
      rw [hdn] at this; exact this
    have cDec : Hid (∀ W : World, CodeAt W h → TabW W → Calls Tryz.prog 42 #[.pointer (some ⟨h, 0, none⟩), .int .u64 (d : Int), .int .u8 (ck : Int), .int .i64 (par ix)] W fun e w' =>
      e = .returned (.tuple #[.int .u64 (fx d (Hm.syn d ck (par ix) 0) : Int), .int .i64 (Hm.kd (Hm.syn d ck (par ix) 0)), .int .i64 (Hm.pl (Hm.syn d ck (par ix) 0))]) ∧ Below W.heap.size W w') := fun W H HT => decode_any h d ck (par ix) hdl hcl W H HT
    have cO : Hid (∀ W : World, Calls Tryz.prog 44 #[.int .i64 (Hm.kd (Hm.syn d ck (par ix) 0))] W fun e w' => e = .returned (.int .i64 (kB (Hm.syn d ck (par ix) 0))) ∧ w' = W) := ofBits_any _
    obtain ⟨s, hs⟩ : ∃ s, Hm.syn d ck (par ix) 0 = s := ⟨_, rfl⟩
    rw [hs] at cDec cO hfv
    obtain ⟨y, hy⟩ : ∃ y, fx d s = y := ⟨_, rfl⟩
    obtain ⟨kk, hkk⟩ : ∃ kk, Hm.kd s = kk := ⟨_, rfl⟩
    obtain ⟨pp, hpp⟩ : ∃ pp, Hm.pl s = pp := ⟨_, rfl⟩
    obtain ⟨kv, hkv⟩ : ∃ kv, kB s = kv := ⟨_, rfl⟩
    rw [hy, hkk, hpp] at cDec
    rw [hkk, hkv] at cO
    rw [hy, hkv] at hfv
    have HF : Hid (fB R (par ix) x = y ∧ vB R (par ix) x = kv) := hfv
    obtain ⟨a, ha⟩ : ∃ a, par ix = a := ⟨_, rfl⟩
    rw [ha] at cP cDec
    have HI2 : Hid (DbI B T U P Q c h r f ix .u64 8 8 (fun j => if j < x then (fB R (par ix) j : Int) else 0) (fun j => if j < x then vB R (par ix) j else 0) w W2 ∧ Bk .u8 W2 g 9 (fun j => R (9 * x + j))) := ⟨hI, hg⟩
    clear hI hg hd hck hdn hfv hs hy hkk hpp hkv ha hN hI3 hdl hcl
    try simp only []
    gi_wp2
    try (refine ⟨trivial, ?_⟩)
    try gi_wp2
    refine round_calm (by kernel_rfl) (by kernel_rfl) (by kernel_rfl) (fun W => Below W2.heap.size W2 W) (below_drew1 W2) ?_
    intro _ hU fW hf hof
    have HU : Hid (∀ x W, Below (fW x).heap.size (fW x) W → ∃ y, W = fW y) := fun x W h => hof W ((hf x).trans (h.mono (hf x).size))
    have HE2 : Hid (∀ u, DbI B T U P Q c h r f ix .u64 8 8 (fun j => if j < x then (fB R (par ix) j : Int) else 0) (fun j => if j < x then vB R (par ix) j else 0) w (fW u) ∧ Bk .u8 (fW u) g 9 (fun j => R (9 * x + j))) := fun u => ⟨HI2.out.1.next (hf u), HI2.out.2.next (hf u)⟩
    have HK : Hid (∀ u, Keep (fun x => x = P ∨ x = Q) W2 (fW u)) := fun u => Keep.below (hf u) (Nat.le_refl _)
    have e0 : ∀ u, (fW u).cell? ⟨B, 0, none⟩ = some (.pointer (some ⟨c, 0, none⟩)) := fun u => (HE2.out u).1.pc.1
    have e1 : ∀ u, (fW u).cell? ⟨c, 0, none⟩ = some (.pointer (some ⟨h, 0, none⟩)) := fun u => (HE2.out u).1.cc.c0
    have e2 : ∀ u, (fW u).cell? ⟨B + 1 + 1, 0, none⟩ = some (.int .i64 ix) := fun u => (HE2.out u).1.pi.1
    have e3 : ∀ u, (fW u).cell? ⟨g, 8, none⟩ = some (.int .u8 (ck : Int)) := fun u => by rw [← hcell]; exact (HE2.out u).2.cell 8 (by omega)
    clear hf hof hcell
    repeat (go_big_quiet_step ((first
      | (go_at_call 34; exact calm_same (cP.out _))
      | (go_at_call 43; exact calm_same (cDo.out _ (HE2.out _).2))
      | (go_at_call 42; exact calm_next HU.out (cDec.out _ (HE2.out _).1.cc.hs (HE2.out _).1.tab)))))
    refine wpQuiet_nil ?_
    rintro _ ⟨u9, rfl⟩
    have HI4 : Hid (DbI B T U P Q c h r f ix .u64 8 8 (fun j => if j < x then (fB R (par ix) j : Int) else 0) (fun j => if j < x then vB R (par ix) j else 0) w (fW u9) ∧ Keep (fun x => x = P ∨ x = Q) W2 (fW u9)) := ⟨(HE2.out u9).1, HK.out u9⟩
    obtain ⟨W3, hW3⟩ : ∃ W, fW u9 = W := ⟨_, rfl⟩
    rw [hW3] at HI4 ⊢
    clear hW3 HU HK HE2 hU e0 e1 e2 e3 cP cDo cDec HI2
    gi_wp2
    --<REG7
    replace HI4 : Hid (DbI B T U P Q c h r f ix .u64 8 8 (fun j => if j < x then (fB R (par ix) j : Int) else 0) (fun j => if j < x then vB R (par ix) j else 0) w W3.drew ∧ Keep (fun x => x = P ∨ x = Q) W2 W3.drew) := ⟨HI4.out.1.next (below_drew1 W3), HI4.out.2.drewN 1⟩
    refine region_round (by kernel_rfl) (by kernel_rfl) (fun _ => True) (fun _ W' => Keep (fun x => x = P ∨ x = Q) W2 W' ∧ DbI B T U P Q c h r f ix .u64 8 8 (fun j => if j < x + 1 then (fB R (par ix) j : Int) else 0) (fun j => if j < x + 1 then vB R (par ix) j else 0) w W') trivial (fun hH => ?reg) (fun a' w' hr => ?aft)
    case aft =>
      gi_wp2
      exact hr
    refine take_pure 0 (v := .int .i64 (x : Int)) rfl (by kernel_rfl) rfl (fun w' hw => by simp [execOp, go_sem]) hH ?_
    show wpAnyH _ _ _ _ _ _ _ ({ tmps := #[.pointer (some ⟨c, 0, none⟩), .agg A0.toArray, .int .i64 ix, .pointer (some ⟨B, 0, none⟩), .pointer (some ⟨B + 1, 0, none⟩), .pointer (some ⟨B + 1 + 1, 0, none⟩), .pointer (some ⟨T, 0, none⟩), .pointer (some ⟨U, 0, none⟩), .pointer (some ⟨P, 0, none⟩), .pointer (some ⟨Q, 0, none⟩), .int .i64 (x : Int), .slice (some ⟨g, 0, none⟩) 9 9, .int .u64 (y : Int), .int .i64 kk, .int .i64 pp, .agg A0.toArray, .func (.func 75) #[] #[.pointer (some ⟨Q + 1, 0, none⟩), .pointer (some ⟨Q + 1 + 1, 0, none⟩)], .int .i64 (x : Int), .slice (some ⟨g, 0, none⟩) 9 9, .tuple #[.int .u64 (y : Int), .int .i64 kk, .int .i64 pp], .pointer (some ⟨c, 0, none⟩), .pointer (some ⟨c, 0, none⟩), .pointer (some ⟨c, 0, none⟩), .pointer (some ⟨h, 0, none⟩), .slice (some ⟨g, 0, none⟩) 9 9, .slice (some ⟨g, 0, none⟩) 8 9, .int .u64 (d : Int), .slice (some ⟨g, 0, none⟩) 9 9, .pointer (some ⟨g, 8, none⟩), .int .u8 (ck : Int), .int .i64 ix, .int .i64 a, .tuple #[.int .u64 (y : Int), .int .i64 kk, .int .i64 pp], .int .u64 (y : Int), .int .i64 kk, .int .i64 pp, .int .i64 (x : Int), undef, undef, undef, undef, undef, undef, undef, undef, undef, undef, undef, undef, undef], defers := [] } : Act) _
    refine take_pure 1 (v := .int .i64 (x : Int)) rfl (by kernel_rfl) rfl (fun w' hw => by simp [execOp, go_sem]) hH ?_
    show wpAnyH _ _ _ _ _ _ _ ({ tmps := #[.pointer (some ⟨c, 0, none⟩), .agg A0.toArray, .int .i64 ix, .pointer (some ⟨B, 0, none⟩), .pointer (some ⟨B + 1, 0, none⟩), .pointer (some ⟨B + 1 + 1, 0, none⟩), .pointer (some ⟨T, 0, none⟩), .pointer (some ⟨U, 0, none⟩), .pointer (some ⟨P, 0, none⟩), .pointer (some ⟨Q, 0, none⟩), .int .i64 (x : Int), .slice (some ⟨g, 0, none⟩) 9 9, .int .u64 (y : Int), .int .i64 kk, .int .i64 pp, .agg A0.toArray, .func (.func 75) #[] #[.pointer (some ⟨Q + 1, 0, none⟩), .pointer (some ⟨Q + 1 + 1, 0, none⟩)], .int .i64 (x : Int), .slice (some ⟨g, 0, none⟩) 9 9, .tuple #[.int .u64 (y : Int), .int .i64 kk, .int .i64 pp], .pointer (some ⟨c, 0, none⟩), .pointer (some ⟨c, 0, none⟩), .pointer (some ⟨c, 0, none⟩), .pointer (some ⟨h, 0, none⟩), .slice (some ⟨g, 0, none⟩) 9 9, .slice (some ⟨g, 0, none⟩) 8 9, .int .u64 (d : Int), .slice (some ⟨g, 0, none⟩) 9 9, .pointer (some ⟨g, 8, none⟩), .int .u8 (ck : Int), .int .i64 ix, .int .i64 a, .tuple #[.int .u64 (y : Int), .int .i64 kk, .int .i64 pp], .int .u64 (y : Int), .int .i64 kk, .int .i64 pp, .int .i64 (x : Int), .int .i64 (x : Int), undef, undef, undef, undef, undef, undef, undef, undef, undef, undef, undef, undef], defers := [] } : Act) _
    refine take_pure 2 (v := .int .u64 (y : Int)) rfl (by kernel_rfl) rfl (fun w' hw => by simp [execOp, go_sem]) hH ?_
    show wpAnyH _ _ _ _ _ _ _ ({ tmps := #[.pointer (some ⟨c, 0, none⟩), .agg A0.toArray, .int .i64 ix, .pointer (some ⟨B, 0, none⟩), .pointer (some ⟨B + 1, 0, none⟩), .pointer (some ⟨B + 1 + 1, 0, none⟩), .pointer (some ⟨T, 0, none⟩), .pointer (some ⟨U, 0, none⟩), .pointer (some ⟨P, 0, none⟩), .pointer (some ⟨Q, 0, none⟩), .int .i64 (x : Int), .slice (some ⟨g, 0, none⟩) 9 9, .int .u64 (y : Int), .int .i64 kk, .int .i64 pp, .agg A0.toArray, .func (.func 75) #[] #[.pointer (some ⟨Q + 1, 0, none⟩), .pointer (some ⟨Q + 1 + 1, 0, none⟩)], .int .i64 (x : Int), .slice (some ⟨g, 0, none⟩) 9 9, .tuple #[.int .u64 (y : Int), .int .i64 kk, .int .i64 pp], .pointer (some ⟨c, 0, none⟩), .pointer (some ⟨c, 0, none⟩), .pointer (some ⟨c, 0, none⟩), .pointer (some ⟨h, 0, none⟩), .slice (some ⟨g, 0, none⟩) 9 9, .slice (some ⟨g, 0, none⟩) 8 9, .int .u64 (d : Int), .slice (some ⟨g, 0, none⟩) 9 9, .pointer (some ⟨g, 8, none⟩), .int .u8 (ck : Int), .int .i64 ix, .int .i64 a, .tuple #[.int .u64 (y : Int), .int .i64 kk, .int .i64 pp], .int .u64 (y : Int), .int .i64 kk, .int .i64 pp, .int .i64 (x : Int), .int .i64 (x : Int), .int .u64 (y : Int), undef, undef, undef, undef, undef, undef, undef, undef, undef, undef, undef], defers := [] } : Act) _
    refine take_pure 3 (v := .int .i64 kk) rfl (by kernel_rfl) rfl (fun w' hw => by simp [execOp, go_sem]) hH ?_
    show wpAnyH _ _ _ _ _ _ _ ({ tmps := #[.pointer (some ⟨c, 0, none⟩), .agg A0.toArray, .int .i64 ix, .pointer (some ⟨B, 0, none⟩), .pointer (some ⟨B + 1, 0, none⟩), .pointer (some ⟨B + 1 + 1, 0, none⟩), .pointer (some ⟨T, 0, none⟩), .pointer (some ⟨U, 0, none⟩), .pointer (some ⟨P, 0, none⟩), .pointer (some ⟨Q, 0, none⟩), .int .i64 (x : Int), .slice (some ⟨g, 0, none⟩) 9 9, .int .u64 (y : Int), .int .i64 kk, .int .i64 pp, .agg A0.toArray, .func (.func 75) #[] #[.pointer (some ⟨Q + 1, 0, none⟩), .pointer (some ⟨Q + 1 + 1, 0, none⟩)], .int .i64 (x : Int), .slice (some ⟨g, 0, none⟩) 9 9, .tuple #[.int .u64 (y : Int), .int .i64 kk, .int .i64 pp], .pointer (some ⟨c, 0, none⟩), .pointer (some ⟨c, 0, none⟩), .pointer (some ⟨c, 0, none⟩), .pointer (some ⟨h, 0, none⟩), .slice (some ⟨g, 0, none⟩) 9 9, .slice (some ⟨g, 0, none⟩) 8 9, .int .u64 (d : Int), .slice (some ⟨g, 0, none⟩) 9 9, .pointer (some ⟨g, 8, none⟩), .int .u8 (ck : Int), .int .i64 ix, .int .i64 a, .tuple #[.int .u64 (y : Int), .int .i64 kk, .int .i64 pp], .int .u64 (y : Int), .int .i64 kk, .int .i64 pp, .int .i64 (x : Int), .int .i64 (x : Int), .int .u64 (y : Int), .int .i64 kk, undef, undef, undef, undef, undef, undef, undef, undef, undef, undef], defers := [] } : Act) _
    refine take_pure 5 (v := .pointer (some ⟨P, x, none⟩)) rfl (by kernel_rfl) rfl (fun w' hw => by simp [execOp, go_sem]; intro h; omega) hH ?_
    show wpAnyH _ _ _ _ _ _ _ ({ tmps := #[.pointer (some ⟨c, 0, none⟩), .agg A0.toArray, .int .i64 ix, .pointer (some ⟨B, 0, none⟩), .pointer (some ⟨B + 1, 0, none⟩), .pointer (some ⟨B + 1 + 1, 0, none⟩), .pointer (some ⟨T, 0, none⟩), .pointer (some ⟨U, 0, none⟩), .pointer (some ⟨P, 0, none⟩), .pointer (some ⟨Q, 0, none⟩), .int .i64 (x : Int), .slice (some ⟨g, 0, none⟩) 9 9, .int .u64 (y : Int), .int .i64 kk, .int .i64 pp, .agg A0.toArray, .func (.func 75) #[] #[.pointer (some ⟨Q + 1, 0, none⟩), .pointer (some ⟨Q + 1 + 1, 0, none⟩)], .int .i64 (x : Int), .slice (some ⟨g, 0, none⟩) 9 9, .tuple #[.int .u64 (y : Int), .int .i64 kk, .int .i64 pp], .pointer (some ⟨c, 0, none⟩), .pointer (some ⟨c, 0, none⟩), .pointer (some ⟨c, 0, none⟩), .pointer (some ⟨h, 0, none⟩), .slice (some ⟨g, 0, none⟩) 9 9, .slice (some ⟨g, 0, none⟩) 8 9, .int .u64 (d : Int), .slice (some ⟨g, 0, none⟩) 9 9, .pointer (some ⟨g, 8, none⟩), .int .u8 (ck : Int), .int .i64 ix, .int .i64 a, .tuple #[.int .u64 (y : Int), .int .i64 kk, .int .i64 pp], .int .u64 (y : Int), .int .i64 kk, .int .i64 pp, .int .i64 (x : Int), .int .i64 (x : Int), .int .u64 (y : Int), .int .i64 kk, undef, .pointer (some ⟨P, x, none⟩), undef, undef, undef, undef, undef, undef, undef, undef], defers := [] } : Act) _
    refine take_one 4 rfl rfl (by kernel_rfl) ?_
    refine wp_contract 44 [.tmp 39] _ rfl (enters_of Tryz.func44 (by kernel_rfl) rfl) [.int .i64 kk] rfl (cO.out _) ?_
    rintro e X1 ⟨rfl, hw⟩
    rw [hw]
    clear hw
    refine ⟨_, rfl, trivial, fun hH => ?_⟩
    show wpAnyH _ _ _ _ _ _ _ ({ tmps := #[.pointer (some ⟨c, 0, none⟩), .agg A0.toArray, .int .i64 ix, .pointer (some ⟨B, 0, none⟩), .pointer (some ⟨B + 1, 0, none⟩), .pointer (some ⟨B + 1 + 1, 0, none⟩), .pointer (some ⟨T, 0, none⟩), .pointer (some ⟨U, 0, none⟩), .pointer (some ⟨P, 0, none⟩), .pointer (some ⟨Q, 0, none⟩), .int .i64 (x : Int), .slice (some ⟨g, 0, none⟩) 9 9, .int .u64 (y : Int), .int .i64 kk, .int .i64 pp, .agg A0.toArray, .func (.func 75) #[] #[.pointer (some ⟨Q + 1, 0, none⟩), .pointer (some ⟨Q + 1 + 1, 0, none⟩)], .int .i64 (x : Int), .slice (some ⟨g, 0, none⟩) 9 9, .tuple #[.int .u64 (y : Int), .int .i64 kk, .int .i64 pp], .pointer (some ⟨c, 0, none⟩), .pointer (some ⟨c, 0, none⟩), .pointer (some ⟨c, 0, none⟩), .pointer (some ⟨h, 0, none⟩), .slice (some ⟨g, 0, none⟩) 9 9, .slice (some ⟨g, 0, none⟩) 8 9, .int .u64 (d : Int), .slice (some ⟨g, 0, none⟩) 9 9, .pointer (some ⟨g, 8, none⟩), .int .u8 (ck : Int), .int .i64 ix, .int .i64 a, .tuple #[.int .u64 (y : Int), .int .i64 kk, .int .i64 pp], .int .u64 (y : Int), .int .i64 kk, .int .i64 pp, .int .i64 (x : Int), .int .i64 (x : Int), .int .u64 (y : Int), .int .i64 kk, .int .i64 kv, .pointer (some ⟨P, x, none⟩), undef, undef, undef, undef, undef, undef, undef, undef], defers := [] } : Act) _
    refine take_one 6 rfl rfl (by kernel_rfl) ?_
    refine wp_store_cell 46 sz_u64 41 38 rfl P x .u64 (y : Int) _ rfl rfl (HI4.out.1.y.cell x hx) (HI4.out.1.y.free x) ?_
    have HJ := HI4.out.1.setY x (y : Int)
    have HKJ := HI4.out.2.setAt (c := P) (.inl rfl) x (.int .u64 (y : Int))
    refine ⟨trivial, fun hH => ?_⟩
    show wpAnyH _ _ _ _ _ _ _ ({ tmps := #[.pointer (some ⟨c, 0, none⟩), .agg A0.toArray, .int .i64 ix, .pointer (some ⟨B, 0, none⟩), .pointer (some ⟨B + 1, 0, none⟩), .pointer (some ⟨B + 1 + 1, 0, none⟩), .pointer (some ⟨T, 0, none⟩), .pointer (some ⟨U, 0, none⟩), .pointer (some ⟨P, 0, none⟩), .pointer (some ⟨Q, 0, none⟩), .int .i64 (x : Int), .slice (some ⟨g, 0, none⟩) 9 9, .int .u64 (y : Int), .int .i64 kk, .int .i64 pp, .agg A0.toArray, .func (.func 75) #[] #[.pointer (some ⟨Q + 1, 0, none⟩), .pointer (some ⟨Q + 1 + 1, 0, none⟩)], .int .i64 (x : Int), .slice (some ⟨g, 0, none⟩) 9 9, .tuple #[.int .u64 (y : Int), .int .i64 kk, .int .i64 pp], .pointer (some ⟨c, 0, none⟩), .pointer (some ⟨c, 0, none⟩), .pointer (some ⟨c, 0, none⟩), .pointer (some ⟨h, 0, none⟩), .slice (some ⟨g, 0, none⟩) 9 9, .slice (some ⟨g, 0, none⟩) 8 9, .int .u64 (d : Int), .slice (some ⟨g, 0, none⟩) 9 9, .pointer (some ⟨g, 8, none⟩), .int .u8 (ck : Int), .int .i64 ix, .int .i64 a, .tuple #[.int .u64 (y : Int), .int .i64 kk, .int .i64 pp], .int .u64 (y : Int), .int .i64 kk, .int .i64 pp, .int .i64 (x : Int), .int .i64 (x : Int), .int .u64 (y : Int), .int .i64 kk, .int .i64 kv, .pointer (some ⟨P, x, none⟩), undef, undef, undef, undef, undef, undef, undef, undef], defers := [] } : Act) _
    refine take_pure 7 (v := .pointer (some ⟨Q, x, none⟩)) rfl (by kernel_rfl) rfl (fun w' hw => by simp [execOp, go_sem]; intro h; omega) hH ?_
    show wpAnyH _ _ _ _ _ _ _ ({ tmps := #[.pointer (some ⟨c, 0, none⟩), .agg A0.toArray, .int .i64 ix, .pointer (some ⟨B, 0, none⟩), .pointer (some ⟨B + 1, 0, none⟩), .pointer (some ⟨B + 1 + 1, 0, none⟩), .pointer (some ⟨T, 0, none⟩), .pointer (some ⟨U, 0, none⟩), .pointer (some ⟨P, 0, none⟩), .pointer (some ⟨Q, 0, none⟩), .int .i64 (x : Int), .slice (some ⟨g, 0, none⟩) 9 9, .int .u64 (y : Int), .int .i64 kk, .int .i64 pp, .agg A0.toArray, .func (.func 75) #[] #[.pointer (some ⟨Q + 1, 0, none⟩), .pointer (some ⟨Q + 1 + 1, 0, none⟩)], .int .i64 (x : Int), .slice (some ⟨g, 0, none⟩) 9 9, .tuple #[.int .u64 (y : Int), .int .i64 kk, .int .i64 pp], .pointer (some ⟨c, 0, none⟩), .pointer (some ⟨c, 0, none⟩), .pointer (some ⟨c, 0, none⟩), .pointer (some ⟨h, 0, none⟩), .slice (some ⟨g, 0, none⟩) 9 9, .slice (some ⟨g, 0, none⟩) 8 9, .int .u64 (d : Int), .slice (some ⟨g, 0, none⟩) 9 9, .pointer (some ⟨g, 8, none⟩), .int .u8 (ck : Int), .int .i64 ix, .int .i64 a, .tuple #[.int .u64 (y : Int), .int .i64 kk, .int .i64 pp], .int .u64 (y : Int), .int .i64 kk, .int .i64 pp, .int .i64 (x : Int), .int .i64 (x : Int), .int .u64 (y : Int), .int .i64 kk, .int .i64 kv, .pointer (some ⟨P, x, none⟩), .pointer (some ⟨Q, x, none⟩), undef, undef, undef, undef, undef, undef, undef], defers := [] } : Act) _
    refine take_one 8 rfl rfl (by kernel_rfl) ?_
    refine wp_store_cell 3 sz_int 42 40 rfl Q x .i64 kv _ rfl rfl (HJ.q.cell x hx) (HJ.q.free x) ?_
    have HJ2 := HJ.setQ x kv
    have HKJ2 := HKJ.setAt (c := Q) (.inr rfl) x (.int .i64 kv)
    refine ⟨trivial, fun hH => ?_⟩
    show wpAnyH _ _ _ _ _ _ _ ({ tmps := #[.pointer (some ⟨c, 0, none⟩), .agg A0.toArray, .int .i64 ix, .pointer (some ⟨B, 0, none⟩), .pointer (some ⟨B + 1, 0, none⟩), .pointer (some ⟨B + 1 + 1, 0, none⟩), .pointer (some ⟨T, 0, none⟩), .pointer (some ⟨U, 0, none⟩), .pointer (some ⟨P, 0, none⟩), .pointer (some ⟨Q, 0, none⟩), .int .i64 (x : Int), .slice (some ⟨g, 0, none⟩) 9 9, .int .u64 (y : Int), .int .i64 kk, .int .i64 pp, .agg A0.toArray, .func (.func 75) #[] #[.pointer (some ⟨Q + 1, 0, none⟩), .pointer (some ⟨Q + 1 + 1, 0, none⟩)], .int .i64 (x : Int), .slice (some ⟨g, 0, none⟩) 9 9, .tuple #[.int .u64 (y : Int), .int .i64 kk, .int .i64 pp], .pointer (some ⟨c, 0, none⟩), .pointer (some ⟨c, 0, none⟩), .pointer (some ⟨c, 0, none⟩), .pointer (some ⟨h, 0, none⟩), .slice (some ⟨g, 0, none⟩) 9 9, .slice (some ⟨g, 0, none⟩) 8 9, .int .u64 (d : Int), .slice (some ⟨g, 0, none⟩) 9 9, .pointer (some ⟨g, 8, none⟩), .int .u8 (ck : Int), .int .i64 ix, .int .i64 a, .tuple #[.int .u64 (y : Int), .int .i64 kk, .int .i64 pp], .int .u64 (y : Int), .int .i64 kk, .int .i64 pp, .int .i64 (x : Int), .int .i64 (x : Int), .int .u64 (y : Int), .int .i64 kk, .int .i64 kv, .pointer (some ⟨P, x, none⟩), .pointer (some ⟨Q, x, none⟩), undef, undef, undef, undef, undef, undef, undef], defers := [] } : Act) _
    exact wpAnyH_done (by kernel_rfl) ⟨HKJ2, HJ2.congr (fun j hj => db_step _ x y HF.out.1 j) (fun j hj => db_step2 _ x kv HF.out.2 j)⟩ _
    --REG7>
  case done =>
    rintro D W hD hI hdef
    go_wp2_with fail
    --<REG8
    have hDU : U < D ∧ T < D ∧ B ≤ D := by have := hI.lt; omega
    have hIe : DbI B T U P Q c h r f ix .u64 8 8 (fun j => (fB R (par ix) j : Int)) (vB R (par ix)) w W := hI.congr (fun j hj => by rw [if_pos hj]) (fun j hj => by rw [if_pos hj])
    have HS : Hid (DbI B T U P Q c h r f ix .u64 8 8 (fun j => (fB R (par ix) j : Int)) (vB R (par ix)) w W.drew ∧ W.drew.heap[D]? = some (.deferred (some []))) := ⟨hIe.next (below_drew1 W), hdef⟩
    obtain ⟨xx, hxx⟩ : ∃ xx, top (vB R (par ix)) 8 = xx := ⟨_, rfl⟩
    obtain ⟨yy, hyy⟩ : ∃ yy, (if xx = 1 then (cnt (vB R (par ix)) 8 : Int) else 0) = yy := ⟨_, rfl⟩
    obtain ⟨O, hO⟩ : ∃ O, tln xx (wby (fB R (par ix))) = O := ⟨_, rfl⟩
    have cF : Hid (∀ W : World, Calls Tryz.prog 46 #[.agg (ints .u64 8 fun i => (fB R (par ix) i : Int)).toArray] W fun e w' => e = .returned (.agg (ints .u8 64 (wby (fB R (par ix)))).toArray) ∧ Below W.heap.size W w') := fun W => fromWords_any (fB R (par ix)) (fun k hk => fx_lt _ _ (Co.dw_lt hR k hk)) W
    have cTg : Hid (∀ W : World, Bk .i64 W Q 8 (vB R (par ix)) → Calls Tryz.prog 47 #[.slice (some ⟨Q, 0, none⟩) 8 8] W fun e w' => e = .returned (.agg (vd2 xx yy).toArray) ∧ Below W.heap.size W w') := fun W hq => by
      have := together_any Q 8 8 (by omega) (vB R (par ix)) (fun j _ => kB_bd _) W hq
      rw [hxx, hyy] at this; exact this
    have cTo : Hid (∀ W : World, Calls Tryz.prog 45 #[.agg (ints .u8 64 (wby (fB R (par ix)))).toArray, .agg (vd2 xx yy).toArray] W fun e w' => e = .returned (.tuple #[.agg (ints .u8 64 O).toArray, .agg (vd2 xx yy).toArray]) ∧ Below W.heap.size W w') := fun W => by
      have := told_any (wby (fB R (par ix))) xx yy W
      rw [hO] at this; exact this
    have HR : Hid (RL = Value.tuple #[.agg (ints .u8 64 O).toArray, .agg (vd2 xx yy).toArray]) := by
      show _ = _
      rw [← HRL.out, hxx, hyy, hO]
    have iY : (Tryz.prog.info? 83).map (·.size) = some (ints .u64 8 fun i => (fB R (par ix) i : Int)).length := by rw [ints_len]; exact infoW
    have jO : (Tryz.prog.info? 23).map (·.size) = some (ints .u8 64 O).toArray.size := by simpa [ints_len] using infoL
    have oO := ints_one .u8 64 O
    have jV : (Tryz.prog.info? 30).map (·.size) = some (vd2 xx yy).toArray.size := by simpa using info10v xx yy
    have oV : (vd2 xx yy).toArray.all (·.oneCell') = true := ints_one .i64 2 _
    obtain ⟨LY, hLY⟩ : ∃ L, (ints .u64 8 fun i => (fB R (par ix) i : Int)) = L := ⟨_, rfl⟩
    obtain ⟨LL, hLL⟩ : ∃ L, ints .u8 64 (wby (fB R (par ix))) = L := ⟨_, rfl⟩
    obtain ⟨LV, hLV⟩ : ∃ L, vd2 xx yy = L := ⟨_, rfl⟩
    obtain ⟨LO, hLO⟩ : ∃ L, ints .u8 64 O = L := ⟨_, rfl⟩
    rw [hLY] at cF iY
    rw [hLL] at cF cTo
    rw [hLV] at cTg cTo jV oV
    rw [hLO] at cTo jO oO
    have HL : Hid ((ints .u64 8 fun i => (fB R (par ix) i : Int)) = LY ∧ ints .u8 64 (wby (fB R (par ix))) = LL ∧ vd2 xx yy = LV ∧ ints .u8 64 O = LO) := ⟨hLY, hLL, hLV, hLO⟩
    clear hI hIe hdef hD hxx hyy hO hLY hLL hLV hLO hN hI3 s3 HRL hT' hU hP hQ
    refine region_ends (by kernel_rfl) (fun W => DbI B T U P Q c h r f ix .u64 8 8 (fun j => (fB R (par ix) j : Int)) (vB R (par ix)) w W ∧ W.heap[D]? = some (.deferred (some []))) (fun a' W' => a' = ({ tmps := #[.pointer (some ⟨c, 0, none⟩), .agg A0.toArray, .int .i64 ix, .pointer (some ⟨B, 0, none⟩), .pointer (some ⟨B + 1, 0, none⟩), .pointer (some ⟨B + 1 + 1, 0, none⟩), .pointer (some ⟨T, 0, none⟩), .pointer (some ⟨U, 0, none⟩), .pointer (some ⟨P, 0, none⟩), .pointer (some ⟨Q, 0, none⟩), undef, undef, undef, undef, undef, .agg A0.toArray, .func (.func 75) #[] #[.pointer (some ⟨Q + 1, 0, none⟩), .pointer (some ⟨Q + 1 + 1, 0, none⟩)], undef, undef, undef, undef, undef, undef, undef, undef, undef, undef, undef, undef, undef, undef, undef, undef, undef, undef, undef, undef, undef, undef, undef, undef, undef, undef, .agg LY.toArray, .agg LL.toArray, .slice (some ⟨Q, 0, none⟩) 8 8, .agg LV.toArray, .tuple #[.agg LO.toArray, .agg LV.toArray], .agg LO.toArray, .agg LV.toArray], defers := [{ target := .collected D, args := #[] }] } : Act) ∧ (Bk .u8 W' T 64 O ∧ Bk .i64 W' U 2 (two xx yy) ∧ Below B w W') ∧ W'.heap[D]? = some (.deferred (some []))) HS.out (fun hH => ?_) ?_
    · skip
      refine take_if 0 (v := .agg LY.toArray) rfl (by kernel_rfl) (yieldsIf_load_mid (by rfl) _ _ rfl P 0 rfl LY _ (fun w' hw => by rw [← HL.out.1]; exact hw.1.y.range) Tryz.underlying83 rfl iY) hH ?_
      show wpAnyH _ _ _ _ _ _ _ ({ tmps := #[.pointer (some ⟨c, 0, none⟩), .agg A0.toArray, .int .i64 ix, .pointer (some ⟨B, 0, none⟩), .pointer (some ⟨B + 1, 0, none⟩), .pointer (some ⟨B + 1 + 1, 0, none⟩), .pointer (some ⟨T, 0, none⟩), .pointer (some ⟨U, 0, none⟩), .pointer (some ⟨P, 0, none⟩), .pointer (some ⟨Q, 0, none⟩), undef, undef, undef, undef, undef, .agg A0.toArray, .func (.func 75) #[] #[.pointer (some ⟨Q + 1, 0, none⟩), .pointer (some ⟨Q + 1 + 1, 0, none⟩)], undef, undef, undef, undef, undef, undef, undef, undef, undef, undef, undef, undef, undef, undef, undef, undef, undef, undef, undef, undef, undef, undef, undef, undef, undef, undef, .agg LY.toArray, undef, undef, undef, undef, undef, undef], defers := [{ target := .collected D, args := #[] }] } : Act) _
      refine take_pure 2 (v := .slice (some ⟨Q, 0, none⟩) 8 8) rfl (by kernel_rfl) rfl (fun w' hw => exec_slice0 _ _ rfl _ _ rfl (cutK8 Q) w') hH ?_
      show wpAnyH _ _ _ _ _ _ _ ({ tmps := #[.pointer (some ⟨c, 0, none⟩), .agg A0.toArray, .int .i64 ix, .pointer (some ⟨B, 0, none⟩), .pointer (some ⟨B + 1, 0, none⟩), .pointer (some ⟨B + 1 + 1, 0, none⟩), .pointer (some ⟨T, 0, none⟩), .pointer (some ⟨U, 0, none⟩), .pointer (some ⟨P, 0, none⟩), .pointer (some ⟨Q, 0, none⟩), undef, undef, undef, undef, undef, .agg A0.toArray, .func (.func 75) #[] #[.pointer (some ⟨Q + 1, 0, none⟩), .pointer (some ⟨Q + 1 + 1, 0, none⟩)], undef, undef, undef, undef, undef, undef, undef, undef, undef, undef, undef, undef, undef, undef, undef, undef, undef, undef, undef, undef, undef, undef, undef, undef, undef, undef, .agg LY.toArray, undef, .slice (some ⟨Q, 0, none⟩) 8 8, undef, undef, undef, undef], defers := [{ target := .collected D, args := #[] }] } : Act) _
      refine take_one 1 rfl rfl (by kernel_rfl) ?_
      refine wp_contract 46 [.tmp 43] _ rfl (enters_of Tryz.func46 (by kernel_rfl) rfl) [.agg LY.toArray] rfl (cF.out _) ?_
      rintro e W' ⟨rfl, b5⟩
      refine ⟨_, rfl, ⟨hH.1.next b5, (b5.block D (Array.getElem?_eq_some_iff.1 hH.2).1).trans hH.2⟩, fun hH => ?_⟩
      show wpAnyH _ _ _ _ _ _ _ ({ tmps := #[.pointer (some ⟨c, 0, none⟩), .agg A0.toArray, .int .i64 ix, .pointer (some ⟨B, 0, none⟩), .pointer (some ⟨B + 1, 0, none⟩), .pointer (some ⟨B + 1 + 1, 0, none⟩), .pointer (some ⟨T, 0, none⟩), .pointer (some ⟨U, 0, none⟩), .pointer (some ⟨P, 0, none⟩), .pointer (some ⟨Q, 0, none⟩), undef, undef, undef, undef, undef, .agg A0.toArray, .func (.func 75) #[] #[.pointer (some ⟨Q + 1, 0, none⟩), .pointer (some ⟨Q + 1 + 1, 0, none⟩)], undef, undef, undef, undef, undef, undef, undef, undef, undef, undef, undef, undef, undef, undef, undef, undef, undef, undef, undef, undef, undef, undef, undef, undef, undef, undef, .agg LY.toArray, .agg LL.toArray, .slice (some ⟨Q, 0, none⟩) 8 8, undef, undef, undef, undef], defers := [{ target := .collected D, args := #[] }] } : Act) _
      refine take_one 3 rfl rfl (by kernel_rfl) ?_
      refine wp_contract 47 [.tmp 45] _ rfl (enters_of Tryz.func47 (by kernel_rfl) rfl) [.slice (some ⟨Q, 0, none⟩) 8 8] rfl (cTg.out _ hH.1.q) ?_
      rintro e W' ⟨rfl, b5⟩
      refine ⟨_, rfl, ⟨hH.1.next b5, (b5.block D (Array.getElem?_eq_some_iff.1 hH.2).1).trans hH.2⟩, fun hH => ?_⟩
      show wpAnyH _ _ _ _ _ _ _ ({ tmps := #[.pointer (some ⟨c, 0, none⟩), .agg A0.toArray, .int .i64 ix, .pointer (some ⟨B, 0, none⟩), .pointer (some ⟨B + 1, 0, none⟩), .pointer (some ⟨B + 1 + 1, 0, none⟩), .pointer (some ⟨T, 0, none⟩), .pointer (some ⟨U, 0, none⟩), .pointer (some ⟨P, 0, none⟩), .pointer (some ⟨Q, 0, none⟩), undef, undef, undef, undef, undef, .agg A0.toArray, .func (.func 75) #[] #[.pointer (some ⟨Q + 1, 0, none⟩), .pointer (some ⟨Q + 1 + 1, 0, none⟩)], undef, undef, undef, undef, undef, undef, undef, undef, undef, undef, undef, undef, undef, undef, undef, undef, undef, undef, undef, undef, undef, undef, undef, undef, undef, undef, .agg LY.toArray, .agg LL.toArray, .slice (some ⟨Q, 0, none⟩) 8 8, .agg LV.toArray, undef, undef, undef], defers := [{ target := .collected D, args := #[] }] } : Act) _
      refine take_one 4 rfl rfl (by kernel_rfl) ?_
      refine wp_contract 45 [.tmp 44, .tmp 46] _ rfl (enters_of Tryz.func45 (by kernel_rfl) rfl) [.agg LL.toArray, .agg LV.toArray] rfl (cTo.out _) ?_
      rintro e W' ⟨rfl, b5⟩
      refine ⟨_, rfl, ⟨hH.1.next b5, (b5.block D (Array.getElem?_eq_some_iff.1 hH.2).1).trans hH.2⟩, fun hH => ?_⟩
      show wpAnyH _ _ _ _ _ _ _ ({ tmps := #[.pointer (some ⟨c, 0, none⟩), .agg A0.toArray, .int .i64 ix, .pointer (some ⟨B, 0, none⟩), .pointer (some ⟨B + 1, 0, none⟩), .pointer (some ⟨B + 1 + 1, 0, none⟩), .pointer (some ⟨T, 0, none⟩), .pointer (some ⟨U, 0, none⟩), .pointer (some ⟨P, 0, none⟩), .pointer (some ⟨Q, 0, none⟩), undef, undef, undef, undef, undef, .agg A0.toArray, .func (.func 75) #[] #[.pointer (some ⟨Q + 1, 0, none⟩), .pointer (some ⟨Q + 1 + 1, 0, none⟩)], undef, undef, undef, undef, undef, undef, undef, undef, undef, undef, undef, undef, undef, undef, undef, undef, undef, undef, undef, undef, undef, undef, undef, undef, undef, undef, .agg LY.toArray, .agg LL.toArray, .slice (some ⟨Q, 0, none⟩) 8 8, .agg LV.toArray, .tuple #[.agg LO.toArray, .agg LV.toArray], undef, undef], defers := [{ target := .collected D, args := #[] }] } : Act) _
      obtain ⟨W0, hW0⟩ : ∃ W0, W' = W0 := ⟨_, rfl⟩
      rw [hW0] at hH ⊢
      clear hW0
      refine take_pure 5 (v := .agg LO.toArray) rfl (by kernel_rfl) rfl (fun w' hw => by simp [execOp, go_sem]) hH ?_
      show wpAnyH _ _ _ _ _ _ _ ({ tmps := #[.pointer (some ⟨c, 0, none⟩), .agg A0.toArray, .int .i64 ix, .pointer (some ⟨B, 0, none⟩), .pointer (some ⟨B + 1, 0, none⟩), .pointer (some ⟨B + 1 + 1, 0, none⟩), .pointer (some ⟨T, 0, none⟩), .pointer (some ⟨U, 0, none⟩), .pointer (some ⟨P, 0, none⟩), .pointer (some ⟨Q, 0, none⟩), undef, undef, undef, undef, undef, .agg A0.toArray, .func (.func 75) #[] #[.pointer (some ⟨Q + 1, 0, none⟩), .pointer (some ⟨Q + 1 + 1, 0, none⟩)], undef, undef, undef, undef, undef, undef, undef, undef, undef, undef, undef, undef, undef, undef, undef, undef, undef, undef, undef, undef, undef, undef, undef, undef, undef, undef, .agg LY.toArray, .agg LL.toArray, .slice (some ⟨Q, 0, none⟩) 8 8, .agg LV.toArray, .tuple #[.agg LO.toArray, .agg LV.toArray], .agg LO.toArray, undef], defers := [{ target := .collected D, args := #[] }] } : Act) _
      refine take_pure 6 (v := .agg LV.toArray) rfl (by kernel_rfl) rfl (fun w' hw => by simp [execOp, go_sem]) hH ?_
      show wpAnyH _ _ _ _ _ _ _ ({ tmps := #[.pointer (some ⟨c, 0, none⟩), .agg A0.toArray, .int .i64 ix, .pointer (some ⟨B, 0, none⟩), .pointer (some ⟨B + 1, 0, none⟩), .pointer (some ⟨B + 1 + 1, 0, none⟩), .pointer (some ⟨T, 0, none⟩), .pointer (some ⟨U, 0, none⟩), .pointer (some ⟨P, 0, none⟩), .pointer (some ⟨Q, 0, none⟩), undef, undef, undef, undef, undef, .agg A0.toArray, .func (.func 75) #[] #[.pointer (some ⟨Q + 1, 0, none⟩), .pointer (some ⟨Q + 1 + 1, 0, none⟩)], undef, undef, undef, undef, undef, undef, undef, undef, undef, undef, undef, undef, undef, undef, undef, undef, undef, undef, undef, undef, undef, undef, undef, undef, undef, undef, .agg LY.toArray, .agg LL.toArray, .slice (some ⟨Q, 0, none⟩) 8 8, .agg LV.toArray, .tuple #[.agg LO.toArray, .agg LV.toArray], .agg LO.toArray, .agg LV.toArray], defers := [{ target := .collected D, args := #[] }] } : Act) _
      have hP := hH.1.putT O
      have hQ := hH.1.out.put (by have := hH.1.lt; omega) (by have := hH.1.lt; omega) (by have := hH.1.lt; omega) O xx yy
      have hDq := (heap_puts U (vd2 xx yy) 0 (W0.setCells T 0 (ints .u8 64 O)) D (by omega)).trans ((heap_puts T (ints .u8 64 O) 0 W0 D (by omega)).trans hH.2)
      have hDp := (heap_puts T (ints .u8 64 O) 0 W0 D (by omega)).trans hH.2
      rw [HL.out.2.2.2] at hP hQ hDq hDp
      rw [HL.out.2.2.1] at hQ hDq
      refine take_one 7 rfl rfl (by kernel_rfl) ?_
      refine wp_store_mid 23 _ _ rfl T 0 LO.toArray rfl rfl (by obtain ⟨X, hX⟩ := hH.1.out.a; rw [← HL.out.2.2.2]; exact hX.there .u8 _) jO oO ?_
      refine ⟨⟨hP, hDp⟩, fun hH => ?_⟩
      show wpAnyH _ _ _ _ _ _ _ ({ tmps := #[.pointer (some ⟨c, 0, none⟩), .agg A0.toArray, .int .i64 ix, .pointer (some ⟨B, 0, none⟩), .pointer (some ⟨B + 1, 0, none⟩), .pointer (some ⟨B + 1 + 1, 0, none⟩), .pointer (some ⟨T, 0, none⟩), .pointer (some ⟨U, 0, none⟩), .pointer (some ⟨P, 0, none⟩), .pointer (some ⟨Q, 0, none⟩), undef, undef, undef, undef, undef, .agg A0.toArray, .func (.func 75) #[] #[.pointer (some ⟨Q + 1, 0, none⟩), .pointer (some ⟨Q + 1 + 1, 0, none⟩)], undef, undef, undef, undef, undef, undef, undef, undef, undef, undef, undef, undef, undef, undef, undef, undef, undef, undef, undef, undef, undef, undef, undef, undef, undef, undef, .agg LY.toArray, .agg LL.toArray, .slice (some ⟨Q, 0, none⟩) 8 8, .agg LV.toArray, .tuple #[.agg LO.toArray, .agg LV.toArray], .agg LO.toArray, .agg LV.toArray], defers := [{ target := .collected D, args := #[] }] } : Act) _
      obtain ⟨W1, hW1⟩ : ∃ W1, W0.setCells T 0 LO = W1 := ⟨_, rfl⟩
      rw [hW1] at hH hQ hDq ⊢
      clear hW1 hP hDp
      have hP := hH.1.putU xx yy
      have hDp := (heap_puts U (vd2 xx yy) 0 W1 D (by omega)).trans hH.2
      rw [HL.out.2.2.1] at hP hDp
      refine take_one 8 rfl rfl (by kernel_rfl) ?_
      refine wp_store_mid 30 _ _ rfl U 0 LV.toArray rfl rfl (by obtain ⟨X, hX⟩ := hH.1.out.c; rw [← HL.out.2.2.1]; exact hX.there .i64 _) jV oV ?_
      refine ⟨⟨hP, hDp⟩, fun hH => ?_⟩
      show wpAnyH _ _ _ _ _ _ _ ({ tmps := #[.pointer (some ⟨c, 0, none⟩), .agg A0.toArray, .int .i64 ix, .pointer (some ⟨B, 0, none⟩), .pointer (some ⟨B + 1, 0, none⟩), .pointer (some ⟨B + 1 + 1, 0, none⟩), .pointer (some ⟨T, 0, none⟩), .pointer (some ⟨U, 0, none⟩), .pointer (some ⟨P, 0, none⟩), .pointer (some ⟨Q, 0, none⟩), undef, undef, undef, undef, undef, .agg A0.toArray, .func (.func 75) #[] #[.pointer (some ⟨Q + 1, 0, none⟩), .pointer (some ⟨Q + 1 + 1, 0, none⟩)], undef, undef, undef, undef, undef, undef, undef, undef, undef, undef, undef, undef, undef, undef, undef, undef, undef, undef, undef, undef, undef, undef, undef, undef, undef, undef, .agg LY.toArray, .agg LL.toArray, .slice (some ⟨Q, 0, none⟩) 8 8, .agg LV.toArray, .tuple #[.agg LO.toArray, .agg LV.toArray], .agg LO.toArray, .agg LV.toArray], defers := [{ target := .collected D, args := #[] }] } : Act) _
      exact wpAnyH_done (by kernel_rfl) ⟨rfl, hQ, hDq⟩ _
    rintro a' W2 ⟨rfl, hQ2, hDd⟩
    go_wp2
    refine ends_any (B := B) (v := .tuple #[.agg (ints .u8 64 O).toArray, .agg (vd2 xx yy).toArray]) (S := fun W => Bk .u8 W T 64 O ∧ Bk .i64 W U 2 (two xx yy) ∧ Below B w W) (fun W W' h k => ⟨h.1.stay k, h.2.1.stay k, below_stay h.2.2 k (Nat.le_refl _)⟩) (fun W h => ?_) (fun W h => ⟨by rw [HR.out], by first | exact h.2.2 | (rw [hB]; exact h.2.2)⟩) [D] _ (by simp) (fun E hE => by obtain rfl := List.mem_singleton.1 hE; exact ⟨hDU.2.2, hDd⟩) hQ2
    obtain ⟨q1, q2⟩ := out2_results h.1 h.2.1
    simp [results, Tryz.f16, asAddr, q1, q2]
    --REG8>
end Go.Proofs.YtoimbjbdkkohcaaGreatDoor
