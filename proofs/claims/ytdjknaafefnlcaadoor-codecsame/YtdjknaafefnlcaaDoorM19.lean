/-
  Texts of one family, one behind another: RwW11, CoW10.
-/
import Derived.Test.YtdjknaafefnlcaaDoorM18

/-
  A chip's bytes set, by the program.
-/
namespace Go.Proofs.YtdjknaafefnlcaaDoor
open Go.RowKit Go.Shelf
attribute [local go_sem] Oper.semAt_some

/-- of the first x words the chip's bytes are set -/
def chK (n : Nat) (c : Nat) (F : Nat → Int) (v : Int) (x j : Nat) : Int := if j % n = c ∧ j / n < x then v else F j
theorem chK_zero (n c : Nat) (F : Nat → Int) (v : Int) (j : Nat) : chK n c F v 0 j = F j := by unfold chK; rw [if_neg (fun h => Nat.not_lt_zero _ h.2)]
theorem chK_step (n c : Nat) (hn : 0 < n) (hc : c < n) (F : Nat → Int) (v : Int) (x j : Nat) : (if j = x * n + c then v else chK n c F v x j) = chK n c F v (x + 1) j := by
  unfold chK
  by_cases e : j = x * n + c
  · subst e
    have h1 : (x * n + c) % n = c := by rw [Nat.mul_comm, Nat.mul_add_mod, Nat.mod_eq_of_lt hc]
    have h2 : (x * n + c) / n = x := by rw [Nat.mul_comm, Nat.mul_add_div hn, Nat.div_eq_of_lt hc]; rfl
    rw [if_pos rfl, if_pos ⟨h1, by omega⟩]
  · rw [if_neg e]
    by_cases h : j % n = c ∧ j / n < x
    · rw [if_pos h, if_pos ⟨h.1, by omega⟩]
    · rw [if_neg h, if_neg]
      rintro ⟨h1, h2⟩
      have h3 : j / n = x := by
        by_cases h4 : j / n < x
        · exact absurd ⟨h1, h4⟩ h
        · omega
      exact e (by rw [← Nat.div_add_mod j n, h3, h1, Nat.mul_comm])
theorem chK_all (n c k : Nat) (F : Nat → Int) (v : Int) (j : Nat) (hn : 0 < n) (hj : j < n * k) : chK n c F v k j = Rw.chp n c F v j := by
  have := Nat.div_lt_of_lt_mul hj
  unfold chK Rw.chp
  by_cases h : j % n = c
  · rw [if_pos ⟨h, this⟩, if_pos ⟨hn, by omega⟩]
  · rw [if_neg (fun e => h e.1), if_neg (fun e => h (by omega))]

/-- between two rounds of Chip -/
structure Ch (B n c : Nat) (F : Nat → Int) (v : Int) (w : World) (x : Nat) (W : World) : Prop where
  r : Bk .u8 W B 72 (chK n c F v x)
  v : Box W (B + 1) (.int .u8 v)
  o : Bk .u8 W (B + 1 + 1) 72 (fun _ => 0)
  below : Below B w W
section
variable {B C n c x : Nat} {F : Nat → Int} {v : Int} {w W W' : World}
theorem Ch.stay (h : Ch B n c F v w x W) (k : Stay C W W') (hC : B ≤ C) : Ch B n c F v w x W' := ⟨h.r.stay k, h.v.stay k, h.o.stay k, below_stay h.below k hC⟩
theorem Ch.step (h : Ch B n c F v w x W) (hn : 0 < n) (hc : c < n) : Ch B n c F v w (x + 1) (W.setCell ⟨B, x * n + c, none⟩ (.int .u8 v)) :=
  ⟨(h.r.set (x * n + c) v).congr fun j _ => chK_step n c hn hc F v x j, h.v.of (Below.heap_setCell W ⟨B, x * n + c, none⟩ _ _ (by simp)), h.o.other (by omega) _ _, h.below.setCell (p := ⟨B, x * n + c, none⟩) (Nat.le_refl _) _⟩
end
theorem chip_boxes (F : Nat → Int) (v : Int) (w V : World) (A0 Z : Array Value) (h0 : (ints .u8 72 F).toArray = A0) (hZ : (ints .u8 72 fun _ => 0).toArray = Z)
    (hV : ((w.alloc (.cells A0 25)).alloc (.cells #[.int .u8 v] 5)).alloc (.cells Z 25) = V) (n c : Nat) :
    Ch w.heap.size n c F v w 0 V ∧ V.heap.size = w.heap.size + 3 := by
  subst h0 hZ hV
  have h1 := Box.new (w.alloc (.cells (ints .u8 72 F).toArray 25)) 5 (.int .u8 v)
  have h2 := Bk.new .u8 ((w.alloc (.cells (ints .u8 72 F).toArray 25)).alloc (.cells #[.int .u8 v] 5)) 72 (fun _ => 0) 25
  simp only [World.size_alloc] at h1 h2
  exact ⟨⟨(((Bk.new .u8 w 72 F _).alloc _).alloc _).congr fun j _ => (chK_zero n c F v j).symm, h1.alloc _, h2, (((Below.refl _ w).alloc (Nat.le_refl _) _).alloc (by simp) _).alloc (by simp; omega) _⟩, by simp⟩
set_option maxRecDepth 100000 in
set_option maxHeartbeats 1000000 in
theorem chipR_yes1 (F : Nat → Int) (v : Int) (c : Nat) (hc : c < 9) (w : World) :
    Calls Tryd.prog 15 #[.agg (ints .u8 72 F).toArray, .int .i64 1, .int .i64 (c : Int), .int .u8 v] w fun e w' => e = .returned (.agg (ints .u8 72 (Rw.chp 9 (c : Int) F v)).toArray) ∧ Below w.heap.size w w' := by
  have hO : Hid (∀ w : World, Calls Tryd.prog 24 #[.int .i64 1, .int .i64 (c : Int)] w fun e w' =>
      e = .returned (.func (.func 51) #[] #[.pointer (some ⟨w.heap.size, 0, none⟩), .pointer (some ⟨w.heap.size + 1, 0, none⟩)]) ∧
      ∃ q, w' = ((w.alloc (.cells #[.int .i64 1] 3)).alloc (.cells #[.int .i64 (c : Int)] 3)).drewN q) := of9_yes .bits (c : Int) ⟨by omega, by omega⟩
  have hz := zeroR
  obtain ⟨A0, hA0⟩ : ∃ A, (ints .u8 72 F).toArray = A := ⟨_, rfl⟩
  obtain ⟨Z, hZ⟩ : ∃ A, (ints .u8 72 fun _ => 0).toArray = A := ⟨_, rfl⟩
  rw [hA0]
  rw [hZ] at hz
  refine (callsIn_wide (n := 10)).1 ?_
  refine callsIn_of_wp_marks Tryd.func15 rfl trivial ?_ rfl
  simp only [Tryd.ntmps15, List.size_toArray, List.length_cons, List.length_nil, Nat.reduceAdd, Nat.reduceSub, Array.replicate_succ, Array.replicate_zero, List.push_toArray, List.append_toArray, List.nil_append, List.cons_append]
  refine wpIn_wide.2 ?_
  go_wp2_with fail
  obtain ⟨V, hV⟩ : ∃ V, ((w.alloc (.cells A0 25)).alloc (.cells #[.int .u8 v] 5)).alloc (.cells Z 25) = V := ⟨_, rfl⟩
  have HI : Hid (Ch w.heap.size 9 c F v w 0 V ∧ V.heap.size = w.heap.size + 3) := chip_boxes F v w V A0 Z hA0 hZ hV 9 c
  obtain ⟨B, hB⟩ : ∃ B, w.heap.size = B := ⟨_, rfl⟩
  rw [hV]
  rw [hB] at HI ⊢
  clear hV hZ hz
  refine (hO.out V).mono ?_
  rintro e V2 ⟨rfl, hV2⟩
  have HV : Hid (Box V2 (B + 1 + 1 + 1) (.int .i64 1) ∧ Box V2 (B + 1 + 1 + 1 + 1) (.int .i64 (c : Int)) ∧ Ch B 9 c F v w 0 V2 ∧ V2.heap.size = B + 5) := by
    obtain ⟨q, rfl⟩ := hV2
    have sV := HI.out.2
    have b1 := Box.new V 3 (.int .i64 1)
    have b2 := Box.new (V.alloc (.cells #[.int .i64 1] 3)) 3 (.int .i64 (c : Int))
    simp only [World.size_alloc] at b2
    rw [sV] at b1 b2
    refine ⟨b1.alloc _, b2, Ch.stay (C := B) HI.out.1 ((Stay.alloc B V _ (by omega)).trans ((Stay.alloc B _ _ (by simp; omega)).trans (Stay.drewN B _ q))) (Nat.le_refl _), ?_⟩
    simp [sV]
  have sV : V.heap.size = B + 1 + 1 + 1 := HI.out.2
  rw [sV]
  clear hV2 HI hO sV
  go_wp2
  have zV := HV.out.2.2.2
  refine (wpIn_wide (n := 10)).1 (rangeC rfl (enters_of Tryd.func51 (by kernel_rfl) rfl) (of2_seq1 (c : Int) (by omega) (by omega) (B + 1 + 1 + 1) (B + 1 + 1 + 1 + 1) V2 HV.out.1 HV.out.2.1) (fun _ => rfl)
    (fun x => x = B) (by rintro x rfl; constructor <;> omega) (by rintro x (rfl | rfl) <;> omega)
    (Ch B 9 c F v w) (fun _ _ _ => False)
    (by rintro x A A' h hs; exact Ch.stay h hs (by omega))
    (fun _ _ _ _ h _ => h.elim) HV.out.2.2.1
    (fun _ _ _ hp _ => absurd trivial hp) ?round ?done (fun _ _ _ _ _ _ _ h => h.elim))
  case round =>
    rintro l x W W2 hx hp h
    have c0 := h.v.1
    have c1 := h.r.cell (x * 9 + c) (by omega)
    have c2 := h.r.free (x * 9 + c)
    have fin : Hid (Keep (fun x => x = B) W2 (W2.setCell ⟨B, x * 9 + c, none⟩ (.int .u8 v)) ∧ Ch B 9 c F v w (x + 1) (W2.setCell ⟨B, x * 9 + c, none⟩ (.int .u8 v))) :=
      ⟨⟨by simp, fun b _ hm => Below.heap_setCell W2 _ _ b (fun e => hm e)⟩, Ch.step h (by omega) hc⟩
    clear h hp HV zV
    gi_wp2
    try (refine ⟨trivial, ?_⟩)
    try gi_wp2
    exact fin.out
  case done =>
    rintro K W hK h hKd
    have HK : Hid (W.heap[K]? = some (.deferred (some []))) := hKd
    obtain ⟨X, hX⟩ : ∃ X, Rw.chp 9 (c : Int) F v = X := ⟨_, rfl⟩
    have HE : Hid (Bk .u8 W B 72 X ∧ Bk .u8 W (B + 1 + 1) 72 (fun _ => 0) ∧ Below B w W) := by
      rw [← hX]
      exact ⟨Bk.congr h.r fun j hj => chK_all 9 c 8 F v j (by omega) (by omega), h.o, h.below⟩
    clear h hKd HV
    have hr := HE.out.1.range
    have ht := HE.out.2.1.there .u8 X
    have hi9 : (Tryd.prog.info? 25).map (·.size) = some (ints .u8 72 X).length := by rw [ints_len]; exact infoR
    have hone := ints_one .u8 72 X
    have HB9 : Hid (Below B w W) := HE.out.2.2
    obtain ⟨L, hL⟩ : ∃ L, ints .u8 72 X = L := ⟨_, rfl⟩
    rw [hL] at hr ht hi9 hone
    have HL : Hid (ints .u8 72 X = L) := hL
    have hs : Hid ((W.setCells (B + 1 + 1) 0 L).rangeAt (B + 1 + 1) 0 L) := World.rangeAt_setCells_same W _ 0 L (by simpa using ht)
    have HKd : Hid ((W.setCells (B + 1 + 1) 0 L).heap[K]? = some (.deferred (some []))) := (heap_puts (B + 1 + 1) L 0 W K (by omega)).trans HK.out
    clear hL HE HK
    go_wp2_with (first | refine wpList_load_mid rfl 25 _ rfl _ 0 rfl L _ hr Tryd.underlying25 rfl hi9 ?_ | refine wpList_store_mid rfl 25 _ _ rfl _ 0 L.toArray rfl rfl ht hi9 hone ?_)
    have hS : Stay (B + 1 + 1) (W.setCells (B + 1 + 1) 0 L) ((W.setCells (B + 1 + 1) 0 L).putObj K (.deferred none)) := Stay.putObj _ HKd.out rfl (by omega)
    have hs2 : ((W.setCells (B + 1 + 1) 0 L).putObj K (.deferred none)).rangeAt (B + 1 + 1) 0 L := fun j v hv => hS.cell (hs.out j v hv)
    have hld := run_loadVar_mid (P := Tryd.prog) ((W.setCells (B + 1 + 1) 0 L).putObj K (.deferred none)) (B + 1 + 1) 0 25 L _ hs2 Tryd.underlying25 rfl hi9
    refine ⟨by simp, .inl ⟨_, _, rfl, run_takeDeferred HKd.out, ?_⟩⟩
    refine ⟨.agg L.toArray, ?_, by rw [hX, HL.out], by rw [hB]; exact below_stay (belows_put (by omega) L 0 HB9.out) hS (by omega)⟩
    simp [results, Tryd.f15, Act.put, asAddr, hld]
set_option maxRecDepth 100000 in
set_option maxHeartbeats 1000000 in
theorem chipR_yes2 (F : Nat → Int) (v : Int) (c : Nat) (hc : c < 36) (w : World) :
    Calls Tryd.prog 15 #[.agg (ints .u8 72 F).toArray, .int .i64 2, .int .i64 (c : Int), .int .u8 v] w fun e w' => e = .returned (.agg (ints .u8 72 (Rw.chp 36 (c : Int) F v)).toArray) ∧ Below w.heap.size w w' := by
  have hO : Hid (∀ w : World, Calls Tryd.prog 24 #[.int .i64 2, .int .i64 (c : Int)] w fun e w' =>
      e = .returned (.func (.func 51) #[] #[.pointer (some ⟨w.heap.size, 0, none⟩), .pointer (some ⟨w.heap.size + 1, 0, none⟩)]) ∧
      ∃ q, w' = ((w.alloc (.cells #[.int .i64 2] 3)).alloc (.cells #[.int .i64 (c : Int)] 3)).drewN q) := of9_yes .chips (c : Int) ⟨by omega, by omega⟩
  have hz := zeroR
  obtain ⟨A0, hA0⟩ : ∃ A, (ints .u8 72 F).toArray = A := ⟨_, rfl⟩
  obtain ⟨Z, hZ⟩ : ∃ A, (ints .u8 72 fun _ => 0).toArray = A := ⟨_, rfl⟩
  rw [hA0]
  rw [hZ] at hz
  refine (callsIn_wide (n := 10)).1 ?_
  refine callsIn_of_wp_marks Tryd.func15 rfl trivial ?_ rfl
  simp only [Tryd.ntmps15, List.size_toArray, List.length_cons, List.length_nil, Nat.reduceAdd, Nat.reduceSub, Array.replicate_succ, Array.replicate_zero, List.push_toArray, List.append_toArray, List.nil_append, List.cons_append]
  refine wpIn_wide.2 ?_
  go_wp2_with fail
  obtain ⟨V, hV⟩ : ∃ V, ((w.alloc (.cells A0 25)).alloc (.cells #[.int .u8 v] 5)).alloc (.cells Z 25) = V := ⟨_, rfl⟩
  have HI : Hid (Ch w.heap.size 36 c F v w 0 V ∧ V.heap.size = w.heap.size + 3) := chip_boxes F v w V A0 Z hA0 hZ hV 36 c
  obtain ⟨B, hB⟩ : ∃ B, w.heap.size = B := ⟨_, rfl⟩
  rw [hV]
  rw [hB] at HI ⊢
  clear hV hZ hz
  refine (hO.out V).mono ?_
  rintro e V2 ⟨rfl, hV2⟩
  have HV : Hid (Box V2 (B + 1 + 1 + 1) (.int .i64 2) ∧ Box V2 (B + 1 + 1 + 1 + 1) (.int .i64 (c : Int)) ∧ Ch B 36 c F v w 0 V2 ∧ V2.heap.size = B + 5) := by
    obtain ⟨q, rfl⟩ := hV2
    have sV := HI.out.2
    have b1 := Box.new V 3 (.int .i64 2)
    have b2 := Box.new (V.alloc (.cells #[.int .i64 2] 3)) 3 (.int .i64 (c : Int))
    simp only [World.size_alloc] at b2
    rw [sV] at b1 b2
    refine ⟨b1.alloc _, b2, Ch.stay (C := B) HI.out.1 ((Stay.alloc B V _ (by omega)).trans ((Stay.alloc B _ _ (by simp; omega)).trans (Stay.drewN B _ q))) (Nat.le_refl _), ?_⟩
    simp [sV]
  have sV : V.heap.size = B + 1 + 1 + 1 := HI.out.2
  rw [sV]
  clear hV2 HI hO sV
  go_wp2
  have zV := HV.out.2.2.2
  refine (wpIn_wide (n := 10)).1 (rangeC rfl (enters_of Tryd.func51 (by kernel_rfl) rfl) (of2_seq2 (c : Int) (by omega) (by omega) (B + 1 + 1 + 1) (B + 1 + 1 + 1 + 1) V2 HV.out.1 HV.out.2.1) (fun _ => rfl)
    (fun x => x = B) (by rintro x rfl; constructor <;> omega) (by rintro x (rfl | rfl) <;> omega)
    (Ch B 36 c F v w) (fun _ _ _ => False)
    (by rintro x A A' h hs; exact Ch.stay h hs (by omega))
    (fun _ _ _ _ h _ => h.elim) HV.out.2.2.1
    (fun _ _ _ hp _ => absurd trivial hp) ?round ?done (fun _ _ _ _ _ _ _ h => h.elim))
  case round =>
    rintro l x W W2 hx hp h
    have c0 := h.v.1
    have c1 := h.r.cell (x * 36 + c) (by omega)
    have c2 := h.r.free (x * 36 + c)
    have fin : Hid (Keep (fun x => x = B) W2 (W2.setCell ⟨B, x * 36 + c, none⟩ (.int .u8 v)) ∧ Ch B 36 c F v w (x + 1) (W2.setCell ⟨B, x * 36 + c, none⟩ (.int .u8 v))) :=
      ⟨⟨by simp, fun b _ hm => Below.heap_setCell W2 _ _ b (fun e => hm e)⟩, Ch.step h (by omega) hc⟩
    clear h hp HV zV
    gi_wp2
    try (refine ⟨trivial, ?_⟩)
    try gi_wp2
    exact fin.out
  case done =>
    rintro K W hK h hKd
    have HK : Hid (W.heap[K]? = some (.deferred (some []))) := hKd
    obtain ⟨X, hX⟩ : ∃ X, Rw.chp 36 (c : Int) F v = X := ⟨_, rfl⟩
    have HE : Hid (Bk .u8 W B 72 X ∧ Bk .u8 W (B + 1 + 1) 72 (fun _ => 0) ∧ Below B w W) := by
      rw [← hX]
      exact ⟨Bk.congr h.r fun j hj => chK_all 36 c 2 F v j (by omega) (by omega), h.o, h.below⟩
    clear h hKd HV
    have hr := HE.out.1.range
    have ht := HE.out.2.1.there .u8 X
    have hi9 : (Tryd.prog.info? 25).map (·.size) = some (ints .u8 72 X).length := by rw [ints_len]; exact infoR
    have hone := ints_one .u8 72 X
    have HB9 : Hid (Below B w W) := HE.out.2.2
    obtain ⟨L, hL⟩ : ∃ L, ints .u8 72 X = L := ⟨_, rfl⟩
    rw [hL] at hr ht hi9 hone
    have HL : Hid (ints .u8 72 X = L) := hL
    have hs : Hid ((W.setCells (B + 1 + 1) 0 L).rangeAt (B + 1 + 1) 0 L) := World.rangeAt_setCells_same W _ 0 L (by simpa using ht)
    have HKd : Hid ((W.setCells (B + 1 + 1) 0 L).heap[K]? = some (.deferred (some []))) := (heap_puts (B + 1 + 1) L 0 W K (by omega)).trans HK.out
    clear hL HE HK
    go_wp2_with (first | refine wpList_load_mid rfl 25 _ rfl _ 0 rfl L _ hr Tryd.underlying25 rfl hi9 ?_ | refine wpList_store_mid rfl 25 _ _ rfl _ 0 L.toArray rfl rfl ht hi9 hone ?_)
    have hS : Stay (B + 1 + 1) (W.setCells (B + 1 + 1) 0 L) ((W.setCells (B + 1 + 1) 0 L).putObj K (.deferred none)) := Stay.putObj _ HKd.out rfl (by omega)
    have hs2 : ((W.setCells (B + 1 + 1) 0 L).putObj K (.deferred none)).rangeAt (B + 1 + 1) 0 L := fun j v hv => hS.cell (hs.out j v hv)
    have hld := run_loadVar_mid (P := Tryd.prog) ((W.setCells (B + 1 + 1) 0 L).putObj K (.deferred none)) (B + 1 + 1) 0 25 L _ hs2 Tryd.underlying25 rfl hi9
    refine ⟨by simp, .inl ⟨_, _, rfl, run_takeDeferred HKd.out, ?_⟩⟩
    refine ⟨.agg L.toArray, ?_, by rw [hX, HL.out], by rw [hB]; exact below_stay (belows_put (by omega) L 0 HB9.out) hS (by omega)⟩
    simp [results, Tryd.f15, Act.put, asAddr, hld]
set_option maxRecDepth 100000 in
set_option maxHeartbeats 1000000 in
theorem chipR_no {m n k : Int} (h : Md m n k) (F : Nat → Int) (v : Int) (c : Int) (hc : ¬ (0 ≤ c ∧ c < n)) (w : World) :
    Calls Tryd.prog 15 #[.agg (ints .u8 72 F).toArray, .int .i64 m, .int .i64 c, .int .u8 v] w fun e w' => e = .returned (.agg (ints .u8 72 F).toArray) ∧ Below w.heap.size w w' := by
  have hO : Hid (∀ w : World, Calls Tryd.prog 24 #[.int .i64 m, .int .i64 c] w fun e w' =>
      e = .returned (.func (.func 50) #[] #[]) ∧ Below w.heap.size w w') := of9_no h c hc
  clear h hc
  have hz := zeroR
  obtain ⟨A0, hA0⟩ : ∃ A, (ints .u8 72 F).toArray = A := ⟨_, rfl⟩
  obtain ⟨Z, hZ⟩ : ∃ A, (ints .u8 72 fun _ => 0).toArray = A := ⟨_, rfl⟩
  rw [hA0]
  rw [hZ] at hz
  refine (callsIn_wide (n := 10)).1 ?_
  refine callsIn_of_wp_marks Tryd.func15 rfl trivial ?_ rfl
  simp only [Tryd.ntmps15, List.size_toArray, List.length_cons, List.length_nil, Nat.reduceAdd, Nat.reduceSub, Array.replicate_succ, Array.replicate_zero, List.push_toArray, List.append_toArray, List.nil_append, List.cons_append]
  refine wpIn_wide.2 ?_
  go_wp2_with fail
  obtain ⟨V, hV⟩ : ∃ V, ((w.alloc (.cells A0 25)).alloc (.cells #[.int .u8 v] 5)).alloc (.cells Z 25) = V := ⟨_, rfl⟩
  have HI : Hid (Ch w.heap.size 1 1 F v w 0 V ∧ V.heap.size = w.heap.size + 3) := chip_boxes F v w V A0 Z hA0 hZ hV 1 1
  obtain ⟨B, hB⟩ : ∃ B, w.heap.size = B := ⟨_, rfl⟩
  rw [hV]
  rw [hB] at HI ⊢
  clear hV hZ hz
  refine (hO.out V).mono ?_
  rintro e V2 ⟨rfl, hV2⟩
  have HV : Hid (Ch B 1 1 F v w 0 V2 ∧ B + 3 ≤ V2.heap.size) := by
    have sV := HI.out.2
    have hz2 := hV2.size
    exact ⟨Ch.stay HI.out.1 (stay_below9 hV2) (by omega), by omega⟩
  clear hV2 HI hO
  go_wp2
  have zV := HV.out.2
  refine (wpIn_wide (n := 10)).1 (rangeC rfl (enters_of Tryd.func50 (by kernel_rfl) rfl) (of1_seq (fun _ => #[.int .i64 0]) (fun _ => True) (fun _ => False) V2) (fun _ => rfl)
    (fun x => x = B) (by rintro x rfl; exact ⟨by omega, fun h => h⟩) (by rintro x h; exact h.elim)
    (Ch B 1 1 F v w) (fun _ _ _ => False)
    (by rintro x A A' h hs; exact Ch.stay h hs (by omega))
    (fun _ _ _ _ h _ => h.elim) HV.out.1
    (fun _ _ _ hp _ => absurd trivial hp) ?round ?done (fun _ _ _ _ _ _ _ h => h.elim))
  case round => exact fun _ _ _ _ hx _ _ => absurd hx (by omega)
  case done =>
    rintro K W hK h hKd
    have HK : Hid (W.heap[K]? = some (.deferred (some []))) := hKd
    obtain ⟨X, hX⟩ : ∃ X, F = X := ⟨_, rfl⟩
    have HE : Hid (Bk .u8 W B 72 X ∧ Bk .u8 W (B + 1 + 1) 72 (fun _ => 0) ∧ Below B w W) := by
      rw [← hX]
      exact ⟨Bk.congr h.r fun j _ => chK_zero 1 1 F v j, h.o, h.below⟩
    have HF : Hid (A0 = (ints .u8 72 F).toArray) := hA0.symm
    clear h hKd HV hA0
    have hr := HE.out.1.range
    have ht := HE.out.2.1.there .u8 X
    have hi9 : (Tryd.prog.info? 25).map (·.size) = some (ints .u8 72 X).length := by rw [ints_len]; exact infoR
    have hone := ints_one .u8 72 X
    have HB9 : Hid (Below B w W) := HE.out.2.2
    obtain ⟨L, hL⟩ : ∃ L, ints .u8 72 X = L := ⟨_, rfl⟩
    rw [hL] at hr ht hi9 hone
    have HL : Hid (ints .u8 72 X = L) := hL
    have hs : Hid ((W.setCells (B + 1 + 1) 0 L).rangeAt (B + 1 + 1) 0 L) := World.rangeAt_setCells_same W _ 0 L (by simpa using ht)
    have HKd : Hid ((W.setCells (B + 1 + 1) 0 L).heap[K]? = some (.deferred (some []))) := (heap_puts (B + 1 + 1) L 0 W K (by omega)).trans HK.out
    clear hL HE HK
    go_wp2_with (first | refine wpList_load_mid rfl 25 _ rfl _ 0 rfl L _ hr Tryd.underlying25 rfl hi9 ?_ | refine wpList_store_mid rfl 25 _ _ rfl _ 0 L.toArray rfl rfl ht hi9 hone ?_)
    have hS : Stay (B + 1 + 1) (W.setCells (B + 1 + 1) 0 L) ((W.setCells (B + 1 + 1) 0 L).putObj K (.deferred none)) := Stay.putObj _ HKd.out rfl (by omega)
    have hs2 : ((W.setCells (B + 1 + 1) 0 L).putObj K (.deferred none)).rangeAt (B + 1 + 1) 0 L := fun j v hv => hS.cell (hs.out j v hv)
    have hld := run_loadVar_mid (P := Tryd.prog) ((W.setCells (B + 1 + 1) 0 L).putObj K (.deferred none)) (B + 1 + 1) 0 25 L _ hs2 Tryd.underlying25 rfl hi9
    refine ⟨by simp, .inl ⟨_, _, rfl, run_takeDeferred HKd.out, ?_⟩⟩
    refine ⟨.agg L.toArray, ?_, by rw [HF.out, hX, HL.out], by rw [hB]; exact below_stay (belows_put (by omega) L 0 HB9.out) hS (by omega)⟩
    simp [results, Tryd.f15, Act.put, asAddr, hld]
theorem chipR_any {m n k : Int} (h : Md m n k) (F : Nat → Int) (v : Int) (c : Int) (w : World) :
    Calls Tryd.prog 15 #[.agg (ints .u8 72 F).toArray, .int .i64 m, .int .i64 c, .int .u8 v] w fun e w' => e = .returned (.agg (ints .u8 72 (Rw.chp n.toNat c F v)).toArray) ∧ Below w.heap.size w w' := by
  by_cases hc : 0 ≤ c ∧ c < n
  · obtain ⟨c', rfl⟩ : ∃ c' : Nat, c = (c' : Int) := ⟨c.toNat, by omega⟩
    rcases h with ⟨rfl, rfl, rfl⟩ | ⟨rfl, rfl, rfl⟩ | ⟨_, _, rfl, rfl⟩
    · exact chipR_yes1 F v c' (by omega) w
    · exact chipR_yes2 F v c' (by omega) w
    · omega
  · rw [← ints_congr .u8 72 F (Rw.chp n.toNat c F v) (fun j _ => by
      unfold Rw.chp
      rw [if_neg]
      rintro ⟨h1, h2⟩
      have h3 := Nat.mod_lt j h1
      exact hc ⟨by omega, by omega⟩)]
    exact chipR_no h F v c hc w
end Go.Proofs.YtdjknaafefnlcaaDoor

/-
  The example; what a law holds.
-/
namespace Go.Proofs.YtdjknaafefnlcaaDoor
open Go.RowKit Go.Shelf
open Po (El toE)
attribute [local go_sem] Oper.semAt_some

theorem eqlL2 (F G : Nat → Int) (hF : Byts 64 F) (hG : Byts 64 G) (b : Bool) (hb : b = true ↔ ∀ i, i < 64 → F i = G i) (w : World) : (binOp .eql 23 (.agg (ints .u8 64 F).toArray) (.agg (ints .u8 64 G).toArray)).run Tryd.prog w = .ok (.bool b) w :=
  eql_ints 23 64 Tryd.underlying23 F G hF hG b hb w
theorem gdL10 : Tryd.prog.eqGuardType Tryd.prog.depth 23 = false := by kernel_rfl
/-- while a law works: a codec; what lies in its variables -/
structure LwS (c h r f : Nat) (L : List (Nat × List Value)) (w W : World) : Prop where
  cc : CcAt W c h r f
  tab : TabW W
  rs : ∀ p ∈ L, At9 W p.1 p.2
  below : Below w.heap.size w W
section
variable {c h r f : Nat} {L : List (Nat × List Value)} {w W W' : World}
theorem LwS.next (H : LwS c h r f L w W) (k : Below W.heap.size W W') : LwS c h r f L w W' :=
  ⟨H.cc.next k, H.tab.next k, fun p hp => (H.rs p hp).next k, H.below.trans (k.mono H.below.size)⟩
/-- two blocks' law: what is laid from a world's end on -/
theorem LwS.over (H : LwS c h r f L w W) (k : ∀ b, b < W.heap.size → W'.heap[b]? = W.heap[b]?) (b : Below w.heap.size w W') : LwS c h r f L w W' :=
  ⟨H.cc.of (k _ H.cc.lt.1) (k _ H.cc.lt.2.1) (k _ H.cc.lt.2.2.1) (k _ H.cc.lt.2.2.2), H.tab.of (k _ H.tab.lt), fun p hp => (H.rs p hp).of (k _ (H.rs p hp).s), b⟩
theorem LwS.cons (H : LwS c h r f L w W) {b : Nat} {A : List Value} (h0 : At9 W b A) : LwS c h r f ((b, A) :: L) w W :=
  ⟨H.cc, H.tab, fun p hp => by
    rcases List.mem_cons.1 hp with rfl | hp
    · exact h0
    · exact H.rs p hp, H.below⟩
theorem LwS.begin {V : World} (H : LwS c h r f [] V W) (hb : Below w.heap.size w V) (hr : ∀ p ∈ L, At9 V p.1 p.2) : LwS c h r f L w W :=
  ⟨H.cc, H.tab, fun p hp => (hr p hp).of (H.below.block _ (hr p hp).s), hb.trans (H.below.mono hb.size)⟩
/-- an array is laid -/
theorem LwS.lay (H : LwS c h r f L w W) (k : IntKind) (n : Nat) (G : Nat → Int) (t : TypeId) {Z : Array Value} (hZ : (ints k n fun _ => 0).toArray = Z) {A : List Value} (hA : ints k n G = A) :
    (W.alloc (.cells Z t)).there W.heap.size 0 A.toArray.size ∧ LwS c h r f ((W.heap.size, A) :: L) w ((W.alloc (.cells Z t)).setCells W.heap.size 0 A) := by
  subst hZ
  subst hA
  have h0 := Bk.new k W n (fun _ => 0) t
  have ha : Below W.heap.size W (W.alloc (.cells (ints k n fun _ => 0).toArray t)) := (Below.refl _ W).alloc (Nat.le_refl _) _
  have hp : Below w.heap.size w ((W.alloc (.cells (ints k n fun _ => 0).toArray t)).setCells W.heap.size 0 (ints k n G)) := belows_put H.below.size _ 0 (H.below.trans (ha.mono H.below.size))
  exact ⟨h0.there k G, LwS.cons (H.over (fun b hb => (heap_puts _ _ 0 _ b (by omega)).trans (ha.block b hb)) hp) (h0.put G).at9⟩
/-- a line and a verdict are laid -/
theorem LwS.lay2 (H : LwS c h r f L w W) (F : Nat → Int) (x y : Int) (t t' : TypeId) {Z : Array Value} (hZ : (ints .u8 64 fun _ => 0).toArray = Z) {A A' : List Value} (hA : ints .u8 64 F = A) (hA' : vd2 x y = A') :
    ((W.alloc (.cells Z t)).alloc (.cells #[.int .i64 0, .int .i64 0] t')).there W.heap.size 0 A.toArray.size ∧ (((W.alloc (.cells Z t)).alloc (.cells #[.int .i64 0, .int .i64 0] t')).setCells W.heap.size 0 A).there (W.heap.size + 1) 0 A'.toArray.size ∧
    LwS c h r f ((W.heap.size + 1, A') :: (W.heap.size, A) :: L) w ((((W.alloc (.cells Z t)).alloc (.cells #[.int .i64 0, .int .i64 0] t')).setCells W.heap.size 0 A).setCells (W.heap.size + 1) 0 A') ∧
    Bk .i64 ((((W.alloc (.cells Z t)).alloc (.cells #[.int .i64 0, .int .i64 0] t')).setCells W.heap.size 0 A).setCells (W.heap.size + 1) 0 A') (W.heap.size + 1) 2 (two x y) := by
  subst hZ
  subst hA
  subst hA'
  have h0 := Bk.new .u8 W 64 (fun _ => 0) t
  have h1 := Bk.new2 (W.alloc (.cells (ints .u8 64 fun _ => 0).toArray t)) 0 0 t'
  simp only [World.size_alloc] at h1
  have h0' := h0.alloc (.cells #[.int .i64 0, .int .i64 0] t')
  obtain ⟨V, hV⟩ : ∃ V, (W.alloc (.cells (ints .u8 64 fun _ => 0).toArray t)).alloc (.cells #[.int .i64 0, .int .i64 0] t') = V := ⟨_, rfl⟩
  have ha : Below W.heap.size W V := by rw [← hV]; exact ((Below.refl _ W).alloc (Nat.le_refl _) _).alloc (by simp) _
  rw [hV] at h1 h0' ⊢
  have h2 := h0'.put F
  have h3 := h1.putOther (c := W.heap.size) (by omega) 0 (ints .u8 64 F)
  have h4 := h3.put (two x y)
  have h5 := h2.putOther (c := W.heap.size + 1) (by omega) 0 (vd2 x y)
  have hp : Below w.heap.size w ((V.setCells W.heap.size 0 (ints .u8 64 F)).setCells (W.heap.size + 1) 0 (vd2 x y)) := belows_put (by have := H.below.size; omega) _ 0 (belows_put H.below.size _ 0 (H.below.trans (ha.mono H.below.size)))
  exact ⟨h0'.there .u8 F, h3.there .i64 _, LwS.cons (LwS.cons (H.over (fun b hb => (heap_puts _ _ 0 _ b (by omega)).trans ((heap_puts _ _ 0 _ b (by omega)).trans (ha.block b hb))) hp) h5.at9) h4.at9, h4⟩
end

set_option maxRecDepth 100000 in
set_option maxHeartbeats 2000000 in
theorem coder_any (w : World) (hT : TabW w) :
    Calls Tryd.prog 9 #[] w fun e w' => ∃ c h r f, e = .returned (.pointer (some ⟨c, 0, none⟩)) ∧ LwS c h r f [] w w' := by
  have hz := zeroR
  have hz2 := zeroL10
  have hz3 := zero10
  have gd := gdR
  have ne : ∀ w, (binOp .neq 25 (.agg (ints .u8 72 fun _ => 0).toArray) (.agg (ints .u8 72 fun _ => 0).toArray)).run Tryd.prog w = .ok (.bool false) w := neqR _ _ (fun _ _ => ⟨Int.le_refl _, show (0 : Int) < 256 by decide⟩) (fun _ _ => ⟨Int.le_refl _, show (0 : Int) < 256 by decide⟩) true ⟨fun _ _ _ => rfl, fun _ => rfl⟩
  have Z64 : Byts 64 (fun _ => 0) := fun _ _ => ⟨Int.le_refl _, show (0 : Int) < 256 by decide⟩
  have Z72 : Byts 72 (fun _ => 0) := fun _ _ => ⟨Int.le_refl _, show (0 : Int) < 256 by decide⟩
  have cE : ∀ (m : Int) (c h r f : Nat) (W : World), CcAt W c h r f → TabW W → Calls Tryd.prog 11 #[.pointer (some ⟨c, 0, none⟩), .int .i64 m, .agg (ints .u8 64 fun _ => 0).toArray, .int .i64 0, .bool false] W fun e w' => e = .returned (.agg (ints .u8 72 fun _ => 0).toArray) ∧ Below W.heap.size W w' := fun m c h r f W H HT => by
    refine (encode10_any c h r f m _ Z64 0 false W H HT).mono ?_
    rintro e w' ⟨R, rfl, hE, hb⟩
    exact ⟨by rw [ints_congr .u8 72 R (fun _ => 0) fun i hi => enc_noughts (fun _ _ => rfl) hE i hi], hb⟩
  have hfl : ∀ i, i < 72 → flR (fun _ => 0) 3 i = if i = 0 then 8 else 0 := fun i hi => by
    rw [flR_at _ Z72 3 i hi]
    by_cases e : i = 0
    · rw [if_pos e, if_pos (by omega)]; rfl
    · rw [if_neg e, if_neg (by omega)]
  have hflb : Byts 72 (flR (fun _ => 0) 3) := fun i hi => by rw [hfl i hi]; split <;> decide
  have cF : Hid (∀ W : World, Calls Tryd.prog 16 #[.agg (ints .u8 72 fun _ => 0).toArray, .int .i64 3] W fun e w' => e = .returned (.agg (ints .u8 72 (flR (fun _ => 0) 3)).toArray) ∧ Below W.heap.size W w') := fun W => flipR_yes _ Z72 3 (by omega) W
  have hd := three_told hfl
  have cD : ∀ (c h r f : Nat) (W : World), CcAt W c h r f → TabW W → Calls Tryd.prog 13 #[.pointer (some ⟨c, 0, none⟩), .int .i64 1, .agg (ints .u8 72 (flR (fun _ => 0) 3)).toArray, .int .i64 0] W fun e w' => e = .returned (.tuple #[.agg (ints .u8 64 (Dl 1 (flR (fun _ => 0) 3) 0)).toArray, .agg (vd2 1 1).toArray]) ∧ Below W.heap.size W w' := fun c h r f W H HT => by
    have := decode10_any c h r f 1 (flR (fun _ => 0) 3) hflb 0 W H HT
    rw [hd.1, hd.2] at this; exact this
  obtain ⟨G, hG⟩ : ∃ G, flR (fun _ => 0) 3 = G := ⟨_, rfl⟩
  rw [hG] at cF
  simp only [hG] at cD
  obtain ⟨DL, hDL⟩ : ∃ D, Dl 1 G 0 = D := ⟨_, rfl⟩
  simp only [hDL] at cD
  obtain ⟨ZR, hZR⟩ : ∃ A, (ints .u8 72 fun _ => 0) = A := ⟨_, rfl⟩
  obtain ⟨ZL, hZL⟩ : ∃ A, (ints .u8 64 fun _ => 0) = A := ⟨_, rfl⟩
  obtain ⟨AG, hAG⟩ : ∃ A, ints .u8 72 G = A := ⟨_, rfl⟩
  obtain ⟨AD, hAD⟩ : ∃ A, ints .u8 64 DL = A := ⟨_, rfl⟩
  obtain ⟨AV, hAV⟩ : ∃ A, vd2 1 1 = A := ⟨_, rfl⟩
  have jD : (Tryd.prog.info? 23).map (·.size) = some AD.toArray.size := by rw [← hAD]; simpa [ints_len] using infoL
  have oD : AD.toArray.all (·.oneCell') = true := by rw [← hAD]; exact ints_one .u8 64 _
  have iV : (Tryd.prog.info? 32).map (·.size) = some AV.length := by rw [← hAV]; exact info10v 1 1
  have jV : (Tryd.prog.info? 32).map (·.size) = some AV.toArray.size := by simpa using iV
  have oV : AV.toArray.all (·.oneCell') = true := by rw [← hAV]; exact ints_one .i64 2 _
  rw [hZR] at hz ne
  rw [hZL] at hz2
  simp only [hZR, hZL] at cE
  rw [hZR, hAG] at cF
  simp only [hAG, hAD, hAV] at cD
  have CE : Hid (∀ (m : Int) (c h r f : Nat) (W : World), CcAt W c h r f → TabW W → Calls Tryd.prog 11 #[.pointer (some ⟨c, 0, none⟩), .int .i64 m, .agg ZL.toArray, .int .i64 0, .bool false] W fun e w' => e = .returned (.agg ZR.toArray) ∧ Below W.heap.size W w') := cE
  have CD : Hid (∀ (c h r f : Nat) (W : World), CcAt W c h r f → TabW W → Calls Tryd.prog 13 #[.pointer (some ⟨c, 0, none⟩), .int .i64 1, .agg AG.toArray, .int .i64 0] W fun e w' => e = .returned (.tuple #[.agg AD.toArray, .agg AV.toArray]) ∧ Below W.heap.size W w') := cD
  have HA : Hid ((ints .u8 64 fun _ => 0).toArray = ZL.toArray ∧ ints .u8 64 DL = AD ∧ vd2 1 1 = AV) := ⟨by rw [hZL], hAD, hAV⟩
  have HT : Hid (TabW w) := hT
  clear cE cD hfl hflb hd hG hDL hZR hZL hAG hAD Z64 Z72 hT
  go_enter Tryd.func9, Tryd.ntmps9
  go_wp2_with fail
  refine (new10_any _).mono ?_
  rintro e V1 ⟨c, h, r, f, rfl, hC, b1, _⟩
  have HS : Hid (LwS c h r f [] w V1) := ⟨hC, HT.out.below b1 HT.out.lt, fun p hp => (by cases hp), b1⟩
  clear hC b1
  go_upto_region 4 with (first
    | (go_at_call 11; refine (CE.out _ c h r f _ HS.out.cc HS.out.tab).mono ?_; rintro e V2 ⟨rfl, b2⟩; replace HS : Hid (LwS c h r f [] w V2) := HS.out.next b2; clear b2))
  clear CE ne gd
  go_wp2_with fail
  refine (cF.out _).mono ?_
  rintro e V3 ⟨rfl, b3⟩
  replace HS : Hid (LwS c h r f [] w V3) := HS.out.next b3
  clear b3 cF
  go_wp2_with fail
  refine (CD.out c h r f _ HS.out.cc HS.out.tab).mono ?_
  rintro e V4 ⟨rfl, b4⟩
  replace HS : Hid (LwS c h r f [] w V4) := HS.out.next b4
  clear b4 CD
  have L2 := HS.out.lay2 DL 1 1 23 32 HA.out.1 HA.out.2.1 HA.out.2.2
  have t1 := L2.1
  have t2 := L2.2.1
  have HL : Hid (LwS c h r f ((V4.heap.size + 1, AV) :: (V4.heap.size, AD) :: []) w ((((V4.alloc (.cells ZL.toArray 23)).alloc (.cells #[.int .i64 0, .int .i64 0] 32)).setCells V4.heap.size 0 AD).setCells (V4.heap.size + 1) 0 AV)) := L2.2.2.1
  clear L2
  go_upto_region 5 with (first | refine wpList_store_mid rfl 23 _ _ rfl V4.heap.size 0 AD.toArray rfl rfl t1 jD oD ?_ | refine wpList_store_mid rfl 32 _ _ rfl (V4.heap.size + 1) 0 AV.toArray rfl rfl t2 jV oV ?_)
  obtain ⟨N, hN⟩ : ∃ N, V4.heap.size + 1 = N := ⟨_, rfl⟩
  obtain ⟨V5, hV5⟩ : ∃ V5, (((V4.alloc (.cells ZL.toArray 23)).alloc (.cells #[.int .i64 0, .int .i64 0] 32)).setCells V4.heap.size 0 AD).setCells (V4.heap.size + 1) 0 AV = V5 := ⟨_, rfl⟩
  rw [hV5, hN] at HL
  rw [hV5, hN]
  have hr : V5.rangeAt N 0 [.int .i64 1, .int .i64 1] := by
    have := (HL.out.rs (N, AV) (by simp)).r
    rw [← HA.out.2.2] at this
    exact this
  have iV2 := info10
  have HE : Hid (LwS c h r f [] w V5) := ⟨HL.out.cc, HL.out.tab, fun p hp => (by cases hp), HL.out.below⟩
  clear hV5 hN HL HS t1 t2
  go_wp2_with (refine wpList_load_mid rfl 32 _ rfl _ 0 rfl _ _ hr Tryd.underlying32 rfl iV2 ?_)
  go_ret
  exact ⟨c, h, r, f, rfl, HE.out⟩
end Go.Proofs.YtdjknaafefnlcaaDoor
