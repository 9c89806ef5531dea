/-
  A chip's bytes set, by the program.
-/
import Derived.Test.YtcpjmfemgdgplaaRwW10
namespace Go.Proofs.Ytcpjmfemgdgplaa
open Go.RowKit Go.Shelf
attribute [local go_sem] Oper.semAt_some

/-- of the first x words the chip's bytes are set -/
def chK (n : Nat) (c : Nat) (F : Nat → Int) (v : Int) (x j : Nat) : Int := if j % n = c ∧ j / n < x then v else F j
theorem chK_zero (n c : Nat) (F : Nat → Int) (v : Int) (j : Nat) : chK n c F v 0 j = F j := by unfold chK; rw [if_neg (fun h => Nat.not_lt_zero _ h.2)]
theorem chK_step (n c : Nat) (hn : 0 < n) (hc : c < n) (F : Nat → Int) (v : Int) (x j : Nat) : (if j = x * n + c then v else chK n c F v x j) = chK n c F v (x + 1) j := by
  unfold chK
  by_cases e : j = x * n + c
  · subst e
    have h1 : (x * n + c) % n = c := by rw [Nat.mul_comm, Nat.mul_add_mod, Nat.mod_eq_of_lt hc]
    have h2 : (x * n + c) / n = x := by rw [Nat.mul_comm, Nat.mul_add_div hn, Nat.div_eq_of_lt hc]; rfl
    rw [if_pos rfl, if_pos ⟨h1, by omega⟩]
  · rw [if_neg e]
    by_cases h : j % n = c ∧ j / n < x
    · rw [if_pos h, if_pos ⟨h.1, by omega⟩]
    · rw [if_neg h, if_neg]
      rintro ⟨h1, h2⟩
      have h3 : j / n = x := by
        by_cases h4 : j / n < x
        · exact absurd ⟨h1, h4⟩ h
        · omega
      exact e (by rw [← Nat.div_add_mod j n, h3, h1, Nat.mul_comm])
theorem chK_all (n c k : Nat) (F : Nat → Int) (v : Int) (j : Nat) (hn : 0 < n) (hj : j < n * k) : chK n c F v k j = Rw.chp n c F v j := by
  have := Nat.div_lt_of_lt_mul hj
  unfold chK Rw.chp
  by_cases h : j % n = c
  · rw [if_pos ⟨h, this⟩, if_pos ⟨hn, by omega⟩]
  · rw [if_neg (fun e => h e.1), if_neg (fun e => h (by omega))]

/-- between two rounds of Chip -/
structure Ch (B n c : Nat) (F : Nat → Int) (v : Int) (w : World) (x : Nat) (W : World) : Prop where
  r : Bk .u8 W B 72 (chK n c F v x)
  v : Box W (B + 1) (.int .u8 v)
  o : Bk .u8 W (B + 1 + 1) 72 (fun _ => 0)
  below : Below B w W
section
variable {B C n c x : Nat} {F : Nat → Int} {v : Int} {w W W' : World}
theorem Ch.stay (h : Ch B n c F v w x W) (k : Stay C W W') (hC : B ≤ C) : Ch B n c F v w x W' := ⟨h.r.stay k, h.v.stay k, h.o.stay k, below_stay h.below k hC⟩
theorem Ch.step (h : Ch B n c F v w x W) (hn : 0 < n) (hc : c < n) : Ch B n c F v w (x + 1) (W.setCell ⟨B, x * n + c, none⟩ (.int .u8 v)) :=
  ⟨(h.r.set (x * n + c) v).congr fun j _ => chK_step n c hn hc F v x j, h.v.of (Below.heap_setCell W ⟨B, x * n + c, none⟩ _ _ (by simp)), h.o.other (by omega) _ _, h.below.setCell (p := ⟨B, x * n + c, none⟩) (Nat.le_refl _) _⟩
end
theorem chip_boxes (F : Nat → Int) (v : Int) (w V : World) (A0 Z : Array Value) (h0 : (ints .u8 72 F).toArray = A0) (hZ : (ints .u8 72 fun _ => 0).toArray = Z)
    (hV : ((w.alloc (.cells A0 40)).alloc (.cells #[.int .u8 v] 5)).alloc (.cells Z 40) = V) (n c : Nat) :
    Ch w.heap.size n c F v w 0 V ∧ V.heap.size = w.heap.size + 3 := by
  subst h0 hZ hV
  have h1 := Box.new (w.alloc (.cells (ints .u8 72 F).toArray 40)) 5 (.int .u8 v)
  have h2 := Bk.new .u8 ((w.alloc (.cells (ints .u8 72 F).toArray 40)).alloc (.cells #[.int .u8 v] 5)) 72 (fun _ => 0) 40
  simp only [World.size_alloc] at h1 h2
  exact ⟨⟨(((Bk.new .u8 w 72 F _).alloc _).alloc _).congr fun j _ => (chK_zero n c F v j).symm, h1.alloc _, h2, (((Below.refl _ w).alloc (Nat.le_refl _) _).alloc (by simp) _).alloc (by simp; omega) _⟩, by simp⟩
set_option maxRecDepth 100000 in
set_option maxHeartbeats 1000000 in
theorem chipR_yes1 (F : Nat → Int) (v : Int) (c : Nat) (hc : c < 9) (w : World) :
    Calls Try.prog 62 #[.agg (ints .u8 72 F).toArray, .int .i64 1, .int .i64 (c : Int), .int .u8 v] w fun e w' => e = .returned (.agg (ints .u8 72 (Rw.chp 9 (c : Int) F v)).toArray) ∧ Below w.heap.size w w' := by
  have hO : Hid (∀ w : World, Calls Try.prog 78 #[.int .i64 1, .int .i64 (c : Int)] w fun e w' =>
      e = .returned (.func (.func 84) #[] #[.pointer (some ⟨w.heap.size, 0, none⟩), .pointer (some ⟨w.heap.size + 1, 0, none⟩)]) ∧
      ∃ q, w' = ((w.alloc (.cells #[.int .i64 1] 3)).alloc (.cells #[.int .i64 (c : Int)] 3)).drewN q) := of9_yes .bits (c : Int) ⟨by omega, by omega⟩
  have hz := zeroR
  obtain ⟨A0, hA0⟩ : ∃ A, (ints .u8 72 F).toArray = A := ⟨_, rfl⟩
  obtain ⟨Z, hZ⟩ : ∃ A, (ints .u8 72 fun _ => 0).toArray = A := ⟨_, rfl⟩
  rw [hA0]
  rw [hZ] at hz
  refine (callsIn_wide (n := 10)).1 ?_
  refine callsIn_of_wp_marks Try.func62 rfl trivial ?_ rfl
  simp only [Try.ntmps62, List.size_toArray, List.length_cons, List.length_nil, Nat.reduceAdd, Nat.reduceSub, Array.replicate_succ, Array.replicate_zero, List.push_toArray, List.append_toArray, List.nil_append, List.cons_append]
  refine wpIn_wide.2 ?_
  go_wp2_with fail
  obtain ⟨V, hV⟩ : ∃ V, ((w.alloc (.cells A0 40)).alloc (.cells #[.int .u8 v] 5)).alloc (.cells Z 40) = V := ⟨_, rfl⟩
  have HI : Hid (Ch w.heap.size 9 c F v w 0 V ∧ V.heap.size = w.heap.size + 3) := chip_boxes F v w V A0 Z hA0 hZ hV 9 c
  obtain ⟨B, hB⟩ : ∃ B, w.heap.size = B := ⟨_, rfl⟩
  rw [hV]
  rw [hB] at HI ⊢
  clear hV hZ hz
  refine (hO.out V).mono ?_
  rintro e V2 ⟨rfl, hV2⟩
  have HV : Hid (Box V2 (B + 1 + 1 + 1) (.int .i64 1) ∧ Box V2 (B + 1 + 1 + 1 + 1) (.int .i64 (c : Int)) ∧ Ch B 9 c F v w 0 V2 ∧ V2.heap.size = B + 5) := by
    obtain ⟨q, rfl⟩ := hV2
    have sV := HI.out.2
    have b1 := Box.new V 3 (.int .i64 1)
    have b2 := Box.new (V.alloc (.cells #[.int .i64 1] 3)) 3 (.int .i64 (c : Int))
    simp only [World.size_alloc] at b2
    rw [sV] at b1 b2
    refine ⟨b1.alloc _, b2, Ch.stay (C := B) HI.out.1 ((Stay.alloc B V _ (by omega)).trans ((Stay.alloc B _ _ (by simp; omega)).trans (Stay.drewN B _ q))) (Nat.le_refl _), ?_⟩
    simp [sV]
  have sV : V.heap.size = B + 1 + 1 + 1 := HI.out.2
  rw [sV]
  clear hV2 HI hO sV
  go_wp2
  have zV := HV.out.2.2.2
  refine (wpIn_wide (n := 10)).1 (rangeC rfl (enters_of Try.func84 (by kernel_rfl) rfl) (of2_seq1 (c : Int) (by omega) (by omega) (B + 1 + 1 + 1) (B + 1 + 1 + 1 + 1) V2 HV.out.1 HV.out.2.1) (fun _ => rfl)
    (fun x => x = B) (by rintro x rfl; constructor <;> omega) (by rintro x (rfl | rfl) <;> omega)
    (Ch B 9 c F v w) (fun _ _ _ => False)
    (by rintro x A A' h hs; exact Ch.stay h hs (by omega))
    (fun _ _ _ _ h _ => h.elim) HV.out.2.2.1
    (fun _ _ _ hp _ => absurd trivial hp) ?round ?done (fun _ _ _ _ _ _ _ h => h.elim))
  case round =>
    rintro l x W W2 hx hp h
    have c0 := h.v.1
    have c1 := h.r.cell (x * 9 + c) (by omega)
    have c2 := h.r.free (x * 9 + c)
    have fin : Hid (Keep (fun x => x = B) W2 (W2.setCell ⟨B, x * 9 + c, none⟩ (.int .u8 v)) ∧ Ch B 9 c F v w (x + 1) (W2.setCell ⟨B, x * 9 + c, none⟩ (.int .u8 v))) :=
      ⟨⟨by simp, fun b _ hm => Below.heap_setCell W2 _ _ b (fun e => hm e)⟩, Ch.step h (by omega) hc⟩
    clear h hp HV zV
    gi_wp2
    try (refine ⟨trivial, ?_⟩)
    try gi_wp2
    exact fin.out
  case done =>
    rintro K W hK h hKd
    have HK : Hid (W.heap[K]? = some (.deferred (some []))) := hKd
    obtain ⟨X, hX⟩ : ∃ X, Rw.chp 9 (c : Int) F v = X := ⟨_, rfl⟩
    have HE : Hid (Bk .u8 W B 72 X ∧ Bk .u8 W (B + 1 + 1) 72 (fun _ => 0) ∧ Below B w W) := by
      rw [← hX]
      exact ⟨Bk.congr h.r fun j hj => chK_all 9 c 8 F v j (by omega) (by omega), h.o, h.below⟩
    clear h hKd HV
    have hr := HE.out.1.range
    have ht := HE.out.2.1.there .u8 X
    have hi9 : (Try.prog.info? 40).map (·.size) = some (ints .u8 72 X).length := by rw [ints_len]; exact infoR
    have hone := ints_one .u8 72 X
    have HB9 : Hid (Below B w W) := HE.out.2.2
    obtain ⟨L, hL⟩ : ∃ L, ints .u8 72 X = L := ⟨_, rfl⟩
    rw [hL] at hr ht hi9 hone
    have HL : Hid (ints .u8 72 X = L) := hL
    have hs : Hid ((W.setCells (B + 1 + 1) 0 L).rangeAt (B + 1 + 1) 0 L) := World.rangeAt_setCells_same W _ 0 L (by simpa using ht)
    have HKd : Hid ((W.setCells (B + 1 + 1) 0 L).heap[K]? = some (.deferred (some []))) := (heap_puts (B + 1 + 1) L 0 W K (by omega)).trans HK.out
    clear hL HE HK
    go_wp2_with (first | refine wpList_load_mid rfl 40 _ rfl _ 0 rfl L _ hr Try.underlying40 rfl hi9 ?_ | refine wpList_store_mid rfl 40 _ _ rfl _ 0 L.toArray rfl rfl ht hi9 hone ?_)
    have hS : Stay (B + 1 + 1) (W.setCells (B + 1 + 1) 0 L) ((W.setCells (B + 1 + 1) 0 L).putObj K (.deferred none)) := Stay.putObj _ HKd.out rfl (by omega)
    have hs2 : ((W.setCells (B + 1 + 1) 0 L).putObj K (.deferred none)).rangeAt (B + 1 + 1) 0 L := fun j v hv => hS.cell (hs.out j v hv)
    have hld := run_loadVar_mid (P := Try.prog) ((W.setCells (B + 1 + 1) 0 L).putObj K (.deferred none)) (B + 1 + 1) 0 40 L _ hs2 Try.underlying40 rfl hi9
    refine ⟨by simp, .inl ⟨_, _, rfl, run_takeDeferred HKd.out, ?_⟩⟩
    refine ⟨.agg L.toArray, ?_, by rw [hX, HL.out], by rw [hB]; exact below_stay (belows_put (by omega) L 0 HB9.out) hS (by omega)⟩
    simp [results, Try.f62, Act.put, asAddr, hld]
set_option maxRecDepth 100000 in
set_option maxHeartbeats 1000000 in
theorem chipR_yes2 (F : Nat → Int) (v : Int) (c : Nat) (hc : c < 36) (w : World) :
    Calls Try.prog 62 #[.agg (ints .u8 72 F).toArray, .int .i64 2, .int .i64 (c : Int), .int .u8 v] w fun e w' => e = .returned (.agg (ints .u8 72 (Rw.chp 36 (c : Int) F v)).toArray) ∧ Below w.heap.size w w' := by
  have hO : Hid (∀ w : World, Calls Try.prog 78 #[.int .i64 2, .int .i64 (c : Int)] w fun e w' =>
      e = .returned (.func (.func 84) #[] #[.pointer (some ⟨w.heap.size, 0, none⟩), .pointer (some ⟨w.heap.size + 1, 0, none⟩)]) ∧
      ∃ q, w' = ((w.alloc (.cells #[.int .i64 2] 3)).alloc (.cells #[.int .i64 (c : Int)] 3)).drewN q) := of9_yes .chips (c : Int) ⟨by omega, by omega⟩
  have hz := zeroR
  obtain ⟨A0, hA0⟩ : ∃ A, (ints .u8 72 F).toArray = A := ⟨_, rfl⟩
  obtain ⟨Z, hZ⟩ : ∃ A, (ints .u8 72 fun _ => 0).toArray = A := ⟨_, rfl⟩
  rw [hA0]
  rw [hZ] at hz
  refine (callsIn_wide (n := 10)).1 ?_
  refine callsIn_of_wp_marks Try.func62 rfl trivial ?_ rfl
  simp only [Try.ntmps62, List.size_toArray, List.length_cons, List.length_nil, Nat.reduceAdd, Nat.reduceSub, Array.replicate_succ, Array.replicate_zero, List.push_toArray, List.append_toArray, List.nil_append, List.cons_append]
  refine wpIn_wide.2 ?_
  go_wp2_with fail
  obtain ⟨V, hV⟩ : ∃ V, ((w.alloc (.cells A0 40)).alloc (.cells #[.int .u8 v] 5)).alloc (.cells Z 40) = V := ⟨_, rfl⟩
  have HI : Hid (Ch w.heap.size 36 c F v w 0 V ∧ V.heap.size = w.heap.size + 3) := chip_boxes F v w V A0 Z hA0 hZ hV 36 c
  obtain ⟨B, hB⟩ : ∃ B, w.heap.size = B := ⟨_, rfl⟩
  rw [hV]
  rw [hB] at HI ⊢
  clear hV hZ hz
  refine (hO.out V).mono ?_
  rintro e V2 ⟨rfl, hV2⟩
  have HV : Hid (Box V2 (B + 1 + 1 + 1) (.int .i64 2) ∧ Box V2 (B + 1 + 1 + 1 + 1) (.int .i64 (c : Int)) ∧ Ch B 36 c F v w 0 V2 ∧ V2.heap.size = B + 5) := by
    obtain ⟨q, rfl⟩ := hV2
    have sV := HI.out.2
    have b1 := Box.new V 3 (.int .i64 2)
    have b2 := Box.new (V.alloc (.cells #[.int .i64 2] 3)) 3 (.int .i64 (c : Int))
    simp only [World.size_alloc] at b2
    rw [sV] at b1 b2
    refine ⟨b1.alloc _, b2, Ch.stay (C := B) HI.out.1 ((Stay.alloc B V _ (by omega)).trans ((Stay.alloc B _ _ (by simp; omega)).trans (Stay.drewN B _ q))) (Nat.le_refl _), ?_⟩
    simp [sV]
  have sV : V.heap.size = B + 1 + 1 + 1 := HI.out.2
  rw [sV]
  clear hV2 HI hO sV
  go_wp2
  have zV := HV.out.2.2.2
  refine (wpIn_wide (n := 10)).1 (rangeC rfl (enters_of Try.func84 (by kernel_rfl) rfl) (of2_seq2 (c : Int) (by omega) (by omega) (B + 1 + 1 + 1) (B + 1 + 1 + 1 + 1) V2 HV.out.1 HV.out.2.1) (fun _ => rfl)
    (fun x => x = B) (by rintro x rfl; constructor <;> omega) (by rintro x (rfl | rfl) <;> omega)
    (Ch B 36 c F v w) (fun _ _ _ => False)
    (by rintro x A A' h hs; exact Ch.stay h hs (by omega))
    (fun _ _ _ _ h _ => h.elim) HV.out.2.2.1
    (fun _ _ _ hp _ => absurd trivial hp) ?round ?done (fun _ _ _ _ _ _ _ h => h.elim))
  case round =>
    rintro l x W W2 hx hp h
    have c0 := h.v.1
    have c1 := h.r.cell (x * 36 + c) (by omega)
    have c2 := h.r.free (x * 36 + c)
    have fin : Hid (Keep (fun x => x = B) W2 (W2.setCell ⟨B, x * 36 + c, none⟩ (.int .u8 v)) ∧ Ch B 36 c F v w (x + 1) (W2.setCell ⟨B, x * 36 + c, none⟩ (.int .u8 v))) :=
      ⟨⟨by simp, fun b _ hm => Below.heap_setCell W2 _ _ b (fun e => hm e)⟩, Ch.step h (by omega) hc⟩
    clear h hp HV zV
    gi_wp2
    try (refine ⟨trivial, ?_⟩)
    try gi_wp2
    exact fin.out
  case done =>
    rintro K W hK h hKd
    have HK : Hid (W.heap[K]? = some (.deferred (some []))) := hKd
    obtain ⟨X, hX⟩ : ∃ X, Rw.chp 36 (c : Int) F v = X := ⟨_, rfl⟩
    have HE : Hid (Bk .u8 W B 72 X ∧ Bk .u8 W (B + 1 + 1) 72 (fun _ => 0) ∧ Below B w W) := by
      rw [← hX]
      exact ⟨Bk.congr h.r fun j hj => chK_all 36 c 2 F v j (by omega) (by omega), h.o, h.below⟩
    clear h hKd HV
    have hr := HE.out.1.range
    have ht := HE.out.2.1.there .u8 X
    have hi9 : (Try.prog.info? 40).map (·.size) = some (ints .u8 72 X).length := by rw [ints_len]; exact infoR
    have hone := ints_one .u8 72 X
    have HB9 : Hid (Below B w W) := HE.out.2.2
    obtain ⟨L, hL⟩ : ∃ L, ints .u8 72 X = L := ⟨_, rfl⟩
    rw [hL] at hr ht hi9 hone
    have HL : Hid (ints .u8 72 X = L) := hL
    have hs : Hid ((W.setCells (B + 1 + 1) 0 L).rangeAt (B + 1 + 1) 0 L) := World.rangeAt_setCells_same W _ 0 L (by simpa using ht)
    have HKd : Hid ((W.setCells (B + 1 + 1) 0 L).heap[K]? = some (.deferred (some []))) := (heap_puts (B + 1 + 1) L 0 W K (by omega)).trans HK.out
    clear hL HE HK
    go_wp2_with (first | refine wpList_load_mid rfl 40 _ rfl _ 0 rfl L _ hr Try.underlying40 rfl hi9 ?_ | refine wpList_store_mid rfl 40 _ _ rfl _ 0 L.toArray rfl rfl ht hi9 hone ?_)
    have hS : Stay (B + 1 + 1) (W.setCells (B + 1 + 1) 0 L) ((W.setCells (B + 1 + 1) 0 L).putObj K (.deferred none)) := Stay.putObj _ HKd.out rfl (by omega)
    have hs2 : ((W.setCells (B + 1 + 1) 0 L).putObj K (.deferred none)).rangeAt (B + 1 + 1) 0 L := fun j v hv => hS.cell (hs.out j v hv)
    have hld := run_loadVar_mid (P := Try.prog) ((W.setCells (B + 1 + 1) 0 L).putObj K (.deferred none)) (B + 1 + 1) 0 40 L _ hs2 Try.underlying40 rfl hi9
    refine ⟨by simp, .inl ⟨_, _, rfl, run_takeDeferred HKd.out, ?_⟩⟩
    refine ⟨.agg L.toArray, ?_, by rw [hX, HL.out], by rw [hB]; exact below_stay (belows_put (by omega) L 0 HB9.out) hS (by omega)⟩
    simp [results, Try.f62, Act.put, asAddr, hld]
set_option maxRecDepth 100000 in
set_option maxHeartbeats 1000000 in
theorem chipR_no {m n k : Int} (h : Md m n k) (F : Nat → Int) (v : Int) (c : Int) (hc : ¬ (0 ≤ c ∧ c < n)) (w : World) :
    Calls Try.prog 62 #[.agg (ints .u8 72 F).toArray, .int .i64 m, .int .i64 c, .int .u8 v] w fun e w' => e = .returned (.agg (ints .u8 72 F).toArray) ∧ Below w.heap.size w w' := by
  have hO : Hid (∀ w : World, Calls Try.prog 78 #[.int .i64 m, .int .i64 c] w fun e w' =>
      e = .returned (.func (.func 83) #[] #[]) ∧ Below w.heap.size w w') := of9_no h c hc
  clear h hc
  have hz := zeroR
  obtain ⟨A0, hA0⟩ : ∃ A, (ints .u8 72 F).toArray = A := ⟨_, rfl⟩
  obtain ⟨Z, hZ⟩ : ∃ A, (ints .u8 72 fun _ => 0).toArray = A := ⟨_, rfl⟩
  rw [hA0]
  rw [hZ] at hz
  refine (callsIn_wide (n := 10)).1 ?_
  refine callsIn_of_wp_marks Try.func62 rfl trivial ?_ rfl
  simp only [Try.ntmps62, List.size_toArray, List.length_cons, List.length_nil, Nat.reduceAdd, Nat.reduceSub, Array.replicate_succ, Array.replicate_zero, List.push_toArray, List.append_toArray, List.nil_append, List.cons_append]
  refine wpIn_wide.2 ?_
  go_wp2_with fail
  obtain ⟨V, hV⟩ : ∃ V, ((w.alloc (.cells A0 40)).alloc (.cells #[.int .u8 v] 5)).alloc (.cells Z 40) = V := ⟨_, rfl⟩
  have HI : Hid (Ch w.heap.size 1 1 F v w 0 V ∧ V.heap.size = w.heap.size + 3) := chip_boxes F v w V A0 Z hA0 hZ hV 1 1
  obtain ⟨B, hB⟩ : ∃ B, w.heap.size = B := ⟨_, rfl⟩
  rw [hV]
  rw [hB] at HI ⊢
  clear hV hZ hz
  refine (hO.out V).mono ?_
  rintro e V2 ⟨rfl, hV2⟩
  have HV : Hid (Ch B 1 1 F v w 0 V2 ∧ B + 3 ≤ V2.heap.size) := by
    have sV := HI.out.2
    have hz2 := hV2.size
    exact ⟨Ch.stay HI.out.1 (stay_below9 hV2) (by omega), by omega⟩
  clear hV2 HI hO
  go_wp2
  have zV := HV.out.2
  refine (wpIn_wide (n := 10)).1 (rangeC rfl (enters_of Try.func83 (by kernel_rfl) rfl) (of1_seq (fun _ => #[.int .i64 0]) (fun _ => True) (fun _ => False) V2) (fun _ => rfl)
    (fun x => x = B) (by rintro x rfl; exact ⟨by omega, fun h => h⟩) (by rintro x h; exact h.elim)
    (Ch B 1 1 F v w) (fun _ _ _ => False)
    (by rintro x A A' h hs; exact Ch.stay h hs (by omega))
    (fun _ _ _ _ h _ => h.elim) HV.out.1
    (fun _ _ _ hp _ => absurd trivial hp) ?round ?done (fun _ _ _ _ _ _ _ h => h.elim))
  case round => exact fun _ _ _ _ hx _ _ => absurd hx (by omega)
  case done =>
    rintro K W hK h hKd
    have HK : Hid (W.heap[K]? = some (.deferred (some []))) := hKd
    obtain ⟨X, hX⟩ : ∃ X, F = X := ⟨_, rfl⟩
    have HE : Hid (Bk .u8 W B 72 X ∧ Bk .u8 W (B + 1 + 1) 72 (fun _ => 0) ∧ Below B w W) := by
      rw [← hX]
      exact ⟨Bk.congr h.r fun j _ => chK_zero 1 1 F v j, h.o, h.below⟩
    have HF : Hid (A0 = (ints .u8 72 F).toArray) := hA0.symm
    clear h hKd HV hA0
    have hr := HE.out.1.range
    have ht := HE.out.2.1.there .u8 X
    have hi9 : (Try.prog.info? 40).map (·.size) = some (ints .u8 72 X).length := by rw [ints_len]; exact infoR
    have hone := ints_one .u8 72 X
    have HB9 : Hid (Below B w W) := HE.out.2.2
    obtain ⟨L, hL⟩ : ∃ L, ints .u8 72 X = L := ⟨_, rfl⟩
    rw [hL] at hr ht hi9 hone
    have HL : Hid (ints .u8 72 X = L) := hL
    have hs : Hid ((W.setCells (B + 1 + 1) 0 L).rangeAt (B + 1 + 1) 0 L) := World.rangeAt_setCells_same W _ 0 L (by simpa using ht)
    have HKd : Hid ((W.setCells (B + 1 + 1) 0 L).heap[K]? = some (.deferred (some []))) := (heap_puts (B + 1 + 1) L 0 W K (by omega)).trans HK.out
    clear hL HE HK
    go_wp2_with (first | refine wpList_load_mid rfl 40 _ rfl _ 0 rfl L _ hr Try.underlying40 rfl hi9 ?_ | refine wpList_store_mid rfl 40 _ _ rfl _ 0 L.toArray rfl rfl ht hi9 hone ?_)
    have hS : Stay (B + 1 + 1) (W.setCells (B + 1 + 1) 0 L) ((W.setCells (B + 1 + 1) 0 L).putObj K (.deferred none)) := Stay.putObj _ HKd.out rfl (by omega)
    have hs2 : ((W.setCells (B + 1 + 1) 0 L).putObj K (.deferred none)).rangeAt (B + 1 + 1) 0 L := fun j v hv => hS.cell (hs.out j v hv)
    have hld := run_loadVar_mid (P := Try.prog) ((W.setCells (B + 1 + 1) 0 L).putObj K (.deferred none)) (B + 1 + 1) 0 40 L _ hs2 Try.underlying40 rfl hi9
    refine ⟨by simp, .inl ⟨_, _, rfl, run_takeDeferred HKd.out, ?_⟩⟩
    refine ⟨.agg L.toArray, ?_, by rw [HF.out, hX, HL.out], by rw [hB]; exact below_stay (belows_put (by omega) L 0 HB9.out) hS (by omega)⟩
    simp [results, Try.f62, Act.put, asAddr, hld]
theorem chipR_any {m n k : Int} (h : Md m n k) (F : Nat → Int) (v : Int) (c : Int) (w : World) :
    Calls Try.prog 62 #[.agg (ints .u8 72 F).toArray, .int .i64 m, .int .i64 c, .int .u8 v] w fun e w' => e = .returned (.agg (ints .u8 72 (Rw.chp n.toNat c F v)).toArray) ∧ Below w.heap.size w w' := by
  by_cases hc : 0 ≤ c ∧ c < n
  · obtain ⟨c', rfl⟩ : ∃ c' : Nat, c = (c' : Int) := ⟨c.toNat, by omega⟩
    rcases h with ⟨rfl, rfl, rfl⟩ | ⟨rfl, rfl, rfl⟩ | ⟨_, _, rfl, rfl⟩
    · exact chipR_yes1 F v c' (by omega) w
    · exact chipR_yes2 F v c' (by omega) w
    · omega
  · rw [← ints_congr .u8 72 F (Rw.chp n.toNat c F v) (fun j _ => by
      unfold Rw.chp
      rw [if_neg]
      rintro ⟨h1, h2⟩
      have h3 := Nat.mod_lt j h1
      exact hc ⟨by omega, by omega⟩)]
    exact chipR_no h F v c hc w
end Go.Proofs.Ytcpjmfemgdgplaa
