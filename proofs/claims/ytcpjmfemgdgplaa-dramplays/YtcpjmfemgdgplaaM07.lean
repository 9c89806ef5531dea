/-
  Texts of one family, one behind another: RwW11, RwW12.
-/
import Derived.Test.YtcpjmfemgdgplaaM06

/-
  A chip's bytes set, by the program.
-/
namespace Go.Proofs.Ytcpjmfemgdgplaa
open Go.RowKit Go.Shelf
attribute [local go_sem] Oper.semAt_some

/-- of the first x words the chip's bytes are set -/
def chK (n : Nat) (c : Nat) (F : Nat → Int) (v : Int) (x j : Nat) : Int := if j % n = c ∧ j / n < x then v else F j
theorem chK_zero (n c : Nat) (F : Nat → Int) (v : Int) (j : Nat) : chK n c F v 0 j = F j := by unfold chK; rw [if_neg (fun h => Nat.not_lt_zero _ h.2)]
theorem chK_step (n c : Nat) (hn : 0 < n) (hc : c < n) (F : Nat → Int) (v : Int) (x j : Nat) : (if j = x * n + c then v else chK n c F v x j) = chK n c F v (x + 1) j := by
  unfold chK
  by_cases e : j = x * n + c
  · subst e
    have h1 : (x * n + c) % n = c := by rw [Nat.mul_comm, Nat.mul_add_mod, Nat.mod_eq_of_lt hc]
    have h2 : (x * n + c) / n = x := by rw [Nat.mul_comm, Nat.mul_add_div hn, Nat.div_eq_of_lt hc]; rfl
    rw [if_pos rfl, if_pos ⟨h1, by omega⟩]
  · rw [if_neg e]
    by_cases h : j % n = c ∧ j / n < x
    · rw [if_pos h, if_pos ⟨h.1, by omega⟩]
    · rw [if_neg h, if_neg]
      rintro ⟨h1, h2⟩
      have h3 : j / n = x := by
        by_cases h4 : j / n < x
        · exact absurd ⟨h1, h4⟩ h
        · omega
      exact e (by rw [← Nat.div_add_mod j n, h3, h1, Nat.mul_comm])
theorem chK_all (n c k : Nat) (F : Nat → Int) (v : Int) (j : Nat) (hn : 0 < n) (hj : j < n * k) : chK n c F v k j = Rw.chp n c F v j := by
  have := Nat.div_lt_of_lt_mul hj
  unfold chK Rw.chp
  by_cases h : j % n = c
  · rw [if_pos ⟨h, this⟩, if_pos ⟨hn, by omega⟩]
  · rw [if_neg (fun e => h e.1), if_neg (fun e => h (by omega))]

/-- between two rounds of Chip -/
structure Ch (B n c : Nat) (F : Nat → Int) (v : Int) (w : World) (x : Nat) (W : World) : Prop where
  r : Bk .u8 W B 72 (chK n c F v x)
  v : Box W (B + 1) (.int .u8 v)
  o : Bk .u8 W (B + 1 + 1) 72 (fun _ => 0)
  below : Below B w W
section
variable {B C n c x : Nat} {F : Nat → Int} {v : Int} {w W W' : World}
theorem Ch.stay (h : Ch B n c F v w x W) (k : Stay C W W') (hC : B ≤ C) : Ch B n c F v w x W' := ⟨h.r.stay k, h.v.stay k, h.o.stay k, below_stay h.below k hC⟩
theorem Ch.step (h : Ch B n c F v w x W) (hn : 0 < n) (hc : c < n) : Ch B n c F v w (x + 1) (W.setCell ⟨B, x * n + c, none⟩ (.int .u8 v)) :=
  ⟨(h.r.set (x * n + c) v).congr fun j _ => chK_step n c hn hc F v x j, h.v.of (Below.heap_setCell W ⟨B, x * n + c, none⟩ _ _ (by simp)), h.o.other (by omega) _ _, h.below.setCell (p := ⟨B, x * n + c, none⟩) (Nat.le_refl _) _⟩
end
theorem chip_boxes (F : Nat → Int) (v : Int) (w V : World) (A0 Z : Array Value) (h0 : (ints .u8 72 F).toArray = A0) (hZ : (ints .u8 72 fun _ => 0).toArray = Z)
    (hV : ((w.alloc (.cells A0 40)).alloc (.cells #[.int .u8 v] 5)).alloc (.cells Z 40) = V) (n c : Nat) :
    Ch w.heap.size n c F v w 0 V ∧ V.heap.size = w.heap.size + 3 := by
  subst h0 hZ hV
  have h1 := Box.new (w.alloc (.cells (ints .u8 72 F).toArray 40)) 5 (.int .u8 v)
  have h2 := Bk.new .u8 ((w.alloc (.cells (ints .u8 72 F).toArray 40)).alloc (.cells #[.int .u8 v] 5)) 72 (fun _ => 0) 40
  simp only [World.size_alloc] at h1 h2
  exact ⟨⟨(((Bk.new .u8 w 72 F _).alloc _).alloc _).congr fun j _ => (chK_zero n c F v j).symm, h1.alloc _, h2, (((Below.refl _ w).alloc (Nat.le_refl _) _).alloc (by simp) _).alloc (by simp; omega) _⟩, by simp⟩
set_option maxRecDepth 100000 in
set_option maxHeartbeats 1000000 in
theorem chipR_yes1 (F : Nat → Int) (v : Int) (c : Nat) (hc : c < 9) (w : World) :
    Calls Try.prog 62 #[.agg (ints .u8 72 F).toArray, .int .i64 1, .int .i64 (c : Int), .int .u8 v] w fun e w' => e = .returned (.agg (ints .u8 72 (Rw.chp 9 (c : Int) F v)).toArray) ∧ Below w.heap.size w w' := by
  have hO : Hid (∀ w : World, Calls Try.prog 78 #[.int .i64 1, .int .i64 (c : Int)] w fun e w' =>
      e = .returned (.func (.func 84) #[] #[.pointer (some ⟨w.heap.size, 0, none⟩), .pointer (some ⟨w.heap.size + 1, 0, none⟩)]) ∧
      ∃ q, w' = ((w.alloc (.cells #[.int .i64 1] 3)).alloc (.cells #[.int .i64 (c : Int)] 3)).drewN q) := of9_yes .bits (c : Int) ⟨by omega, by omega⟩
  have hz := zeroR
  obtain ⟨A0, hA0⟩ : ∃ A, (ints .u8 72 F).toArray = A := ⟨_, rfl⟩
  obtain ⟨Z, hZ⟩ : ∃ A, (ints .u8 72 fun _ => 0).toArray = A := ⟨_, rfl⟩
  rw [hA0]
  rw [hZ] at hz
  refine (callsIn_wide (n := 10)).1 ?_
  refine callsIn_of_wp_marks Try.func62 rfl trivial ?_ rfl
  simp only [Try.ntmps62, List.size_toArray, List.length_cons, List.length_nil, Nat.reduceAdd, Nat.reduceSub, Array.replicate_succ, Array.replicate_zero, List.push_toArray, List.append_toArray, List.nil_append, List.cons_append]
  refine wpIn_wide.2 ?_
  go_wp2_with fail
  obtain ⟨V, hV⟩ : ∃ V, ((w.alloc (.cells A0 40)).alloc (.cells #[.int .u8 v] 5)).alloc (.cells Z 40) = V := ⟨_, rfl⟩
  have HI : Hid (Ch w.heap.size 9 c F v w 0 V ∧ V.heap.size = w.heap.size + 3) := chip_boxes F v w V A0 Z hA0 hZ hV 9 c
  obtain ⟨B, hB⟩ : ∃ B, w.heap.size = B := ⟨_, rfl⟩
  rw [hV]
  rw [hB] at HI ⊢
  clear hV hZ hz
  refine (hO.out V).mono ?_
  rintro e V2 ⟨rfl, hV2⟩
  have HV : Hid (Box V2 (B + 1 + 1 + 1) (.int .i64 1) ∧ Box V2 (B + 1 + 1 + 1 + 1) (.int .i64 (c : Int)) ∧ Ch B 9 c F v w 0 V2 ∧ V2.heap.size = B + 5) := by
    obtain ⟨q, rfl⟩ := hV2
    have sV := HI.out.2
    have b1 := Box.new V 3 (.int .i64 1)
    have b2 := Box.new (V.alloc (.cells #[.int .i64 1] 3)) 3 (.int .i64 (c : Int))
    simp only [World.size_alloc] at b2
    rw [sV] at b1 b2
    refine ⟨b1.alloc _, b2, Ch.stay (C := B) HI.out.1 ((Stay.alloc B V _ (by omega)).trans ((Stay.alloc B _ _ (by simp; omega)).trans (Stay.drewN B _ q))) (Nat.le_refl _), ?_⟩
    simp [sV]
  have sV : V.heap.size = B + 1 + 1 + 1 := HI.out.2
  rw [sV]
  clear hV2 HI hO sV
  go_wp2
  have zV := HV.out.2.2.2
  refine (wpIn_wide (n := 10)).1 (rangeC rfl (enters_of Try.func84 (by kernel_rfl) rfl) (of2_seq1 (c : Int) (by omega) (by omega) (B + 1 + 1 + 1) (B + 1 + 1 + 1 + 1) V2 HV.out.1 HV.out.2.1) (fun _ => rfl)
    (fun x => x = B) (by rintro x rfl; constructor <;> omega) (by rintro x (rfl | rfl) <;> omega)
    (Ch B 9 c F v w) (fun _ _ _ => False)
    (by rintro x A A' h hs; exact Ch.stay h hs (by omega))
    (fun _ _ _ _ h _ => h.elim) HV.out.2.2.1
    (fun _ _ _ hp _ => absurd trivial hp) ?round ?done (fun _ _ _ _ _ _ _ h => h.elim))
  case round =>
    rintro l x W W2 hx hp h
    have c0 := h.v.1
    have c1 := h.r.cell (x * 9 + c) (by omega)
    have c2 := h.r.free (x * 9 + c)
    have fin : Hid (Keep (fun x => x = B) W2 (W2.setCell ⟨B, x * 9 + c, none⟩ (.int .u8 v)) ∧ Ch B 9 c F v w (x + 1) (W2.setCell ⟨B, x * 9 + c, none⟩ (.int .u8 v))) :=
      ⟨⟨by simp, fun b _ hm => Below.heap_setCell W2 _ _ b (fun e => hm e)⟩, Ch.step h (by omega) hc⟩
    clear h hp HV zV
    gi_wp2
    try (refine ⟨trivial, ?_⟩)
    try gi_wp2
    exact fin.out
  case done =>
    rintro K W hK h hKd
    have HK : Hid (W.heap[K]? = some (.deferred (some []))) := hKd
    obtain ⟨X, hX⟩ : ∃ X, Rw.chp 9 (c : Int) F v = X := ⟨_, rfl⟩
    have HE : Hid (Bk .u8 W B 72 X ∧ Bk .u8 W (B + 1 + 1) 72 (fun _ => 0) ∧ Below B w W) := by
      rw [← hX]
      exact ⟨Bk.congr h.r fun j hj => chK_all 9 c 8 F v j (by omega) (by omega), h.o, h.below⟩
    clear h hKd HV
    have hr := HE.out.1.range
    have ht := HE.out.2.1.there .u8 X
    have hi9 : (Try.prog.info? 40).map (·.size) = some (ints .u8 72 X).length := by rw [ints_len]; exact infoR
    have hone := ints_one .u8 72 X
    have HB9 : Hid (Below B w W) := HE.out.2.2
    obtain ⟨L, hL⟩ : ∃ L, ints .u8 72 X = L := ⟨_, rfl⟩
    rw [hL] at hr ht hi9 hone
    have HL : Hid (ints .u8 72 X = L) := hL
    have hs : Hid ((W.setCells (B + 1 + 1) 0 L).rangeAt (B + 1 + 1) 0 L) := World.rangeAt_setCells_same W _ 0 L (by simpa using ht)
    have HKd : Hid ((W.setCells (B + 1 + 1) 0 L).heap[K]? = some (.deferred (some []))) := (heap_puts (B + 1 + 1) L 0 W K (by omega)).trans HK.out
    clear hL HE HK
    go_wp2_with (first | refine wpList_load_mid rfl 40 _ rfl _ 0 rfl L _ hr Try.underlying40 rfl hi9 ?_ | refine wpList_store_mid rfl 40 _ _ rfl _ 0 L.toArray rfl rfl ht hi9 hone ?_)
    have hS : Stay (B + 1 + 1) (W.setCells (B + 1 + 1) 0 L) ((W.setCells (B + 1 + 1) 0 L).putObj K (.deferred none)) := Stay.putObj _ HKd.out rfl (by omega)
    have hs2 : ((W.setCells (B + 1 + 1) 0 L).putObj K (.deferred none)).rangeAt (B + 1 + 1) 0 L := fun j v hv => hS.cell (hs.out j v hv)
    have hld := run_loadVar_mid (P := Try.prog) ((W.setCells (B + 1 + 1) 0 L).putObj K (.deferred none)) (B + 1 + 1) 0 40 L _ hs2 Try.underlying40 rfl hi9
    refine ⟨by simp, .inl ⟨_, _, rfl, run_takeDeferred HKd.out, ?_⟩⟩
    refine ⟨.agg L.toArray, ?_, by rw [hX, HL.out], by rw [hB]; exact below_stay (belows_put (by omega) L 0 HB9.out) hS (by omega)⟩
    simp [results, Try.f62, Act.put, asAddr, hld]
set_option maxRecDepth 100000 in
set_option maxHeartbeats 1000000 in
theorem chipR_yes2 (F : Nat → Int) (v : Int) (c : Nat) (hc : c < 36) (w : World) :
    Calls Try.prog 62 #[.agg (ints .u8 72 F).toArray, .int .i64 2, .int .i64 (c : Int), .int .u8 v] w fun e w' => e = .returned (.agg (ints .u8 72 (Rw.chp 36 (c : Int) F v)).toArray) ∧ Below w.heap.size w w' := by
  have hO : Hid (∀ w : World, Calls Try.prog 78 #[.int .i64 2, .int .i64 (c : Int)] w fun e w' =>
      e = .returned (.func (.func 84) #[] #[.pointer (some ⟨w.heap.size, 0, none⟩), .pointer (some ⟨w.heap.size + 1, 0, none⟩)]) ∧
      ∃ q, w' = ((w.alloc (.cells #[.int .i64 2] 3)).alloc (.cells #[.int .i64 (c : Int)] 3)).drewN q) := of9_yes .chips (c : Int) ⟨by omega, by omega⟩
  have hz := zeroR
  obtain ⟨A0, hA0⟩ : ∃ A, (ints .u8 72 F).toArray = A := ⟨_, rfl⟩
  obtain ⟨Z, hZ⟩ : ∃ A, (ints .u8 72 fun _ => 0).toArray = A := ⟨_, rfl⟩
  rw [hA0]
  rw [hZ] at hz
  refine (callsIn_wide (n := 10)).1 ?_
  refine callsIn_of_wp_marks Try.func62 rfl trivial ?_ rfl
  simp only [Try.ntmps62, List.size_toArray, List.length_cons, List.length_nil, Nat.reduceAdd, Nat.reduceSub, Array.replicate_succ, Array.replicate_zero, List.push_toArray, List.append_toArray, List.nil_append, List.cons_append]
  refine wpIn_wide.2 ?_
  go_wp2_with fail
  obtain ⟨V, hV⟩ : ∃ V, ((w.alloc (.cells A0 40)).alloc (.cells #[.int .u8 v] 5)).alloc (.cells Z 40) = V := ⟨_, rfl⟩
  have HI : Hid (Ch w.heap.size 36 c F v w 0 V ∧ V.heap.size = w.heap.size + 3) := chip_boxes F v w V A0 Z hA0 hZ hV 36 c
  obtain ⟨B, hB⟩ : ∃ B, w.heap.size = B := ⟨_, rfl⟩
  rw [hV]
  rw [hB] at HI ⊢
  clear hV hZ hz
  refine (hO.out V).mono ?_
  rintro e V2 ⟨rfl, hV2⟩
  have HV : Hid (Box V2 (B + 1 + 1 + 1) (.int .i64 2) ∧ Box V2 (B + 1 + 1 + 1 + 1) (.int .i64 (c : Int)) ∧ Ch B 36 c F v w 0 V2 ∧ V2.heap.size = B + 5) := by
    obtain ⟨q, rfl⟩ := hV2
    have sV := HI.out.2
    have b1 := Box.new V 3 (.int .i64 2)
    have b2 := Box.new (V.alloc (.cells #[.int .i64 2] 3)) 3 (.int .i64 (c : Int))
    simp only [World.size_alloc] at b2
    rw [sV] at b1 b2
    refine ⟨b1.alloc _, b2, Ch.stay (C := B) HI.out.1 ((Stay.alloc B V _ (by omega)).trans ((Stay.alloc B _ _ (by simp; omega)).trans (Stay.drewN B _ q))) (Nat.le_refl _), ?_⟩
    simp [sV]
  have sV : V.heap.size = B + 1 + 1 + 1 := HI.out.2
  rw [sV]
  clear hV2 HI hO sV
  go_wp2
  have zV := HV.out.2.2.2
  refine (wpIn_wide (n := 10)).1 (rangeC rfl (enters_of Try.func84 (by kernel_rfl) rfl) (of2_seq2 (c : Int) (by omega) (by omega) (B + 1 + 1 + 1) (B + 1 + 1 + 1 + 1) V2 HV.out.1 HV.out.2.1) (fun _ => rfl)
    (fun x => x = B) (by rintro x rfl; constructor <;> omega) (by rintro x (rfl | rfl) <;> omega)
    (Ch B 36 c F v w) (fun _ _ _ => False)
    (by rintro x A A' h hs; exact Ch.stay h hs (by omega))
    (fun _ _ _ _ h _ => h.elim) HV.out.2.2.1
    (fun _ _ _ hp _ => absurd trivial hp) ?round ?done (fun _ _ _ _ _ _ _ h => h.elim))
  case round =>
    rintro l x W W2 hx hp h
    have c0 := h.v.1
    have c1 := h.r.cell (x * 36 + c) (by omega)
    have c2 := h.r.free (x * 36 + c)
    have fin : Hid (Keep (fun x => x = B) W2 (W2.setCell ⟨B, x * 36 + c, none⟩ (.int .u8 v)) ∧ Ch B 36 c F v w (x + 1) (W2.setCell ⟨B, x * 36 + c, none⟩ (.int .u8 v))) :=
      ⟨⟨by simp, fun b _ hm => Below.heap_setCell W2 _ _ b (fun e => hm e)⟩, Ch.step h (by omega) hc⟩
    clear h hp HV zV
    gi_wp2
    try (refine ⟨trivial, ?_⟩)
    try gi_wp2
    exact fin.out
  case done =>
    rintro K W hK h hKd
    have HK : Hid (W.heap[K]? = some (.deferred (some []))) := hKd
    obtain ⟨X, hX⟩ : ∃ X, Rw.chp 36 (c : Int) F v = X := ⟨_, rfl⟩
    have HE : Hid (Bk .u8 W B 72 X ∧ Bk .u8 W (B + 1 + 1) 72 (fun _ => 0) ∧ Below B w W) := by
      rw [← hX]
      exact ⟨Bk.congr h.r fun j hj => chK_all 36 c 2 F v j (by omega) (by omega), h.o, h.below⟩
    clear h hKd HV
    have hr := HE.out.1.range
    have ht := HE.out.2.1.there .u8 X
    have hi9 : (Try.prog.info? 40).map (·.size) = some (ints .u8 72 X).length := by rw [ints_len]; exact infoR
    have hone := ints_one .u8 72 X
    have HB9 : Hid (Below B w W) := HE.out.2.2
    obtain ⟨L, hL⟩ : ∃ L, ints .u8 72 X = L := ⟨_, rfl⟩
    rw [hL] at hr ht hi9 hone
    have HL : Hid (ints .u8 72 X = L) := hL
    have hs : Hid ((W.setCells (B + 1 + 1) 0 L).rangeAt (B + 1 + 1) 0 L) := World.rangeAt_setCells_same W _ 0 L (by simpa using ht)
    have HKd : Hid ((W.setCells (B + 1 + 1) 0 L).heap[K]? = some (.deferred (some []))) := (heap_puts (B + 1 + 1) L 0 W K (by omega)).trans HK.out
    clear hL HE HK
    go_wp2_with (first | refine wpList_load_mid rfl 40 _ rfl _ 0 rfl L _ hr Try.underlying40 rfl hi9 ?_ | refine wpList_store_mid rfl 40 _ _ rfl _ 0 L.toArray rfl rfl ht hi9 hone ?_)
    have hS : Stay (B + 1 + 1) (W.setCells (B + 1 + 1) 0 L) ((W.setCells (B + 1 + 1) 0 L).putObj K (.deferred none)) := Stay.putObj _ HKd.out rfl (by omega)
    have hs2 : ((W.setCells (B + 1 + 1) 0 L).putObj K (.deferred none)).rangeAt (B + 1 + 1) 0 L := fun j v hv => hS.cell (hs.out j v hv)
    have hld := run_loadVar_mid (P := Try.prog) ((W.setCells (B + 1 + 1) 0 L).putObj K (.deferred none)) (B + 1 + 1) 0 40 L _ hs2 Try.underlying40 rfl hi9
    refine ⟨by simp, .inl ⟨_, _, rfl, run_takeDeferred HKd.out, ?_⟩⟩
    refine ⟨.agg L.toArray, ?_, by rw [hX, HL.out], by rw [hB]; exact below_stay (belows_put (by omega) L 0 HB9.out) hS (by omega)⟩
    simp [results, Try.f62, Act.put, asAddr, hld]
set_option maxRecDepth 100000 in
set_option maxHeartbeats 1000000 in
theorem chipR_no {m n k : Int} (h : Md m n k) (F : Nat → Int) (v : Int) (c : Int) (hc : ¬ (0 ≤ c ∧ c < n)) (w : World) :
    Calls Try.prog 62 #[.agg (ints .u8 72 F).toArray, .int .i64 m, .int .i64 c, .int .u8 v] w fun e w' => e = .returned (.agg (ints .u8 72 F).toArray) ∧ Below w.heap.size w w' := by
  have hO : Hid (∀ w : World, Calls Try.prog 78 #[.int .i64 m, .int .i64 c] w fun e w' =>
      e = .returned (.func (.func 83) #[] #[]) ∧ Below w.heap.size w w') := of9_no h c hc
  clear h hc
  have hz := zeroR
  obtain ⟨A0, hA0⟩ : ∃ A, (ints .u8 72 F).toArray = A := ⟨_, rfl⟩
  obtain ⟨Z, hZ⟩ : ∃ A, (ints .u8 72 fun _ => 0).toArray = A := ⟨_, rfl⟩
  rw [hA0]
  rw [hZ] at hz
  refine (callsIn_wide (n := 10)).1 ?_
  refine callsIn_of_wp_marks Try.func62 rfl trivial ?_ rfl
  simp only [Try.ntmps62, List.size_toArray, List.length_cons, List.length_nil, Nat.reduceAdd, Nat.reduceSub, Array.replicate_succ, Array.replicate_zero, List.push_toArray, List.append_toArray, List.nil_append, List.cons_append]
  refine wpIn_wide.2 ?_
  go_wp2_with fail
  obtain ⟨V, hV⟩ : ∃ V, ((w.alloc (.cells A0 40)).alloc (.cells #[.int .u8 v] 5)).alloc (.cells Z 40) = V := ⟨_, rfl⟩
  have HI : Hid (Ch w.heap.size 1 1 F v w 0 V ∧ V.heap.size = w.heap.size + 3) := chip_boxes F v w V A0 Z hA0 hZ hV 1 1
  obtain ⟨B, hB⟩ : ∃ B, w.heap.size = B := ⟨_, rfl⟩
  rw [hV]
  rw [hB] at HI ⊢
  clear hV hZ hz
  refine (hO.out V).mono ?_
  rintro e V2 ⟨rfl, hV2⟩
  have HV : Hid (Ch B 1 1 F v w 0 V2 ∧ B + 3 ≤ V2.heap.size) := by
    have sV := HI.out.2
    have hz2 := hV2.size
    exact ⟨Ch.stay HI.out.1 (stay_below9 hV2) (by omega), by omega⟩
  clear hV2 HI hO
  go_wp2
  have zV := HV.out.2
  refine (wpIn_wide (n := 10)).1 (rangeC rfl (enters_of Try.func83 (by kernel_rfl) rfl) (of1_seq (fun _ => #[.int .i64 0]) (fun _ => True) (fun _ => False) V2) (fun _ => rfl)
    (fun x => x = B) (by rintro x rfl; exact ⟨by omega, fun h => h⟩) (by rintro x h; exact h.elim)
    (Ch B 1 1 F v w) (fun _ _ _ => False)
    (by rintro x A A' h hs; exact Ch.stay h hs (by omega))
    (fun _ _ _ _ h _ => h.elim) HV.out.1
    (fun _ _ _ hp _ => absurd trivial hp) ?round ?done (fun _ _ _ _ _ _ _ h => h.elim))
  case round => exact fun _ _ _ _ hx _ _ => absurd hx (by omega)
  case done =>
    rintro K W hK h hKd
    have HK : Hid (W.heap[K]? = some (.deferred (some []))) := hKd
    obtain ⟨X, hX⟩ : ∃ X, F = X := ⟨_, rfl⟩
    have HE : Hid (Bk .u8 W B 72 X ∧ Bk .u8 W (B + 1 + 1) 72 (fun _ => 0) ∧ Below B w W) := by
      rw [← hX]
      exact ⟨Bk.congr h.r fun j _ => chK_zero 1 1 F v j, h.o, h.below⟩
    have HF : Hid (A0 = (ints .u8 72 F).toArray) := hA0.symm
    clear h hKd HV hA0
    have hr := HE.out.1.range
    have ht := HE.out.2.1.there .u8 X
    have hi9 : (Try.prog.info? 40).map (·.size) = some (ints .u8 72 X).length := by rw [ints_len]; exact infoR
    have hone := ints_one .u8 72 X
    have HB9 : Hid (Below B w W) := HE.out.2.2
    obtain ⟨L, hL⟩ : ∃ L, ints .u8 72 X = L := ⟨_, rfl⟩
    rw [hL] at hr ht hi9 hone
    have HL : Hid (ints .u8 72 X = L) := hL
    have hs : Hid ((W.setCells (B + 1 + 1) 0 L).rangeAt (B + 1 + 1) 0 L) := World.rangeAt_setCells_same W _ 0 L (by simpa using ht)
    have HKd : Hid ((W.setCells (B + 1 + 1) 0 L).heap[K]? = some (.deferred (some []))) := (heap_puts (B + 1 + 1) L 0 W K (by omega)).trans HK.out
    clear hL HE HK
    go_wp2_with (first | refine wpList_load_mid rfl 40 _ rfl _ 0 rfl L _ hr Try.underlying40 rfl hi9 ?_ | refine wpList_store_mid rfl 40 _ _ rfl _ 0 L.toArray rfl rfl ht hi9 hone ?_)
    have hS : Stay (B + 1 + 1) (W.setCells (B + 1 + 1) 0 L) ((W.setCells (B + 1 + 1) 0 L).putObj K (.deferred none)) := Stay.putObj _ HKd.out rfl (by omega)
    have hs2 : ((W.setCells (B + 1 + 1) 0 L).putObj K (.deferred none)).rangeAt (B + 1 + 1) 0 L := fun j v hv => hS.cell (hs.out j v hv)
    have hld := run_loadVar_mid (P := Try.prog) ((W.setCells (B + 1 + 1) 0 L).putObj K (.deferred none)) (B + 1 + 1) 0 40 L _ hs2 Try.underlying40 rfl hi9
    refine ⟨by simp, .inl ⟨_, _, rfl, run_takeDeferred HKd.out, ?_⟩⟩
    refine ⟨.agg L.toArray, ?_, by rw [HF.out, hX, HL.out], by rw [hB]; exact below_stay (belows_put (by omega) L 0 HB9.out) hS (by omega)⟩
    simp [results, Try.f62, Act.put, asAddr, hld]
theorem chipR_any {m n k : Int} (h : Md m n k) (F : Nat → Int) (v : Int) (c : Int) (w : World) :
    Calls Try.prog 62 #[.agg (ints .u8 72 F).toArray, .int .i64 m, .int .i64 c, .int .u8 v] w fun e w' => e = .returned (.agg (ints .u8 72 (Rw.chp n.toNat c F v)).toArray) ∧ Below w.heap.size w w' := by
  by_cases hc : 0 ≤ c ∧ c < n
  · obtain ⟨c', rfl⟩ : ∃ c' : Nat, c = (c' : Int) := ⟨c.toNat, by omega⟩
    rcases h with ⟨rfl, rfl, rfl⟩ | ⟨rfl, rfl, rfl⟩ | ⟨_, _, rfl, rfl⟩
    · exact chipR_yes1 F v c' (by omega) w
    · exact chipR_yes2 F v c' (by omega) w
    · omega
  · rw [← ints_congr .u8 72 F (Rw.chp n.toNat c F v) (fun j _ => by
      unfold Rw.chp
      rw [if_neg]
      rintro ⟨h1, h2⟩
      have h3 := Nat.mod_lt j h1
      exact hc ⟨by omega, by omega⟩)]
    exact chipR_no h F v c hc w
end Go.Proofs.Ytcpjmfemgdgplaa

/-
  Bits forced and a chip's bytes set, by the document.
-/
namespace Go.Proofs.Ytcpjmfemgdgplaa
open Go.RowKit Go.Shelf
attribute [local go_sem] Oper.semAt_some

theorem fc_lt : ∀ x < 256, ∀ r < 8, ∀ v < 2, Rw.fc x r v < 256 := by decide +kernel
theorem fc_ge : ∀ x < 256, ∀ r < 8, x / 2 ^ r % 2 = 1 → 2 ^ r ≤ x := by decide +kernel
set_option maxRecDepth 100000 in
set_option maxHeartbeats 1000000 in
theorem refChip1 (F : Nat → Int) (v : Int) (c : Int) (w : World) :
    Calls Try.prog 72 #[.int .i64 1, .agg (ints .u8 72 F).toArray, .int .i64 c, .int .u8 v] w fun e w' => e = .returned (.agg (ints .u8 72 (Rw.chp 9 c F v)).toArray) ∧ Below w.heap.size w w' := by
  have cR : Hid (∀ W : World, Calls Try.prog 52 #[.int .i64 1] W fun e w' => e = .returned (.int .i64 9) ∧ w' = W) := refChips_any .bits
  have hz := zeroA9
  obtain ⟨A0, hA0⟩ : ∃ A, (ints .u8 72 F).toArray = A := ⟨_, rfl⟩
  obtain ⟨Z, hZ⟩ : ∃ A, (ints .u8 72 fun _ => 0).toArray = A := ⟨_, rfl⟩
  rw [hA0]
  rw [hZ] at hz
  go_enter Try.func72, Try.ntmps72
  go_upto_region 1 with (fail)
  obtain ⟨V, hV⟩ : ∃ V, (w.alloc (.cells A0 39)).alloc (.cells Z 39) = V := ⟨_, rfl⟩
  have HI : Hid (Bk .u8 V w.heap.size 72 F ∧ Bk .u8 V (w.heap.size + 1) 72 (fun _ => 0) ∧ Below w.heap.size w V) := by
    rw [← hV, ← hA0, ← hZ]
    have h1 := Bk.new .u8 (w.alloc (.cells (ints .u8 72 F).toArray 39)) 72 (fun _ => 0) 39
    simp only [World.size_alloc] at h1
    exact ⟨(Bk.new .u8 w 72 F _).alloc _, h1, ((Below.refl _ w).alloc (Nat.le_refl _) _).alloc (by simp) _⟩
  obtain ⟨B, hB⟩ : ∃ B, w.heap.size = B := ⟨_, rfl⟩
  obtain ⟨D, hD⟩ : ∃ D, B + 1 = D := ⟨_, rfl⟩
  rw [hV]
  rw [hB, hD] at HI ⊢
  have lD : B ≤ D := by omega
  have nD : D ≠ B := by omega
  have HF : Hid (A0 = (ints .u8 72 F).toArray) := hA0.symm
  clear hV hZ hA0 hz hD
  go_upto_region 3 with (go_at_call 52; refine (cR.out _).mono ?_; rintro e w' ⟨rfl, hw2⟩; rw [hw2]; clear hw2 w')
  go_loopw [10] (fun iv wr => ∃ i : Nat, i ≤ 72 ∧ iv = .int .i64 (i : Int) ∧ Hid (Bk .u8 wr B 72 (fun j => if j < i then Rw.chp 9 c F v j else F j) ∧ Bk .u8 wr D 72 (fun _ => 0) ∧ Below B w wr)) (fun iv _ => 72 - (intOf iv).toNat)
  case atStart => exact ⟨0, by omega, rfl, ⟨HI.out.1.congr fun j _ => by rw [if_neg (by omega)], HI.out.2⟩⟩
  case round =>
    obtain ⟨i, hi, rfl, HK⟩ := hrel
    by_cases hlt : i < 72
    · have c1 := HK.out.1.cell i hlt
      have c2 := HK.out.1.free i
      obtain ⟨r, hr, hr2⟩ : ∃ r : Nat, i % 9 = r ∧ r < 9 := ⟨_, rfl, by omega⟩
      have e2 : (i : Int).tmod 9 = (r : Int) := by rw [Int.tmod_eq_emod_of_nonneg (by omega)]; omega
      have e3 : (i : Int) % 9 = (r : Int) := by omega
      have hch : Rw.chp 9 c F v i = if (r : Int) = c then v else F i := by
        unfold Rw.chp
        rw [hr]
        by_cases h : (r : Int) = c
        · rw [if_pos h, if_pos ⟨by omega, h⟩]
        · rw [if_neg h, if_neg (fun e => h e.2)]
      by_cases hrc : (r : Int) = c
      · have hq : ((r : Int) == c) = true := by simpa using hrc
        rw [if_pos hrc] at hch
        have HN : Hid (Bk .u8 (wr.setCell ⟨B, i, none⟩ (.int .u8 v)) B 72 (fun j => if j < i + 1 then Rw.chp 9 c F v j else F j) ∧ Bk .u8 (wr.setCell ⟨B, i, none⟩ (.int .u8 v)) D 72 (fun _ => 0) ∧ Below B w (wr.setCell ⟨B, i, none⟩ (.int .u8 v))) := by
          refine ⟨(HK.out.1.set i v).congr fun j _ => ?_, HK.out.2.1.other nD _ _, HK.out.2.2.setCell (p := ⟨B, i, none⟩) (Nat.le_refl _) _⟩
          by_cases h : j = i
          · rw [if_pos h, if_pos (by omega), h, hch]
          · rw [if_neg h]
            by_cases h2 : j < i
            · rw [if_pos h2, if_pos (by omega)]
            · rw [if_neg h2, if_neg (by omega)]
        clear hch HI hr hrc
        go_wp2
        go_roundw
        case rel => exact ⟨i + 1, by omega, by go_num, HN⟩
        case measure => simp [intOf]; omega
      · have hq : ((r : Int) == c) = false := by simpa using hrc
        rw [if_neg hrc] at hch
        have HN : Hid (Bk .u8 wr B 72 (fun j => if j < i + 1 then Rw.chp 9 c F v j else F j) ∧ Bk .u8 wr D 72 (fun _ => 0) ∧ Below B w wr) := by
          refine ⟨HK.out.1.congr fun j _ => ?_, HK.out.2⟩
          by_cases h : j = i
          · rw [if_neg (by omega), if_pos (by omega), h, hch]
          · by_cases h2 : j < i
            · rw [if_pos h2, if_pos (by omega)]
            · rw [if_neg h2, if_neg (by omega)]
        clear hch HI hr hrc
        go_wp2
        go_roundw
        case rel => exact ⟨i + 1, by omega, by go_num, HN⟩
        case measure => simp [intOf]; omega
    · obtain rfl : i = 72 := by omega
      obtain ⟨X, hX⟩ : ∃ X, Rw.chp 9 c F v = X := ⟨_, rfl⟩
      have HE : Hid (Bk .u8 wr B 72 X ∧ Bk .u8 wr D 72 (fun _ => 0) ∧ Below B w wr) := by
        rw [← hX]
        exact ⟨HK.out.1.congr fun j hj => by rw [if_pos hj], HK.out.2⟩
      clear HK HI cR
      have hr := HE.out.1.range
      have ht := HE.out.2.1.there .u8 X
      have hi9 : (Try.prog.info? 39).map (·.size) = some (ints .u8 72 X).length := by rw [ints_len]; exact infoA9
      have hone := ints_one .u8 72 X
      have HBl := HE.out.2.2
      obtain ⟨L, hL⟩ : ∃ L, ints .u8 72 X = L := ⟨_, rfl⟩
      rw [hL] at hr ht hi9 hone
      have HL : Hid (ints .u8 72 X = L) := hL
      have HB9 : Hid (Below B w wr) := HBl
      clear hL HBl HE
      go_wp2_with (first | refine wpList_load_mid rfl 39 _ rfl _ 0 rfl L _ hr Try.underlying39 rfl hi9 ?_ | refine wpList_store_mid rfl 39 _ _ rfl _ 0 L.toArray rfl rfl ht hi9 hone ?_)
      have hs : (wr.setCells D 0 L).rangeAt D 0 L := World.rangeAt_setCells_same wr _ 0 L (by simpa using ht)
      have hld := run_loadVar_mid (P := Try.prog) (wr.setCells D 0 L) D 0 39 L _ hs Try.underlying39 rfl hi9
      refine bodyPost_ret (v := .agg L.toArray) ?_ rfl ⟨by rw [hX, HL.out], by rw [hB]; exact belows_put lD L 0 HB9.out⟩
      simp [results, Try.f72, Act.put, asAddr, hld]
set_option maxRecDepth 100000 in
set_option maxHeartbeats 1000000 in
theorem refChip2 (F : Nat → Int) (v : Int) (c : Int) (w : World) :
    Calls Try.prog 72 #[.int .i64 2, .agg (ints .u8 72 F).toArray, .int .i64 c, .int .u8 v] w fun e w' => e = .returned (.agg (ints .u8 72 (Rw.chp 36 c F v)).toArray) ∧ Below w.heap.size w w' := by
  have cR : Hid (∀ W : World, Calls Try.prog 52 #[.int .i64 2] W fun e w' => e = .returned (.int .i64 36) ∧ w' = W) := refChips_any .chips
  have hz := zeroA9
  obtain ⟨A0, hA0⟩ : ∃ A, (ints .u8 72 F).toArray = A := ⟨_, rfl⟩
  obtain ⟨Z, hZ⟩ : ∃ A, (ints .u8 72 fun _ => 0).toArray = A := ⟨_, rfl⟩
  rw [hA0]
  rw [hZ] at hz
  go_enter Try.func72, Try.ntmps72
  go_upto_region 1 with (fail)
  obtain ⟨V, hV⟩ : ∃ V, (w.alloc (.cells A0 39)).alloc (.cells Z 39) = V := ⟨_, rfl⟩
  have HI : Hid (Bk .u8 V w.heap.size 72 F ∧ Bk .u8 V (w.heap.size + 1) 72 (fun _ => 0) ∧ Below w.heap.size w V) := by
    rw [← hV, ← hA0, ← hZ]
    have h1 := Bk.new .u8 (w.alloc (.cells (ints .u8 72 F).toArray 39)) 72 (fun _ => 0) 39
    simp only [World.size_alloc] at h1
    exact ⟨(Bk.new .u8 w 72 F _).alloc _, h1, ((Below.refl _ w).alloc (Nat.le_refl _) _).alloc (by simp) _⟩
  obtain ⟨B, hB⟩ : ∃ B, w.heap.size = B := ⟨_, rfl⟩
  obtain ⟨D, hD⟩ : ∃ D, B + 1 = D := ⟨_, rfl⟩
  rw [hV]
  rw [hB, hD] at HI ⊢
  have lD : B ≤ D := by omega
  have nD : D ≠ B := by omega
  have HF : Hid (A0 = (ints .u8 72 F).toArray) := hA0.symm
  clear hV hZ hA0 hz hD
  go_upto_region 3 with (go_at_call 52; refine (cR.out _).mono ?_; rintro e w' ⟨rfl, hw2⟩; rw [hw2]; clear hw2 w')
  go_loopw [10] (fun iv wr => ∃ i : Nat, i ≤ 72 ∧ iv = .int .i64 (i : Int) ∧ Hid (Bk .u8 wr B 72 (fun j => if j < i then Rw.chp 36 c F v j else F j) ∧ Bk .u8 wr D 72 (fun _ => 0) ∧ Below B w wr)) (fun iv _ => 72 - (intOf iv).toNat)
  case atStart => exact ⟨0, by omega, rfl, ⟨HI.out.1.congr fun j _ => by rw [if_neg (by omega)], HI.out.2⟩⟩
  case round =>
    obtain ⟨i, hi, rfl, HK⟩ := hrel
    by_cases hlt : i < 72
    · have c1 := HK.out.1.cell i hlt
      have c2 := HK.out.1.free i
      obtain ⟨r, hr, hr2⟩ : ∃ r : Nat, i % 36 = r ∧ r < 36 := ⟨_, rfl, by omega⟩
      have e2 : (i : Int).tmod 36 = (r : Int) := by rw [Int.tmod_eq_emod_of_nonneg (by omega)]; omega
      have e3 : (i : Int) % 36 = (r : Int) := by omega
      have hch : Rw.chp 36 c F v i = if (r : Int) = c then v else F i := by
        unfold Rw.chp
        rw [hr]
        by_cases h : (r : Int) = c
        · rw [if_pos h, if_pos ⟨by omega, h⟩]
        · rw [if_neg h, if_neg (fun e => h e.2)]
      by_cases hrc : (r : Int) = c
      · have hq : ((r : Int) == c) = true := by simpa using hrc
        rw [if_pos hrc] at hch
        have HN : Hid (Bk .u8 (wr.setCell ⟨B, i, none⟩ (.int .u8 v)) B 72 (fun j => if j < i + 1 then Rw.chp 36 c F v j else F j) ∧ Bk .u8 (wr.setCell ⟨B, i, none⟩ (.int .u8 v)) D 72 (fun _ => 0) ∧ Below B w (wr.setCell ⟨B, i, none⟩ (.int .u8 v))) := by
          refine ⟨(HK.out.1.set i v).congr fun j _ => ?_, HK.out.2.1.other nD _ _, HK.out.2.2.setCell (p := ⟨B, i, none⟩) (Nat.le_refl _) _⟩
          by_cases h : j = i
          · rw [if_pos h, if_pos (by omega), h, hch]
          · rw [if_neg h]
            by_cases h2 : j < i
            · rw [if_pos h2, if_pos (by omega)]
            · rw [if_neg h2, if_neg (by omega)]
        clear hch HI hr hrc
        go_wp2
        go_roundw
        case rel => exact ⟨i + 1, by omega, by go_num, HN⟩
        case measure => simp [intOf]; omega
      · have hq : ((r : Int) == c) = false := by simpa using hrc
        rw [if_neg hrc] at hch
        have HN : Hid (Bk .u8 wr B 72 (fun j => if j < i + 1 then Rw.chp 36 c F v j else F j) ∧ Bk .u8 wr D 72 (fun _ => 0) ∧ Below B w wr) := by
          refine ⟨HK.out.1.congr fun j _ => ?_, HK.out.2⟩
          by_cases h : j = i
          · rw [if_neg (by omega), if_pos (by omega), h, hch]
          · by_cases h2 : j < i
            · rw [if_pos h2, if_pos (by omega)]
            · rw [if_neg h2, if_neg (by omega)]
        clear hch HI hr hrc
        go_wp2
        go_roundw
        case rel => exact ⟨i + 1, by omega, by go_num, HN⟩
        case measure => simp [intOf]; omega
    · obtain rfl : i = 72 := by omega
      obtain ⟨X, hX⟩ : ∃ X, Rw.chp 36 c F v = X := ⟨_, rfl⟩
      have HE : Hid (Bk .u8 wr B 72 X ∧ Bk .u8 wr D 72 (fun _ => 0) ∧ Below B w wr) := by
        rw [← hX]
        exact ⟨HK.out.1.congr fun j hj => by rw [if_pos hj], HK.out.2⟩
      clear HK HI cR
      have hr := HE.out.1.range
      have ht := HE.out.2.1.there .u8 X
      have hi9 : (Try.prog.info? 39).map (·.size) = some (ints .u8 72 X).length := by rw [ints_len]; exact infoA9
      have hone := ints_one .u8 72 X
      have HBl := HE.out.2.2
      obtain ⟨L, hL⟩ : ∃ L, ints .u8 72 X = L := ⟨_, rfl⟩
      rw [hL] at hr ht hi9 hone
      have HL : Hid (ints .u8 72 X = L) := hL
      have HB9 : Hid (Below B w wr) := HBl
      clear hL HBl HE
      go_wp2_with (first | refine wpList_load_mid rfl 39 _ rfl _ 0 rfl L _ hr Try.underlying39 rfl hi9 ?_ | refine wpList_store_mid rfl 39 _ _ rfl _ 0 L.toArray rfl rfl ht hi9 hone ?_)
      have hs : (wr.setCells D 0 L).rangeAt D 0 L := World.rangeAt_setCells_same wr _ 0 L (by simpa using ht)
      have hld := run_loadVar_mid (P := Try.prog) (wr.setCells D 0 L) D 0 39 L _ hs Try.underlying39 rfl hi9
      refine bodyPost_ret (v := .agg L.toArray) ?_ rfl ⟨by rw [hX, HL.out], by rw [hB]; exact belows_put lD L 0 HB9.out⟩
      simp [results, Try.f72, Act.put, asAddr, hld]
set_option maxRecDepth 100000 in
set_option maxHeartbeats 1000000 in
theorem refChip0 (m : Int) (h1 : m ≠ 1) (h2 : m ≠ 2) (F : Nat → Int) (v : Int) (c : Int) (w : World) :
    Calls Try.prog 72 #[.int .i64 m, .agg (ints .u8 72 F).toArray, .int .i64 c, .int .u8 v] w fun e w' => e = .returned (.agg (ints .u8 72 F).toArray) ∧ Below w.heap.size w w' := by
  have cR : Hid (∀ W : World, Calls Try.prog 52 #[.int .i64 m] W fun e w' => e = .returned (.int .i64 0) ∧ w' = W) := refChips_any (.none m h1 h2)
  clear h1 h2
  have hz := zeroA9
  obtain ⟨A0, hA0⟩ : ∃ A, (ints .u8 72 F).toArray = A := ⟨_, rfl⟩
  obtain ⟨Z, hZ⟩ : ∃ A, (ints .u8 72 fun _ => 0).toArray = A := ⟨_, rfl⟩
  rw [hA0]
  rw [hZ] at hz
  go_enter Try.func72, Try.ntmps72
  go_upto_region 1 with (fail)
  obtain ⟨V, hV⟩ : ∃ V, (w.alloc (.cells A0 39)).alloc (.cells Z 39) = V := ⟨_, rfl⟩
  have HI : Hid (Bk .u8 V w.heap.size 72 F ∧ Bk .u8 V (w.heap.size + 1) 72 (fun _ => 0) ∧ Below w.heap.size w V) := by
    rw [← hV, ← hA0, ← hZ]
    have h1 := Bk.new .u8 (w.alloc (.cells (ints .u8 72 F).toArray 39)) 72 (fun _ => 0) 39
    simp only [World.size_alloc] at h1
    exact ⟨(Bk.new .u8 w 72 F _).alloc _, h1, ((Below.refl _ w).alloc (Nat.le_refl _) _).alloc (by simp) _⟩
  obtain ⟨B, hB⟩ : ∃ B, w.heap.size = B := ⟨_, rfl⟩
  obtain ⟨D, hD⟩ : ∃ D, B + 1 = D := ⟨_, rfl⟩
  rw [hV]
  rw [hB, hD] at HI ⊢
  have lD : B ≤ D := by omega
  have nD : D ≠ B := by omega
  have HF : Hid (A0 = (ints .u8 72 F).toArray) := hA0.symm
  clear hV hZ hA0 hz hD
  go_upto_region 3 with (go_at_call 52; refine (cR.out _).mono ?_; rintro e w' ⟨rfl, hw2⟩; rw [hw2]; clear hw2 w')
  go_loopw [10] (fun iv wr => iv = .int .i64 0 ∧ wr = V) (fun _ _ => 0)
  case atStart => exact ⟨rfl, rfl⟩
  case round =>
    obtain ⟨rfl, rfl⟩ := hrel
    obtain ⟨X, hX⟩ : ∃ X, F = X := ⟨_, rfl⟩
    have HE : Hid (Bk .u8 wr B 72 X ∧ Bk .u8 wr D 72 (fun _ => 0) ∧ Below B w wr) := by rw [← hX]; exact HI
    clear HI cR
    have hr := HE.out.1.range
    have ht := HE.out.2.1.there .u8 X
    have hi9 : (Try.prog.info? 39).map (·.size) = some (ints .u8 72 X).length := by rw [ints_len]; exact infoA9
    have hone := ints_one .u8 72 X
    have HBl := HE.out.2.2
    obtain ⟨L, hL⟩ : ∃ L, ints .u8 72 X = L := ⟨_, rfl⟩
    rw [hL] at hr ht hi9 hone
    have HL : Hid (ints .u8 72 X = L) := hL
    have HB9 : Hid (Below B w wr) := HBl
    clear hL HBl HE
    go_wp2_with (first | refine wpList_load_mid rfl 39 _ rfl _ 0 rfl L _ hr Try.underlying39 rfl hi9 ?_ | refine wpList_store_mid rfl 39 _ _ rfl _ 0 L.toArray rfl rfl ht hi9 hone ?_)
    have hs : (wr.setCells D 0 L).rangeAt D 0 L := World.rangeAt_setCells_same wr _ 0 L (by simpa using ht)
    have hld := run_loadVar_mid (P := Try.prog) (wr.setCells D 0 L) D 0 39 L _ hs Try.underlying39 rfl hi9
    refine bodyPost_ret (v := .agg L.toArray) ?_ rfl ⟨by rw [HF.out, hX, HL.out], by rw [hB]; exact belows_put lD L 0 HB9.out⟩
    simp [results, Try.f72, Act.put, asAddr, hld]
theorem refChip_any {m n k : Int} (h : Md m n k) (F : Nat → Int) (v : Int) (c : Int) (w : World) :
    Calls Try.prog 72 #[.int .i64 m, .agg (ints .u8 72 F).toArray, .int .i64 c, .int .u8 v] w fun e w' => e = .returned (.agg (ints .u8 72 (Rw.chp n.toNat c F v)).toArray) ∧ Below w.heap.size w w' := by
  rcases h with ⟨rfl, rfl, rfl⟩ | ⟨rfl, rfl, rfl⟩ | ⟨h1, h2, rfl, rfl⟩
  · exact refChip1 F v c w
  · exact refChip2 F v c w
  · skip
    rw [← ints_congr .u8 72 F (Rw.chp (0 : Int).toNat c F v) (fun j _ => by unfold Rw.chp; rw [if_neg (fun h => absurd h.1 (by decide))])]
    exact refChip0 m h1 h2 F v c w

set_option maxRecDepth 100000 in
set_option maxHeartbeats 1000000 in
theorem refForce_no (F : Nat → Int) (b value : Int) (hb : b < 0 ∨ 576 ≤ b) (w : World) :
    Calls Try.prog 25 #[.agg (ints .u8 72 F).toArray, .int .i64 b, .int .i64 value] w fun e w' => e = .returned (.agg (ints .u8 72 F).toArray) ∧ Below w.heap.size w w' := by
  have hz := zeroA9
  obtain ⟨A0, hA0⟩ : ∃ A, (ints .u8 72 F).toArray = A := ⟨_, rfl⟩
  obtain ⟨Z, hZ⟩ : ∃ A, (ints .u8 72 fun _ => 0).toArray = A := ⟨_, rfl⟩
  rw [hA0]
  rw [hZ] at hz
  go_enter Try.func25, Try.ntmps25
  go_upto_region 1 with (fail)
  obtain ⟨V, hV⟩ : ∃ V, (w.alloc (.cells A0 39)).alloc (.cells Z 39) = V := ⟨_, rfl⟩
  have HI : Hid (Bk .u8 V w.heap.size 72 F ∧ Bk .u8 V (w.heap.size + 1) 72 (fun _ => 0) ∧ Below w.heap.size w V) := by
    rw [← hV, ← hA0, ← hZ]
    have h1 := Bk.new .u8 (w.alloc (.cells (ints .u8 72 F).toArray 39)) 72 (fun _ => 0) 39
    simp only [World.size_alloc] at h1
    exact ⟨(Bk.new .u8 w 72 F _).alloc _, h1, ((Below.refl _ w).alloc (Nat.le_refl _) _).alloc (by simp) _⟩
  obtain ⟨B, hB⟩ : ∃ B, w.heap.size = B := ⟨_, rfl⟩
  obtain ⟨D, hD⟩ : ∃ D, B + 1 = D := ⟨_, rfl⟩
  rw [hV]
  rw [hB, hD] at HI ⊢
  have lD : B ≤ D := by omega
  have nD : D ≠ B := by omega
  have HF : Hid (A0 = (ints .u8 72 F).toArray) := hA0.symm
  clear hV hZ hA0 hz hD
  obtain ⟨X, hX⟩ : ∃ X, F = X := ⟨_, rfl⟩
  have HE : Hid (Bk .u8 V B 72 X ∧ Bk .u8 V D 72 (fun _ => 0) ∧ Below B w V) := by rw [← hX]; exact HI
  clear HI
  by_cases h0 : b < 0
  · have d1 : decide (b < 0) = true := by simpa using h0
    clear hb
    go_upto_region 2 with (fail)
    have hr := HE.out.1.range
    have ht := HE.out.2.1.there .u8 X
    have hi9 : (Try.prog.info? 39).map (·.size) = some (ints .u8 72 X).length := by rw [ints_len]; exact infoA9
    have hone := ints_one .u8 72 X
    have HBl := HE.out.2.2
    obtain ⟨L, hL⟩ : ∃ L, ints .u8 72 X = L := ⟨_, rfl⟩
    rw [hL] at hr ht hi9 hone
    have HL : Hid (ints .u8 72 X = L) := hL
    have HB9 : Hid (Below B w V) := HBl
    clear hL HBl HE
    go_wp2_with (first | refine wpList_load_mid rfl 39 _ rfl _ 0 rfl L _ hr Try.underlying39 rfl hi9 ?_ | refine wpList_store_mid rfl 39 _ _ rfl _ 0 L.toArray rfl rfl ht hi9 hone ?_)
    have hs : (V.setCells D 0 L).rangeAt D 0 L := World.rangeAt_setCells_same V _ 0 L (by simpa using ht)
    have hld := run_loadVar_mid (P := Try.prog) (V.setCells D 0 L) D 0 39 L _ hs Try.underlying39 rfl hi9
    refine bodyPost_ret (v := .agg L.toArray) ?_ rfl ⟨by rw [HF.out, hX, HL.out], by rw [hB]; exact belows_put lD L 0 HB9.out⟩
    simp [results, Try.f25, Act.put, asAddr, hld]
  · have d1 : decide (b < 0) = false := by simpa using h0
    have h1 : 575 < b := by omega
    have d2 : decide (575 < b) = true := by simpa using h1
    clear hb
    go_upto_region 2 with (fail)
    have hr := HE.out.1.range
    have ht := HE.out.2.1.there .u8 X
    have hi9 : (Try.prog.info? 39).map (·.size) = some (ints .u8 72 X).length := by rw [ints_len]; exact infoA9
    have hone := ints_one .u8 72 X
    have HBl := HE.out.2.2
    obtain ⟨L, hL⟩ : ∃ L, ints .u8 72 X = L := ⟨_, rfl⟩
    rw [hL] at hr ht hi9 hone
    have HL : Hid (ints .u8 72 X = L) := hL
    have HB9 : Hid (Below B w V) := HBl
    clear hL HBl HE
    go_wp2_with (first | refine wpList_load_mid rfl 39 _ rfl _ 0 rfl L _ hr Try.underlying39 rfl hi9 ?_ | refine wpList_store_mid rfl 39 _ _ rfl _ 0 L.toArray rfl rfl ht hi9 hone ?_)
    have hs : (V.setCells D 0 L).rangeAt D 0 L := World.rangeAt_setCells_same V _ 0 L (by simpa using ht)
    have hld := run_loadVar_mid (P := Try.prog) (V.setCells D 0 L) D 0 39 L _ hs Try.underlying39 rfl hi9
    refine bodyPost_ret (v := .agg L.toArray) ?_ rfl ⟨by rw [HF.out, hX, HL.out], belows_put lD L 0 HB9.out⟩
    simp [results, Try.f25, asAddr, hld]

set_option maxRecDepth 100000 in
set_option maxHeartbeats 400000 in
theorem refForce_yes (F : Nat → Int) (hF : Byts 72 F) (i : Nat) (hi : i < 576) (value : Int) (v : Nat) (hv : bits .and .i64 value 1 = (v : Int)) (hv1 : v ≤ 1) (w : World) :
    Calls Try.prog 25 #[.agg (ints .u8 72 F).toArray, .int .i64 (i : Int), .int .i64 value] w fun e w' => e = .returned (.agg (ints .u8 72 (frR F i v)).toArray) ∧ Below w.heap.size w w' := by
  have hz := zeroA9
  obtain ⟨A0, hA0⟩ : ∃ A, (ints .u8 72 F).toArray = A := ⟨_, rfl⟩
  obtain ⟨Z, hZ⟩ : ∃ A, (ints .u8 72 fun _ => 0).toArray = A := ⟨_, rfl⟩
  rw [hA0]
  rw [hZ] at hz
  go_enter Try.func25, Try.ntmps25
  go_upto_region 1 with (fail)
  obtain ⟨V, hV⟩ : ∃ V, (w.alloc (.cells A0 39)).alloc (.cells Z 39) = V := ⟨_, rfl⟩
  have HI : Hid (Bk .u8 V w.heap.size 72 F ∧ Bk .u8 V (w.heap.size + 1) 72 (fun _ => 0) ∧ Below w.heap.size w V) := by
    rw [← hV, ← hA0, ← hZ]
    have h1 := Bk.new .u8 (w.alloc (.cells (ints .u8 72 F).toArray 39)) 72 (fun _ => 0) 39
    simp only [World.size_alloc] at h1
    exact ⟨(Bk.new .u8 w 72 F _).alloc _, h1, ((Below.refl _ w).alloc (Nat.le_refl _) _).alloc (by simp) _⟩
  obtain ⟨B, hB⟩ : ∃ B, w.heap.size = B := ⟨_, rfl⟩
  obtain ⟨D, hD⟩ : ∃ D, B + 1 = D := ⟨_, rfl⟩
  rw [hV]
  rw [hB, hD] at HI ⊢
  have lD : B ≤ D := by omega
  have nD : D ≠ B := by omega
  have HF : Hid (A0 = (ints .u8 72 F).toArray) := hA0.symm
  clear hV hZ hA0 hz hD
  obtain ⟨a, ha, Ha⟩ : ∃ a, a < 72 ∧ Hid (i / 8 = a) := ⟨_, by omega, rfl⟩
  obtain ⟨r, hr, Hr⟩ : ∃ r, r < 8 ∧ Hid (i % 8 = r) := ⟨_, by omega, rfl⟩
  have q1 : (i : Int).tdiv 8 = (a : Int) := by rw [Int.tdiv_eq_ediv_of_nonneg (by omega)]; have := Ha.out; omega
  have q2 : (i : Int).tmod 8 = (r : Int) := by rw [Int.tmod_eq_emod_of_nonneg (by omega)]; have := Hr.out; omega
  have q1' : (i : Int) / 8 = (a : Int) := by have := Ha.out; omega
  have q2' : (i : Int) % 8 = (r : Int) := by have := Hr.out; omega
  go_upto_region 5 with (first | simp only [q1] | simp only [q2])
  go_loopw [7, 8] (fun pv iv wr => ∃ j p : Nat, j ≤ r ∧ p ≤ 128 ∧ Hid (p = 2 ^ j) ∧ pv = .int .i64 (p : Int) ∧ iv = .int .i64 (j : Int) ∧ wr = V) (fun _ iv _ => r - (intOf iv).toNat)
  case atStart => exact ⟨0, 1, by omega, by omega, rfl, rfl, rfl, rfl⟩
  case round =>
    obtain ⟨j, p, hj, hp, Hp, rfl, rfl, rfl⟩ := hrel
    by_cases hlt : j < r
    · have hp2 : p * 2 ≤ 128 := by
        rw [Hp.out, ← Nat.pow_succ]
        exact (Nat.pow_le_pow_right (by omega) (show j + 1 ≤ 7 by omega) : 2 ^ (j + 1) ≤ 2 ^ 7)
      have Hp2 : Hid (p * 2 = 2 ^ (j + 1)) := by show _ = _; rw [Nat.pow_succ, ← Hp.out]
      clear Hp
      go_wp2_with (first | simp only [q1] | simp only [q2])
      go_roundw
      case rel => exact ⟨j + 1, p * 2, by omega, hp2, Hp2, by go_num, by go_num, trivial⟩
      case measure => simp [intOf]; omega
    · obtain rfl : j = r := by omega
      have hP1 : 1 ≤ p := by rw [Hp.out]; exact Nat.one_le_two_pow
      have hb := hF a ha
      obtain ⟨y, hy, Hy⟩ : ∃ y : Nat, y < 256 ∧ Hid (F a = (y : Int)) := ⟨(F a).toNat, by omega, by show _ = _; omega⟩
      have c1 : wr.cell? ⟨B, a, none⟩ = some (.int .u8 (y : Int)) := by rw [← Hy.out]; exact HI.out.1.cell a ha
      have c2 := HI.out.1.free a
      obtain ⟨s, hs, hs2⟩ : ∃ s, y / p = s ∧ s ≤ 255 := ⟨_, rfl, by have := Nat.div_le_self y p; omega⟩
      obtain ⟨d, hd, Hd⟩ : ∃ d, s % 2 = d ∧ d ≤ 1 := ⟨_, rfl, by omega⟩
      have e1 : (y : Int).tdiv (p : Int) = (s : Int) := by rw [Int.tdiv_eq_ediv_of_nonneg (by omega), ← hs]; rfl
      have e1' : (y : Int) / (p : Int) = (s : Int) := by rw [← hs]; rfl
      have e2 : (s : Int).tmod 2 = (d : Int) := by rw [Int.tmod_eq_emod_of_nonneg (by omega)]; omega
      have e2' : (s : Int) % 2 = (d : Int) := by omega
      have hfc : Rw.fc y j v = y - (if d = 1 then p else 0) + (if v = 1 then p else 0) := by
        unfold Rw.fc
        rw [← Hp.out, hs, hd]
      have hge : d = 1 → p ≤ y := fun h => by
        rw [Hp.out]
        exact fc_ge y hy j hr (by rw [← Hp.out, hs, hd, h])
      have hlt9 := fc_lt y hy j hr v (by omega)
      have HW : Hid (∀ z : Nat, Rw.fc y j v = z → Bk .u8 (wr.setCell ⟨B, a, none⟩ (.int .u8 (z : Int))) B 72 (frR F i v) ∧ Bk .u8 (wr.setCell ⟨B, a, none⟩ (.int .u8 (z : Int))) D 72 (fun _ => 0) ∧ Below B w (wr.setCell ⟨B, a, none⟩ (.int .u8 (z : Int)))) := fun z hz => by
        refine ⟨(HI.out.1.set a (z : Int)).congr fun x _ => ?_, HI.out.2.1.other nD _ _, HI.out.2.2.setCell (p := ⟨B, a, none⟩) (Nat.le_refl _) _⟩
        unfold frR
        rw [Ha.out, Hr.out]
        by_cases h : x = a
        · rw [if_pos h, if_pos h, ← hz, h, Hy.out]; rfl
        · rw [if_neg h, if_neg h]
      obtain ⟨X, hX⟩ : ∃ X, frR F i v = X := ⟨_, rfl⟩
      rw [hX] at HW
      clear hs hd Hp Hy HI Ha Hr hF hb
      have hd9 : d = 0 ∨ d = 1 := by omega
      have hv9 : v = 0 ∨ v = 1 := by omega
      rcases hd9 with rfl | rfl
      · rcases hv9 with rfl | rfl
        · skip
          have HZ := HW.out (y) (by rw [hfc]; simp)
          obtain ⟨W9, hW9⟩ : ∃ W9, wr.setCell ⟨B, a, none⟩ (.int .u8 ((y : Int))) = W9 := ⟨_, rfl⟩
          rw [show ((y : Nat) : Int) = (y : Int) from by omega, hW9] at HZ
          have HE : Hid (Bk .u8 W9 B 72 X ∧ Bk .u8 W9 D 72 (fun _ => 0) ∧ Below B w W9) := HZ
          clear HZ HW hfc hge hlt9
          go_upto_region 14 with (first | simp only [q1] | simp only [q2] | simp only [e1] | simp only [e2])
          clear hW9
          have hr := HE.out.1.range
          have ht := HE.out.2.1.there .u8 X
          have hi9 : (Try.prog.info? 39).map (·.size) = some (ints .u8 72 X).length := by rw [ints_len]; exact infoA9
          have hone := ints_one .u8 72 X
          have HBl := HE.out.2.2
          obtain ⟨L, hL⟩ : ∃ L, ints .u8 72 X = L := ⟨_, rfl⟩
          rw [hL] at hr ht hi9 hone
          have HL : Hid (ints .u8 72 X = L) := hL
          have HB9 : Hid (Below B w W9) := HBl
          clear hL HBl HE
          go_wp2_with (first | refine wpList_load_mid rfl 39 _ rfl _ 0 rfl L _ hr Try.underlying39 rfl hi9 ?_ | refine wpList_store_mid rfl 39 _ _ rfl _ 0 L.toArray rfl rfl ht hi9 hone ?_)
          have hs : (W9.setCells D 0 L).rangeAt D 0 L := World.rangeAt_setCells_same W9 _ 0 L (by simpa using ht)
          have hld := run_loadVar_mid (P := Try.prog) (W9.setCells D 0 L) D 0 39 L _ hs Try.underlying39 rfl hi9
          refine bodyPost_ret (v := .agg L.toArray) ?_ rfl ⟨by rw [hX, HL.out], by rw [hB]; exact belows_put lD L 0 HB9.out⟩
          simp [results, Try.f25, Act.put, asAddr, hld]
        · have hz2 : y + p < 256 := by rw [hfc] at hlt9; simpa using hlt9
          have HZ := HW.out (y + p) (by rw [hfc]; simp)
          obtain ⟨W9, hW9⟩ : ∃ W9, wr.setCell ⟨B, a, none⟩ (.int .u8 ((y : Int) + (p : Int))) = W9 := ⟨_, rfl⟩
          rw [show ((y + p : Nat) : Int) = (y : Int) + (p : Int) from by omega, hW9] at HZ
          have HE : Hid (Bk .u8 W9 B 72 X ∧ Bk .u8 W9 D 72 (fun _ => 0) ∧ Below B w W9) := HZ
          clear HZ HW hfc hge hlt9
          go_upto_region 14 with (first | simp only [q1] | simp only [q2] | simp only [e1] | simp only [e2])
          clear hW9
          have hr := HE.out.1.range
          have ht := HE.out.2.1.there .u8 X
          have hi9 : (Try.prog.info? 39).map (·.size) = some (ints .u8 72 X).length := by rw [ints_len]; exact infoA9
          have hone := ints_one .u8 72 X
          have HBl := HE.out.2.2
          obtain ⟨L, hL⟩ : ∃ L, ints .u8 72 X = L := ⟨_, rfl⟩
          rw [hL] at hr ht hi9 hone
          have HL : Hid (ints .u8 72 X = L) := hL
          have HB9 : Hid (Below B w W9) := HBl
          clear hL HBl HE
          go_wp2_with (first | refine wpList_load_mid rfl 39 _ rfl _ 0 rfl L _ hr Try.underlying39 rfl hi9 ?_ | refine wpList_store_mid rfl 39 _ _ rfl _ 0 L.toArray rfl rfl ht hi9 hone ?_)
          have hs : (W9.setCells D 0 L).rangeAt D 0 L := World.rangeAt_setCells_same W9 _ 0 L (by simpa using ht)
          have hld := run_loadVar_mid (P := Try.prog) (W9.setCells D 0 L) D 0 39 L _ hs Try.underlying39 rfl hi9
          refine bodyPost_ret (v := .agg L.toArray) ?_ rfl ⟨by rw [hX, HL.out], by rw [hB]; exact belows_put lD L 0 HB9.out⟩
          simp [results, Try.f25, Act.put, asAddr, hld]
      · obtain ⟨t, ht, hsub, hadd⟩ : ∃ t, y = t + p ∧ (y : Int) - (p : Int) = (t : Int) ∧ (t : Int) + (p : Int) = (y : Int) := ⟨y - p, by have := hge rfl; omega, by have := hge rfl; omega, by have := hge rfl; omega⟩
        rcases hv9 with rfl | rfl
        · skip
          have HZ := HW.out (t) (by rw [hfc, ht]; simp)
          obtain ⟨W9, hW9⟩ : ∃ W9, wr.setCell ⟨B, a, none⟩ (.int .u8 ((t : Int))) = W9 := ⟨_, rfl⟩
          rw [show ((t : Nat) : Int) = (t : Int) from by omega, hW9] at HZ
          have HE : Hid (Bk .u8 W9 B 72 X ∧ Bk .u8 W9 D 72 (fun _ => 0) ∧ Below B w W9) := HZ
          clear HZ HW hfc hge hlt9 ht
          go_upto_region 14 with (first | simp only [q1] | simp only [q2] | simp only [e1] | simp only [e2])
          clear hW9
          have hr := HE.out.1.range
          have ht := HE.out.2.1.there .u8 X
          have hi9 : (Try.prog.info? 39).map (·.size) = some (ints .u8 72 X).length := by rw [ints_len]; exact infoA9
          have hone := ints_one .u8 72 X
          have HBl := HE.out.2.2
          obtain ⟨L, hL⟩ : ∃ L, ints .u8 72 X = L := ⟨_, rfl⟩
          rw [hL] at hr ht hi9 hone
          have HL : Hid (ints .u8 72 X = L) := hL
          have HB9 : Hid (Below B w W9) := HBl
          clear hL HBl HE
          go_wp2_with (first | refine wpList_load_mid rfl 39 _ rfl _ 0 rfl L _ hr Try.underlying39 rfl hi9 ?_ | refine wpList_store_mid rfl 39 _ _ rfl _ 0 L.toArray rfl rfl ht hi9 hone ?_)
          have hs : (W9.setCells D 0 L).rangeAt D 0 L := World.rangeAt_setCells_same W9 _ 0 L (by simpa using ht)
          have hld := run_loadVar_mid (P := Try.prog) (W9.setCells D 0 L) D 0 39 L _ hs Try.underlying39 rfl hi9
          refine bodyPost_ret (v := .agg L.toArray) ?_ rfl ⟨by rw [hX, HL.out], by rw [hB]; exact belows_put lD L 0 HB9.out⟩
          simp [results, Try.f25, Act.put, asAddr, hld]
        · skip
          have HZ := HW.out (y) (by rw [hfc, ht]; simp)
          obtain ⟨W9, hW9⟩ : ∃ W9, wr.setCell ⟨B, a, none⟩ (.int .u8 ((y : Int))) = W9 := ⟨_, rfl⟩
          rw [show ((y : Nat) : Int) = (y : Int) from by omega, hW9] at HZ
          have HE : Hid (Bk .u8 W9 B 72 X ∧ Bk .u8 W9 D 72 (fun _ => 0) ∧ Below B w W9) := HZ
          clear HZ HW hfc hge hlt9 ht
          go_upto_region 14 with (first | simp only [q1] | simp only [q2] | simp only [e1] | simp only [e2])
          clear hW9
          have hr := HE.out.1.range
          have ht := HE.out.2.1.there .u8 X
          have hi9 : (Try.prog.info? 39).map (·.size) = some (ints .u8 72 X).length := by rw [ints_len]; exact infoA9
          have hone := ints_one .u8 72 X
          have HBl := HE.out.2.2
          obtain ⟨L, hL⟩ : ∃ L, ints .u8 72 X = L := ⟨_, rfl⟩
          rw [hL] at hr ht hi9 hone
          have HL : Hid (ints .u8 72 X = L) := hL
          have HB9 : Hid (Below B w W9) := HBl
          clear hL HBl HE
          go_wp2_with (first | refine wpList_load_mid rfl 39 _ rfl _ 0 rfl L _ hr Try.underlying39 rfl hi9 ?_ | refine wpList_store_mid rfl 39 _ _ rfl _ 0 L.toArray rfl rfl ht hi9 hone ?_)
          have hs : (W9.setCells D 0 L).rangeAt D 0 L := World.rangeAt_setCells_same W9 _ 0 L (by simpa using ht)
          have hld := run_loadVar_mid (P := Try.prog) (W9.setCells D 0 L) D 0 39 L _ hs Try.underlying39 rfl hi9
          refine bodyPost_ret (v := .agg L.toArray) ?_ rfl ⟨by rw [hX, HL.out], by rw [hB]; exact belows_put lD L 0 HB9.out⟩
          simp [results, Try.f25, Act.put, asAddr, hld]
end Go.Proofs.Ytcpjmfemgdgplaa
