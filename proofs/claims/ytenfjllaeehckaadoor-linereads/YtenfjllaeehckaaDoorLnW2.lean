/-
  Two lines merged, by the document and by the program.
-/
import Derived.Test.YtenfjllaeehckaaDoorLnW1
namespace Go.Proofs.YtenfjllaeehckaaDoor
open Go.RowKit Go.Shelf
open Ln (mrg mrgK)
attribute [local go_sem] Oper.semAt_some

/-- the same beside another line, G, in the block C -/
structure Wk2 (B C D E : Nat) (G X : Nat → Int) (w wr : World) : Prop extends Wk B D E X w wr where
  g : Bk .u8 wr C 64 G
section
variable {B C D E : Nat} {G X Y : Nat → Int} {w wr wr' : World}
theorem Wk2.set (h : Wk2 B C D E G X w wr) (hD : D ≠ E) (hC : C ≠ E) (hB : B ≤ E) (i : Nat) (e : Int) : Wk2 B C D E G (fun j => if j = i then e else X j) w (wr.setCell ⟨E, i, none⟩ (.int .u8 e)) :=
  ⟨h.toWk.set hD hB i e, h.g.other hC i _⟩
theorem Wk2.congr (h : Wk2 B C D E G X w wr) (k : ∀ i, i < 64 → X i = Y i) : Wk2 B C D E G Y w wr := ⟨h.toWk.congr k, h.g⟩
theorem Wk2.stay {A : Nat} (h : Wk2 B C D E G X w wr) (k : Stay A wr wr') (hC : B ≤ A) : Wk2 B C D E G X w wr' := ⟨h.toWk.stay k hC, h.g.stay k⟩
end
/-- how a function with two lines begins: both laid, and its result's variable -/
theorem wk2_new (t : TypeId) (F G : Nat → Int) (w V : World) (A0 A1 A2 : Array Value) (h0 : (ints .u8 64 F).toArray = A0) (h1 : (ints .u8 64 G).toArray = A1) (h2 : (ints .u8 64 fun _ => 0).toArray = A2)
    (hV : ((w.alloc (.cells A0 t)).alloc (.cells A1 t)).alloc (.cells A2 t) = V) : Wk2 w.heap.size (w.heap.size + 1) (w.heap.size + 1 + 1) w.heap.size G F w V := by
  subst h0 h1 h2 hV
  have h0 := Bk.new .u8 w 64 F t
  have h1 := Bk.new .u8 (w.alloc (.cells (ints .u8 64 F).toArray t)) 64 G t
  have h2 := Bk.new .u8 ((w.alloc (.cells (ints .u8 64 F).toArray t)).alloc (.cells (ints .u8 64 G).toArray t)) 64 (fun _ => 0) t
  simp only [World.size_alloc] at h1 h2
  exact ⟨⟨h2, (h0.alloc _).alloc _, (((Below.refl _ w).alloc (Nat.le_refl _) _).alloc (by simp) _).alloc (by simp; omega) _⟩, h1.alloc _⟩

set_option maxRecDepth 100000 in
set_option maxHeartbeats 1000000 in
theorem refMerge_any (F G : Nat → Int) (m : Nat) (hm : m < 18446744073709551616) (w : World) :
    Calls Tryd.prog 9 #[.agg (ints .u8 64 F).toArray, .agg (ints .u8 64 G).toArray, .int .u64 (m : Int)] w fun e w' => e = .returned (.agg (ints .u8 64 (mrg F G m)).toArray) ∧ Below w.heap.size w w' := by
  have hz := zeroA
  obtain ⟨A0, hA0⟩ : ∃ A, (ints .u8 64 F).toArray = A := ⟨_, rfl⟩
  obtain ⟨A1, hA1⟩ : ∃ A, (ints .u8 64 G).toArray = A := ⟨_, rfl⟩
  obtain ⟨A2, hA2⟩ : ∃ A, (ints .u8 64 fun _ => 0).toArray = A := ⟨_, rfl⟩
  rw [hA2] at hz
  rw [hA0, hA1]
  have cB : Hid (∀ (i : Nat), i ≤ 64 → ∀ W : World, Calls Tryd.prog 22 #[.int .u64 (m : Int), .int .i64 (i : Int)] W fun e w' => e = .returned (.int .i64 ((m / 2 ^ i % 2 : Nat) : Int)) ∧ w' = W) := fun i hi W => refBit_any m i hm hi W
  go_enter Tryd.func9, Tryd.ntmps9
  go_wp2
  obtain ⟨V, hV⟩ : ∃ V, ((w.alloc (.cells A0 22)).alloc (.cells A1 22)).alloc (.cells A2 22) = V := ⟨_, rfl⟩
  have HI : Hid (Wk2 w.heap.size (w.heap.size + 1) (w.heap.size + 1 + 1) w.heap.size G F w V) := wk2_new _ F G w V A0 A1 A2 hA0 hA1 hA2 hV
  obtain ⟨B, hB⟩ : ∃ B, w.heap.size = B := ⟨_, rfl⟩
  obtain ⟨C, hC⟩ : ∃ C, B + 1 = C := ⟨_, rfl⟩
  obtain ⟨D, hD⟩ : ∃ D, C + 1 = D := ⟨_, rfl⟩
  rw [hV]
  rw [hB, hC, hD] at HI ⊢
  have nC : C ≠ B := by omega
  have nD : D ≠ B := by omega
  have lD : B ≤ D := by omega
  clear hV hA0 hA1 hA2 hz hC hD
  go_loopw [7] (fun i wr => ∃ k : Nat, k ≤ 64 ∧ i = .int .i64 (k : Int) ∧ Hid (Wk2 B C D B G (mrgK F G m k) w wr)) (fun i _ => 64 - (intOf i).toNat)
  case atStart => exact ⟨0, by omega, rfl, by rw [Ln.mrgK_zero]; exact HI⟩
  case round =>
    obtain ⟨k, hk, rfl, HK⟩ := hrel
    by_cases hlt : k < 64
    · have c0 := HK.out.g.cell k hlt
      have c1 := HK.out.o.cell k hlt
      have c2 := HK.out.o.free k
      obtain ⟨b, hb, Hb⟩ : ∃ b, b ≤ 1 ∧ Hid (m / 2 ^ k % 2 = b) := ⟨_, by omega, rfl⟩
      have cK : Hid (∀ W : World, Calls Tryd.prog 22 #[.int .u64 (m : Int), .int .i64 (k : Int)] W fun e w' => e = .returned (.int .i64 (b : Int)) ∧ w' = W) := fun W => by
        have := cB.out k (by omega) W
        rw [Hb.out] at this; exact this
      by_cases h1 : b = 1
      · have HN : Hid (Wk2 B C D B G (mrgK F G m (k + 1)) w (wr.setCell ⟨B, k, none⟩ (.int .u8 (G k)))) := (HK.out.set nD nC (Nat.le_refl _) k (G k)).congr fun i _ => Ln.mrgK_take F G m k (Hb.out.trans h1) i
        subst h1
        clear cB
        go_wp2_with (go_at_call 22; refine (cK.out _).mono ?_; rintro e w' ⟨rfl, rfl⟩)
        go_roundw
        case rel => exact ⟨k + 1, by omega, by go_num, HN⟩
        case measure => simp [intOf]; omega
      · have HN : Hid (Wk2 B C D B G (mrgK F G m (k + 1)) w wr) := HK.out.congr fun i _ => Ln.mrgK_skip F G m k (by rw [Hb.out]; exact h1) i
        obtain rfl : b = 0 := by omega
        clear cB
        go_wp2_with (go_at_call 22; refine (cK.out _).mono ?_; rintro e w' ⟨rfl, rfl⟩)
        go_roundw
        case rel => exact ⟨k + 1, by omega, by go_num, HN⟩
        case measure => simp [intOf]; omega
    · obtain rfl : k = 64 := by omega
      have HE : Wk2 B C D B G (mrg F G m) w wr := HK.out.congr fun i hi => Ln.mrgK_all F G m i hi
      have hr := HE.o.range
      have ht := HE.r.there .u8 (mrg F G m)
      have hi9 : (Tryd.prog.info? 22).map (·.size) = some (ints .u8 64 (mrg F G m)).length := by rw [ints_len]; exact infoA
      have hone := ints_one .u8 64 (mrg F G m)
      have HB : Hid (Below B w wr) := HE.below
      obtain ⟨L, hL⟩ : ∃ L, ints .u8 64 (mrg F G m) = L := ⟨_, rfl⟩
      rw [hL] at hr ht hi9 hone
      have HL : Hid (ints .u8 64 (mrg F G m) = L) := hL
      clear HK HE hL HI cB
      go_wp2_with (first | refine wpList_load_mid rfl 22 _ rfl _ 0 rfl L _ hr Tryd.underlying22 rfl hi9 ?_ | refine wpList_store_mid rfl 22 _ _ rfl _ 0 L.toArray rfl rfl ht hi9 hone ?_)
      have hs : (wr.setCells D 0 L).rangeAt D 0 L := World.rangeAt_setCells_same wr _ 0 L (by simpa using ht)
      have hld := run_loadVar_mid (P := Tryd.prog) (wr.setCells D 0 L) D 0 22 L _ hs Tryd.underlying22 rfl hi9
      refine bodyPost_ret (v := .agg L.toArray) ?_ rfl ⟨by rw [HL.out], by rw [hB]; exact belows_put lD L 0 HB.out⟩
      simp [results, Tryd.f9, Act.put, asAddr, hld]

/-- between two rounds of Merge -/
def MgI (B C D : Nat) (F G : Nat → Int) (m : Nat) (w : World) (x : Nat) (W : World) : Prop := Wk2 B C D B G (mrgK F G m x) w W

set_option maxRecDepth 100000 in
set_option maxHeartbeats 2000000 in
theorem merge_any (F G : Nat → Int) (m : Nat) (hm : m < 18446744073709551616) (w : World) (hT : TabW w) :
    Calls Tryd.prog 8 #[.agg (ints .u8 64 F).toArray, .agg (ints .u8 64 G).toArray, .int .u64 (m : Int)] w fun e w' => e = .returned (.agg (ints .u8 64 (mrg F G m)).toArray) ∧ Below w.heap.size w w' := by
  have hz := zeroL
  obtain ⟨A0, hA0⟩ : ∃ A, (ints .u8 64 F).toArray = A := ⟨_, rfl⟩
  obtain ⟨A1, hA1⟩ : ∃ A, (ints .u8 64 G).toArray = A := ⟨_, rfl⟩
  obtain ⟨A2, hA2⟩ : ∃ A, (ints .u8 64 fun _ => 0).toArray = A := ⟨_, rfl⟩
  rw [hA2] at hz
  rw [hA0, hA1]
  have HT : Hid (TabW w) := hT
  clear hT
  have hT0 : 0 < w.heap.size := HT.out.lt
  refine (callsIn_wide (n := 10)).1 ?_
  refine callsIn_of_wp_marks Tryd.func8 rfl trivial ?_ rfl
  simp only [Tryd.ntmps8, List.size_toArray, List.length_cons, List.length_nil, Nat.reduceAdd, Nat.reduceSub, Array.replicate_succ, Array.replicate_zero, List.push_toArray, List.append_toArray, List.nil_append, List.cons_append]
  refine wpIn_wide.2 ?_
  go_wp2_with (go_at_call 21; refine (ones64_any _ _).mono ?_; rintro e w' ⟨rfl, rfl⟩)
  obtain ⟨V, hV⟩ : ∃ V, ((w.alloc (.cells A0 23)).alloc (.cells A1 23)).alloc (.cells A2 23) = V := ⟨_, rfl⟩
  have sV : V.heap.size = w.heap.size + 1 + 1 + 1 := by rw [← hV]; simp
  have hI := wk2_new 23 F G w V A0 A1 A2 hA0 hA1 hA2 hV
  obtain ⟨V2, hV2⟩ : ∃ V2, V.alloc (.cells #[.int .u64 (m : Int)] 24) = V2 := ⟨_, rfl⟩
  rw [hV, hV2]
  obtain ⟨B, hB⟩ : ∃ B, w.heap.size = B := ⟨_, rfl⟩
  obtain ⟨C, hC⟩ : ∃ C, B + 1 = C := ⟨_, rfl⟩
  obtain ⟨D, hD⟩ : ∃ D, C + 1 = D := ⟨_, rfl⟩
  obtain ⟨O, hO⟩ : ∃ O, D + 1 = O := ⟨_, rfl⟩
  rw [hB, hC, hD, hO] at sV
  rw [hB, hC, hD] at hI
  rw [hB, hC, hD, hO]
  have nC : C ≠ B := by omega
  have nD : D ≠ B := by omega
  have lD : B ≤ D := by omega
  have lO : D < O := by omega
  have a2 : Box V2 O (.int .u64 (m : Int)) := by rw [← hV2, ← sV]; exact Box.new V _ _
  have sV2 : V2.heap.size = O + 1 := by rw [← hV2, ← sV]; simp
  have hS2 : Stay V.heap.size V V2 := by rw [← hV2]; exact Stay.alloc _ V _ (Nat.le_refl _)
  have hI2 : MgI B C D F G m w 0 V2 := by
    unfold MgI; rw [Ln.mrgK_zero]; exact hI.stay hS2 (by omega)
  have hTV : TabW V2 := HT.out.below hI2.below (by omega)
  rw [hB] at hT0
  clear hV hV2 hA0 hA1 hA2 hz hC hD hO hI HT hS2 sV
  refine (wpIn_wide (n := 10)).1 (rangeC rfl (enters_of Tryd.func27 (by kernel_rfl) rfl) (ones64_seq O m hm V2 a2.lt a2.1 hTV) (fun _ => rfl)
    (fun x => x = B) (by rintro x rfl; constructor <;> omega) (by rintro x rfl; omega)
    (MgI B C D F G m w) (fun _ _ _ => False)
    (by rintro x A A' h hs; exact Wk2.stay h hs (by omega))
    (fun _ _ _ _ h _ => h.elim) hI2
    (by rintro x W hx hp h
        exact Wk2.congr h fun i _ => Ln.mrgK_skip F G m x hp i) ?round ?done (fun _ _ _ _ _ _ _ h => h.elim))
  case round =>
    rintro l x W W2 hx hp h
    have c0 := Bk.cell h.g x hx
    have c1 := Bk.cell h.o x hx
    have c2 := Bk.free h.o x
    have fin : Hid (Keep (fun x => x = B) W2 (W2.setCell ⟨B, x, none⟩ (.int .u8 (G x))) ∧ MgI B C D F G m w (x + 1) (W2.setCell ⟨B, x, none⟩ (.int .u8 (G x)))) := by
      refine ⟨?_, Wk2.congr (Wk2.set h nD nC (Nat.le_refl _) x (G x)) fun i _ => Ln.mrgK_take F G m x hp i⟩
      exact ⟨by simp, fun b _ hm => Below.heap_setCell W2 _ _ b (fun e => hm e)⟩
    clear h hp hI2 a2
    gi_wp2
    try (refine ⟨trivial, ?_⟩)
    try gi_wp2
    exact fin.out
  case done =>
    rintro K W hK h hKd
    have HE : Wk2 B C D B G (mrg F G m) w W := Wk2.congr h fun i hi => Ln.mrgK_all F G m i hi
    have hr := HE.o.range
    have ht := HE.r.there .u8 (mrg F G m)
    have hi9 : (Tryd.prog.info? 23).map (·.size) = some (ints .u8 64 (mrg F G m)).length := by rw [ints_len]; exact infoL
    have hone := ints_one .u8 64 (mrg F G m)
    have HB : Hid (Below B w W) := HE.below
    obtain ⟨L, hL⟩ : ∃ L, ints .u8 64 (mrg F G m) = L := ⟨_, rfl⟩
    rw [hL] at hr ht hi9 hone
    have HL : Hid (ints .u8 64 (mrg F G m) = L) := hL
    have hs : Hid ((W.setCells D 0 L).rangeAt D 0 L) := World.rangeAt_setCells_same W _ 0 L (by simpa using ht)
    have HKd : Hid ((W.setCells D 0 L).heap[K]? = some (.deferred (some []))) := (heap_puts D L 0 W K (by omega)).trans hKd
    clear h HE hL hI2 hKd
    go_wp2_with (first | refine wpList_load_mid rfl 23 _ rfl _ 0 rfl L _ hr Tryd.underlying23 rfl hi9 ?_ | refine wpList_store_mid rfl 23 _ _ rfl _ 0 L.toArray rfl rfl ht hi9 hone ?_)
    have hS : Stay D (W.setCells D 0 L) ((W.setCells D 0 L).putObj K (.deferred none)) := Stay.putObj _ HKd.out rfl (by omega)
    have hs2 : ((W.setCells D 0 L).putObj K (.deferred none)).rangeAt D 0 L := fun j v hv => hS.cell (hs.out j v hv)
    have hld := run_loadVar_mid (P := Tryd.prog) ((W.setCells D 0 L).putObj K (.deferred none)) D 0 23 L _ hs2 Tryd.underlying23 rfl hi9
    refine ⟨by simp, .inl ⟨_, _, rfl, run_takeDeferred HKd.out, ?_⟩⟩
    refine ⟨.agg L.toArray, ?_, by rw [HL.out], by rw [hB]; exact below_stay (belows_put lD L 0 HB.out) hS lD⟩
    simp [results, Tryd.f8, Act.put, asAddr, hld]
end Go.Proofs.YtenfjllaeehckaaDoor
