/-
  Texts of one family, one behind another: CoW11.
-/
import Derived.Test.YtoimbjbdkkohcaaGreatDoorM19

/-
  The reference of the virtual symbols.
-/
namespace Go.Proofs.YtoimbjbdkkohcaaGreatDoor
open Go.RowKit Go.Shelf
open Po (El toE)
attribute [local go_sem] Oper.semAt_some
section
variable {c h r f : Nat} {L : List (Nat × List Value)} {w W : World}
/-- two arrays are laid -/
theorem LwS.layA (H : LwS c h r f L w W) (k : IntKind) (n : Nat) (F G : Nat → Int) (t : TypeId) {Z : Array Value} (hZ : (ints k n fun _ => 0).toArray = Z) {A A' : List Value} (hA : ints k n F = A) (hA' : ints k n G = A') :
    ((W.alloc (.cells Z t)).alloc (.cells Z t)).there W.heap.size 0 A.toArray.size ∧ (((W.alloc (.cells Z t)).alloc (.cells Z t)).setCells W.heap.size 0 A).there (W.heap.size + 1) 0 A'.toArray.size ∧
    LwS c h r f ((W.heap.size + 1, A') :: (W.heap.size, A) :: L) w ((((W.alloc (.cells Z t)).alloc (.cells Z t)).setCells W.heap.size 0 A).setCells (W.heap.size + 1) 0 A') ∧
    Bk k ((((W.alloc (.cells Z t)).alloc (.cells Z t)).setCells W.heap.size 0 A).setCells (W.heap.size + 1) 0 A') W.heap.size n F ∧ Bk k ((((W.alloc (.cells Z t)).alloc (.cells Z t)).setCells W.heap.size 0 A).setCells (W.heap.size + 1) 0 A') (W.heap.size + 1) n G := by
  subst hZ
  subst hA
  subst hA'
  have h0 := Bk.new k W n (fun _ => 0) t
  have h1 := Bk.new k (W.alloc (.cells (ints k n fun _ => 0).toArray t)) n (fun _ => 0) t
  simp only [World.size_alloc] at h1
  have h0' := h0.alloc (.cells (ints k n fun _ => 0).toArray t)
  obtain ⟨V, hV⟩ : ∃ V, (W.alloc (.cells (ints k n fun _ => 0).toArray t)).alloc (.cells (ints k n fun _ => 0).toArray t) = V := ⟨_, rfl⟩
  have ha : Below W.heap.size W V := by rw [← hV]; exact ((Below.refl _ W).alloc (Nat.le_refl _) _).alloc (by simp) _
  rw [hV] at h1 h0' ⊢
  have h2 := h0'.put F
  have h3 := h1.putOther (c := W.heap.size) (by omega) 0 (ints k n F)
  have h4 := h3.put G
  have h5 := h2.putOther (c := W.heap.size + 1) (by omega) 0 (ints k n G)
  have hp : Below w.heap.size w ((V.setCells W.heap.size 0 (ints k n F)).setCells (W.heap.size + 1) 0 (ints k n G)) := belows_put (by have := H.below.size; omega) _ 0 (belows_put H.below.size _ 0 (H.below.trans (ha.mono H.below.size)))
  exact ⟨h0'.there k F, h3.there k G, LwS.cons (LwS.cons (H.over (fun b hb => (heap_puts _ _ 0 _ b (by omega)).trans ((heap_puts _ _ 0 _ b (by omega)).trans (ha.block b hb))) hp) h5.at9) h4.at9, h5, h4⟩
end
set_option maxRecDepth 100000 in
set_option maxHeartbeats 1000000 in
theorem refVirtual_any (i : Int) (p : Bool) (w : World) : Calls Tryz.prog 24 #[.int .i64 i, .bool p] w fun e w' => e = .returned (.agg (ints .u8 3 (vb i p)).toArray) ∧ Below w.heap.size w w' := by
  have hz : ∀ w, (zeroValue 54).run Tryz.prog w = .ok (.agg #[.int .u8 0, .int .u8 0, .int .u8 0]) w := zeroB3
  obtain ⟨n, hn⟩ : ∃ n, i % 8388608 = n := ⟨_, rfl⟩
  have b0 : 0 ≤ n := by omega
  have b1 : n < 8388608 := by omega
  have hw : (IntKind.u64.wrap i).tmod 8388608 = n := by
    have : IntKind.u64.wrap i = i % 18446744073709551616 := rfl
    rw [this, Int.tmod_eq_emod_of_nonneg (by omega)]; omega
  obtain ⟨x0, h0⟩ : ∃ x, n % 256 = x := ⟨_, rfl⟩
  obtain ⟨x1, h1⟩ : ∃ x, n / 256 % 256 = x := ⟨_, rfl⟩
  obtain ⟨x2, h2⟩ : ∃ x, (n / 65536 + if p then 128 else 0) = x := ⟨_, rfl⟩
  have hv : ints .u8 3 (vb i p) = [.int .u8 x0, .int .u8 x1, .int .u8 x2] := by
    show [Value.int .u8 (vb i p 0), .int .u8 (vb i p 1), .int .u8 (vb i p 2)] = _
    unfold vb
    rw [← h0, ← h1, ← h2, ← hn]
    simp
  obtain ⟨N, hN⟩ : ∃ N, n + (if p then 8388608 else 0) = N := ⟨_, rfl⟩
  have e0 : N.tmod 256 = x0 := by
    rw [Int.tmod_eq_emod_of_nonneg (by cases p <;> simp at hN <;> omega)]; cases p <;> simp at hN <;> omega
  have e1 : (IntKind.u64.wrap (N.tdiv 256)).tmod 256 = x1 := by
    rw [Int.tdiv_eq_ediv_of_nonneg (by cases p <;> simp at hN <;> omega)]
    have : IntKind.u64.wrap (N / 256) = N / 256 % 18446744073709551616 := rfl
    rw [this, Int.tmod_eq_emod_of_nonneg (by omega)]; cases p <;> simp at hN <;> omega
  have e2 : IntKind.u64.wrap (N.tdiv 65536) = x2 := by
    rw [Int.tdiv_eq_ediv_of_nonneg (by cases p <;> simp at hN <;> omega)]
    have : IntKind.u64.wrap (N / 65536) = N / 65536 % 18446744073709551616 := rfl
    rw [this]; cases p <;> simp at hN h2 <;> omega
  have f0 : x0 % 256 = x0 := by omega
  have f1 : x1 % 256 = x1 := by omega
  have f2 : x2 % 256 = x2 := by cases p <;> simp at h2 <;> omega
  have hN2 : p = true → IntKind.u64.wrap (n + 8388608) = N := fun hp => by
    subst hp
    have : IntKind.u64.wrap (n + 8388608) = (n + 8388608) % 18446744073709551616 := rfl
    rw [this]; simp at hN; omega
  have hN1 : p = false → n = N := fun hp => by subst hp; simpa using hN
  obtain ⟨A, hA⟩ : ∃ A, [Value.int .u8 x0, .int .u8 x1, .int .u8 x2] = A := ⟨_, rfl⟩
  have hd : (w.alloc (.cells #[.int .u8 0, .int .u8 0, .int .u8 0] 54)).there w.heap.size 0 A.toArray.size := by
    have := (Bk.new .u8 w 3 (fun _ => 0) 54).there .u8 (fun _ => 0)
    rw [← hA]; exact this
  have HD : Hid (Below w.heap.size w (w.alloc (.cells #[.int .u8 0, .int .u8 0, .int .u8 0] 54))) := (Below.refl _ w).alloc (Nat.le_refl _) _
  have hs : ((w.alloc (.cells #[.int .u8 0, .int .u8 0, .int .u8 0] 54)).setCells w.heap.size 0 A).rangeAt w.heap.size 0 A := World.rangeAt_setCells_same _ _ 0 A (by simpa using hd)
  have i1 : (Tryz.prog.info? 54).map (·.size) = some A.length := by rw [← hA]; exact infoB3
  have i0 : (Tryz.prog.info? 54).map (·.size) = some A.toArray.size := by simpa using i1
  have o0 : A.toArray.all (·.oneCell') = true := by rw [← hA, ← hv]; exact ints_one .u8 3 _
  have hld := run_loadVar_mid (P := Tryz.prog) _ w.heap.size 0 54 A _ hs Tryz.underlying54 rfl i1
  have hbl := belows_put (Nat.le_refl _) A 0 HD.out
  have HB : Hid (Below w.heap.size w ((w.alloc (.cells #[.int .u8 0, .int .u8 0, .int .u8 0] 54)).setCells w.heap.size 0 A)) := hbl
  have HA : Hid ([Value.int .u8 x0, .int .u8 x1, .int .u8 x2].toArray = A.toArray) := by rw [hA]; exact rfl
  rw [hv, hA]
  clear hv hn h0 h1 h2 hs hbl hA
  cases p
  · have hN3 := hN1 rfl
    subst hN3
    clear hN hN1 hN2 b0 b1
    go_enter Tryz.func24, Tryz.ntmps24
    go_wp2_with (rw [HA.out]; refine wpList_store_mid rfl 54 _ _ rfl w.heap.size 0 A.toArray rfl rfl hd i0 o0 ?_)
    refine bodyPost_ret (v := .agg A.toArray) ?_ rfl ⟨rfl, HB.out⟩
    simp [results, Tryz.f24, Act.put, asAddr, hld]
  · have hN3 := hN2 rfl
    clear hN hN1 hN2 b0 b1
    go_enter Tryz.func24, Tryz.ntmps24
    go_wp2_with (rw [HA.out]; refine wpList_store_mid rfl 54 _ _ rfl w.heap.size 0 A.toArray rfl rfl hd i0 o0 ?_)
    refine bodyPost_ret (v := .agg A.toArray) ?_ rfl ⟨rfl, HB.out⟩
    simp [results, Tryz.f24, Act.put, asAddr, hld]
end Go.Proofs.YtoimbjbdkkohcaaGreatDoor
