/-
  The document's chips: what would be read at an index.
-/
import Derived.Test.YtcpjmfemgdgplaaDrR5
namespace Go.Proofs.Ytcpjmfemgdgplaa
open Go.RowKit Go.Shelf
attribute [local go_sem] Oper.semAt_some

/-- the document's Apply, as its own text has it (FaR4's refApply_any) -/
def Ap12 (m n : Int) : Prop := ∀ (k p q u v c i x p' q' u' v' : Int) (F : Nat → Int), Byts 72 F → ∀ w : World, Calls Try.prog 46 #[.agg #[.int .i64 k, .int .i64 p, .int .i64 q, .int .i64 u, .int .i64 v, .int .i64 c, .int .i64 i, .int .i64 x], .int .i64 m, .agg #[.int .i64 p', .int .i64 q', .int .i64 u', .int .i64 v'], .agg (ints .u8 72 F).toArray] w fun e w' => e = .returned (.agg (ints .u8 72 (apF n k p q u v c i x p' q' u' v' F)).toArray) ∧ Below w.heap.size w w'
/-- at work in Look -/
structure Lt12 (B R C : Nat) (r s b o d m : Int) (va vb vc : Value) (X : Nat → Int) (w W : World) : Prop where
  c : Cb W B (dl r s b o d m va vb vc)
  e : Bk .u8 W R 72 (fun _ => 0)
  r : Bk .u8 W C 72 X
  n : Below B w W
section
variable {B R C : Nat} {r s b o d m : Int} {va vb vc : Value} {X : Nat → Int} {w W W' : World}
theorem Lt12.next (h : Lt12 B R C r s b o d m va vb vc X w W) (k : Below W.heap.size W W') : Lt12 B R C r s b o d m va vb vc X w W' := ⟨h.c.next k, h.e.next k, h.r.next k, h.n.trans (k.mono (Nat.le_of_lt h.c.lt))⟩
theorem Lt12.put (h : Lt12 B R C r s b o d m va vb vc X w W) (h1 : B < C) (h2 : R < C) (Y : Nat → Int) : Lt12 B R C r s b o d m va vb vc Y w (W.setCells C 0 (ints .u8 72 Y)) :=
  ⟨h.c.putOther (by omega) 0 _, h.e.putOther (by omega) 0 _, h.r.put Y, belows_put (by omega) _ 0 h.n⟩
end
set_option maxRecDepth 100000 in
set_option maxHeartbeats 4000000 in
theorem look12_any (r s b o d m n : Int) (hap : Ap12 m n) (a : Option Addr) (len cap : Nat) (E : List En) (a2 : Option Addr) (len2 cap2 : Nat) (Z : Nat → Nat → Int) (vc : Value) (idx : Int) (h0 : 0 ≤ idx) (h1 : idx < 9223372036854775808) (w : World) (hs : Er w a len cap E) (hs2 : Fs w a2 len2 cap2 Z) :
    Calls Try.prog 19 #[.agg #[.int .i64 r, .int .i64 s, .int .i64 b, .int .i64 o, .int .i64 d, .int .i64 m, .slice a len cap, .slice a2 len2 cap2, vc], .int .i64 idx] w fun e w' => e = .returned (.agg (ints .u8 72 (ovF n Z (idx / 1048576) (idx / 65536 % 16) (idx / 64 % 1024) (idx % 64) (gE E idx) len2)).toArray) ∧ Below w.heap.size w w' := by
  have hF : Byts 72 (gE E idx) := gE_byt E (fun e he => (hs.wf e he).2) idx
  have hlm : len2 ≤ maxLen := Nat.le_trans hs2.le hs2.cm
  unfold maxLen at hlm
  have CG : Hid (∀ W, Below w.heap.size w W → Calls Try.prog 45 #[.agg #[.int .i64 r, .int .i64 s, .int .i64 b, .int .i64 o, .int .i64 d, .int .i64 m, .slice a len cap, .slice a2 len2 cap2, vc], .int .i64 idx] W fun e w' => e = .returned (.agg (ints .u8 72 (gE E idx)).toArray) ∧ Below W.heap.size W w') := fun W hW => get12_any r s b o d m a len cap _ vc E idx W (hs.below hW)
  have CP : Hid (∀ w : World, Calls Try.prog 44 #[.int .i64 idx] w fun e w' => e = .returned (.agg #[.int .i64 (idx / 1048576), .int .i64 (idx / 65536 % 16), .int .i64 (idx / 64 % 1024), .int .i64 (idx % 64)]) ∧ Below w.heap.size w w') := refPlace_any idx h0 h1
  obtain ⟨F, hF2⟩ : ∃ F, gE E idx = F := ⟨_, rfl⟩
  rw [hF2] at CG hF
  rw [hF2]
  clear hF2
  obtain ⟨p0, hp0⟩ : ∃ y, idx / 1048576 = y := ⟨_, rfl⟩
  obtain ⟨p1, hp1⟩ : ∃ y, idx / 65536 % 16 = y := ⟨_, rfl⟩
  obtain ⟨p2, hp2⟩ : ∃ y, idx / 64 % 1024 = y := ⟨_, rfl⟩
  obtain ⟨p3, hp3⟩ : ∃ y, idx % 64 = y := ⟨_, rfl⟩
  rw [hp0, hp1, hp2, hp3] at CP
  rw [hp0, hp1, hp2, hp3]
  clear hp0 hp1 hp2 hp3 h0 h1
  have HA : Hid (∀ s, s < len2 → ∀ w : World, Calls Try.prog 46 #[.agg #[.int .i64 (Z s 0), .int .i64 (Z s 1), .int .i64 (Z s 2), .int .i64 (Z s 3), .int .i64 (Z s 4), .int .i64 (Z s 5), .int .i64 (Z s 6), .int .i64 (Z s 7)], .int .i64 m, .agg #[.int .i64 p0, .int .i64 p1, .int .i64 p2, .int .i64 p3], .agg (ints .u8 72 (ovF n Z p0 p1 p2 p3 F s)).toArray] w fun e w' => e = .returned (.agg (ints .u8 72 (ovF n Z p0 p1 p2 p3 F (s + 1))).toArray) ∧ Below w.heap.size w w') := fun s h w =>
    hap (Z s 0) (Z s 1) (Z s 2) (Z s 3) (Z s 4) (Z s 5) (Z s 6) (Z s 7) p0 p1 p2 p3 _ (ovF_byt n Z p0 p1 p2 p3 F hF s) w
  have HR : Hid (0 < len2 → ∃ b o, a2 = some ⟨b, o, none⟩ ∧ b < w.heap.size ∧ ∀ W, Below w.heap.size w W → ∀ s, s < len2 → W.rangeAt b (o + s * 8) [.int .i64 (Z s 0), .int .i64 (Z s 1), .int .i64 (Z s 2), .int .i64 (Z s 3), .int .i64 (Z s 4), .int .i64 (Z s 5), .int .i64 (Z s 6), .int .i64 (Z s 7)]) := fun h0 => by
    obtain ⟨b, o, h1, h2, h3⟩ := hs2.at_ h0
    refine ⟨b, o, h1, h2, fun W hW s hs => fs_range (fun i hi j hj => ?_) s hs⟩
    exact (hW.cell (p := ⟨b, o + (i * 8 + j), none⟩) h2).trans (h3 i hi j hj)
  clear hs hs2 hap hF
  have hz := zeroA9
  obtain ⟨T, hT⟩ : ∃ Z, (ints .u8 72 fun _ => 0).toArray = Z := ⟨_, rfl⟩
  rw [hT] at hz
  obtain ⟨va, hva⟩ : ∃ va, Value.slice a len cap = va := ⟨_, rfl⟩
  obtain ⟨vb, hvb⟩ : ∃ vb, Value.slice a2 len2 cap2 = vb := ⟨_, rfl⟩
  rw [hva, hvb] at CG
  rw [hva, hvb]
  obtain ⟨L0, hL0⟩ : ∃ L, ints .u8 72 F = L := ⟨_, rfl⟩
  rw [hL0] at CG
  have HVB : Hid (Value.slice a2 len2 cap2 = vb) := hvb
  have HL0 : Hid (ints .u8 72 F = L0) := hL0
  have i0 : (Try.prog.info? 39).map (·.size) = some L0.length := by rw [← hL0, ints_len]; exact infoA9
  have j0 : (Try.prog.info? 39).map (·.size) = some L0.toArray.size := by simpa using i0
  have o0 : L0.toArray.all (·.oneCell') = true := by rw [← hL0]; exact ints_one .u8 72 F
  clear hva hvb hL0
  go_enter Try.func19, Try.ntmps19
  go_upto_region 1 with (fail)
  obtain ⟨B, hB⟩ : ∃ B, w.heap.size = B := ⟨_, rfl⟩
  obtain ⟨R, hR⟩ : ∃ R, B + 1 = R := ⟨_, rfl⟩
  obtain ⟨V, hV⟩ : ∃ V, (w.alloc (.cells #[.int .i64 r, .int .i64 s, .int .i64 b, .int .i64 o, .int .i64 d, .int .i64 m, va, vb, vc] 34)).alloc (.cells T 39) = V := ⟨_, rfl⟩
  have HS : Hid (Gt12 B R r s b o d m va vb vc w V) := by
    have a2 := Bk.new .u8 (w.alloc (.cells #[.int .i64 r, .int .i64 s, .int .i64 b, .int .i64 o, .int .i64 d, .int .i64 m, va, vb, vc] 34)) 72 (fun _ => 0) 39
    rw [hT] at a2
    simp only [World.size_alloc] at a2
    rw [← hV, ← hR, ← hB]
    exact ⟨(Cb.new w (dl r s b o d m va vb vc) _).alloc _, a2, ((Below.refl _ w).alloc (Nat.le_refl _) _).alloc (by simp) _⟩
  rw [hB] at HR CG
  have oR : B < R := by omega
  rw [hV, hB, hR]
  clear hV
  have hr := HS.out.c.range
  go_wp2_with (first
    | refine wpList_load_mid rfl 34 _ rfl B 0 rfl [.int .i64 r, .int .i64 s, .int .i64 b, .int .i64 o, .int .i64 d, .int .i64 m, va, vb, vc] _ hr Try.underlying34 rfl infoD12 ?_)
  refine (CG.out _ HS.out.n).mono ?_
  rintro e W1 ⟨rfl, b1⟩
  replace HS : Hid (Gt12 B R r s b o d m va vb vc w W1) := HS.out.next b1
  obtain ⟨C, hC⟩ : ∃ C, W1.heap.size = C := ⟨_, rfl⟩
  have oB : B < C := by rw [← hC]; exact HS.out.c.lt
  have oC : R < C := by rw [← hC]; exact HS.out.e.lt
  clear hr b1 CG
  have ht : (W1.alloc (.cells T 39)).there C 0 L0.toArray.size := by
    rw [← hT, ← HL0.out, ← hC]
    have := Bk.there (Bk.new .u8 W1 72 (fun _ => 0) 39) .u8 F
    simpa [ints] using this
  go_upto_region 2 with (first | refine wpList_store_mid rfl 39 _ _ rfl C 0 L0.toArray rfl rfl ht j0 o0 ?_)
  obtain ⟨W2, hW2⟩ : ∃ W2, (W1.alloc (.cells T 39)).setCells C 0 L0 = W2 := ⟨_, rfl⟩
  have HJ : Hid (Lt12 B R C r s b o d m va vb vc (ovF n Z p0 p1 p2 p3 F 0) w W2) := by
    rw [← hW2, ← HL0.out, ← hT]
    have a1 := HS.out.next ((Below.refl _ W1).alloc (Nat.le_refl _) (.cells (ints .u8 72 fun _ => 0).toArray 39))
    have a2 := Bk.new .u8 W1 72 (fun _ => 0) 39
    rw [hC] at a2
    exact ⟨a1.c.putOther (by omega) 0 _, a1.e.putOther (by omega) 0 _, a2.put F, belows_put (by omega) _ 0 a1.n⟩
  rw [hW2]
  clear hW2 ht HS hz hT i0 j0 o0 HL0
  go_wp2
  go_loopw [6] (fun i wr => ∃ s' : Nat, s' ≤ len2 ∧ i = .int .i64 (s' : Int) ∧ Hid (Lt12 B R C r s b o d m va vb vc (ovF n Z p0 p1 p2 p3 F s') w wr)) (fun i _ => len2 - (intOf i).toNat)
  case atStart => exact ⟨0, by omega, rfl, HJ⟩
  case round =>
    clear HJ
    obtain ⟨t, ht, rfl, HS⟩ := hrel
    have hc := HS.out.c.cell (i := 7) (v := vb) rfl
    rw [← HVB.out] at hc
    by_cases hlt : t < len2
    · obtain ⟨pb, po, rfl, hpb, HQ⟩ := HR.out (by omega)
      have CA := HA.out t hlt
      have hq : ∀ W, Below w.heap.size w W → W.rangeAt pb (po + t * 8) [.int .i64 (Z t 0), .int .i64 (Z t 1), .int .i64 (Z t 2), .int .i64 (Z t 3), .int .i64 (Z t 4), .int .i64 (Z t 5), .int .i64 (Z t 6), .int .i64 (Z t 7)] := fun W hW => HQ W (by rw [hB] at hW; exact hW) t hlt
      obtain ⟨X, hX⟩ : ∃ X, ovF n Z p0 p1 p2 p3 F t = X := ⟨_, rfl⟩
      obtain ⟨Y, hY⟩ : ∃ Y, ovF n Z p0 p1 p2 p3 F (t + 1) = Y := ⟨_, rfl⟩
      rw [hX] at HS
      rw [hX, hY] at CA
      clear HQ HA hX
      obtain ⟨M, hM⟩ : ∃ M, ints .u8 72 Y = M := ⟨_, rfl⟩
      obtain ⟨L, hL⟩ : ∃ L, ints .u8 72 X = L := ⟨_, rfl⟩
      have i0 : (Try.prog.info? 39).map (·.size) = some L.length := by rw [← hL, ints_len]; exact infoA9
      have i1 : (Try.prog.info? 39).map (·.size) = some M.length := by rw [← hM, ints_len]; exact infoA9
      have j9 : (Try.prog.info? 39).map (·.size) = some M.toArray.size := by simpa using i1
      have one1 : M.toArray.all (·.oneCell') = true := by rw [← hM]; exact ints_one .u8 72 Y
      rw [hL, hM] at CA
      obtain ⟨z0, hz0⟩ : ∃ y, Z t 0 = y := ⟨_, rfl⟩
      obtain ⟨z1, hz1⟩ : ∃ y, Z t 1 = y := ⟨_, rfl⟩
      obtain ⟨z2, hz2⟩ : ∃ y, Z t 2 = y := ⟨_, rfl⟩
      obtain ⟨z3, hz3⟩ : ∃ y, Z t 3 = y := ⟨_, rfl⟩
      obtain ⟨z4, hz4⟩ : ∃ y, Z t 4 = y := ⟨_, rfl⟩
      obtain ⟨z5, hz5⟩ : ∃ y, Z t 5 = y := ⟨_, rfl⟩
      obtain ⟨z6, hz6⟩ : ∃ y, Z t 6 = y := ⟨_, rfl⟩
      obtain ⟨z7, hz7⟩ : ∃ y, Z t 7 = y := ⟨_, rfl⟩
      rw [hz0, hz1, hz2, hz3, hz4, hz5, hz6, hz7] at CA
      simp only [hz0, hz1, hz2, hz3, hz4, hz5, hz6, hz7] at hq
      clear hz0 hz1 hz2 hz3 hz4 hz5 hz6 hz7 HR
      have CB : Hid (∀ w : World, Calls Try.prog 46 #[.agg #[.int .i64 z0, .int .i64 z1, .int .i64 z2, .int .i64 z3, .int .i64 z4, .int .i64 z5, .int .i64 z6, .int .i64 z7], .int .i64 m, .agg #[.int .i64 p0, .int .i64 p1, .int .i64 p2, .int .i64 p3], .agg L.toArray] w fun e w' => e = .returned (.agg M.toArray) ∧ Below w.heap.size w w') := CA
      clear CA
      have HC : Hid (∀ W, Below wr.heap.size wr W → Lt12 B R C r s b o d m va vb vc X w W ∧ W.cell? ⟨B, 7, none⟩ = some (.slice (some ⟨pb, po, none⟩) len2 cap2) ∧ W.cell? ⟨B, 5, none⟩ = some (.int .i64 m) ∧ W.rangeAt C 0 L ∧ W.rangeAt pb (po + t * 8) [.int .i64 z0, .int .i64 z1, .int .i64 z2, .int .i64 z3, .int .i64 z4, .int .i64 z5, .int .i64 z6, .int .i64 z7] ∧ W.there C 0 M.toArray.size ∧ Lt12 B R C r s b o d m va vb vc Y w (W.setCells C 0 M)) := fun W hW => by
        have h := HS.out.next hW
        refine ⟨h, ?_, h.c.cell (i := 5) rfl, ?_, hq W (by rw [hB]; exact h.n), ?_, ?_⟩
        · rw [h.c.cell (i := 7) (v := vb) rfl, ← HVB.out]
        · rw [← hL]; exact h.r.range
        · rw [← hM]; exact Bk.there h.r .u8 Y
        · rw [← hM]; exact h.put oB oC Y
      clear hq
      go_upto_region 5 with (fail)
      clear hc
      refine region_ends (by kernel_rfl) (fun W => W.cell? ⟨B, 7, none⟩ = some (.slice (some ⟨pb, po, none⟩) len2 cap2) ∧ W.cell? ⟨B, 5, none⟩ = some (.int .i64 m) ∧ W.rangeAt pb (po + t * 8) [.int .i64 z0, .int .i64 z1, .int .i64 z2, .int .i64 z3, .int .i64 z4, .int .i64 z5, .int .i64 z6, .int .i64 z7]) (fun a2 W' => a2 = ({ tmps := #[.agg #[.int .i64 r, .int .i64 s, .int .i64 b, .int .i64 o, .int .i64 d, .int .i64 m, va, vb, vc], .int .i64 idx, .pointer (some ⟨B, 0, none⟩), undef, .pointer (some ⟨R, 0, none⟩), .pointer (some ⟨C, 0, none⟩), .int .i64 (t : Int), .agg #[.int .i64 r, .int .i64 s, .int .i64 b, .int .i64 o, .int .i64 d, .int .i64 m, va, vb, vc], .int .i64 idx, .agg L0.toArray, .int .i64 (t : Int), .pointer (some ⟨B, 7, none⟩), .slice (some ⟨pb, po, none⟩) len2 cap2, .int .i64 (len2 : Int), .bool true, u15, u16, .pointer (some ⟨B, 7, none⟩), .slice (some ⟨pb, po, none⟩) len2 cap2, .int .i64 (t : Int), .pointer (some ⟨pb, po + t * 8, none⟩), .agg #[.int .i64 z0, .int .i64 z1, .int .i64 z2, .int .i64 z3, .int .i64 z4, .int .i64 z5, .int .i64 z6, .int .i64 z7], .pointer (some ⟨B, 5, none⟩), .int .i64 m, .int .i64 idx, .agg #[.int .i64 p0, .int .i64 p1, .int .i64 p2, .int .i64 p3], .agg L.toArray, .agg M.toArray, undef], defers := [] } : Act) ∧ ∃ W3, Below wr.heap.size wr W3 ∧ W' = W3.setCells C 0 M) (by obtain ⟨_, g1, g2, g3, g4, _⟩ := HC.out wr.drew (below_drew1 wr); exact ⟨g1, g2, g4⟩) (fun hH => ?reg) (fun a2 V3 hr => ?aft)
      case reg =>
        have hRB : ∀ (W3 : World) (X : Nat) (c : Nat) (v : Value), X ≠ C → W3.cell? ⟨X, c, none⟩ = some v → (W3.setCells C 0 M).cell? ⟨X, c, none⟩ = some v := fun W3 X c v hX h => (World.cell?_of_block (w := W3) (a := ⟨X, c, none⟩) (heap_puts C M 0 W3 X hX)).trans h
        have gr := (HC.out wr.drew (below_drew1 wr)).2.2.2.1
        refine take_pure 0 (v := .pointer (some ⟨B, 7, none⟩)) rfl (by kernel_rfl) rfl (fun w' hw => by simp [execOp, go_sem, Act.eval]) hH ?_
        show wpAnyH _ _ _ _ _ _ _ ({ tmps := #[.agg #[.int .i64 r, .int .i64 s, .int .i64 b, .int .i64 o, .int .i64 d, .int .i64 m, va, vb, vc], .int .i64 idx, .pointer (some ⟨B, 0, none⟩), undef, .pointer (some ⟨R, 0, none⟩), .pointer (some ⟨C, 0, none⟩), .int .i64 (t : Int), .agg #[.int .i64 r, .int .i64 s, .int .i64 b, .int .i64 o, .int .i64 d, .int .i64 m, va, vb, vc], .int .i64 idx, .agg L0.toArray, .int .i64 (t : Int), .pointer (some ⟨B, 7, none⟩), .slice (some ⟨pb, po, none⟩) len2 cap2, .int .i64 (len2 : Int), .bool true, u15, u16, .pointer (some ⟨B, 7, none⟩), u18, u19, u20, u21, u22, u23, u24, u25, u26, u27, undef], defers := [] } : Act) _
        refine take_pure 1 (v := .slice (some ⟨pb, po, none⟩) len2 cap2) rfl (by kernel_rfl) rfl (fun w' hw => by simp [execOp, go_sem, Act.eval, hw.1]) hH ?_
        show wpAnyH _ _ _ _ _ _ _ ({ tmps := #[.agg #[.int .i64 r, .int .i64 s, .int .i64 b, .int .i64 o, .int .i64 d, .int .i64 m, va, vb, vc], .int .i64 idx, .pointer (some ⟨B, 0, none⟩), undef, .pointer (some ⟨R, 0, none⟩), .pointer (some ⟨C, 0, none⟩), .int .i64 (t : Int), .agg #[.int .i64 r, .int .i64 s, .int .i64 b, .int .i64 o, .int .i64 d, .int .i64 m, va, vb, vc], .int .i64 idx, .agg L0.toArray, .int .i64 (t : Int), .pointer (some ⟨B, 7, none⟩), .slice (some ⟨pb, po, none⟩) len2 cap2, .int .i64 (len2 : Int), .bool true, u15, u16, .pointer (some ⟨B, 7, none⟩), .slice (some ⟨pb, po, none⟩) len2 cap2, u19, u20, u21, u22, u23, u24, u25, u26, u27, undef], defers := [] } : Act) _
        refine take_pure 2 (v := .int .i64 (t : Int)) rfl (by kernel_rfl) rfl (fun w' hw => by simp [execOp, go_sem, Act.eval]) hH ?_
        show wpAnyH _ _ _ _ _ _ _ ({ tmps := #[.agg #[.int .i64 r, .int .i64 s, .int .i64 b, .int .i64 o, .int .i64 d, .int .i64 m, va, vb, vc], .int .i64 idx, .pointer (some ⟨B, 0, none⟩), undef, .pointer (some ⟨R, 0, none⟩), .pointer (some ⟨C, 0, none⟩), .int .i64 (t : Int), .agg #[.int .i64 r, .int .i64 s, .int .i64 b, .int .i64 o, .int .i64 d, .int .i64 m, va, vb, vc], .int .i64 idx, .agg L0.toArray, .int .i64 (t : Int), .pointer (some ⟨B, 7, none⟩), .slice (some ⟨pb, po, none⟩) len2 cap2, .int .i64 (len2 : Int), .bool true, u15, u16, .pointer (some ⟨B, 7, none⟩), .slice (some ⟨pb, po, none⟩) len2 cap2, .int .i64 (t : Int), u20, u21, u22, u23, u24, u25, u26, u27, undef], defers := [] } : Act) _
        refine take_pure 3 (v := .pointer (some ⟨pb, po + t * 8, none⟩)) rfl (by kernel_rfl) rfl (fun w' hw => by simp [execOp, go_sem, Act.eval, hlt]) hH ?_
        show wpAnyH _ _ _ _ _ _ _ ({ tmps := #[.agg #[.int .i64 r, .int .i64 s, .int .i64 b, .int .i64 o, .int .i64 d, .int .i64 m, va, vb, vc], .int .i64 idx, .pointer (some ⟨B, 0, none⟩), undef, .pointer (some ⟨R, 0, none⟩), .pointer (some ⟨C, 0, none⟩), .int .i64 (t : Int), .agg #[.int .i64 r, .int .i64 s, .int .i64 b, .int .i64 o, .int .i64 d, .int .i64 m, va, vb, vc], .int .i64 idx, .agg L0.toArray, .int .i64 (t : Int), .pointer (some ⟨B, 7, none⟩), .slice (some ⟨pb, po, none⟩) len2 cap2, .int .i64 (len2 : Int), .bool true, u15, u16, .pointer (some ⟨B, 7, none⟩), .slice (some ⟨pb, po, none⟩) len2 cap2, .int .i64 (t : Int), .pointer (some ⟨pb, po + t * 8, none⟩), u21, u22, u23, u24, u25, u26, u27, undef], defers := [] } : Act) _
        refine take_if 4 (v := .agg #[.int .i64 z0, .int .i64 z1, .int .i64 z2, .int .i64 z3, .int .i64 z4, .int .i64 z5, .int .i64 z6, .int .i64 z7]) rfl (by kernel_rfl) (yieldsIf_load_mid (by rfl) _ _ rfl pb (po + t * 8) rfl [.int .i64 z0, .int .i64 z1, .int .i64 z2, .int .i64 z3, .int .i64 z4, .int .i64 z5, .int .i64 z6, .int .i64 z7] _ (fun w' hw => hw.2.2) Try.underlying51 rfl infoF12t) hH ?_
        show wpAnyH _ _ _ _ _ _ _ ({ tmps := #[.agg #[.int .i64 r, .int .i64 s, .int .i64 b, .int .i64 o, .int .i64 d, .int .i64 m, va, vb, vc], .int .i64 idx, .pointer (some ⟨B, 0, none⟩), undef, .pointer (some ⟨R, 0, none⟩), .pointer (some ⟨C, 0, none⟩), .int .i64 (t : Int), .agg #[.int .i64 r, .int .i64 s, .int .i64 b, .int .i64 o, .int .i64 d, .int .i64 m, va, vb, vc], .int .i64 idx, .agg L0.toArray, .int .i64 (t : Int), .pointer (some ⟨B, 7, none⟩), .slice (some ⟨pb, po, none⟩) len2 cap2, .int .i64 (len2 : Int), .bool true, u15, u16, .pointer (some ⟨B, 7, none⟩), .slice (some ⟨pb, po, none⟩) len2 cap2, .int .i64 (t : Int), .pointer (some ⟨pb, po + t * 8, none⟩), .agg #[.int .i64 z0, .int .i64 z1, .int .i64 z2, .int .i64 z3, .int .i64 z4, .int .i64 z5, .int .i64 z6, .int .i64 z7], u22, u23, u24, u25, u26, u27, undef], defers := [] } : Act) _
        refine take_pure 5 (v := .pointer (some ⟨B, 5, none⟩)) rfl (by kernel_rfl) rfl (fun w' hw => by simp [execOp, go_sem, Act.eval]) hH ?_
        show wpAnyH _ _ _ _ _ _ _ ({ tmps := #[.agg #[.int .i64 r, .int .i64 s, .int .i64 b, .int .i64 o, .int .i64 d, .int .i64 m, va, vb, vc], .int .i64 idx, .pointer (some ⟨B, 0, none⟩), undef, .pointer (some ⟨R, 0, none⟩), .pointer (some ⟨C, 0, none⟩), .int .i64 (t : Int), .agg #[.int .i64 r, .int .i64 s, .int .i64 b, .int .i64 o, .int .i64 d, .int .i64 m, va, vb, vc], .int .i64 idx, .agg L0.toArray, .int .i64 (t : Int), .pointer (some ⟨B, 7, none⟩), .slice (some ⟨pb, po, none⟩) len2 cap2, .int .i64 (len2 : Int), .bool true, u15, u16, .pointer (some ⟨B, 7, none⟩), .slice (some ⟨pb, po, none⟩) len2 cap2, .int .i64 (t : Int), .pointer (some ⟨pb, po + t * 8, none⟩), .agg #[.int .i64 z0, .int .i64 z1, .int .i64 z2, .int .i64 z3, .int .i64 z4, .int .i64 z5, .int .i64 z6, .int .i64 z7], .pointer (some ⟨B, 5, none⟩), u23, u24, u25, u26, u27, undef], defers := [] } : Act) _
        refine take_pure 6 (v := .int .i64 m) rfl (by kernel_rfl) rfl (fun w' hw => by simp [execOp, go_sem, Act.eval, hw.2.1]) hH ?_
        show wpAnyH _ _ _ _ _ _ _ ({ tmps := #[.agg #[.int .i64 r, .int .i64 s, .int .i64 b, .int .i64 o, .int .i64 d, .int .i64 m, va, vb, vc], .int .i64 idx, .pointer (some ⟨B, 0, none⟩), undef, .pointer (some ⟨R, 0, none⟩), .pointer (some ⟨C, 0, none⟩), .int .i64 (t : Int), .agg #[.int .i64 r, .int .i64 s, .int .i64 b, .int .i64 o, .int .i64 d, .int .i64 m, va, vb, vc], .int .i64 idx, .agg L0.toArray, .int .i64 (t : Int), .pointer (some ⟨B, 7, none⟩), .slice (some ⟨pb, po, none⟩) len2 cap2, .int .i64 (len2 : Int), .bool true, u15, u16, .pointer (some ⟨B, 7, none⟩), .slice (some ⟨pb, po, none⟩) len2 cap2, .int .i64 (t : Int), .pointer (some ⟨pb, po + t * 8, none⟩), .agg #[.int .i64 z0, .int .i64 z1, .int .i64 z2, .int .i64 z3, .int .i64 z4, .int .i64 z5, .int .i64 z6, .int .i64 z7], .pointer (some ⟨B, 5, none⟩), .int .i64 m, u24, u25, u26, u27, undef], defers := [] } : Act) _
        refine take_pure 7 (v := .int .i64 idx) rfl (by kernel_rfl) rfl (fun w' hw => by simp [execOp, go_sem, Act.eval]) hH ?_
        show wpAnyH _ _ _ _ _ _ _ ({ tmps := #[.agg #[.int .i64 r, .int .i64 s, .int .i64 b, .int .i64 o, .int .i64 d, .int .i64 m, va, vb, vc], .int .i64 idx, .pointer (some ⟨B, 0, none⟩), undef, .pointer (some ⟨R, 0, none⟩), .pointer (some ⟨C, 0, none⟩), .int .i64 (t : Int), .agg #[.int .i64 r, .int .i64 s, .int .i64 b, .int .i64 o, .int .i64 d, .int .i64 m, va, vb, vc], .int .i64 idx, .agg L0.toArray, .int .i64 (t : Int), .pointer (some ⟨B, 7, none⟩), .slice (some ⟨pb, po, none⟩) len2 cap2, .int .i64 (len2 : Int), .bool true, u15, u16, .pointer (some ⟨B, 7, none⟩), .slice (some ⟨pb, po, none⟩) len2 cap2, .int .i64 (t : Int), .pointer (some ⟨pb, po + t * 8, none⟩), .agg #[.int .i64 z0, .int .i64 z1, .int .i64 z2, .int .i64 z3, .int .i64 z4, .int .i64 z5, .int .i64 z6, .int .i64 z7], .pointer (some ⟨B, 5, none⟩), .int .i64 m, .int .i64 idx, u25, u26, u27, undef], defers := [] } : Act) _
        refine take_two 8 9 rfl rfl rfl rfl (by kernel_rfl) ?_ ?_
        · refine wp_contract 44 [.tmp 24] _ rfl (enters_of Try.func44 (by kernel_rfl) rfl) [.int .i64 idx] rfl (CP.out _) ?_
          rintro e W2 ⟨rfl, b2⟩
          have B2 : Below wr.heap.size wr W2 := (below_drew1 wr).trans (b2.mono (below_drew1 wr).size)
          obtain ⟨_, g1, g2, g3, g4, _⟩ := HC.out W2 B2
          refine ⟨_, rfl, ⟨g1, g2, g4⟩, fun hH => ?_⟩
          show wpAnyH _ _ _ _ _ _ _ ({ tmps := #[.agg #[.int .i64 r, .int .i64 s, .int .i64 b, .int .i64 o, .int .i64 d, .int .i64 m, va, vb, vc], .int .i64 idx, .pointer (some ⟨B, 0, none⟩), undef, .pointer (some ⟨R, 0, none⟩), .pointer (some ⟨C, 0, none⟩), .int .i64 (t : Int), .agg #[.int .i64 r, .int .i64 s, .int .i64 b, .int .i64 o, .int .i64 d, .int .i64 m, va, vb, vc], .int .i64 idx, .agg L0.toArray, .int .i64 (t : Int), .pointer (some ⟨B, 7, none⟩), .slice (some ⟨pb, po, none⟩) len2 cap2, .int .i64 (len2 : Int), .bool true, u15, u16, .pointer (some ⟨B, 7, none⟩), .slice (some ⟨pb, po, none⟩) len2 cap2, .int .i64 (t : Int), .pointer (some ⟨pb, po + t * 8, none⟩), .agg #[.int .i64 z0, .int .i64 z1, .int .i64 z2, .int .i64 z3, .int .i64 z4, .int .i64 z5, .int .i64 z6, .int .i64 z7], .pointer (some ⟨B, 5, none⟩), .int .i64 m, .int .i64 idx, .agg #[.int .i64 p0, .int .i64 p1, .int .i64 p2, .int .i64 p3], u26, u27, undef], defers := [] } : Act) _
          refine take_one 9 rfl rfl (by kernel_rfl) ?_
          refine wp_load_mid 39 _ rfl C 0 rfl L _ g3 Try.underlying39 rfl i0 ?_
          refine ⟨⟨g1, g2, g4⟩, fun hH => ?_⟩
          show wpAnyH _ _ _ _ _ _ _ ({ tmps := #[.agg #[.int .i64 r, .int .i64 s, .int .i64 b, .int .i64 o, .int .i64 d, .int .i64 m, va, vb, vc], .int .i64 idx, .pointer (some ⟨B, 0, none⟩), undef, .pointer (some ⟨R, 0, none⟩), .pointer (some ⟨C, 0, none⟩), .int .i64 (t : Int), .agg #[.int .i64 r, .int .i64 s, .int .i64 b, .int .i64 o, .int .i64 d, .int .i64 m, va, vb, vc], .int .i64 idx, .agg L0.toArray, .int .i64 (t : Int), .pointer (some ⟨B, 7, none⟩), .slice (some ⟨pb, po, none⟩) len2 cap2, .int .i64 (len2 : Int), .bool true, u15, u16, .pointer (some ⟨B, 7, none⟩), .slice (some ⟨pb, po, none⟩) len2 cap2, .int .i64 (t : Int), .pointer (some ⟨pb, po + t * 8, none⟩), .agg #[.int .i64 z0, .int .i64 z1, .int .i64 z2, .int .i64 z3, .int .i64 z4, .int .i64 z5, .int .i64 z6, .int .i64 z7], .pointer (some ⟨B, 5, none⟩), .int .i64 m, .int .i64 idx, .agg #[.int .i64 p0, .int .i64 p1, .int .i64 p2, .int .i64 p3], .agg L.toArray, u27, undef], defers := [] } : Act) _
          refine take_one 10 rfl rfl (by kernel_rfl) ?_
          refine wp_contract 46 [.tmp 21, .tmp 23, .tmp 25, .tmp 26] _ rfl (enters_of Try.func46 (by kernel_rfl) rfl) [.agg #[.int .i64 z0, .int .i64 z1, .int .i64 z2, .int .i64 z3, .int .i64 z4, .int .i64 z5, .int .i64 z6, .int .i64 z7], .int .i64 m, .agg #[.int .i64 p0, .int .i64 p1, .int .i64 p2, .int .i64 p3], .agg L.toArray] rfl (CB.out _) ?_
          rintro e W3 ⟨rfl, b3⟩
          have B3 : Below wr.heap.size wr W3 := B2.trans (b3.mono B2.size)
          obtain ⟨f0, f1, f2, f3, f4, f5, f6⟩ := HC.out W3 B3
          refine ⟨_, rfl, ⟨f1, f2, f4⟩, fun hH => ?_⟩
          show wpAnyH _ _ _ _ _ _ _ ({ tmps := #[.agg #[.int .i64 r, .int .i64 s, .int .i64 b, .int .i64 o, .int .i64 d, .int .i64 m, va, vb, vc], .int .i64 idx, .pointer (some ⟨B, 0, none⟩), undef, .pointer (some ⟨R, 0, none⟩), .pointer (some ⟨C, 0, none⟩), .int .i64 (t : Int), .agg #[.int .i64 r, .int .i64 s, .int .i64 b, .int .i64 o, .int .i64 d, .int .i64 m, va, vb, vc], .int .i64 idx, .agg L0.toArray, .int .i64 (t : Int), .pointer (some ⟨B, 7, none⟩), .slice (some ⟨pb, po, none⟩) len2 cap2, .int .i64 (len2 : Int), .bool true, u15, u16, .pointer (some ⟨B, 7, none⟩), .slice (some ⟨pb, po, none⟩) len2 cap2, .int .i64 (t : Int), .pointer (some ⟨pb, po + t * 8, none⟩), .agg #[.int .i64 z0, .int .i64 z1, .int .i64 z2, .int .i64 z3, .int .i64 z4, .int .i64 z5, .int .i64 z6, .int .i64 z7], .pointer (some ⟨B, 5, none⟩), .int .i64 m, .int .i64 idx, .agg #[.int .i64 p0, .int .i64 p1, .int .i64 p2, .int .i64 p3], .agg L.toArray, .agg M.toArray, undef], defers := [] } : Act) _
          refine take_one 11 rfl rfl (by kernel_rfl) ?_
          refine wp_store_mid 39 _ _ rfl C 0 M.toArray rfl rfl f5 j9 one1 ?_
          refine ⟨?_, fun hH => ?_⟩
          · exact ⟨hRB W3 B 7 _ (by omega) f1, hRB W3 B 5 _ (by omega) f2, fun j v hv => hRB W3 pb _ v (by omega) (f4 j v hv)⟩
          · exact wpAnyH_done (by kernel_rfl) ⟨rfl, W3, B3, rfl⟩ _
        · refine wp_load_mid 39 _ rfl C 0 rfl L _ gr Try.underlying39 rfl i0 ?_
          refine ⟨hH, fun hH => ?_⟩
          show wpAnyH _ _ _ _ _ _ _ ({ tmps := #[.agg #[.int .i64 r, .int .i64 s, .int .i64 b, .int .i64 o, .int .i64 d, .int .i64 m, va, vb, vc], .int .i64 idx, .pointer (some ⟨B, 0, none⟩), undef, .pointer (some ⟨R, 0, none⟩), .pointer (some ⟨C, 0, none⟩), .int .i64 (t : Int), .agg #[.int .i64 r, .int .i64 s, .int .i64 b, .int .i64 o, .int .i64 d, .int .i64 m, va, vb, vc], .int .i64 idx, .agg L0.toArray, .int .i64 (t : Int), .pointer (some ⟨B, 7, none⟩), .slice (some ⟨pb, po, none⟩) len2 cap2, .int .i64 (len2 : Int), .bool true, u15, u16, .pointer (some ⟨B, 7, none⟩), .slice (some ⟨pb, po, none⟩) len2 cap2, .int .i64 (t : Int), .pointer (some ⟨pb, po + t * 8, none⟩), .agg #[.int .i64 z0, .int .i64 z1, .int .i64 z2, .int .i64 z3, .int .i64 z4, .int .i64 z5, .int .i64 z6, .int .i64 z7], .pointer (some ⟨B, 5, none⟩), .int .i64 m, .int .i64 idx, u25, .agg L.toArray, u27, undef], defers := [] } : Act) _
          refine take_one 8 rfl rfl (by kernel_rfl) ?_
          refine wp_contract 44 [.tmp 24] _ rfl (enters_of Try.func44 (by kernel_rfl) rfl) [.int .i64 idx] rfl (CP.out _) ?_
          rintro e W2 ⟨rfl, b2⟩
          have B2 : Below wr.heap.size wr W2 := (below_drew1 wr).trans (b2.mono (below_drew1 wr).size)
          obtain ⟨_, g1, g2, g3, g4, _⟩ := HC.out W2 B2
          refine ⟨_, rfl, ⟨g1, g2, g4⟩, fun hH => ?_⟩
          show wpAnyH _ _ _ _ _ _ _ ({ tmps := #[.agg #[.int .i64 r, .int .i64 s, .int .i64 b, .int .i64 o, .int .i64 d, .int .i64 m, va, vb, vc], .int .i64 idx, .pointer (some ⟨B, 0, none⟩), undef, .pointer (some ⟨R, 0, none⟩), .pointer (some ⟨C, 0, none⟩), .int .i64 (t : Int), .agg #[.int .i64 r, .int .i64 s, .int .i64 b, .int .i64 o, .int .i64 d, .int .i64 m, va, vb, vc], .int .i64 idx, .agg L0.toArray, .int .i64 (t : Int), .pointer (some ⟨B, 7, none⟩), .slice (some ⟨pb, po, none⟩) len2 cap2, .int .i64 (len2 : Int), .bool true, u15, u16, .pointer (some ⟨B, 7, none⟩), .slice (some ⟨pb, po, none⟩) len2 cap2, .int .i64 (t : Int), .pointer (some ⟨pb, po + t * 8, none⟩), .agg #[.int .i64 z0, .int .i64 z1, .int .i64 z2, .int .i64 z3, .int .i64 z4, .int .i64 z5, .int .i64 z6, .int .i64 z7], .pointer (some ⟨B, 5, none⟩), .int .i64 m, .int .i64 idx, .agg #[.int .i64 p0, .int .i64 p1, .int .i64 p2, .int .i64 p3], .agg L.toArray, u27, undef], defers := [] } : Act) _
          refine take_one 10 rfl rfl (by kernel_rfl) ?_
          refine wp_contract 46 [.tmp 21, .tmp 23, .tmp 25, .tmp 26] _ rfl (enters_of Try.func46 (by kernel_rfl) rfl) [.agg #[.int .i64 z0, .int .i64 z1, .int .i64 z2, .int .i64 z3, .int .i64 z4, .int .i64 z5, .int .i64 z6, .int .i64 z7], .int .i64 m, .agg #[.int .i64 p0, .int .i64 p1, .int .i64 p2, .int .i64 p3], .agg L.toArray] rfl (CB.out _) ?_
          rintro e W3 ⟨rfl, b3⟩
          have B3 : Below wr.heap.size wr W3 := B2.trans (b3.mono B2.size)
          obtain ⟨f0, f1, f2, f3, f4, f5, f6⟩ := HC.out W3 B3
          refine ⟨_, rfl, ⟨f1, f2, f4⟩, fun hH => ?_⟩
          show wpAnyH _ _ _ _ _ _ _ ({ tmps := #[.agg #[.int .i64 r, .int .i64 s, .int .i64 b, .int .i64 o, .int .i64 d, .int .i64 m, va, vb, vc], .int .i64 idx, .pointer (some ⟨B, 0, none⟩), undef, .pointer (some ⟨R, 0, none⟩), .pointer (some ⟨C, 0, none⟩), .int .i64 (t : Int), .agg #[.int .i64 r, .int .i64 s, .int .i64 b, .int .i64 o, .int .i64 d, .int .i64 m, va, vb, vc], .int .i64 idx, .agg L0.toArray, .int .i64 (t : Int), .pointer (some ⟨B, 7, none⟩), .slice (some ⟨pb, po, none⟩) len2 cap2, .int .i64 (len2 : Int), .bool true, u15, u16, .pointer (some ⟨B, 7, none⟩), .slice (some ⟨pb, po, none⟩) len2 cap2, .int .i64 (t : Int), .pointer (some ⟨pb, po + t * 8, none⟩), .agg #[.int .i64 z0, .int .i64 z1, .int .i64 z2, .int .i64 z3, .int .i64 z4, .int .i64 z5, .int .i64 z6, .int .i64 z7], .pointer (some ⟨B, 5, none⟩), .int .i64 m, .int .i64 idx, .agg #[.int .i64 p0, .int .i64 p1, .int .i64 p2, .int .i64 p3], .agg L.toArray, .agg M.toArray, undef], defers := [] } : Act) _
          refine take_one 11 rfl rfl (by kernel_rfl) ?_
          refine wp_store_mid 39 _ _ rfl C 0 M.toArray rfl rfl f5 j9 one1 ?_
          refine ⟨?_, fun hH => ?_⟩
          · exact ⟨hRB W3 B 7 _ (by omega) f1, hRB W3 B 5 _ (by omega) f2, fun j v hv => hRB W3 pb _ v (by omega) (f4 j v hv)⟩
          · exact wpAnyH_done (by kernel_rfl) ⟨rfl, W3, B3, rfl⟩ _
      case aft =>
        obtain ⟨rfl, W3, h3, rfl⟩ := hr
        have HT : Hid (Lt12 B R C r s b o d m va vb vc Y w (W3.setCells C 0 M)) := (HC.out W3 h3).2.2.2.2.2.2
        clear HC CB
        go_wp2
        go_roundw
        case rel => exact ⟨t + 1, by omega, by go_num, by rw [hY]; exact HT⟩
        case measure => simp [intOf]; omega
    · obtain rfl : t = len2 := by omega
      obtain ⟨X, hX⟩ : ∃ X, ovF n Z p0 p1 p2 p3 F t = X := ⟨_, rfl⟩
      rw [hX] at HS
      have HX : Hid (ovF n Z p0 p1 p2 p3 F t = X) := hX
      clear hX HA HR
      obtain ⟨L, hL⟩ : ∃ L, ints .u8 72 X = L := ⟨_, rfl⟩
      have hrr := HS.out.r.range
      have ht2 := Bk.there HS.out.e .u8 X
      have i0 : (Try.prog.info? 39).map (·.size) = some L.length := by rw [← hL, ints_len]; exact infoA9
      have j9 : (Try.prog.info? 39).map (·.size) = some L.toArray.size := by simpa using i0
      have one1 : L.toArray.all (·.oneCell') = true := by rw [← hL]; exact ints_one .u8 72 X
      rw [hL] at hrr ht2
      have HLL : Hid (ints .u8 72 X = L) := hL
      clear hL
      go_wp2_with (first | refine wpList_load_mid rfl 39 _ rfl C 0 rfl L _ hrr Try.underlying39 rfl i0 ?_ | refine wpList_store_mid rfl 39 _ _ rfl R 0 L.toArray rfl rfl ht2 j9 one1 ?_)
      have hs2 : (World.setCells wr R 0 L).rangeAt R 0 L := World.rangeAt_setCells_same wr _ 0 L (by simpa using ht2)
      have hld := run_loadVar_mid (P := Try.prog) (World.setCells wr R 0 L) R 0 39 L _ hs2 Try.underlying39 rfl i0
      refine bodyPost_ret (v := .agg L.toArray) ?_ rfl ⟨by rw [HX.out, HLL.out], by first | exact belows_put (by omega) _ 0 HS.out.n | (rw [hB]; exact belows_put (by omega) _ 0 HS.out.n)⟩
      simp [results, Try.f19, Act.put, asAddr, hld]
end Go.Proofs.Ytcpjmfemgdgplaa
