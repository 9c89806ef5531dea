/-
  The walks of package fault: what is read with some faults.
-/
import Derived.Test.YtcpjmfemgdgplaaFaW7
import Derived.Test.YtcpjmfemgdgplaaFlatArgs
namespace Go.Proofs.Ytcpjmfemgdgplaa
open Go.RowKit Go.Shelf
attribute [local go_sem] Oper.semAt_some

/-- what is read with the first faults of some -/
def ovF (n : Int) (Z : Nat → Nat → Int) (p' q' u' v' : Int) (F : Nat → Int) : Nat → (Nat → Int)
  | 0 => F
  | s + 1 => apF n (Z s 0) (Z s 1) (Z s 2) (Z s 3) (Z s 4) (Z s 5) (Z s 6) (Z s 7) p' q' u' v' (ovF n Z p' q' u' v' F s)
theorem ovF_byt (n : Int) (Z : Nat → Nat → Int) (p' q' u' v' : Int) (F : Nat → Int) (hF : Byts 72 F) : ∀ s, Byts 72 (ovF n Z p' q' u' v' F s)
  | 0 => hF
  | s + 1 => apF_byt _ _ _ _ _ _ _ _ _ _ _ _ _ _ (ovF_byt n Z p' q' u' v' F hF s)
/-- faults in a slice: at an address, or none -/
structure Fs (W : World) (a : Option Addr) (len cap : Nat) (Z : Nat → Nat → Int) : Prop where
  le : len ≤ cap
  cm : cap ≤ maxLen
  at_ : 0 < len → ∃ b o, a = some ⟨b, o, none⟩ ∧ b < W.heap.size ∧ ∀ i, i < len → ∀ j, j < 8 → W.cell? ⟨b, o + (i * 8 + j), none⟩ = some (.int .i64 (Z i j))
  wf : ∀ i, i < len → ∀ j, j < 8 → (Lit.int .i64 (Z i j)).wf = true
  nil : a = none → len = 0 ∧ cap = 0
theorem IsFlat.fs {W : World} {a : Option Addr} {len cap : Nat} {Z : Nat → Nat → Int} (h : IsFlat .i64 8 W a len cap Z) : Fs W a len cap Z := by
  rcases h with ⟨rfl, rfl, rfl⟩ | ⟨x, rfl, hl, hm, hc⟩
  · exact ⟨Nat.le_refl _, Nat.zero_le _, fun h => absurd h (by omega), fun i hi => absurd hi (by omega), fun _ => ⟨rfl, rfl⟩⟩
  · refine ⟨hl, hm, fun h0 => ?_, fun i hi j hj => (hc i (by omega) j hj).2, fun e => by cases e⟩
    obtain ⟨b, off, spot⟩ := x
    have h1 := (hc 0 (by omega) 0 (by omega)).1
    obtain rfl : spot = none := by simpa [Addr.add] using World.cell?_spot h1
    refine ⟨b, off, rfl, ?_, fun i hi j hj => ?_⟩
    · by_cases hb : b < W.heap.size
      · exact hb
      · have : W.heap[b]? = none := Array.getElem?_eq_none (by omega)
        simp [World.cell?, Addr.add, this] at h1
    · have := (hc i (by omega) j hj).1
      rwa [Addr.add_lit] at this
theorem Fs.below {W W' : World} {a : Option Addr} {len cap : Nat} {Z : Nat → Nat → Int} (h : Fs W a len cap Z) (e : Below W.heap.size W W') : Fs W' a len cap Z :=
  ⟨h.le, h.cm, fun h0 => (h.at_ h0).elim fun b hb => hb.elim fun o ⟨h1, h2, h3⟩ => ⟨b, o, h1, Nat.lt_of_lt_of_le h2 e.size, fun i hi j hj => (e.cell (p := ⟨b, o + (i * 8 + j), none⟩) h2).trans (h3 i hi j hj)⟩, h.wf, h.nil⟩
/-- one of them, as a list -/
theorem fs_range {W : World} {b o len : Nat} {Z : Nat → Nat → Int} (h : ∀ i, i < len → ∀ j, j < 8 → W.cell? ⟨b, o + (i * 8 + j), none⟩ = some (.int .i64 (Z i j))) (s : Nat) (hs : s < len) : W.rangeAt b (o + s * 8) [.int .i64 (Z s 0), .int .i64 (Z s 1), .int .i64 (Z s 2), .int .i64 (Z s 3), .int .i64 (Z s 4), .int .i64 (Z s 5), .int .i64 (Z s 6), .int .i64 (Z s 7)] := by
  intro j y hy
  have hl : j < 8 := by
    have := (List.getElem?_eq_some_iff.1 hy).1
    simpa using this
  have h1 := h s hs j hl
  rw [← Nat.add_assoc] at h1
  rw [h1, ← hy]
  rcases (show j = 0 ∨ j = 1 ∨ j = 2 ∨ j = 3 ∨ j = 4 ∨ j = 5 ∨ j = 6 ∨ j = 7 by omega) with rfl | rfl | rfl | rfl | rfl | rfl | rfl | rfl <;> rfl
/-- between two rounds of Overlay -/
structure OvS (B C D : Nat) (p' q' u' v' : Int) (X : Nat → Int) (w W : World) : Prop where
  g : Pl W B p' q' u' v'
  r : Bk .u8 W C 72 X
  e : Bk .u8 W D 72 fun _ => 0
  n : Below B w W
theorem OvS.next {B C D : Nat} {p' q' u' v' : Int} {X : Nat → Int} {w W W' : World} (h : OvS B C D p' q' u' v' X w W) (e : Below W.heap.size W W') : OvS B C D p' q' u' v' X w W' :=
  ⟨h.g.next e, h.r.next e, h.e.next e, h.n.trans (e.mono (Nat.le_of_lt h.g.lt))⟩
theorem OvS.put {B C D : Nat} {p' q' u' v' : Int} {X : Nat → Int} {w W : World} (h : OvS B C D p' q' u' v' X w W) (hC : B < C) (hD : C < D) (Y : Nat → Int) : OvS B C D p' q' u' v' Y w (W.setCells C 0 (ints .u8 72 Y)) :=
  ⟨Bk.putOther h.g (by omega) 0 _, Bk.put h.r Y, Bk.putOther h.e (by omega) 0 _, belows_put (by omega) _ 0 h.n⟩
set_option maxRecDepth 100000 in
set_option maxHeartbeats 4000000 in
theorem overlay_any (a : Option Addr) (len cap : Nat) (Z : Nat → Nat → Int) (p' q' u' v' : Int) (F : Nat → Int) (hF : Byts 72 F) (m n j : Int) (hm : Md m n j) (w : World) (hs : Fs w a len cap Z) :
    Calls Try.prog 70 #[.slice a len cap, .int .i64 m, .agg #[.int .i64 p', .int .i64 q', .int .i64 u', .int .i64 v'], .agg (ints .u8 72 F).toArray] w fun e w' => e = .returned (.agg (ints .u8 72 (ovF n Z p' q' u' v' F len)).toArray) ∧ Below w.heap.size w w' := by
  have hlm : len ≤ maxLen := Nat.le_trans hs.le hs.cm
  unfold maxLen at hlm
  have HA : Hid (∀ s, s < len → ∀ w : World, Calls Try.prog 32 #[.agg #[.int .i64 (Z s 0), .int .i64 (Z s 1), .int .i64 (Z s 2), .int .i64 (Z s 3), .int .i64 (Z s 4), .int .i64 (Z s 5), .int .i64 (Z s 6), .int .i64 (Z s 7)], .int .i64 m, .agg #[.int .i64 p', .int .i64 q', .int .i64 u', .int .i64 v'], .agg (ints .u8 72 (ovF n Z p' q' u' v' F s)).toArray] w fun e w' => e = .returned (.agg (ints .u8 72 (ovF n Z p' q' u' v' F (s + 1))).toArray) ∧ Below w.heap.size w w') := fun s h w =>
    apply_any (Z s 0) (Z s 1) (Z s 2) (Z s 3) (Z s 4) (Z s 5) (Z s 6) (Z s 7) p' q' u' v' _ (ovF_byt n Z p' q' u' v' F hF s) m n j hm (bounds_i64 (hs.wf s h 6 (by omega))).2 w
  have HR : Hid (0 < len → ∃ b o, a = some ⟨b, o, none⟩ ∧ ∀ W, Below w.heap.size w W → ∀ s, s < len → W.rangeAt b (o + s * 8) [.int .i64 (Z s 0), .int .i64 (Z s 1), .int .i64 (Z s 2), .int .i64 (Z s 3), .int .i64 (Z s 4), .int .i64 (Z s 5), .int .i64 (Z s 6), .int .i64 (Z s 7)]) := fun h0 => by
    obtain ⟨b, o, h1, h2, h3⟩ := hs.at_ h0
    refine ⟨b, o, h1, fun W hW s hs => fs_range (fun i hi j hj => ?_) s hs⟩
    exact (hW.cell (p := ⟨b, o + (i * 8 + j), none⟩) h2).trans (h3 i hi j hj)
  clear hs hm hF
  have hz := zeroR
  obtain ⟨L, hL⟩ : ∃ L, ints .u8 72 F = L := ⟨_, rfl⟩
  obtain ⟨T, hT⟩ : ∃ Z, (ints .u8 72 fun _ => 0).toArray = Z := ⟨_, rfl⟩
  rw [hL]
  rw [hT] at hz
  go_enter Try.func70, Try.ntmps70
  go_upto_region 1 with (fail)
  obtain ⟨B, hB⟩ : ∃ B, w.heap.size = B := ⟨_, rfl⟩
  obtain ⟨C, hC⟩ : ∃ C, B + 1 = C := ⟨_, rfl⟩
  obtain ⟨D, hD⟩ : ∃ D, C + 1 = D := ⟨_, rfl⟩
  obtain ⟨V, hV⟩ : ∃ V, ((w.alloc (.cells #[.int .i64 p', .int .i64 q', .int .i64 u', .int .i64 v'] 36)).alloc (.cells L.toArray 40)).alloc (.cells T 40) = V := ⟨_, rfl⟩
  have HS : Hid (OvS B C D p' q' u' v' (ovF n Z p' q' u' v' F 0) w V) := by
    have a1 := Bk.new .u8 (w.alloc (.cells #[.int .i64 p', .int .i64 q', .int .i64 u', .int .i64 v'] 36)) 72 F 40
    have a2 := Bk.new .u8 ((w.alloc (.cells #[.int .i64 p', .int .i64 q', .int .i64 u', .int .i64 v'] 36)).alloc (.cells L.toArray 40)) 72 (fun _ => 0) 40
    rw [hL] at a1
    rw [hT] at a2
    simp only [World.size_alloc] at a1 a2
    rw [← hV, ← hD, ← hC, ← hB]
    exact ⟨((Pl.new w p' q' u' v' _).alloc _).alloc _, a1.alloc _, a2, (((Below.refl _ w).alloc (Nat.le_refl _) _).alloc (by simp) _).alloc (by simp; omega) _⟩
  rw [hB] at HR
  have oC : B < C := by omega
  have oD : C < D := by omega
  rw [hV, hB, hC, hD]
  clear hV hC hD hL hz hT
  go_wp2
  go_loopw [13] (fun i wr => ∃ s : Nat, s ≤ len ∧ i = .int .i64 (s : Int) ∧ Hid (OvS B C D p' q' u' v' (ovF n Z p' q' u' v' F s) w wr)) (fun i _ => len - (intOf i).toNat)
  case atStart => exact ⟨0, by omega, rfl, HS⟩
  case round =>
    clear HS
    obtain ⟨s, hs, rfl, HS⟩ := hrel
    by_cases hlt : s < len
    · obtain ⟨b, o, rfl, HQ⟩ := HR.out (by omega)
      have hr := HQ wr HS.out.n s hlt
      have CA := HA.out s hlt
      obtain ⟨X, hX⟩ : ∃ X, ovF n Z p' q' u' v' F s = X := ⟨_, rfl⟩
      obtain ⟨Y, hY⟩ : ∃ Y, ovF n Z p' q' u' v' F (s + 1) = Y := ⟨_, rfl⟩
      rw [hX] at HS
      rw [hX, hY] at CA
      clear HQ HA hX
      obtain ⟨M, hM⟩ : ∃ M, ints .u8 72 Y = M := ⟨_, rfl⟩
      obtain ⟨L, hL⟩ : ∃ L, ints .u8 72 X = L := ⟨_, rfl⟩
      have i0 : (Try.prog.info? 40).map (·.size) = some L.length := by rw [← hL, ints_len]; exact infoR
      have i1 : (Try.prog.info? 40).map (·.size) = some M.length := by rw [← hM, ints_len]; exact infoR
      have j9 : (Try.prog.info? 40).map (·.size) = some M.toArray.size := by simpa using i1
      have one1 : M.toArray.all (·.oneCell') = true := by rw [← hM]; exact ints_one .u8 72 Y
      rw [hL, hM] at CA
      have CB : Hid (∀ w : World, Calls Try.prog 32 #[.agg #[.int .i64 (Z s 0), .int .i64 (Z s 1), .int .i64 (Z s 2), .int .i64 (Z s 3), .int .i64 (Z s 4), .int .i64 (Z s 5), .int .i64 (Z s 6), .int .i64 (Z s 7)], .int .i64 m, .agg #[.int .i64 p', .int .i64 q', .int .i64 u', .int .i64 v'], .agg L.toArray] w fun e w' => e = .returned (.agg M.toArray) ∧ Below w.heap.size w w') := CA
      clear CA
      obtain ⟨z0, hz0⟩ : ∃ y, Z s 0 = y := ⟨_, rfl⟩
      obtain ⟨z1, hz1⟩ : ∃ y, Z s 1 = y := ⟨_, rfl⟩
      obtain ⟨z2, hz2⟩ : ∃ y, Z s 2 = y := ⟨_, rfl⟩
      obtain ⟨z3, hz3⟩ : ∃ y, Z s 3 = y := ⟨_, rfl⟩
      obtain ⟨z4, hz4⟩ : ∃ y, Z s 4 = y := ⟨_, rfl⟩
      obtain ⟨z5, hz5⟩ : ∃ y, Z s 5 = y := ⟨_, rfl⟩
      obtain ⟨z6, hz6⟩ : ∃ y, Z s 6 = y := ⟨_, rfl⟩
      obtain ⟨z7, hz7⟩ : ∃ y, Z s 7 = y := ⟨_, rfl⟩
      rw [hz0, hz1, hz2, hz3, hz4, hz5, hz6, hz7] at CB hr
      clear hz0 hz1 hz2 hz3 hz4 hz5 hz6 hz7 HR
      go_upto_region 4 with (first | refine wpList_load_mid rfl 38 _ rfl b (o + s * 8) rfl [.int .i64 z0, .int .i64 z1, .int .i64 z2, .int .i64 z3, .int .i64 z4, .int .i64 z5, .int .i64 z6, .int .i64 z7] _ hr Try.underlying38 rfl infoF ?_)
      obtain ⟨K, hK⟩ : ∃ K, wr.heap.size = K := ⟨_, rfl⟩
      obtain ⟨W1, hW1⟩ : ∃ W1, wr.alloc (.cells #[.int .i64 z0, .int .i64 z1, .int .i64 z2, .int .i64 z3, .int .i64 z4, .int .i64 z5, .int .i64 z6, .int .i64 z7] 38) = W1 := ⟨_, rfl⟩
      have HN : Hid (Ft W1 K z0 z1 z2 z3 z4 z5 z6 z7) := by rw [← hW1, ← hK]; exact Ft.new wr _ _ _ _ _ _ _ _ _
      replace HS : Hid (OvS B C D p' q' u' v' X w W1) := by rw [← hW1]; exact HS.out.next ((Below.refl _ wr).alloc (Nat.le_refl _) _)
      rw [hW1, hK]
      clear hr hW1 hK
      have hrr : W1.rangeAt C 0 L := by rw [← hL]; exact HS.out.r.range
      go_wp2_with (first
        | refine wpList_load_mid rfl 38 _ rfl K 0 rfl [.int .i64 z0, .int .i64 z1, .int .i64 z2, .int .i64 z3, .int .i64 z4, .int .i64 z5, .int .i64 z6, .int .i64 z7] _ (by exact HN.out.range) Try.underlying38 rfl infoF ?_
        | refine wpList_load_mid rfl 36 _ rfl B 0 rfl [.int .i64 p', .int .i64 q', .int .i64 u', .int .i64 v'] _ (by exact HS.out.g.range) Try.underlying36 rfl infoP ?_
        | refine wpList_load_mid rfl 40 _ rfl C 0 rfl L _ hrr Try.underlying40 rfl i0 ?_)
      refine (CB.out _).mono ?_
      rintro e W2 ⟨rfl, b2⟩
      replace HS : Hid (OvS B C D p' q' u' v' X w W2) := HS.out.next b2
      have ht : W2.there C 0 M.toArray.size := by rw [← hM]; exact Bk.there HS.out.r .u8 Y
      have HT : Hid (OvS B C D p' q' u' v' Y w (W2.setCells C 0 M)) := by rw [← hM]; exact HS.out.put oC oD Y
      clear hrr b2 HN
      go_wp2_with (refine wpList_store_mid rfl 40 _ _ rfl C 0 M.toArray rfl rfl ht j9 one1 ?_)
      go_roundw
      case rel => exact ⟨s + 1, by omega, by go_num, by rw [hY]; exact HT⟩
      case measure => simp [intOf]; omega
    · obtain rfl : s = len := by omega
      obtain ⟨X, hX⟩ : ∃ X, ovF n Z p' q' u' v' F s = X := ⟨_, rfl⟩
      rw [hX] at HS
      have HX : Hid (ovF n Z p' q' u' v' F s = X) := hX
      clear hX HA HR
      obtain ⟨L, hL⟩ : ∃ L, ints .u8 72 X = L := ⟨_, rfl⟩
      have hrr := HS.out.r.range
      have ht := Bk.there HS.out.e .u8 X
      have i0 : (Try.prog.info? 40).map (·.size) = some L.length := by rw [← hL, ints_len]; exact infoR
      have j9 : (Try.prog.info? 40).map (·.size) = some L.toArray.size := by simpa using i0
      have one1 : L.toArray.all (·.oneCell') = true := by rw [← hL]; exact ints_one .u8 72 X
      rw [hL] at hrr ht
      have HLL : Hid (ints .u8 72 X = L) := hL
      clear hL
      go_wp2_with (first | refine wpList_load_mid rfl 40 _ rfl C 0 rfl L _ hrr Try.underlying40 rfl i0 ?_ | refine wpList_store_mid rfl 40 _ _ rfl D 0 L.toArray rfl rfl ht j9 one1 ?_)
      have hs2 : (World.setCells wr D 0 L).rangeAt D 0 L := World.rangeAt_setCells_same wr _ 0 L (by simpa using ht)
      have hld := run_loadVar_mid (P := Try.prog) (World.setCells wr D 0 L) D 0 40 L _ hs2 Try.underlying40 rfl i0
      refine bodyPost_ret (v := .agg L.toArray) ?_ rfl ⟨by rw [HX.out, HLL.out], by first | exact belows_put (by omega) _ 0 HS.out.n | (rw [hB]; exact belows_put (by omega) _ 0 HS.out.n)⟩
      simp [results, Try.f70, Act.put, asAddr, hld]
end Go.Proofs.Ytcpjmfemgdgplaa
