/-
  A line is read.
-/
import Derived.Test.YtcpjmfemgdgplaaDrW6
namespace Go.Proofs.Ytcpjmfemgdgplaa
open Go.RowKit Go.Shelf
open Ge (pw rt hd ix)
attribute [local go_sem] Oper.semAt_some

theorem plt_len (L : List Value) (o : Nat) (vs : List Value) : (plt L o vs).length = L.length := by simp [plt]
theorem Cb.all {W : World} {b : Nat} {L vs : List Value} (h : Cb W b L) (hl : vs.length = L.length) : Cb (W.setCells b 0 vs) b vs := by
  have h2 := h.put 0 vs
  refine h2.to ?_
  refine List.ext_getElem? fun j => ?_
  unfold plt
  by_cases hj : j < L.length
  · rw [List.getElem?_map, List.getElem?_range hj]
    have hv : j < vs.length := by omega
    simp [hv]
  · rw [List.getElem?_eq_none (by simp; omega), List.getElem?_eq_none (by omega)]
section
variable {W : World} {lo B M R : Nat} {r s b o d m : Int} {n : Nat} {G : Int → Nat → Int} {vb vc : Value} {l1 l2 : Nat} {Y Z : Nat → Nat → Int}
/-- at work in Read -/
structure Rd (lo B M : Nat) (r s b o d m : Int) (n : Nat) (G : Int → Nat → Int) (vb : Value) (l1 : Nat) (Y : Nat → Nat → Int) (vc : Value) (l2 : Nat) (Z : Nat → Nat → Int) (T : Nat → Prop) (R Q K : Nat) (i : Int) (t : Bool) (w W : World) : Prop where
  d : Dm W lo B M r s b o d m n G vb l1 Y vc l2 Z
  m : Mv lo T w W
  e : ∃ X, Cb W R X ∧ X.length = 72
  q : ∃ X, Cb W Q X ∧ X.length = 2
  k : Cb W K [.int .i64 i, .bool t]
theorem Rd.next {T : Nat → Prop} {Q K : Nat} {i : Int} {t : Bool} {w W W' : World} (h : Rd lo B M r s b o d m n G vb l1 Y vc l2 Z T R Q K i t w W) (e : Below W.heap.size W W') : Rd lo B M r s b o d m n G vb l1 Y vc l2 Z T R Q K i t w W' :=
  ⟨h.d.next e, h.m.then e h.d.lo_le, (let ⟨X, x, l⟩ := h.e; ⟨X, x.next e, l⟩), (let ⟨X, x, l⟩ := h.q; ⟨X, x.next e, l⟩), h.k.next e⟩
theorem Rd.put {T : Nat → Prop} {Q K C : Nat} {i : Int} {t : Bool} {w W : World} (h : Rd lo B M r s b o d m n G vb l1 Y vc l2 Z T R Q K i t w W) (hm : ∀ g, mine B M vb vc g → g < w.heap.size) (hC : w.heap.size ≤ C) (hK : C ≠ K) (vs : List Value) : Rd lo B M r s b o d m n G vb l1 Y vc l2 Z T R Q K i t w (W.setCells C 0 vs) := by
  have h2 : w.heap.size ≤ W.heap.size := h.m.n.size
  have hb : B < w.heap.size := hm B (.inl rfl)
  have hp := dm_put (R := C) h.d h.m (fun g hg => Nat.lt_of_lt_of_le (hm g hg) hC) hC (by have := h.d.lb; omega) vs
  have hc : ∀ D (l : Nat), (∃ X, Cb W D X ∧ X.length = l) → ∃ X, Cb (W.setCells C 0 vs) D X ∧ X.length = l := fun D l hx => by
    obtain ⟨X, hx, hl⟩ := hx
    by_cases e : D = C
    · subst e
      exact ⟨_, hx.put 0 vs, by rw [plt_len]; exact hl⟩
    · exact ⟨X, hx.putOther e 0 vs, hl⟩
  exact ⟨hp.1, hp.2, hc R 72 h.e, hc Q 2 h.q, h.k.putOther (fun e => hK e.symm) 0 vs⟩
set_option maxRecDepth 100000 in
set_option maxHeartbeats 4000000 in
theorem dRead_no (h : Dm W lo B M r s b o d m n G vb l1 Y vc l2 Z) (i : Int) (hx1 : hx r s b o d i = false) :
    Calls Try.prog 21 #[.pointer (some ⟨B, 0, none⟩), .int .i64 i] W fun e w' => e = .returned (.tuple #[rawV fun _ => 0, .agg #[.int .i64 0, .bool false], .int .i64 12]) ∧ Below W.heap.size W w' := by
  unfold rawV
  have CH : Hid (∀ w, Below W.heap.size W w → Calls Try.prog 41 #[.pointer (some ⟨B, 0, none⟩), .int .i64 i] w fun e w' => e = .returned (.bool false) ∧ Below w.heap.size w w') := fun w hw => by rw [← hx1]; exact dHas_any (h.next hw) i
  obtain ⟨L2, hL2⟩ : ∃ L, (ints .u8 72 fun _ => 0) = L := ⟨_, rfl⟩
  have ll : L2.length = 72 := by rw [← hL2]; exact ints_len _ _ _
  have iL : (Try.prog.info? 40).map (·.size) = some L2.toArray.size := by rw [← hL2]; exact infoR
  have iL2 : (Try.prog.info? 40).map (·.size) = some L2.length := by rw [← hL2, ints_len]; exact infoR
  have one : L2.toArray.all (·.oneCell') = true := by rw [← hL2]; exact ints_one .u8 72 _
  have hz := zeroR
  have hbr : ∀ w, (Instr.build 40 #[]).run Try.prog w = .ok (.agg (ints .u8 72 fun _ => 0).toArray) w := fun w => run_build w _ _ _ (by kernel_rfl)
  have HZ : Hid ((ints .u8 72 fun _ => 0) = L2) := hL2
  rw [hL2] at hbr ⊢
  obtain ⟨T, hT⟩ : ∃ Z, (ints .u8 72 fun _ => 0).toArray = Z := ⟨_, rfl⟩
  rw [hT] at hz
  clear hL2 h hx1
  go_enter Try.func21, Try.ntmps21
  go_upto_region 1 with (fail)
  obtain ⟨R, hR⟩ : ∃ R, W.heap.size = R := ⟨_, rfl⟩
  obtain ⟨Q, hQ⟩ : ∃ Q, R + 1 = Q := ⟨_, rfl⟩
  obtain ⟨V, hV⟩ : ∃ V, (W.alloc (.cells T 40)).alloc (.cells #[.int .i64 0, .bool false] 59) = V := ⟨_, rfl⟩
  have HB : Hid (Below W.heap.size W V) := by rw [← hV]; exact ((Below.refl _ W).alloc (Nat.le_refl _) _).alloc (by simp) _
  have HQ : Hid (Cb V Q [.int .i64 0, .bool false]) := by
    have := Cb.new (W.alloc (.cells T 40)) [.int .i64 0, .bool false] 59
    rw [← hV, ← hQ, ← hR]
    rw [World.size_alloc] at this
    exact this
  have HE : Hid (Cb V R (ints .u8 72 fun _ => 0)) := by
    rw [← hV, ← hR, ← hT]
    exact (Cb.new W _ _).alloc _
  rw [hV, hR, hQ]
  clear hV hz hT
  go_wp2_with fail
  refine (CH.out _ HB.out).mono ?_
  rintro e W1 ⟨rfl, b1⟩
  have HN : Hid (Below W.heap.size W W1) := HB.out.trans (b1.mono HB.out.size)
  have HQ1 : Hid (Cb W1 Q [.int .i64 0, .bool false]) := HQ.out.next b1
  have HE1 : Hid (Cb W1 R L2) := by rw [← HZ.out]; exact HE.out.next b1
  have th1 : W1.there R 0 L2.toArray.size := HE1.out.thereAt 0 _ (by simp)
  have th2 : (World.setCells W1 R 0 L2).there Q 0 2 := (HQ1.out.putOther (by omega) 0 L2).thereAt 0 2 (by simp)
  have on : (#[.int .i64 0, .bool false] : Array Value).all (·.oneCell') = true := one_we _ _
  clear b1 HE HB CH HQ
  go_wp2_with (first
    | refine wpList_known rfl _ (exec_build12 40 rfl _ hbr _) ?_
    | refine wpList_store_mid rfl 40 _ _ rfl R 0 L2.toArray rfl rfl th1 iL one ?_
    | refine wpList_store_mid rfl 59 _ _ rfl Q 0 #[.int .i64 0, .bool false] rfl rfl th2 infoWe on ?_)
  have k1 : Cb ((W1.setCells R 0 L2).setCells Q 0 [.int .i64 0, .bool false]) R L2 := (HE1.out.all rfl).putOther (by omega) 0 _
  have k2 : Cb ((W1.setCells R 0 L2).setCells Q 0 [.int .i64 0, .bool false]) Q [.int .i64 0, .bool false] := (HQ1.out.putOther (by omega) 0 L2).all rfl
  have hld := run_loadVar_mid (P := Try.prog) _ R 0 40 L2 _ k1.range Try.underlying40 rfl iL2
  have hld2 := run_loadVar_mid (P := Try.prog) _ Q 0 59 [.int .i64 0, .bool false] _ k2.range Try.underlying59 rfl infoWe
  refine bodyPost_ret (v := .tuple #[.agg L2.toArray, .agg #[.int .i64 0, .bool false], .int .i64 12]) ?_ rfl ⟨rfl, belows_put (by omega) _ 0 (belows_put (by omega) _ 0 HN.out)⟩
  simp [results, Try.f21, asAddr, hld, hld2]
set_option maxRecDepth 100000 in
set_option maxHeartbeats 4000000 in
theorem dRead_any (h : Dm W lo B M r s b o d m n G vb l1 Y vc l2 Z) {k8 j8 : Int} (hm : Md m k8 j8) (i : Int) (hx1 : hx r s b o d i = true) :
    Calls Try.prog 21 #[.pointer (some ⟨B, 0, none⟩), .int .i64 i] W fun e w' => e = .returned (.tuple #[rawV (if wD l2 Z = true then (fun _ => 0) else ovF k8 Y (wI l2 Z i / 1048576) (wI l2 Z i / 65536 % 16) (wI l2 Z i / 64 % 1024) (wI l2 Z i % 64) (G (wI l2 Z i)) l1), .agg #[.int .i64 (wI l2 Z i), .bool (wD l2 Z)], .int .i64 0]) ∧ Tk lo B M r s b o d m n G vb l1 Y vc l2 Z W w' := by
  have hwx := wI_hx h hx1
  have CH : Hid (∀ w, Below W.heap.size W w → Calls Try.prog 41 #[.pointer (some ⟨B, 0, none⟩), .int .i64 i] w fun e w' => e = .returned (.bool true) ∧ Below w.heap.size w w') := fun w hw => by rw [← hx1]; exact dHas_any (h.next hw) i
  have CA : Hid (∀ w, Below W.heap.size W w → Calls Try.prog 47 #[.pointer (some ⟨B, 0, none⟩), .int .i64 i] w fun e w' => e = .returned (.agg #[.int .i64 (wI l2 Z i), .bool (wD l2 Z)]) ∧ Tk lo B M r s b o d m n G vb l1 Y vc l2 Z w w') := fun w hw => dAccess_any (h.next hw) i
  have HM : Hid (∀ g, mine B M vb vc g → g < W.heap.size) := fun g hg => (h.mine_lt g hg).2
  have HLO : Hid (lo ≤ W.heap.size) := h.lo_le
  have CR : Hid (∀ (w : World) (vc' : Value), Dm w lo B M r s b o d m n G vb l1 Y vc' (l2 - 1) (tlZ Z) → Calls Try.prog 42 #[.pointer (some ⟨B, 0, none⟩), .int .i64 (wI l2 Z i)] w fun e w' => e = .returned (rawV (ovF k8 Y (wI l2 Z i / 1048576) (wI l2 Z i / 65536 % 16) (wI l2 Z i / 64 % 1024) (wI l2 Z i % 64) (G (wI l2 Z i)) l1)) ∧ Below w.heap.size w w') := fun w vc' h' => dReadAt_any h' hm _ (hx_i64 hwx) hwx
  obtain ⟨F2, hF2⟩ : ∃ F, ovF k8 Y (wI l2 Z i / 1048576) (wI l2 Z i / 65536 % 16) (wI l2 Z i / 64 % 1024) (wI l2 Z i % 64) (G (wI l2 Z i)) l1 = F := ⟨_, rfl⟩
  rw [hF2] at CR ⊢
  obtain ⟨j, hj⟩ : ∃ j, wI l2 Z i = j := ⟨_, rfl⟩
  obtain ⟨t, ht⟩ : ∃ t, wD l2 Z = t := ⟨_, rfl⟩
  rw [hj] at CR
  rw [hj, ht] at CA
  rw [hj, ht]
  clear hj ht h hx1 hwx hF2
  unfold rawV at CR ⊢
  have hz := zeroR
  have hbr : ∀ w, (Instr.build 40 #[]).run Try.prog w = .ok (.agg (ints .u8 72 fun _ => 0).toArray) w := fun w => run_build w _ _ _ (by kernel_rfl)
  obtain ⟨F3, hF3⟩ : ∃ F, (if t = true then (fun _ => 0) else F2) = F := ⟨_, rfl⟩
  have HF3 : Hid ((t = true → F3 = fun _ => 0) ∧ (t = false → F3 = F2)) := ⟨fun e => by rw [← hF3, if_pos e], fun e => by rw [← hF3, e]; rfl⟩
  rw [hF3]
  clear hF3
  obtain ⟨L2, hL2⟩ : ∃ L, ints .u8 72 F3 = L := ⟨_, rfl⟩
  have ll : L2.length = 72 := by rw [← hL2]; exact ints_len _ _ _
  have iL : (Try.prog.info? 40).map (·.size) = some L2.toArray.size := by rw [← hL2]; exact infoR
  have iL2 : (Try.prog.info? 40).map (·.size) = some L2.length := by rw [← hL2, ints_len]; exact infoR
  have one : L2.toArray.all (·.oneCell') = true := by rw [← hL2]; exact ints_one .u8 72 _
  have HL2 : Hid (ints .u8 72 F3 = L2) := hL2
  rw [hL2]
  obtain ⟨T, hT⟩ : ∃ Z, (ints .u8 72 fun _ => 0).toArray = Z := ⟨_, rfl⟩
  rw [hT] at hz hbr
  have HTT : Hid ((ints .u8 72 fun _ => 0).toArray = T) := hT
  have HBR : Hid (∀ w, (Instr.build 40 #[]).run Try.prog w = .ok (.agg T) w) := hbr
  clear hL2 hbr
  go_enter Try.func21, Try.ntmps21
  go_upto_region 1 with (fail)
  obtain ⟨R, hR⟩ : ∃ R, W.heap.size = R := ⟨_, rfl⟩
  obtain ⟨Q, hQ⟩ : ∃ Q, R + 1 = Q := ⟨_, rfl⟩
  obtain ⟨V, hV⟩ : ∃ V, (W.alloc (.cells T 40)).alloc (.cells #[.int .i64 0, .bool false] 59) = V := ⟨_, rfl⟩
  have HB : Hid (Below W.heap.size W V) := by rw [← hV]; exact ((Below.refl _ W).alloc (Nat.le_refl _) _).alloc (by simp) _
  have HQ : Hid (Cb V Q [.int .i64 0, .bool false]) := by
    have := Cb.new (W.alloc (.cells T 40)) [.int .i64 0, .bool false] 59
    rw [← hV, ← hQ, ← hR]
    rw [World.size_alloc] at this
    exact this
  have HE : Hid (Cb V R (ints .u8 72 fun _ => 0)) := by
    rw [← hV, ← hR, ← hT]
    exact (Cb.new W _ _).alloc _
  rw [hV, hR, hQ]
  clear hV hz hT
  go_wp2_with fail
  refine (CH.out _ HB.out).mono ?_
  rintro e W1 ⟨rfl, b1⟩
  replace HE : Hid (Cb W1 R (ints .u8 72 fun _ => 0)) := HE.out.next b1
  replace HQ : Hid (Cb W1 Q [.int .i64 0, .bool false]) := HQ.out.next b1
  replace HB : Hid (Below W.heap.size W W1) := HB.out.trans (b1.mono HB.out.size)
  clear b1 CH
  go_wp2_with fail
  refine (CA.out _ HB.out).mono ?_
  rintro e W2 ⟨rfl, vc', hd2, hown, hmv⟩
  have HS2 : Hid (Dm W2 lo B M r s b o d m n G vb l1 Y vc' (l2 - 1) (tlZ Z) ∧ Mv lo (mine B M vb vc) W W2 ∧ Cb W2 R (ints .u8 72 fun _ => 0) ∧ Cb W2 Q [.int .i64 0, .bool false]) := by
    have hk := fun g (h1 : g < W1.heap.size) (h2 : W.heap.size ≤ g) => hmv.k g h1 (fun hm => by have := HM.out g hm; omega)
    refine ⟨hd2, ⟨(HB.out.mono HLO.out).trans hmv.n, fun g hg ht => (hmv.k g (Nat.lt_of_lt_of_le hg HB.out.size) ht).trans (HB.out.block g hg)⟩, HE.out.of (hk R HE.out.lt (by omega)), HQ.out.of (hk Q HQ.out.lt (by omega))⟩
  have HOWN : Hid (vc'.ownBlock = vc.ownBlock) := hown
  have HM2 : Hid (∀ g, mine B M vb vc' g → g < W.heap.size) := fun g hg => HM.out g ((own_eq hown g).1 hg)
  clear hd2 hown hmv HB HE HQ CA
  go_upto_region 4 with (fail)
  obtain ⟨K, hK⟩ : ∃ K, W2.heap.size = K := ⟨_, rfl⟩
  obtain ⟨W3, hW3⟩ : ∃ W3, W2.alloc (.cells #[.int .i64 j, .bool t] 59) = W3 := ⟨_, rfl⟩
  have HRK : Hid (R < Q ∧ Q < K ∧ W.heap.size ≤ R) := ⟨by omega, by rw [← hK]; exact HS2.out.2.2.2.lt, by omega⟩
  have HS : Hid (Rd lo B M r s b o d m n G vb l1 Y vc' (l2 - 1) (tlZ Z) (mine B M vb vc) R Q K j t W W3) := by
    have b3 : Below W2.heap.size W2 W3 := by rw [← hW3]; exact (Below.refl _ W2).alloc (Nat.le_refl _) _
    refine ⟨HS2.out.1.next b3, HS2.out.2.1.then b3 HS2.out.1.lo_le, ⟨_, HS2.out.2.2.1.next b3, ints_len _ _ _⟩, ⟨_, HS2.out.2.2.2.next b3, rfl⟩, ?_⟩
    rw [← hW3, ← hK]
    exact Cb.new W2 _ _
  rw [hW3, hK]
  clear hW3 HS2 HM
  have HEND : Hid (∀ W4, Rd lo B M r s b o d m n G vb l1 Y vc' (l2 - 1) (tlZ Z) (mine B M vb vc) R Q K j t W W4 → Cb ((W4.setCells R 0 L2).setCells Q 0 [.int .i64 j, .bool t]) R L2 ∧ Cb ((W4.setCells R 0 L2).setCells Q 0 [.int .i64 j, .bool t]) Q [.int .i64 j, .bool t] ∧ Tk lo B M r s b o d m n G vb l1 Y vc l2 Z W ((W4.setCells R 0 L2).setCells Q 0 [.int .i64 j, .bool t]) ∧ W4.there R 0 L2.toArray.size ∧ (W4.setCells R 0 L2).there Q 0 2 ∧ Rd lo B M r s b o d m n G vb l1 Y vc' (l2 - 1) (tlZ Z) (mine B M vb vc) R Q K j t W (W4.setCells R 0 L2) ∧ Rd lo B M r s b o d m n G vb l1 Y vc' (l2 - 1) (tlZ Z) (mine B M vb vc) R Q K j t W ((W4.setCells R 0 L2).setCells Q 0 [.int .i64 j, .bool t])) := fun W4 h4 => by
    have hrk := HRK.out
    have h5 := h4.put HM2.out hrk.2.2 (by omega) L2
    have h6 := h5.put (C := Q) HM2.out (by omega) (by omega) [.int .i64 j, .bool t]
    obtain ⟨X, x, hl⟩ := h4.e
    obtain ⟨X2, x2, hl2⟩ := h5.q
    refine ⟨(x.all (by rw [hl, ll])).putOther (by omega) 0 _, x2.all (by rw [hl2]; rfl), ⟨vc', h6.d, HOWN.out, h6.m⟩, x.thereAt 0 _ (by simp [ll, hl]), x2.thereAt 0 2 (by rw [hl2]; exact Nat.le_refl _), h5, h6⟩
  have on : (#[.int .i64 j, .bool t] : Array Value).all (·.oneCell') = true := one_we _ _
  have ck := HS.out.k.cell (i := 1) rfl
  cases t with
  | true =>
    obtain rfl : F3 = fun _ => 0 := HF3.out.1 rfl
    have hTL : T = L2.toArray := by rw [← HTT.out, HL2.out]
    rw [hTL] at HBR
    clear HTT HL2 CR HF3 hTL
    go_upto_region 5 with (fail)
    clear ck
    refine region_ends (by kernel_rfl) (fun W' => Rd lo B M r s b o d m n G vb l1 Y vc' (l2 - 1) (tlZ Z) (mine B M vb vc) R Q K j true W W') (fun a2 W' => a2 = ({ tmps := #[.pointer (some ⟨B, 0, none⟩), .int .i64 i, undef, undef, .pointer (some ⟨R, 0, none⟩), .pointer (some ⟨Q, 0, none⟩), .int .i64 0, .pointer (some ⟨K, 0, none⟩), .pointer (some ⟨B, 0, none⟩), .int .i64 i, .bool true, .bool false, undef, undef, .pointer (some ⟨B, 0, none⟩), .int .i64 i, .agg #[.int .i64 j, .bool true], .pointer (some ⟨K, 1, none⟩), .bool true, .agg L2.toArray, .agg #[.int .i64 j, .bool true], undef, undef, undef, undef, undef], defers := [] } : Act) ∧ ∃ W4, Rd lo B M r s b o d m n G vb l1 Y vc' (l2 - 1) (tlZ Z) (mine B M vb vc) R Q K j true W W4 ∧ W' = (W4.setCells R 0 L2).setCells Q 0 [.int .i64 j, .bool true]) (HS.out.next (below_drew1 _)) (fun hH => ?reg) (fun a2 V3 hr => ?aft)
    case reg =>
      refine take_pure 0 (v := .agg L2.toArray) rfl (by kernel_rfl) rfl (fun w' hw => exec_build12 40 rfl _ HBR.out w') hH ?_
      show wpAnyH _ _ _ _ _ _ _ ({ tmps := #[.pointer (some ⟨B, 0, none⟩), .int .i64 i, undef, undef, .pointer (some ⟨R, 0, none⟩), .pointer (some ⟨Q, 0, none⟩), .int .i64 0, .pointer (some ⟨K, 0, none⟩), .pointer (some ⟨B, 0, none⟩), .int .i64 i, .bool true, .bool false, undef, undef, .pointer (some ⟨B, 0, none⟩), .int .i64 i, .agg #[.int .i64 j, .bool true], .pointer (some ⟨K, 1, none⟩), .bool true, .agg L2.toArray, undef, undef, undef, undef, undef, undef], defers := [] } : Act) _
      refine take_pure 1 (v := .agg #[.int .i64 j, .bool true]) rfl (by kernel_rfl) rfl (fun w' hw => exec_range 59 (.tmp 7) rfl K 0 rfl [.int .i64 j, .bool true] _ hw.k.range Try.underlying59 rfl infoWe) hH ?_
      show wpAnyH _ _ _ _ _ _ _ ({ tmps := #[.pointer (some ⟨B, 0, none⟩), .int .i64 i, undef, undef, .pointer (some ⟨R, 0, none⟩), .pointer (some ⟨Q, 0, none⟩), .int .i64 0, .pointer (some ⟨K, 0, none⟩), .pointer (some ⟨B, 0, none⟩), .int .i64 i, .bool true, .bool false, undef, undef, .pointer (some ⟨B, 0, none⟩), .int .i64 i, .agg #[.int .i64 j, .bool true], .pointer (some ⟨K, 1, none⟩), .bool true, .agg L2.toArray, .agg #[.int .i64 j, .bool true], undef, undef, undef, undef, undef], defers := [] } : Act) _
      have hW9 := hH
      obtain ⟨W9, hW9e⟩ : ∃ W9, W9 = W3.drew := ⟨_, rfl⟩
      rw [← hW9e] at hH hW9 ⊢
      obtain ⟨_, _, _, t1, t2, p1, p2⟩ := HEND.out W9 hW9
      refine take_one 2 rfl rfl (by kernel_rfl) ?_
      refine wp_store_mid 40 _ _ rfl R 0 L2.toArray rfl rfl t1 iL one ?_
      refine ⟨p1, fun hH => ?_⟩
      show wpAnyH _ _ _ _ _ _ _ ({ tmps := #[.pointer (some ⟨B, 0, none⟩), .int .i64 i, undef, undef, .pointer (some ⟨R, 0, none⟩), .pointer (some ⟨Q, 0, none⟩), .int .i64 0, .pointer (some ⟨K, 0, none⟩), .pointer (some ⟨B, 0, none⟩), .int .i64 i, .bool true, .bool false, undef, undef, .pointer (some ⟨B, 0, none⟩), .int .i64 i, .agg #[.int .i64 j, .bool true], .pointer (some ⟨K, 1, none⟩), .bool true, .agg L2.toArray, .agg #[.int .i64 j, .bool true], undef, undef, undef, undef, undef], defers := [] } : Act) _
      refine take_one 3 rfl rfl (by kernel_rfl) ?_
      refine wp_store_mid 59 _ _ rfl Q 0 #[.int .i64 j, .bool true] rfl rfl t2 infoWe on ?_
      refine ⟨p2, fun hH => ?_⟩
      show wpAnyH _ _ _ _ _ _ _ ({ tmps := #[.pointer (some ⟨B, 0, none⟩), .int .i64 i, undef, undef, .pointer (some ⟨R, 0, none⟩), .pointer (some ⟨Q, 0, none⟩), .int .i64 0, .pointer (some ⟨K, 0, none⟩), .pointer (some ⟨B, 0, none⟩), .int .i64 i, .bool true, .bool false, undef, undef, .pointer (some ⟨B, 0, none⟩), .int .i64 i, .agg #[.int .i64 j, .bool true], .pointer (some ⟨K, 1, none⟩), .bool true, .agg L2.toArray, .agg #[.int .i64 j, .bool true], undef, undef, undef, undef, undef], defers := [] } : Act) _
      refine take_pure 4 (v := .int .i64 0) rfl (by kernel_rfl) rfl (fun w' hw => by simp [execOp, go_sem]) hH ?_
      show wpAnyH _ _ _ _ _ _ _ ({ tmps := #[.pointer (some ⟨B, 0, none⟩), .int .i64 i, undef, undef, .pointer (some ⟨R, 0, none⟩), .pointer (some ⟨Q, 0, none⟩), .int .i64 0, .pointer (some ⟨K, 0, none⟩), .pointer (some ⟨B, 0, none⟩), .int .i64 i, .bool true, .bool false, undef, undef, .pointer (some ⟨B, 0, none⟩), .int .i64 i, .agg #[.int .i64 j, .bool true], .pointer (some ⟨K, 1, none⟩), .bool true, .agg L2.toArray, .agg #[.int .i64 j, .bool true], undef, undef, undef, undef, undef], defers := [] } : Act) _
      exact wpAnyH_done (by kernel_rfl) ⟨rfl, W9, hW9, rfl⟩ _
    case aft =>
      obtain ⟨rfl, W4, h4, rfl⟩ := hr
      obtain ⟨k1, k2, hq, _⟩ := HEND.out W4 h4
      have hld := run_loadVar_mid (P := Try.prog) _ R 0 40 L2 _ k1.range Try.underlying40 rfl iL2
      have hld2 := run_loadVar_mid (P := Try.prog) _ Q 0 59 [.int .i64 j, .bool true] _ k2.range Try.underlying59 rfl infoWe
      have HTK : Hid (Tk lo B M r s b o d m n G vb l1 Y vc l2 Z W ((W4.setCells R 0 L2).setCells Q 0 [.int .i64 j, .bool true])) := hq
      clear k1 k2 hq h4 HEND HS
      go_wp2
      refine bodyPost_ret (v := .tuple #[.agg L2.toArray, .agg #[.int .i64 j, .bool true], .int .i64 0]) ?_ rfl ⟨rfl, HTK.out⟩
      simp [results, Try.f21, asAddr, hld, hld2]
  | false =>
    obtain rfl : F3 = F2 := HF3.out.2 rfl
    rw [HL2.out] at CR
    clear HTT HL2 HF3 HBR
    go_upto_region 6 with (fail)
    clear ck
    refine region_ends (by kernel_rfl) (fun W' => Rd lo B M r s b o d m n G vb l1 Y vc' (l2 - 1) (tlZ Z) (mine B M vb vc) R Q K j false W W') (fun a2 W' => a2 = ({ tmps := #[.pointer (some ⟨B, 0, none⟩), .int .i64 i, undef, undef, .pointer (some ⟨R, 0, none⟩), .pointer (some ⟨Q, 0, none⟩), .int .i64 0, .pointer (some ⟨K, 0, none⟩), .pointer (some ⟨B, 0, none⟩), .int .i64 i, .bool true, .bool false, undef, undef, .pointer (some ⟨B, 0, none⟩), .int .i64 i, .agg #[.int .i64 j, .bool false], .pointer (some ⟨K, 1, none⟩), .bool false, undef, undef, .pointer (some ⟨B, 0, none⟩), .pointer (some ⟨K, 0, none⟩), .int .i64 j, .agg L2.toArray, .agg #[.int .i64 j, .bool false]], defers := [] } : Act) ∧ ∃ W4, Rd lo B M r s b o d m n G vb l1 Y vc' (l2 - 1) (tlZ Z) (mine B M vb vc) R Q K j false W W4 ∧ W' = (W4.setCells R 0 L2).setCells Q 0 [.int .i64 j, .bool false]) (HS.out.next (below_drew1 _)) (fun hH => ?reg) (fun a2 V3 hr => ?aft)
    case reg =>
      refine take_pure 0 (v := .pointer (some ⟨B, 0, none⟩)) rfl (by kernel_rfl) rfl (fun w' hw => by simp [execOp, go_sem]) hH ?_
      show wpAnyH _ _ _ _ _ _ _ ({ tmps := #[.pointer (some ⟨B, 0, none⟩), .int .i64 i, undef, undef, .pointer (some ⟨R, 0, none⟩), .pointer (some ⟨Q, 0, none⟩), .int .i64 0, .pointer (some ⟨K, 0, none⟩), .pointer (some ⟨B, 0, none⟩), .int .i64 i, .bool true, .bool false, undef, undef, .pointer (some ⟨B, 0, none⟩), .int .i64 i, .agg #[.int .i64 j, .bool false], .pointer (some ⟨K, 1, none⟩), .bool false, undef, undef, .pointer (some ⟨B, 0, none⟩), undef, undef, undef, undef], defers := [] } : Act) _
      refine take_pure 1 (v := .pointer (some ⟨K, 0, none⟩)) rfl (by kernel_rfl) rfl (fun w' hw => by simp [execOp, go_sem]) hH ?_
      show wpAnyH _ _ _ _ _ _ _ ({ tmps := #[.pointer (some ⟨B, 0, none⟩), .int .i64 i, undef, undef, .pointer (some ⟨R, 0, none⟩), .pointer (some ⟨Q, 0, none⟩), .int .i64 0, .pointer (some ⟨K, 0, none⟩), .pointer (some ⟨B, 0, none⟩), .int .i64 i, .bool true, .bool false, undef, undef, .pointer (some ⟨B, 0, none⟩), .int .i64 i, .agg #[.int .i64 j, .bool false], .pointer (some ⟨K, 1, none⟩), .bool false, undef, undef, .pointer (some ⟨B, 0, none⟩), .pointer (some ⟨K, 0, none⟩), undef, undef, undef], defers := [] } : Act) _
      refine take_pure 2 (v := .int .i64 j) rfl (by kernel_rfl) rfl (fun w' hw => by simp [execOp, go_sem, hw.k.cell (i := 0) rfl]) hH ?_
      show wpAnyH _ _ _ _ _ _ _ ({ tmps := #[.pointer (some ⟨B, 0, none⟩), .int .i64 i, undef, undef, .pointer (some ⟨R, 0, none⟩), .pointer (some ⟨Q, 0, none⟩), .int .i64 0, .pointer (some ⟨K, 0, none⟩), .pointer (some ⟨B, 0, none⟩), .int .i64 i, .bool true, .bool false, undef, undef, .pointer (some ⟨B, 0, none⟩), .int .i64 i, .agg #[.int .i64 j, .bool false], .pointer (some ⟨K, 1, none⟩), .bool false, undef, undef, .pointer (some ⟨B, 0, none⟩), .pointer (some ⟨K, 0, none⟩), .int .i64 j, undef, undef], defers := [] } : Act) _
      refine take_pure 4 (v := .agg #[.int .i64 j, .bool false]) rfl (by kernel_rfl) rfl (fun w' hw => exec_range 59 (.tmp 7) rfl K 0 rfl [.int .i64 j, .bool false] _ hw.k.range Try.underlying59 rfl infoWe) hH ?_
      show wpAnyH _ _ _ _ _ _ _ ({ tmps := #[.pointer (some ⟨B, 0, none⟩), .int .i64 i, undef, undef, .pointer (some ⟨R, 0, none⟩), .pointer (some ⟨Q, 0, none⟩), .int .i64 0, .pointer (some ⟨K, 0, none⟩), .pointer (some ⟨B, 0, none⟩), .int .i64 i, .bool true, .bool false, undef, undef, .pointer (some ⟨B, 0, none⟩), .int .i64 i, .agg #[.int .i64 j, .bool false], .pointer (some ⟨K, 1, none⟩), .bool false, undef, undef, .pointer (some ⟨B, 0, none⟩), .pointer (some ⟨K, 0, none⟩), .int .i64 j, undef, .agg #[.int .i64 j, .bool false]], defers := [] } : Act) _
      refine take_one 3 rfl rfl (by kernel_rfl) ?_
      refine wp_contract 42 [.tmp 21, .tmp 23] _ rfl (enters_of Try.func42 (by kernel_rfl) rfl) [.pointer (some ⟨B, 0, none⟩), .int .i64 j] rfl (CR.out _ _ hH.d) ?_
      rintro e W' ⟨rfl, b2⟩
      refine ⟨_, rfl, hH.next b2, fun hH => ?_⟩
      show wpAnyH _ _ _ _ _ _ _ ({ tmps := #[.pointer (some ⟨B, 0, none⟩), .int .i64 i, undef, undef, .pointer (some ⟨R, 0, none⟩), .pointer (some ⟨Q, 0, none⟩), .int .i64 0, .pointer (some ⟨K, 0, none⟩), .pointer (some ⟨B, 0, none⟩), .int .i64 i, .bool true, .bool false, undef, undef, .pointer (some ⟨B, 0, none⟩), .int .i64 i, .agg #[.int .i64 j, .bool false], .pointer (some ⟨K, 1, none⟩), .bool false, undef, undef, .pointer (some ⟨B, 0, none⟩), .pointer (some ⟨K, 0, none⟩), .int .i64 j, .agg L2.toArray, .agg #[.int .i64 j, .bool false]], defers := [] } : Act) _
      have hW9 := hH
      obtain ⟨W9, hW9e⟩ : ∃ W9, W9 = W' := ⟨_, rfl⟩
      rw [← hW9e] at hH hW9 ⊢
      obtain ⟨_, _, _, t1, t2, p1, p2⟩ := HEND.out W9 hW9
      refine take_one 5 rfl rfl (by kernel_rfl) ?_
      refine wp_store_mid 40 _ _ rfl R 0 L2.toArray rfl rfl t1 iL one ?_
      refine ⟨p1, fun hH => ?_⟩
      show wpAnyH _ _ _ _ _ _ _ ({ tmps := #[.pointer (some ⟨B, 0, none⟩), .int .i64 i, undef, undef, .pointer (some ⟨R, 0, none⟩), .pointer (some ⟨Q, 0, none⟩), .int .i64 0, .pointer (some ⟨K, 0, none⟩), .pointer (some ⟨B, 0, none⟩), .int .i64 i, .bool true, .bool false, undef, undef, .pointer (some ⟨B, 0, none⟩), .int .i64 i, .agg #[.int .i64 j, .bool false], .pointer (some ⟨K, 1, none⟩), .bool false, undef, undef, .pointer (some ⟨B, 0, none⟩), .pointer (some ⟨K, 0, none⟩), .int .i64 j, .agg L2.toArray, .agg #[.int .i64 j, .bool false]], defers := [] } : Act) _
      refine take_one 6 rfl rfl (by kernel_rfl) ?_
      refine wp_store_mid 59 _ _ rfl Q 0 #[.int .i64 j, .bool false] rfl rfl t2 infoWe on ?_
      refine ⟨p2, fun hH => ?_⟩
      show wpAnyH _ _ _ _ _ _ _ ({ tmps := #[.pointer (some ⟨B, 0, none⟩), .int .i64 i, undef, undef, .pointer (some ⟨R, 0, none⟩), .pointer (some ⟨Q, 0, none⟩), .int .i64 0, .pointer (some ⟨K, 0, none⟩), .pointer (some ⟨B, 0, none⟩), .int .i64 i, .bool true, .bool false, undef, undef, .pointer (some ⟨B, 0, none⟩), .int .i64 i, .agg #[.int .i64 j, .bool false], .pointer (some ⟨K, 1, none⟩), .bool false, undef, undef, .pointer (some ⟨B, 0, none⟩), .pointer (some ⟨K, 0, none⟩), .int .i64 j, .agg L2.toArray, .agg #[.int .i64 j, .bool false]], defers := [] } : Act) _
      refine take_pure 7 (v := .int .i64 0) rfl (by kernel_rfl) rfl (fun w' hw => by simp [execOp, go_sem]) hH ?_
      show wpAnyH _ _ _ _ _ _ _ ({ tmps := #[.pointer (some ⟨B, 0, none⟩), .int .i64 i, undef, undef, .pointer (some ⟨R, 0, none⟩), .pointer (some ⟨Q, 0, none⟩), .int .i64 0, .pointer (some ⟨K, 0, none⟩), .pointer (some ⟨B, 0, none⟩), .int .i64 i, .bool true, .bool false, undef, undef, .pointer (some ⟨B, 0, none⟩), .int .i64 i, .agg #[.int .i64 j, .bool false], .pointer (some ⟨K, 1, none⟩), .bool false, undef, undef, .pointer (some ⟨B, 0, none⟩), .pointer (some ⟨K, 0, none⟩), .int .i64 j, .agg L2.toArray, .agg #[.int .i64 j, .bool false]], defers := [] } : Act) _
      exact wpAnyH_done (by kernel_rfl) ⟨rfl, W9, hW9, rfl⟩ _
    case aft =>
      obtain ⟨rfl, W4, h4, rfl⟩ := hr
      obtain ⟨k1, k2, hq, _⟩ := HEND.out W4 h4
      have hld := run_loadVar_mid (P := Try.prog) _ R 0 40 L2 _ k1.range Try.underlying40 rfl iL2
      have hld2 := run_loadVar_mid (P := Try.prog) _ Q 0 59 [.int .i64 j, .bool false] _ k2.range Try.underlying59 rfl infoWe
      have HTK : Hid (Tk lo B M r s b o d m n G vb l1 Y vc l2 Z W ((W4.setCells R 0 L2).setCells Q 0 [.int .i64 j, .bool false])) := hq
      clear k1 k2 hq h4 HEND HS
      go_wp2
      refine bodyPost_ret (v := .tuple #[.agg L2.toArray, .agg #[.int .i64 j, .bool false], .int .i64 0]) ?_ rfl ⟨rfl, HTK.out⟩
      simp [results, Try.f21, asAddr, hld, hld2]
end
end Go.Proofs.Ytcpjmfemgdgplaa
