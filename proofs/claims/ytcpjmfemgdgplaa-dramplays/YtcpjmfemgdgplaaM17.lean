/-
  Texts of one family, one behind another: DrW7, DrW12, DrW13, DrW14, DrL0, RwW3.
-/
import Derived.Test.YtcpjmfemgdgplaaM15
import Derived.Test.YtcpjmfemgdgplaaM16
import Derived.Test.YtcpjmfemgdgplaaM03
import Derived.Deep.DeepCutAuto
import Derived.Test.YtcpjmfemgdgplaaM02

/-
  A line is read.
-/
namespace Go.Proofs.Ytcpjmfemgdgplaa
open Go.RowKit Go.Shelf
open Ge (pw rt hd ix)
attribute [local go_sem] Oper.semAt_some

theorem plt_len (L : List Value) (o : Nat) (vs : List Value) : (plt L o vs).length = L.length := by simp [plt]
theorem Cb.all {W : World} {b : Nat} {L vs : List Value} (h : Cb W b L) (hl : vs.length = L.length) : Cb (W.setCells b 0 vs) b vs := by
  have h2 := h.put 0 vs
  refine h2.to ?_
  refine List.ext_getElem? fun j => ?_
  unfold plt
  by_cases hj : j < L.length
  · rw [List.getElem?_map, List.getElem?_range hj]
    have hv : j < vs.length := by omega
    simp [hv]
  · rw [List.getElem?_eq_none (by simp; omega), List.getElem?_eq_none (by omega)]
section
variable {W : World} {lo B M R : Nat} {r s b o d m : Int} {n : Nat} {G : Int → Nat → Int} {vb vc : Value} {l1 l2 : Nat} {Y Z : Nat → Nat → Int}
/-- at work in Read -/
structure Rd (lo B M : Nat) (r s b o d m : Int) (n : Nat) (G : Int → Nat → Int) (vb : Value) (l1 : Nat) (Y : Nat → Nat → Int) (vc : Value) (l2 : Nat) (Z : Nat → Nat → Int) (T : Nat → Prop) (R Q K : Nat) (i : Int) (t : Bool) (w W : World) : Prop where
  d : Dm W lo B M r s b o d m n G vb l1 Y vc l2 Z
  m : Mv lo T w W
  e : ∃ X, Cb W R X ∧ X.length = 72
  q : ∃ X, Cb W Q X ∧ X.length = 2
  k : Cb W K [.int .i64 i, .bool t]
theorem Rd.next {T : Nat → Prop} {Q K : Nat} {i : Int} {t : Bool} {w W W' : World} (h : Rd lo B M r s b o d m n G vb l1 Y vc l2 Z T R Q K i t w W) (e : Below W.heap.size W W') : Rd lo B M r s b o d m n G vb l1 Y vc l2 Z T R Q K i t w W' :=
  ⟨h.d.next e, h.m.then e h.d.lo_le, (let ⟨X, x, l⟩ := h.e; ⟨X, x.next e, l⟩), (let ⟨X, x, l⟩ := h.q; ⟨X, x.next e, l⟩), h.k.next e⟩
theorem Rd.put {T : Nat → Prop} {Q K C : Nat} {i : Int} {t : Bool} {w W : World} (h : Rd lo B M r s b o d m n G vb l1 Y vc l2 Z T R Q K i t w W) (hm : ∀ g, mine B M vb vc g → g < w.heap.size) (hC : w.heap.size ≤ C) (hK : C ≠ K) (vs : List Value) : Rd lo B M r s b o d m n G vb l1 Y vc l2 Z T R Q K i t w (W.setCells C 0 vs) := by
  have h2 : w.heap.size ≤ W.heap.size := h.m.n.size
  have hb : B < w.heap.size := hm B (.inl rfl)
  have hp := dm_put (R := C) h.d h.m (fun g hg => Nat.lt_of_lt_of_le (hm g hg) hC) hC (by have := h.d.lb; omega) vs
  have hc : ∀ D (l : Nat), (∃ X, Cb W D X ∧ X.length = l) → ∃ X, Cb (W.setCells C 0 vs) D X ∧ X.length = l := fun D l hx => by
    obtain ⟨X, hx, hl⟩ := hx
    by_cases e : D = C
    · subst e
      exact ⟨_, hx.put 0 vs, by rw [plt_len]; exact hl⟩
    · exact ⟨X, hx.putOther e 0 vs, hl⟩
  exact ⟨hp.1, hp.2, hc R 72 h.e, hc Q 2 h.q, h.k.putOther (fun e => hK e.symm) 0 vs⟩
set_option maxRecDepth 100000 in
set_option maxHeartbeats 4000000 in
theorem dRead_no (h : Dm W lo B M r s b o d m n G vb l1 Y vc l2 Z) (i : Int) (hx1 : hx r s b o d i = false) :
    Calls Try.prog 21 #[.pointer (some ⟨B, 0, none⟩), .int .i64 i] W fun e w' => e = .returned (.tuple #[rawV fun _ => 0, .agg #[.int .i64 0, .bool false], .int .i64 12]) ∧ Below W.heap.size W w' := by
  unfold rawV
  have CH : Hid (∀ w, Below W.heap.size W w → Calls Try.prog 41 #[.pointer (some ⟨B, 0, none⟩), .int .i64 i] w fun e w' => e = .returned (.bool false) ∧ Below w.heap.size w w') := fun w hw => by rw [← hx1]; exact dHas_any (h.next hw) i
  obtain ⟨L2, hL2⟩ : ∃ L, (ints .u8 72 fun _ => 0) = L := ⟨_, rfl⟩
  have ll : L2.length = 72 := by rw [← hL2]; exact ints_len _ _ _
  have iL : (Try.prog.info? 40).map (·.size) = some L2.toArray.size := by rw [← hL2]; exact infoR
  have iL2 : (Try.prog.info? 40).map (·.size) = some L2.length := by rw [← hL2, ints_len]; exact infoR
  have one : L2.toArray.all (·.oneCell') = true := by rw [← hL2]; exact ints_one .u8 72 _
  have hz := zeroR
  have hbr : ∀ w, (Instr.build 40 #[]).run Try.prog w = .ok (.agg (ints .u8 72 fun _ => 0).toArray) w := fun w => run_build w _ _ _ (by kernel_rfl)
  have HZ : Hid ((ints .u8 72 fun _ => 0) = L2) := hL2
  rw [hL2] at hbr ⊢
  obtain ⟨T, hT⟩ : ∃ Z, (ints .u8 72 fun _ => 0).toArray = Z := ⟨_, rfl⟩
  rw [hT] at hz
  clear hL2 h hx1
  go_enter Try.func21, Try.ntmps21
  go_upto_region 1 with (fail)
  obtain ⟨R, hR⟩ : ∃ R, W.heap.size = R := ⟨_, rfl⟩
  obtain ⟨Q, hQ⟩ : ∃ Q, R + 1 = Q := ⟨_, rfl⟩
  obtain ⟨V, hV⟩ : ∃ V, (W.alloc (.cells T 40)).alloc (.cells #[.int .i64 0, .bool false] 59) = V := ⟨_, rfl⟩
  have HB : Hid (Below W.heap.size W V) := by rw [← hV]; exact ((Below.refl _ W).alloc (Nat.le_refl _) _).alloc (by simp) _
  have HQ : Hid (Cb V Q [.int .i64 0, .bool false]) := by
    have := Cb.new (W.alloc (.cells T 40)) [.int .i64 0, .bool false] 59
    rw [← hV, ← hQ, ← hR]
    rw [World.size_alloc] at this
    exact this
  have HE : Hid (Cb V R (ints .u8 72 fun _ => 0)) := by
    rw [← hV, ← hR, ← hT]
    exact (Cb.new W _ _).alloc _
  rw [hV, hR, hQ]
  clear hV hz hT
  go_wp2_with fail
  refine (CH.out _ HB.out).mono ?_
  rintro e W1 ⟨rfl, b1⟩
  have HN : Hid (Below W.heap.size W W1) := HB.out.trans (b1.mono HB.out.size)
  have HQ1 : Hid (Cb W1 Q [.int .i64 0, .bool false]) := HQ.out.next b1
  have HE1 : Hid (Cb W1 R L2) := by rw [← HZ.out]; exact HE.out.next b1
  have th1 : W1.there R 0 L2.toArray.size := HE1.out.thereAt 0 _ (by simp)
  have th2 : (World.setCells W1 R 0 L2).there Q 0 2 := (HQ1.out.putOther (by omega) 0 L2).thereAt 0 2 (by simp)
  have on : (#[.int .i64 0, .bool false] : Array Value).all (·.oneCell') = true := one_we _ _
  clear b1 HE HB CH HQ
  go_wp2_with (first
    | refine wpList_known rfl _ (exec_build12 40 rfl _ hbr _) ?_
    | refine wpList_store_mid rfl 40 _ _ rfl R 0 L2.toArray rfl rfl th1 iL one ?_
    | refine wpList_store_mid rfl 59 _ _ rfl Q 0 #[.int .i64 0, .bool false] rfl rfl th2 infoWe on ?_)
  have k1 : Cb ((W1.setCells R 0 L2).setCells Q 0 [.int .i64 0, .bool false]) R L2 := (HE1.out.all rfl).putOther (by omega) 0 _
  have k2 : Cb ((W1.setCells R 0 L2).setCells Q 0 [.int .i64 0, .bool false]) Q [.int .i64 0, .bool false] := (HQ1.out.putOther (by omega) 0 L2).all rfl
  have hld := run_loadVar_mid (P := Try.prog) _ R 0 40 L2 _ k1.range Try.underlying40 rfl iL2
  have hld2 := run_loadVar_mid (P := Try.prog) _ Q 0 59 [.int .i64 0, .bool false] _ k2.range Try.underlying59 rfl infoWe
  refine bodyPost_ret (v := .tuple #[.agg L2.toArray, .agg #[.int .i64 0, .bool false], .int .i64 12]) ?_ rfl ⟨rfl, belows_put (by omega) _ 0 (belows_put (by omega) _ 0 HN.out)⟩
  simp [results, Try.f21, asAddr, hld, hld2]
set_option maxRecDepth 100000 in
set_option maxHeartbeats 4000000 in
theorem dRead_any (h : Dm W lo B M r s b o d m n G vb l1 Y vc l2 Z) {k8 j8 : Int} (hm : Md m k8 j8) (i : Int) (hx1 : hx r s b o d i = true) :
    Calls Try.prog 21 #[.pointer (some ⟨B, 0, none⟩), .int .i64 i] W fun e w' => e = .returned (.tuple #[rawV (if wD l2 Z = true then (fun _ => 0) else ovF k8 Y (wI l2 Z i / 1048576) (wI l2 Z i / 65536 % 16) (wI l2 Z i / 64 % 1024) (wI l2 Z i % 64) (G (wI l2 Z i)) l1), .agg #[.int .i64 (wI l2 Z i), .bool (wD l2 Z)], .int .i64 0]) ∧ Tk lo B M r s b o d m n G vb l1 Y vc l2 Z W w' := by
  have hwx := wI_hx h hx1
  have CH : Hid (∀ w, Below W.heap.size W w → Calls Try.prog 41 #[.pointer (some ⟨B, 0, none⟩), .int .i64 i] w fun e w' => e = .returned (.bool true) ∧ Below w.heap.size w w') := fun w hw => by rw [← hx1]; exact dHas_any (h.next hw) i
  have CA : Hid (∀ w, Below W.heap.size W w → Calls Try.prog 47 #[.pointer (some ⟨B, 0, none⟩), .int .i64 i] w fun e w' => e = .returned (.agg #[.int .i64 (wI l2 Z i), .bool (wD l2 Z)]) ∧ Tk lo B M r s b o d m n G vb l1 Y vc l2 Z w w') := fun w hw => dAccess_any (h.next hw) i
  have HM : Hid (∀ g, mine B M vb vc g → g < W.heap.size) := fun g hg => (h.mine_lt g hg).2
  have HLO : Hid (lo ≤ W.heap.size) := h.lo_le
  have CR : Hid (∀ (w : World) (vc' : Value), Dm w lo B M r s b o d m n G vb l1 Y vc' (l2 - 1) (tlZ Z) → Calls Try.prog 42 #[.pointer (some ⟨B, 0, none⟩), .int .i64 (wI l2 Z i)] w fun e w' => e = .returned (rawV (ovF k8 Y (wI l2 Z i / 1048576) (wI l2 Z i / 65536 % 16) (wI l2 Z i / 64 % 1024) (wI l2 Z i % 64) (G (wI l2 Z i)) l1)) ∧ Below w.heap.size w w') := fun w vc' h' => dReadAt_any h' hm _ (hx_i64 hwx) hwx
  obtain ⟨F2, hF2⟩ : ∃ F, ovF k8 Y (wI l2 Z i / 1048576) (wI l2 Z i / 65536 % 16) (wI l2 Z i / 64 % 1024) (wI l2 Z i % 64) (G (wI l2 Z i)) l1 = F := ⟨_, rfl⟩
  rw [hF2] at CR ⊢
  obtain ⟨j, hj⟩ : ∃ j, wI l2 Z i = j := ⟨_, rfl⟩
  obtain ⟨t, ht⟩ : ∃ t, wD l2 Z = t := ⟨_, rfl⟩
  rw [hj] at CR
  rw [hj, ht] at CA
  rw [hj, ht]
  clear hj ht h hx1 hwx hF2
  unfold rawV at CR ⊢
  have hz := zeroR
  have hbr : ∀ w, (Instr.build 40 #[]).run Try.prog w = .ok (.agg (ints .u8 72 fun _ => 0).toArray) w := fun w => run_build w _ _ _ (by kernel_rfl)
  obtain ⟨F3, hF3⟩ : ∃ F, (if t = true then (fun _ => 0) else F2) = F := ⟨_, rfl⟩
  have HF3 : Hid ((t = true → F3 = fun _ => 0) ∧ (t = false → F3 = F2)) := ⟨fun e => by rw [← hF3, if_pos e], fun e => by rw [← hF3, e]; rfl⟩
  rw [hF3]
  clear hF3
  obtain ⟨L2, hL2⟩ : ∃ L, ints .u8 72 F3 = L := ⟨_, rfl⟩
  have ll : L2.length = 72 := by rw [← hL2]; exact ints_len _ _ _
  have iL : (Try.prog.info? 40).map (·.size) = some L2.toArray.size := by rw [← hL2]; exact infoR
  have iL2 : (Try.prog.info? 40).map (·.size) = some L2.length := by rw [← hL2, ints_len]; exact infoR
  have one : L2.toArray.all (·.oneCell') = true := by rw [← hL2]; exact ints_one .u8 72 _
  have HL2 : Hid (ints .u8 72 F3 = L2) := hL2
  rw [hL2]
  obtain ⟨T, hT⟩ : ∃ Z, (ints .u8 72 fun _ => 0).toArray = Z := ⟨_, rfl⟩
  rw [hT] at hz hbr
  have HTT : Hid ((ints .u8 72 fun _ => 0).toArray = T) := hT
  have HBR : Hid (∀ w, (Instr.build 40 #[]).run Try.prog w = .ok (.agg T) w) := hbr
  clear hL2 hbr
  go_enter Try.func21, Try.ntmps21
  go_upto_region 1 with (fail)
  obtain ⟨R, hR⟩ : ∃ R, W.heap.size = R := ⟨_, rfl⟩
  obtain ⟨Q, hQ⟩ : ∃ Q, R + 1 = Q := ⟨_, rfl⟩
  obtain ⟨V, hV⟩ : ∃ V, (W.alloc (.cells T 40)).alloc (.cells #[.int .i64 0, .bool false] 59) = V := ⟨_, rfl⟩
  have HB : Hid (Below W.heap.size W V) := by rw [← hV]; exact ((Below.refl _ W).alloc (Nat.le_refl _) _).alloc (by simp) _
  have HQ : Hid (Cb V Q [.int .i64 0, .bool false]) := by
    have := Cb.new (W.alloc (.cells T 40)) [.int .i64 0, .bool false] 59
    rw [← hV, ← hQ, ← hR]
    rw [World.size_alloc] at this
    exact this
  have HE : Hid (Cb V R (ints .u8 72 fun _ => 0)) := by
    rw [← hV, ← hR, ← hT]
    exact (Cb.new W _ _).alloc _
  rw [hV, hR, hQ]
  clear hV hz hT
  go_wp2_with fail
  refine (CH.out _ HB.out).mono ?_
  rintro e W1 ⟨rfl, b1⟩
  replace HE : Hid (Cb W1 R (ints .u8 72 fun _ => 0)) := HE.out.next b1
  replace HQ : Hid (Cb W1 Q [.int .i64 0, .bool false]) := HQ.out.next b1
  replace HB : Hid (Below W.heap.size W W1) := HB.out.trans (b1.mono HB.out.size)
  clear b1 CH
  go_wp2_with fail
  refine (CA.out _ HB.out).mono ?_
  rintro e W2 ⟨rfl, vc', hd2, hown, hmv⟩
  have HS2 : Hid (Dm W2 lo B M r s b o d m n G vb l1 Y vc' (l2 - 1) (tlZ Z) ∧ Mv lo (mine B M vb vc) W W2 ∧ Cb W2 R (ints .u8 72 fun _ => 0) ∧ Cb W2 Q [.int .i64 0, .bool false]) := by
    have hk := fun g (h1 : g < W1.heap.size) (h2 : W.heap.size ≤ g) => hmv.k g h1 (fun hm => by have := HM.out g hm; omega)
    refine ⟨hd2, ⟨(HB.out.mono HLO.out).trans hmv.n, fun g hg ht => (hmv.k g (Nat.lt_of_lt_of_le hg HB.out.size) ht).trans (HB.out.block g hg)⟩, HE.out.of (hk R HE.out.lt (by omega)), HQ.out.of (hk Q HQ.out.lt (by omega))⟩
  have HOWN : Hid (vc'.ownBlock = vc.ownBlock) := hown
  have HM2 : Hid (∀ g, mine B M vb vc' g → g < W.heap.size) := fun g hg => HM.out g ((own_eq hown g).1 hg)
  clear hd2 hown hmv HB HE HQ CA
  go_upto_region 4 with (fail)
  obtain ⟨K, hK⟩ : ∃ K, W2.heap.size = K := ⟨_, rfl⟩
  obtain ⟨W3, hW3⟩ : ∃ W3, W2.alloc (.cells #[.int .i64 j, .bool t] 59) = W3 := ⟨_, rfl⟩
  have HRK : Hid (R < Q ∧ Q < K ∧ W.heap.size ≤ R) := ⟨by omega, by rw [← hK]; exact HS2.out.2.2.2.lt, by omega⟩
  have HS : Hid (Rd lo B M r s b o d m n G vb l1 Y vc' (l2 - 1) (tlZ Z) (mine B M vb vc) R Q K j t W W3) := by
    have b3 : Below W2.heap.size W2 W3 := by rw [← hW3]; exact (Below.refl _ W2).alloc (Nat.le_refl _) _
    refine ⟨HS2.out.1.next b3, HS2.out.2.1.then b3 HS2.out.1.lo_le, ⟨_, HS2.out.2.2.1.next b3, ints_len _ _ _⟩, ⟨_, HS2.out.2.2.2.next b3, rfl⟩, ?_⟩
    rw [← hW3, ← hK]
    exact Cb.new W2 _ _
  rw [hW3, hK]
  clear hW3 HS2 HM
  have HEND : Hid (∀ W4, Rd lo B M r s b o d m n G vb l1 Y vc' (l2 - 1) (tlZ Z) (mine B M vb vc) R Q K j t W W4 → Cb ((W4.setCells R 0 L2).setCells Q 0 [.int .i64 j, .bool t]) R L2 ∧ Cb ((W4.setCells R 0 L2).setCells Q 0 [.int .i64 j, .bool t]) Q [.int .i64 j, .bool t] ∧ Tk lo B M r s b o d m n G vb l1 Y vc l2 Z W ((W4.setCells R 0 L2).setCells Q 0 [.int .i64 j, .bool t]) ∧ W4.there R 0 L2.toArray.size ∧ (W4.setCells R 0 L2).there Q 0 2 ∧ Rd lo B M r s b o d m n G vb l1 Y vc' (l2 - 1) (tlZ Z) (mine B M vb vc) R Q K j t W (W4.setCells R 0 L2) ∧ Rd lo B M r s b o d m n G vb l1 Y vc' (l2 - 1) (tlZ Z) (mine B M vb vc) R Q K j t W ((W4.setCells R 0 L2).setCells Q 0 [.int .i64 j, .bool t])) := fun W4 h4 => by
    have hrk := HRK.out
    have h5 := h4.put HM2.out hrk.2.2 (by omega) L2
    have h6 := h5.put (C := Q) HM2.out (by omega) (by omega) [.int .i64 j, .bool t]
    obtain ⟨X, x, hl⟩ := h4.e
    obtain ⟨X2, x2, hl2⟩ := h5.q
    refine ⟨(x.all (by rw [hl, ll])).putOther (by omega) 0 _, x2.all (by rw [hl2]; rfl), ⟨vc', h6.d, HOWN.out, h6.m⟩, x.thereAt 0 _ (by simp [ll, hl]), x2.thereAt 0 2 (by rw [hl2]; exact Nat.le_refl _), h5, h6⟩
  have on : (#[.int .i64 j, .bool t] : Array Value).all (·.oneCell') = true := one_we _ _
  have ck := HS.out.k.cell (i := 1) rfl
  cases t with
  | true =>
    obtain rfl : F3 = fun _ => 0 := HF3.out.1 rfl
    have hTL : T = L2.toArray := by rw [← HTT.out, HL2.out]
    rw [hTL] at HBR
    clear HTT HL2 CR HF3 hTL
    go_upto_region 5 with (fail)
    clear ck
    refine region_ends (by kernel_rfl) (fun W' => Rd lo B M r s b o d m n G vb l1 Y vc' (l2 - 1) (tlZ Z) (mine B M vb vc) R Q K j true W W') (fun a2 W' => a2 = ({ tmps := #[.pointer (some ⟨B, 0, none⟩), .int .i64 i, undef, undef, .pointer (some ⟨R, 0, none⟩), .pointer (some ⟨Q, 0, none⟩), .int .i64 0, .pointer (some ⟨K, 0, none⟩), .pointer (some ⟨B, 0, none⟩), .int .i64 i, .bool true, .bool false, undef, undef, .pointer (some ⟨B, 0, none⟩), .int .i64 i, .agg #[.int .i64 j, .bool true], .pointer (some ⟨K, 1, none⟩), .bool true, .agg L2.toArray, .agg #[.int .i64 j, .bool true], undef, undef, undef, undef, undef], defers := [] } : Act) ∧ ∃ W4, Rd lo B M r s b o d m n G vb l1 Y vc' (l2 - 1) (tlZ Z) (mine B M vb vc) R Q K j true W W4 ∧ W' = (W4.setCells R 0 L2).setCells Q 0 [.int .i64 j, .bool true]) (HS.out.next (below_drew1 _)) (fun hH => ?reg) (fun a2 V3 hr => ?aft)
    case reg =>
      refine take_pure 0 (v := .agg L2.toArray) rfl (by kernel_rfl) rfl (fun w' hw => exec_build12 40 rfl _ HBR.out w') hH ?_
      show wpAnyH _ _ _ _ _ _ _ ({ tmps := #[.pointer (some ⟨B, 0, none⟩), .int .i64 i, undef, undef, .pointer (some ⟨R, 0, none⟩), .pointer (some ⟨Q, 0, none⟩), .int .i64 0, .pointer (some ⟨K, 0, none⟩), .pointer (some ⟨B, 0, none⟩), .int .i64 i, .bool true, .bool false, undef, undef, .pointer (some ⟨B, 0, none⟩), .int .i64 i, .agg #[.int .i64 j, .bool true], .pointer (some ⟨K, 1, none⟩), .bool true, .agg L2.toArray, undef, undef, undef, undef, undef, undef], defers := [] } : Act) _
      refine take_pure 1 (v := .agg #[.int .i64 j, .bool true]) rfl (by kernel_rfl) rfl (fun w' hw => exec_range 59 (.tmp 7) rfl K 0 rfl [.int .i64 j, .bool true] _ hw.k.range Try.underlying59 rfl infoWe) hH ?_
      show wpAnyH _ _ _ _ _ _ _ ({ tmps := #[.pointer (some ⟨B, 0, none⟩), .int .i64 i, undef, undef, .pointer (some ⟨R, 0, none⟩), .pointer (some ⟨Q, 0, none⟩), .int .i64 0, .pointer (some ⟨K, 0, none⟩), .pointer (some ⟨B, 0, none⟩), .int .i64 i, .bool true, .bool false, undef, undef, .pointer (some ⟨B, 0, none⟩), .int .i64 i, .agg #[.int .i64 j, .bool true], .pointer (some ⟨K, 1, none⟩), .bool true, .agg L2.toArray, .agg #[.int .i64 j, .bool true], undef, undef, undef, undef, undef], defers := [] } : Act) _
      have hW9 := hH
      obtain ⟨W9, hW9e⟩ : ∃ W9, W9 = W3.drew := ⟨_, rfl⟩
      rw [← hW9e] at hH hW9 ⊢
      obtain ⟨_, _, _, t1, t2, p1, p2⟩ := HEND.out W9 hW9
      refine take_one 2 rfl rfl (by kernel_rfl) ?_
      refine wp_store_mid 40 _ _ rfl R 0 L2.toArray rfl rfl t1 iL one ?_
      refine ⟨p1, fun hH => ?_⟩
      show wpAnyH _ _ _ _ _ _ _ ({ tmps := #[.pointer (some ⟨B, 0, none⟩), .int .i64 i, undef, undef, .pointer (some ⟨R, 0, none⟩), .pointer (some ⟨Q, 0, none⟩), .int .i64 0, .pointer (some ⟨K, 0, none⟩), .pointer (some ⟨B, 0, none⟩), .int .i64 i, .bool true, .bool false, undef, undef, .pointer (some ⟨B, 0, none⟩), .int .i64 i, .agg #[.int .i64 j, .bool true], .pointer (some ⟨K, 1, none⟩), .bool true, .agg L2.toArray, .agg #[.int .i64 j, .bool true], undef, undef, undef, undef, undef], defers := [] } : Act) _
      refine take_one 3 rfl rfl (by kernel_rfl) ?_
      refine wp_store_mid 59 _ _ rfl Q 0 #[.int .i64 j, .bool true] rfl rfl t2 infoWe on ?_
      refine ⟨p2, fun hH => ?_⟩
      show wpAnyH _ _ _ _ _ _ _ ({ tmps := #[.pointer (some ⟨B, 0, none⟩), .int .i64 i, undef, undef, .pointer (some ⟨R, 0, none⟩), .pointer (some ⟨Q, 0, none⟩), .int .i64 0, .pointer (some ⟨K, 0, none⟩), .pointer (some ⟨B, 0, none⟩), .int .i64 i, .bool true, .bool false, undef, undef, .pointer (some ⟨B, 0, none⟩), .int .i64 i, .agg #[.int .i64 j, .bool true], .pointer (some ⟨K, 1, none⟩), .bool true, .agg L2.toArray, .agg #[.int .i64 j, .bool true], undef, undef, undef, undef, undef], defers := [] } : Act) _
      refine take_pure 4 (v := .int .i64 0) rfl (by kernel_rfl) rfl (fun w' hw => by simp [execOp, go_sem]) hH ?_
      show wpAnyH _ _ _ _ _ _ _ ({ tmps := #[.pointer (some ⟨B, 0, none⟩), .int .i64 i, undef, undef, .pointer (some ⟨R, 0, none⟩), .pointer (some ⟨Q, 0, none⟩), .int .i64 0, .pointer (some ⟨K, 0, none⟩), .pointer (some ⟨B, 0, none⟩), .int .i64 i, .bool true, .bool false, undef, undef, .pointer (some ⟨B, 0, none⟩), .int .i64 i, .agg #[.int .i64 j, .bool true], .pointer (some ⟨K, 1, none⟩), .bool true, .agg L2.toArray, .agg #[.int .i64 j, .bool true], undef, undef, undef, undef, undef], defers := [] } : Act) _
      exact wpAnyH_done (by kernel_rfl) ⟨rfl, W9, hW9, rfl⟩ _
    case aft =>
      obtain ⟨rfl, W4, h4, rfl⟩ := hr
      obtain ⟨k1, k2, hq, _⟩ := HEND.out W4 h4
      have hld := run_loadVar_mid (P := Try.prog) _ R 0 40 L2 _ k1.range Try.underlying40 rfl iL2
      have hld2 := run_loadVar_mid (P := Try.prog) _ Q 0 59 [.int .i64 j, .bool true] _ k2.range Try.underlying59 rfl infoWe
      have HTK : Hid (Tk lo B M r s b o d m n G vb l1 Y vc l2 Z W ((W4.setCells R 0 L2).setCells Q 0 [.int .i64 j, .bool true])) := hq
      clear k1 k2 hq h4 HEND HS
      go_wp2
      refine bodyPost_ret (v := .tuple #[.agg L2.toArray, .agg #[.int .i64 j, .bool true], .int .i64 0]) ?_ rfl ⟨rfl, HTK.out⟩
      simp [results, Try.f21, asAddr, hld, hld2]
  | false =>
    obtain rfl : F3 = F2 := HF3.out.2 rfl
    rw [HL2.out] at CR
    clear HTT HL2 HF3 HBR
    go_upto_region 6 with (fail)
    clear ck
    refine region_ends (by kernel_rfl) (fun W' => Rd lo B M r s b o d m n G vb l1 Y vc' (l2 - 1) (tlZ Z) (mine B M vb vc) R Q K j false W W') (fun a2 W' => a2 = ({ tmps := #[.pointer (some ⟨B, 0, none⟩), .int .i64 i, undef, undef, .pointer (some ⟨R, 0, none⟩), .pointer (some ⟨Q, 0, none⟩), .int .i64 0, .pointer (some ⟨K, 0, none⟩), .pointer (some ⟨B, 0, none⟩), .int .i64 i, .bool true, .bool false, undef, undef, .pointer (some ⟨B, 0, none⟩), .int .i64 i, .agg #[.int .i64 j, .bool false], .pointer (some ⟨K, 1, none⟩), .bool false, undef, undef, .pointer (some ⟨B, 0, none⟩), .pointer (some ⟨K, 0, none⟩), .int .i64 j, .agg L2.toArray, .agg #[.int .i64 j, .bool false]], defers := [] } : Act) ∧ ∃ W4, Rd lo B M r s b o d m n G vb l1 Y vc' (l2 - 1) (tlZ Z) (mine B M vb vc) R Q K j false W W4 ∧ W' = (W4.setCells R 0 L2).setCells Q 0 [.int .i64 j, .bool false]) (HS.out.next (below_drew1 _)) (fun hH => ?reg) (fun a2 V3 hr => ?aft)
    case reg =>
      refine take_pure 0 (v := .pointer (some ⟨B, 0, none⟩)) rfl (by kernel_rfl) rfl (fun w' hw => by simp [execOp, go_sem]) hH ?_
      show wpAnyH _ _ _ _ _ _ _ ({ tmps := #[.pointer (some ⟨B, 0, none⟩), .int .i64 i, undef, undef, .pointer (some ⟨R, 0, none⟩), .pointer (some ⟨Q, 0, none⟩), .int .i64 0, .pointer (some ⟨K, 0, none⟩), .pointer (some ⟨B, 0, none⟩), .int .i64 i, .bool true, .bool false, undef, undef, .pointer (some ⟨B, 0, none⟩), .int .i64 i, .agg #[.int .i64 j, .bool false], .pointer (some ⟨K, 1, none⟩), .bool false, undef, undef, .pointer (some ⟨B, 0, none⟩), undef, undef, undef, undef], defers := [] } : Act) _
      refine take_pure 1 (v := .pointer (some ⟨K, 0, none⟩)) rfl (by kernel_rfl) rfl (fun w' hw => by simp [execOp, go_sem]) hH ?_
      show wpAnyH _ _ _ _ _ _ _ ({ tmps := #[.pointer (some ⟨B, 0, none⟩), .int .i64 i, undef, undef, .pointer (some ⟨R, 0, none⟩), .pointer (some ⟨Q, 0, none⟩), .int .i64 0, .pointer (some ⟨K, 0, none⟩), .pointer (some ⟨B, 0, none⟩), .int .i64 i, .bool true, .bool false, undef, undef, .pointer (some ⟨B, 0, none⟩), .int .i64 i, .agg #[.int .i64 j, .bool false], .pointer (some ⟨K, 1, none⟩), .bool false, undef, undef, .pointer (some ⟨B, 0, none⟩), .pointer (some ⟨K, 0, none⟩), undef, undef, undef], defers := [] } : Act) _
      refine take_pure 2 (v := .int .i64 j) rfl (by kernel_rfl) rfl (fun w' hw => by simp [execOp, go_sem, hw.k.cell (i := 0) rfl]) hH ?_
      show wpAnyH _ _ _ _ _ _ _ ({ tmps := #[.pointer (some ⟨B, 0, none⟩), .int .i64 i, undef, undef, .pointer (some ⟨R, 0, none⟩), .pointer (some ⟨Q, 0, none⟩), .int .i64 0, .pointer (some ⟨K, 0, none⟩), .pointer (some ⟨B, 0, none⟩), .int .i64 i, .bool true, .bool false, undef, undef, .pointer (some ⟨B, 0, none⟩), .int .i64 i, .agg #[.int .i64 j, .bool false], .pointer (some ⟨K, 1, none⟩), .bool false, undef, undef, .pointer (some ⟨B, 0, none⟩), .pointer (some ⟨K, 0, none⟩), .int .i64 j, undef, undef], defers := [] } : Act) _
      refine take_pure 4 (v := .agg #[.int .i64 j, .bool false]) rfl (by kernel_rfl) rfl (fun w' hw => exec_range 59 (.tmp 7) rfl K 0 rfl [.int .i64 j, .bool false] _ hw.k.range Try.underlying59 rfl infoWe) hH ?_
      show wpAnyH _ _ _ _ _ _ _ ({ tmps := #[.pointer (some ⟨B, 0, none⟩), .int .i64 i, undef, undef, .pointer (some ⟨R, 0, none⟩), .pointer (some ⟨Q, 0, none⟩), .int .i64 0, .pointer (some ⟨K, 0, none⟩), .pointer (some ⟨B, 0, none⟩), .int .i64 i, .bool true, .bool false, undef, undef, .pointer (some ⟨B, 0, none⟩), .int .i64 i, .agg #[.int .i64 j, .bool false], .pointer (some ⟨K, 1, none⟩), .bool false, undef, undef, .pointer (some ⟨B, 0, none⟩), .pointer (some ⟨K, 0, none⟩), .int .i64 j, undef, .agg #[.int .i64 j, .bool false]], defers := [] } : Act) _
      refine take_one 3 rfl rfl (by kernel_rfl) ?_
      refine wp_contract 42 [.tmp 21, .tmp 23] _ rfl (enters_of Try.func42 (by kernel_rfl) rfl) [.pointer (some ⟨B, 0, none⟩), .int .i64 j] rfl (CR.out _ _ hH.d) ?_
      rintro e W' ⟨rfl, b2⟩
      refine ⟨_, rfl, hH.next b2, fun hH => ?_⟩
      show wpAnyH _ _ _ _ _ _ _ ({ tmps := #[.pointer (some ⟨B, 0, none⟩), .int .i64 i, undef, undef, .pointer (some ⟨R, 0, none⟩), .pointer (some ⟨Q, 0, none⟩), .int .i64 0, .pointer (some ⟨K, 0, none⟩), .pointer (some ⟨B, 0, none⟩), .int .i64 i, .bool true, .bool false, undef, undef, .pointer (some ⟨B, 0, none⟩), .int .i64 i, .agg #[.int .i64 j, .bool false], .pointer (some ⟨K, 1, none⟩), .bool false, undef, undef, .pointer (some ⟨B, 0, none⟩), .pointer (some ⟨K, 0, none⟩), .int .i64 j, .agg L2.toArray, .agg #[.int .i64 j, .bool false]], defers := [] } : Act) _
      have hW9 := hH
      obtain ⟨W9, hW9e⟩ : ∃ W9, W9 = W' := ⟨_, rfl⟩
      rw [← hW9e] at hH hW9 ⊢
      obtain ⟨_, _, _, t1, t2, p1, p2⟩ := HEND.out W9 hW9
      refine take_one 5 rfl rfl (by kernel_rfl) ?_
      refine wp_store_mid 40 _ _ rfl R 0 L2.toArray rfl rfl t1 iL one ?_
      refine ⟨p1, fun hH => ?_⟩
      show wpAnyH _ _ _ _ _ _ _ ({ tmps := #[.pointer (some ⟨B, 0, none⟩), .int .i64 i, undef, undef, .pointer (some ⟨R, 0, none⟩), .pointer (some ⟨Q, 0, none⟩), .int .i64 0, .pointer (some ⟨K, 0, none⟩), .pointer (some ⟨B, 0, none⟩), .int .i64 i, .bool true, .bool false, undef, undef, .pointer (some ⟨B, 0, none⟩), .int .i64 i, .agg #[.int .i64 j, .bool false], .pointer (some ⟨K, 1, none⟩), .bool false, undef, undef, .pointer (some ⟨B, 0, none⟩), .pointer (some ⟨K, 0, none⟩), .int .i64 j, .agg L2.toArray, .agg #[.int .i64 j, .bool false]], defers := [] } : Act) _
      refine take_one 6 rfl rfl (by kernel_rfl) ?_
      refine wp_store_mid 59 _ _ rfl Q 0 #[.int .i64 j, .bool false] rfl rfl t2 infoWe on ?_
      refine ⟨p2, fun hH => ?_⟩
      show wpAnyH _ _ _ _ _ _ _ ({ tmps := #[.pointer (some ⟨B, 0, none⟩), .int .i64 i, undef, undef, .pointer (some ⟨R, 0, none⟩), .pointer (some ⟨Q, 0, none⟩), .int .i64 0, .pointer (some ⟨K, 0, none⟩), .pointer (some ⟨B, 0, none⟩), .int .i64 i, .bool true, .bool false, undef, undef, .pointer (some ⟨B, 0, none⟩), .int .i64 i, .agg #[.int .i64 j, .bool false], .pointer (some ⟨K, 1, none⟩), .bool false, undef, undef, .pointer (some ⟨B, 0, none⟩), .pointer (some ⟨K, 0, none⟩), .int .i64 j, .agg L2.toArray, .agg #[.int .i64 j, .bool false]], defers := [] } : Act) _
      refine take_pure 7 (v := .int .i64 0) rfl (by kernel_rfl) rfl (fun w' hw => by simp [execOp, go_sem]) hH ?_
      show wpAnyH _ _ _ _ _ _ _ ({ tmps := #[.pointer (some ⟨B, 0, none⟩), .int .i64 i, undef, undef, .pointer (some ⟨R, 0, none⟩), .pointer (some ⟨Q, 0, none⟩), .int .i64 0, .pointer (some ⟨K, 0, none⟩), .pointer (some ⟨B, 0, none⟩), .int .i64 i, .bool true, .bool false, undef, undef, .pointer (some ⟨B, 0, none⟩), .int .i64 i, .agg #[.int .i64 j, .bool false], .pointer (some ⟨K, 1, none⟩), .bool false, undef, undef, .pointer (some ⟨B, 0, none⟩), .pointer (some ⟨K, 0, none⟩), .int .i64 j, .agg L2.toArray, .agg #[.int .i64 j, .bool false]], defers := [] } : Act) _
      exact wpAnyH_done (by kernel_rfl) ⟨rfl, W9, hW9, rfl⟩ _
    case aft =>
      obtain ⟨rfl, W4, h4, rfl⟩ := hr
      obtain ⟨k1, k2, hq, _⟩ := HEND.out W4 h4
      have hld := run_loadVar_mid (P := Try.prog) _ R 0 40 L2 _ k1.range Try.underlying40 rfl iL2
      have hld2 := run_loadVar_mid (P := Try.prog) _ Q 0 59 [.int .i64 j, .bool false] _ k2.range Try.underlying59 rfl infoWe
      have HTK : Hid (Tk lo B M r s b o d m n G vb l1 Y vc l2 Z W ((W4.setCells R 0 L2).setCells Q 0 [.int .i64 j, .bool false])) := hq
      clear k1 k2 hq h4 HEND HS
      go_wp2
      refine bodyPost_ret (v := .tuple #[.agg L2.toArray, .agg #[.int .i64 j, .bool false], .int .i64 0]) ?_ rfl ⟨rfl, HTK.out⟩
      simp [results, Try.f21, asAddr, hld, hld2]
end
end Go.Proofs.Ytcpjmfemgdgplaa

/-
  New chips.
-/
namespace Go.Proofs.Ytcpjmfemgdgplaa
open Go.RowKit Go.Shelf
open Ge (pw rt hd ix)
attribute [local go_sem] Oper.semAt_some

theorem built_dr (r s b o d m : Int) (M : Nat) : Try.prog.built 82 [(0, .agg #[.int .i64 r, .int .i64 s, .int .i64 b, .int .i64 o, .int .i64 d]), (1, .int .i64 m), (2, .map (some M))] = some (dl r s b o d m (.map (some M)) (.slice none 0 0) (.slice none 0 0)).toArray := by kernel_rfl
theorem exec_dr {op : Oper} {a : Act} (x y z : Nat) (ho : op.op = .build 82 #[(0, .tmp x), (1, .tmp y), (2, .tmp z)]) (r s b o d m : Int) (M : Nat) (hx : a.eval (.tmp x) = .agg #[.int .i64 r, .int .i64 s, .int .i64 b, .int .i64 o, .int .i64 d]) (hy : a.eval (.tmp y) = .int .i64 m) (hz : a.eval (.tmp z) = .map (some M)) (w : World) :
    (execOp a.eval op).run Try.prog w = .ok (.value (.agg (dl r s b o d m (.map (some M)) (.slice none 0 0) (.slice none 0 0)).toArray)) w := by
  have h := run_build (P := Try.prog) w 82 #[(0, .agg #[.int .i64 r, .int .i64 s, .int .i64 b, .int .i64 o, .int .i64 d]), (1, .int .i64 m), (2, .map (some M))] _ (built_dr r s b o d m M)
  simp [execOp, ho, hx, hy, hz, h]
set_option maxHeartbeats 1000000 in
theorem dNew_geom (r s b o d m : Int) (h : rt r s b o d = false) (w : World) :
    Calls Try.prog 9 #[.agg #[.int .i64 r, .int .i64 s, .int .i64 b, .int .i64 o, .int .i64 d], .int .i64 m] w fun e w' => e = .returned (.tuple #[.pointer none, .int .i64 20]) ∧ Below w.heap.size w w' := by
  have CR : Hid (∀ w : World, Calls Try.prog 34 #[.agg #[.int .i64 r, .int .i64 s, .int .i64 b, .int .i64 o, .int .i64 d]] w fun e w' => e = .returned (.bool false) ∧ Below w.heap.size w w') := fun w => by rw [← h]; exact right_any r s b o d w
  clear h
  go_enter Try.func9, Try.ntmps9
  go_upto_region 1 with (fail)
  obtain ⟨C, hC⟩ : ∃ C, w.heap.size = C := ⟨_, rfl⟩
  obtain ⟨V, hV⟩ : ∃ V, w.alloc (.cells #[.int .i64 r, .int .i64 s, .int .i64 b, .int .i64 o, .int .i64 d] 23) = V := ⟨_, rfl⟩
  have HB : Hid (Below w.heap.size w V) := by rw [← hV]; exact (Below.refl _ w).alloc (Nat.le_refl _) _
  have hg : V.rangeAt C 0 [.int .i64 r, .int .i64 s, .int .i64 b, .int .i64 o, .int .i64 d] := by rw [← hV, ← hC]; exact Bk.range (Gm.new w r s b o d _)
  rw [hV, hC]
  clear hV
  go_wp2_with (first | refine wpList_load_mid rfl 23 _ rfl C 0 rfl [.int .i64 r, .int .i64 s, .int .i64 b, .int .i64 o, .int .i64 d] _ hg Try.underlying23 rfl infoGm ?_)
  refine (CR.out _).mono ?_
  rintro e W1 ⟨rfl, b1⟩
  replace HB : Hid (Below w.heap.size w W1) := HB.out.trans (b1.mono HB.out.size)
  clear b1 hg CR
  go_wp2
  exact bodyPost_ret (results_tmp2 rfl _ _ _) rfl ⟨rfl, by first | exact HB.out | (rw [hC] at HB; exact HB.out)⟩
set_option maxHeartbeats 1000000 in
theorem dNew_mode (r s b o d m : Int) (h : rt r s b o d = true) (hm : Md m 0 0) (w : World) :
    Calls Try.prog 9 #[.agg #[.int .i64 r, .int .i64 s, .int .i64 b, .int .i64 o, .int .i64 d], .int .i64 m] w fun e w' => e = .returned (.tuple #[.pointer none, .int .i64 21]) ∧ Below w.heap.size w w' := by
  have CR : Hid (∀ w : World, Calls Try.prog 34 #[.agg #[.int .i64 r, .int .i64 s, .int .i64 b, .int .i64 o, .int .i64 d]] w fun e w' => e = .returned (.bool true) ∧ Below w.heap.size w w') := fun w => by rw [← h]; exact right_any r s b o d w
  have CM : Hid (∀ w : World, Calls Try.prog 35 #[.int .i64 m] w fun e w' => e = .returned (.bool false) ∧ w' = w) := fun w => right9_any hm w
  clear h hm
  go_enter Try.func9, Try.ntmps9
  go_upto_region 1 with (fail)
  obtain ⟨C, hC⟩ : ∃ C, w.heap.size = C := ⟨_, rfl⟩
  obtain ⟨V, hV⟩ : ∃ V, w.alloc (.cells #[.int .i64 r, .int .i64 s, .int .i64 b, .int .i64 o, .int .i64 d] 23) = V := ⟨_, rfl⟩
  have HB : Hid (Below w.heap.size w V) := by rw [← hV]; exact (Below.refl _ w).alloc (Nat.le_refl _) _
  have hg : V.rangeAt C 0 [.int .i64 r, .int .i64 s, .int .i64 b, .int .i64 o, .int .i64 d] := by rw [← hV, ← hC]; exact Bk.range (Gm.new w r s b o d _)
  rw [hV, hC]
  clear hV
  go_wp2_with (first | refine wpList_load_mid rfl 23 _ rfl C 0 rfl [.int .i64 r, .int .i64 s, .int .i64 b, .int .i64 o, .int .i64 d] _ hg Try.underlying23 rfl infoGm ?_)
  refine (CR.out _).mono ?_
  rintro e W1 ⟨rfl, b1⟩
  replace HB : Hid (Below w.heap.size w W1) := HB.out.trans (b1.mono HB.out.size)
  clear b1 hg CR
  go_wp2_with fail
  refine (CM.out _).mono ?_
  rintro e W2 ⟨rfl, rfl⟩
  clear CM
  go_wp2
  exact bodyPost_ret (results_tmp2 rfl _ _ _) rfl ⟨rfl, by first | exact HB.out | (rw [hC] at HB; exact HB.out)⟩
set_option maxHeartbeats 1000000 in
theorem dNew_ok (r s b o d m k j : Int) (h : rt r s b o d = true) (hm : Md m k j) (hk : 0 < k) (w : World) (lo : Nat) (hlo : lo ≤ w.heap.size) :
    Calls Try.prog 9 #[.agg #[.int .i64 r, .int .i64 s, .int .i64 b, .int .i64 o, .int .i64 d], .int .i64 m] w fun e w' => ∃ B M, e = .returned (.tuple #[.pointer (some ⟨B, 0, none⟩), .int .i64 0]) ∧ w.heap.size ≤ B ∧ w.heap.size ≤ M ∧ Dm w' lo B M r s b o d m 0 (fun _ _ => 0) (.slice none 0 0) 0 (fun _ _ => 0) (.slice none 0 0) 0 (fun _ _ => 0) ∧ Below w.heap.size w w' := by
  have CR : Hid (∀ w : World, Calls Try.prog 34 #[.agg #[.int .i64 r, .int .i64 s, .int .i64 b, .int .i64 o, .int .i64 d]] w fun e w' => e = .returned (.bool true) ∧ Below w.heap.size w w') := fun w => by rw [← h]; exact right_any r s b o d w
  have CM : Hid (∀ w : World, Calls Try.prog 35 #[.int .i64 m] w fun e w' => e = .returned (.bool true) ∧ w' = w) := fun w => by
    have := right9_any hm w
    rwa [decide_eq_true hk] at this
  have HLO : Hid (lo ≤ w.heap.size) := hlo
  have hmm := @run_makeMap Try.prog
  clear h hm hk hlo
  go_enter Try.func9, Try.ntmps9
  go_upto_region 1 with (fail)
  obtain ⟨C, hC⟩ : ∃ C, w.heap.size = C := ⟨_, rfl⟩
  obtain ⟨V, hV⟩ : ∃ V, w.alloc (.cells #[.int .i64 r, .int .i64 s, .int .i64 b, .int .i64 o, .int .i64 d] 23) = V := ⟨_, rfl⟩
  have HB : Hid (Below w.heap.size w V) := by rw [← hV]; exact (Below.refl _ w).alloc (Nat.le_refl _) _
  have HG : Hid (Gm V C r s b o d) := by rw [← hV, ← hC]; exact Gm.new w r s b o d _
  have hg := Bk.range HG.out
  rw [hV, hC]
  clear hV
  go_wp2_with (first | refine wpList_load_mid rfl 23 _ rfl C 0 rfl [.int .i64 r, .int .i64 s, .int .i64 b, .int .i64 o, .int .i64 d] _ hg Try.underlying23 rfl infoGm ?_)
  refine (CR.out _).mono ?_
  rintro e W1 ⟨rfl, b1⟩
  replace HB : Hid (Below w.heap.size w W1) := HB.out.trans (b1.mono HB.out.size)
  replace HG : Hid (Gm W1 C r s b o d) := HG.out.next b1
  clear b1 hg CR
  have hg := Bk.range HG.out
  go_wp2_with fail
  refine (CM.out _).mono ?_
  rintro e W2 ⟨rfl, rfl⟩
  clear CM
  obtain ⟨K, hK⟩ : ∃ K, W2.heap.size = K := ⟨_, rfl⟩
  have HE : Hid (Dm ((W2.alloc (.map #[] 0)).alloc (.cells (dl r s b o d m (.map (some K)) (.slice none 0 0) (.slice none 0 0)).toArray 82)) lo (K + 1) K r s b o d m 0 (fun _ _ => 0) (.slice none 0 0) 0 (fun _ _ => 0) (.slice none 0 0) 0 (fun _ _ => 0) ∧ w.heap.size ≤ K) := by
    have h1 := HB.out.size
    have c1 := Cb.new (W2.alloc (.map #[] 0)) (dl r s b o d m (.map (some K)) (.slice none 0 0) (.slice none 0 0)) 82
    rw [World.size_alloc, hK] at c1
    have m1 := MpAt.new W2
    rw [hK] at m1
    have hl := HLO.out
    refine ⟨⟨c1, m1.of (Below.heap_alloc _ _ _ m1.lt), World.ownsRow_nil _ _ _ _, World.ownsRow_nil _ _ _ _, fun i hi => absurd hi (by omega), fun i hi => absurd hi (by omega), fun i hi => absurd hi (by omega), fun _ _ _ => ⟨Int.le_refl _, show (0 : Int) < 256 by decide⟩, by omega, by omega, by omega, ⟨by simp [Value.ownBlock], by simp [Value.ownBlock]⟩, ⟨by simp [Value.ownBlock], by simp [Value.ownBlock]⟩, fun g e => by simp [Value.ownBlock] at e, ⟨by omega, by omega⟩⟩, by omega⟩
  obtain ⟨L9, hL9⟩ : ∃ L, dl r s b o d m (.map (some K)) (.slice none 0 0) (.slice none 0 0) = L := ⟨_, rfl⟩
  have HX : Hid (∀ (op : Oper) (a : Act) (x y z : Nat), op.op = .build 82 #[(0, .tmp x), (1, .tmp y), (2, .tmp z)] → a.eval (.tmp x) = .agg #[.int .i64 r, .int .i64 s, .int .i64 b, .int .i64 o, .int .i64 d] → a.eval (.tmp y) = .int .i64 m → a.eval (.tmp z) = .map (some K) → ∀ w, (execOp a.eval op).run Try.prog w = .ok (.value (.agg L9.toArray)) w) := fun op a x y z h1 h2 h3 h4 w => by rw [← hL9]; exact exec_dr x y z h1 r s b o d m K h2 h3 h4 w
  rw [hL9] at HE
  clear hL9
  go_wp2_with (first
    | refine wpList_load_mid rfl 23 _ rfl C 0 rfl [.int .i64 r, .int .i64 s, .int .i64 b, .int .i64 o, .int .i64 d] _ hg Try.underlying23 rfl infoGm ?_
    | refine wpList_known rfl _ (HX.out _ _ 12 13 14 rfl rfl rfl rfl _) ?_)
  have hb := HE.out.2
  refine bodyPost_ret (results_tmp2 rfl _ _ _) rfl ⟨K + 1, K, rfl, by omega, by omega, HE.out.1, (HB.out.alloc HB.out.size _).alloc (by simp; omega) _⟩
end Go.Proofs.Ytcpjmfemgdgplaa

/-
  A law at work on chips: what it laid ahead of them, and behind them; the document's example.
-/
namespace Go.Proofs.Ytcpjmfemgdgplaa
open Go.RowKit Go.Shelf
open Ge (pw rt hd ix)
attribute [local go_sem] Oper.semAt_some

/-- a law at work: w0 its first world; es the blocks that it laid ahead of the chips, ls those laid behind them -/
structure Lw (w0 : World) (es ls : List (Nat × List Value)) (lo B M : Nat) (r s b o d m : Int) (n : Nat) (G : Int → Nat → Int) (vb : Value) (l1 : Nat) (Y : Nat → Nat → Int) (vc : Value) (l2 : Nat) (Z : Nat → Nat → Int) (W : World) : Prop where
  d : Dm W lo B M r s b o d m n G vb l1 Y vc l2 Z
  n : Below w0.heap.size w0 W
  l : w0.heap.size ≤ lo
  e : ∀ x ∈ es, x.1 < lo ∧ Cb W x.1 x.2
  b : ∀ x ∈ ls, ¬ mine B M vb vc x.1 ∧ Cb W x.1 x.2
section
variable {w0 W W' : World} {es ls : List (Nat × List Value)} {lo B M : Nat} {r s b o d m : Int} {n : Nat} {G : Int → Nat → Int} {vb vc : Value} {l1 l2 : Nat} {Y Z : Nat → Nat → Int}
theorem Lw.next (h : Lw w0 es ls lo B M r s b o d m n G vb l1 Y vc l2 Z W) (e : Below W.heap.size W W') : Lw w0 es ls lo B M r s b o d m n G vb l1 Y vc l2 Z W' :=
  ⟨h.d.next e, h.n.trans (e.mono h.n.size), h.l, fun x hx => ⟨(h.e x hx).1, (h.e x hx).2.next e⟩, fun x hx => ⟨(h.b x hx).1, (h.b x hx).2.next e⟩⟩
theorem Lw.mo {n' : Nat} {G' : Int → Nat → Int} {vb' vc' : Value} {l1' l2' : Nat} {Y' Z' : Nat → Nat → Int} (h : Lw w0 es ls lo B M r s b o d m n G vb l1 Y vc l2 Z W) (d' : Dm W' lo B M r s b o d m n' G' vb' l1' Y' vc' l2' Z') (k : Mo lo B M vb vc vb' vc' W W') : Lw w0 es ls lo B M r s b o d m n' G' vb' l1' Y' vc' l2' Z' W' :=
  ⟨d', h.n.trans (k.2.n.mono h.l), h.l, fun x hx => ⟨(h.e x hx).1, (h.e x hx).2.of (k.2.n.block _ (h.e x hx).1)⟩, fun x hx => by
    obtain ⟨h1, h2⟩ := h.b x hx
    refine ⟨fun hm => (k.1 _ hm).elim h1 fun h3 => ?_, h2.of (k.2.k _ h2.lt h1)⟩
    have := h2.lt
    omega⟩
theorem Lw.tk (h : Lw w0 es ls lo B M r s b o d m n G vb l1 Y vc l2 Z W) {n' : Nat} {G' : Int → Nat → Int} (t : Tk lo B M r s b o d m n' G' vb l1 Y vc l2 Z W W') : ∃ vc', Lw w0 es ls lo B M r s b o d m n' G' vb l1 Y vc' (l2 - 1) (tlZ Z) W' ∧ vc'.ownBlock = vc.ownBlock := by
  obtain ⟨vc', h1, h2, h3⟩ := t
  exact ⟨vc', h.mo h1 ⟨fun g hg => .inl ((own_eq h2 g).1 hg), h3⟩, h2⟩
theorem Lw.lay (h : Lw w0 es ls lo B M r s b o d m n G vb l1 Y vc l2 Z W) (L : List Value) (t : TypeId) : Lw w0 es ((W.heap.size, L) :: ls) lo B M r s b o d m n G vb l1 Y vc l2 Z (W.alloc (.cells L.toArray t)) := by
  have k := h.next ((Below.refl _ W).alloc (Nat.le_refl _) (.cells L.toArray t))
  refine ⟨k.d, k.n, k.l, k.e, fun x hx => ?_⟩
  rcases List.mem_cons.1 hx with rfl | hx
  · exact ⟨fun hm => by have := (h.d.mine_lt _ hm).2; omega, Cb.new W L t⟩
  · exact k.b x hx
theorem Lw.layA (h : Lw w0 es ls lo B M r s b o d m n G vb l1 Y vc l2 Z W) (L L0 : List Value) (t : TypeId) (hl : L.length = L0.length) : Lw w0 es ((W.heap.size, L) :: ls) lo B M r s b o d m n G vb l1 Y vc l2 Z ((W.alloc (.cells L0.toArray t)).setCells W.heap.size 0 L) := by
  have k := h.lay L0 t
  have hlt := h.d.lo_le
  refine ⟨k.d.of fun g hg => heap_puts _ L 0 _ g (by have := (h.d.mine_lt g hg).2; omega), belows_put (by have := h.n.size; omega) _ 0 k.n, k.l, fun x hx => ⟨(k.e x hx).1, (k.e x hx).2.putOther (by have := (k.e x hx).1; omega) 0 L⟩, fun x hx => ?_⟩
  rcases List.mem_cons.1 hx with rfl | hx
  · exact ⟨(k.b _ (List.mem_cons_self ..)).1, ((k.b _ (List.mem_cons_self ..)).2).all hl⟩
  · exact ⟨(h.b x hx).1, ((h.b x hx).2.alloc _).putOther (by have := (h.b x hx).2.lt; omega) 0 L⟩
theorem Lw.layRW (h : Lw w0 es ls lo B M r s b o d m n G vb l1 Y vc l2 Z W) (L L0 : List Value) (tR tW : TypeId) (i : Int) (t : Bool) (hl : L.length = L0.length) :
    Lw w0 es ((W.heap.size + 1, [.int .i64 i, .bool t]) :: (W.heap.size, L) :: ls) lo B M r s b o d m n G vb l1 Y vc l2 Z ((((W.alloc (.cells L0.toArray tR)).alloc (.cells #[.int .i64 0, .bool false] tW)).setCells W.heap.size 0 L).setCells (W.heap.size + 1) 0 [.int .i64 i, .bool t]) ∧
    ((W.alloc (.cells L0.toArray tR)).alloc (.cells #[.int .i64 0, .bool false] tW)).there W.heap.size 0 L.toArray.size ∧ (((W.alloc (.cells L0.toArray tR)).alloc (.cells #[.int .i64 0, .bool false] tW)).setCells W.heap.size 0 L).there (W.heap.size + 1) 0 2 := by
  have k := (h.lay L0 tR).lay [.int .i64 0, .bool false] tW
  rw [World.size_alloc] at k
  obtain ⟨V, hV⟩ : ∃ V, (W.alloc (.cells L0.toArray tR)).alloc (.cells #[.int .i64 0, .bool false] tW) = V := ⟨_, rfl⟩
  have c1 : Cb V W.heap.size L0 := by rw [← hV]; exact (Cb.new W L0 tR).alloc _
  have c2 : Cb V (W.heap.size + 1) [.int .i64 0, .bool false] := by
    have := Cb.new (W.alloc (.cells L0.toArray tR)) [.int .i64 0, .bool false] tW
    rw [World.size_alloc] at this
    rw [← hV]
    exact this
  replace k : Lw w0 es ((W.heap.size + 1, [.int .i64 0, .bool false]) :: (W.heap.size, L0) :: ls) lo B M r s b o d m n G vb l1 Y vc l2 Z V := by rw [← hV]; exact k
  rw [hV]
  have hlo := h.d.lo_le
  have hw0 := h.n.size
  have old : ∀ j, j < W.heap.size → ((V.setCells W.heap.size 0 L).setCells (W.heap.size + 1) 0 [.int .i64 i, .bool t]).heap[j]? = V.heap[j]? := fun j hj => (heap_puts _ _ 0 _ j (by omega)).trans (heap_puts _ L 0 V j (by omega))
  refine ⟨⟨k.d.of fun g hg => old g (h.d.mine_lt g hg).2, belows_put (by omega) _ 0 (belows_put (by omega) _ 0 k.n), k.l, fun x hx => ⟨(k.e x hx).1, (k.e x hx).2.of (old _ (by have := (k.e x hx).1; omega))⟩, fun x hx => ?_⟩, ?_, ?_⟩
  · rcases List.mem_cons.1 hx with rfl | hx
    · exact ⟨(k.b _ (List.mem_cons_self ..)).1, (c2.putOther (by omega) 0 L).all rfl⟩
    · rcases List.mem_cons.1 hx with rfl | hx
      · exact ⟨(k.b (W.heap.size, L0) (by simp)).1, (c1.all hl).putOther (by omega) 0 _⟩
      · have := k.b x (by simp [hx])
        exact ⟨this.1, this.2.of (old _ (h.b x hx).2.lt)⟩
  · have := c1.thereAt 0 L.length (by omega)
    simpa using this
  · exact (c2.putOther (by omega) 0 L).thereAt 0 2 (by simp)
theorem Lw.there (_ : Lw w0 es ls lo B M r s b o d m n G vb l1 Y vc l2 Z W) (L L0 : List Value) (t : TypeId) (hl : L.length = L0.length) : (W.alloc (.cells L0.toArray t)).there W.heap.size 0 L.toArray.size := by
  have := (Cb.new W L0 t).thereAt 0 L.length (by omega)
  simpa using this
theorem Lw.begin (h : Dm W lo B M r s b o d m n G vb l1 Y vc l2 Z) (hn : Below w0.heap.size w0 W) (hl : w0.heap.size ≤ lo) (he : ∀ x ∈ es, x.1 < lo ∧ Cb W x.1 x.2) : Lw w0 es [] lo B M r s b o d m n G vb l1 Y vc l2 Z W := ⟨h, hn, hl, he, fun x hx => by simp at hx⟩
theorem Lw.e0 {x : Nat × List Value} (h : Lw w0 (x :: es) ls lo B M r s b o d m n G vb l1 Y vc l2 Z W) : Cb W x.1 x.2 := (h.e x (List.mem_cons_self ..)).2
theorem Lw.b0 {x : Nat × List Value} (h : Lw w0 es (x :: ls) lo B M r s b o d m n G vb l1 Y vc l2 Z W) : Cb W x.1 x.2 := (h.b x (List.mem_cons_self ..)).2
theorem Lw.b1 {x y : Nat × List Value} (h : Lw w0 es (y :: x :: ls) lo B M r s b o d m n G vb l1 Y vc l2 Z W) : Cb W x.1 x.2 := (h.b x (by simp)).2
theorem Lw.b2 {x y z : Nat × List Value} (h : Lw w0 es (z :: y :: x :: ls) lo B M r s b o d m n G vb l1 Y vc l2 Z W) : Cb W x.1 x.2 := (h.b x (by simp)).2
end
end Go.Proofs.Ytcpjmfemgdgplaa

/-
  The document's example of chips.
-/
namespace Go.Proofs.Ytcpjmfemgdgplaa
open Go.RowKit Go.Shelf
open Ge (pw rt hd ix)
attribute [local go_sem] Oper.semAt_some

theorem gdR12 : Try.prog.eqGuardType Try.prog.depth 40 = false := by kernel_rfl
theorem gdW12 : Try.prog.eqGuardType Try.prog.depth 59 = false := by kernel_rfl
theorem eqW_in (d : Nat) (i j : Int) (a b : Bool) (w : World) : (Op.equalIn (d + 1 + 1) 59 (.agg #[.int .i64 i, .bool a]) (.agg #[.int .i64 j, .bool b])).run Try.prog w = .ok (decide (i = j ∧ a = b)) w := by
  have hS : Try.prog.underlying 59 = some (.struct (Try.prog.fieldsOf 59)) := by kernel_rfl
  have hp : Try.prog.stoodInHeld 59 = false := by kernel_rfl
  rw [run_equalIn_agg w (d + 1) 59 _ _ hS hp]
  simp only [Program.fieldsOf, Try.underlying59]
  go_simp
  by_cases h1 : i = j <;> by_cases h2 : a = b <;> simp [h1, h2]
theorem eqW_eql (i j : Int) (a b : Bool) (w : World) : (binOp .eql 59 (.agg #[.int .i64 i, .bool a]) (.agg #[.int .i64 j, .bool b])).run Try.prog w = .ok (.bool (decide (i = j ∧ a = b))) w := by
  rw [run_eql_struct, eqW_in 9998]; rfl
set_option maxRecDepth 100000 in
set_option maxHeartbeats 4000000 in
theorem anchor12_any (w : World) : Calls Try.prog 8 #[] w fun e w' => e = .returned (.bool true) ∧ Below w.heap.size w w' := by
  have CN : Hid (Calls Try.prog 9 #[.agg #[.int .i64 1, .int .i64 0, .int .i64 1, .int .i64 1, .int .i64 2], .int .i64 1] w fun e w' => ∃ B M, e = .returned (.tuple #[.pointer (some ⟨B, 0, none⟩), .int .i64 0]) ∧ w.heap.size ≤ B ∧ w.heap.size ≤ M ∧ Dm w' w.heap.size B M 1 0 1 1 2 1 0 (fun _ _ => 0) (.slice none 0 0) 0 (fun _ _ => 0) (.slice none 0 0) 0 (fun _ _ => 0) ∧ Below w.heap.size w w') := dNew_ok 1 0 1 1 2 1 9 8 (by decide) .bits (by decide) w _ (Nat.le_refl _)
  have hF0 : Byts 72 (fun _ => 0) := fun _ _ => ⟨Int.le_refl _, show (0 : Int) < 256 by decide⟩
  obtain ⟨X, hX⟩ : ∃ X, flR (fun _ => 0) 3 = X := ⟨_, rfl⟩
  have HXB : Hid (Byts 72 X) := by rw [← hX]; exact flR_byt _ hF0 3
  obtain ⟨L, hL⟩ : ∃ L, ints .u8 72 X = L := ⟨_, rfl⟩
  have HXL : Hid (rawV X = .agg L.toArray) := by rw [← hL]; rfl
  obtain ⟨T0, hT0⟩ : ∃ Z, (ints .u8 72 fun _ => 0) = Z := ⟨_, rfl⟩
  have CF : Hid (∀ w : World, Calls Try.prog 33 #[.agg T0.toArray, .int .i64 3] w fun e w' => e = .returned (.agg L.toArray) ∧ Below w.heap.size w w') := fun w => by
    rw [← hL, ← hX, ← hT0]
    exact flipR_yes (fun _ => 0) hF0 3 (by omega) w
  have HBR : Hid (∀ w, (Instr.build 40 #[]).run Try.prog w = .ok (.agg T0.toArray) w) := fun w => by rw [← hT0]; exact run_build w _ _ _ (by kernel_rfl)
  have hbr := HBR.out
  have HEQ : Hid (∀ w, (binOp .eql 40 (.agg L.toArray) (.agg L.toArray)).run Try.prog w = .ok (.bool true) w) := fun w => by rw [← hL]; exact eqlR X X HXB.out HXB.out true (by simp) w
  have hll : L.length = T0.length := by rw [← hL, ← hT0, ints_len, ints_len]
  have iL : (Try.prog.info? 40).map (·.size) = some L.toArray.size := by rw [← hL]; exact infoR
  have iL2 : (Try.prog.info? 40).map (·.size) = some L.length := by rw [← hL, ints_len]; exact infoR
  have one : L.toArray.all (·.oneCell') = true := by rw [← hL]; exact ints_one .u8 72 _
  have hz := zeroR
  rw [hT0] at hz
  have HFF : Hid (∀ j, j < 8 → (Lit.int .i64 (ffn 6 0 0 0 1 0 0 0 j)).wf = true) := by unfold Hid; decide
  clear hX hL hF0 hT0
  go_enter Try.func8, Try.ntmps8
  go_wp2_with fail
  refine CN.out.mono ?_
  rintro e W1 ⟨B, M, rfl, _, _, hd1, hb1⟩
  have HL1 : Hid (Lw w [] [] w.heap.size B M 1 0 1 1 2 1 0 (fun _ _ => 0) (.slice none 0 0) 0 (fun _ _ => 0) (.slice none 0 0) 0 (fun _ _ => 0) W1) := Lw.begin hd1 hb1 (Nat.le_refl _) (by simp)
  clear hd1 hb1 CN
  go_wp2_with fail
  refine (dInject_any HL1.out.d .bits 6 0 0 0 1 0 0 0 HFF.out (by omega)).mono ?_
  rintro e W2 ⟨a, rfl, hij⟩
  obtain ⟨ha, HL2⟩ : a = 0 ∧ ∃ vc', Hid (Lw w [] [] w.heap.size B M 1 0 1 1 2 1 0 (fun _ _ => 0) (.slice none 0 0) 0 (fun _ _ => 0) vc' (0 + 1) (snZ (fun _ _ => 0) 0 (ffn 6 0 0 0 1 0 0 0)) W2) := by
    rcases hij with ⟨h, _⟩ | ⟨_, h, _⟩ | ⟨_, _, h, _⟩ | ⟨_, _, h, _⟩ | ⟨_, _, _, h, _⟩ | ⟨_, _, _, _, h, vc', h1, h2⟩
    · exact absurd h (by decide)
    · exact absurd h (by decide)
    · exact absurd h (by decide)
    · exact absurd h (by decide)
    · exact absurd h (by decide)
    · exact ⟨h, vc', HL1.out.mo h1 h2⟩
  obtain ⟨vc', HL2⟩ := HL2
  subst ha
  clear hij HL1 HFF
  go_wp2_with (first | refine wpList_known rfl _ (exec_build12 40 rfl _ hbr _) ?_)
  refine (CF.out _).mono ?_
  rintro e W3 ⟨rfl, b3⟩
  replace HL2 : Hid (Lw w [] [] w.heap.size B M 1 0 1 1 2 1 0 (fun _ _ => 0) (.slice none 0 0) 0 (fun _ _ => 0) vc' (0 + 1) (snZ (fun _ _ => 0) 0 (ffn 6 0 0 0 1 0 0 0)) W3) := HL2.out.next b3
  clear b3
  have CW : Hid (Calls Try.prog 20 #[.pointer (some ⟨B, 0, none⟩), .int .i64 0, .agg L.toArray] W3 fun e w' => e = .returned (.tuple #[.agg #[.int .i64 1, .bool false], .int .i64 0]) ∧ ∃ vc', Lw w [] [] w.heap.size B M 1 0 1 1 2 1 (0 + 1) (gput (fun _ _ => 0) 1 X) (.slice none 0 0) 0 (fun _ _ => 0) vc' (0 + 1 - 1) (tlZ (snZ (fun _ _ => 0) 0 (ffn 6 0 0 0 1 0 0 0))) w') := by
    rw [← HXL.out]
    refine (dWrite_any HL2.out.d 0 X HXB.out (by omega) (by decide)).mono ?_
    rintro e w' ⟨rfl, ht⟩
    obtain ⟨v, h1, _⟩ := HL2.out.tk ht
    exact ⟨rfl, v, h1⟩
  go_wp2_with fail
  refine CW.out.mono ?_
  rintro e W4 ⟨rfl, v4, h4⟩
  obtain ⟨K, hK⟩ : ∃ K, W4.heap.size = K := ⟨_, rfl⟩
  have HL4 : Hid (Lw w [] [(K, [.int .i64 1, .bool false])] w.heap.size B M 1 0 1 1 2 1 (0 + 1) (gput (fun _ _ => 0) 1 X) (.slice none 0 0) 0 (fun _ _ => 0) v4 (0 + 1 - 1) (tlZ (snZ (fun _ _ => 0) 0 (ffn 6 0 0 0 1 0 0 0))) (W4.alloc (.cells #[.int .i64 1, .bool false] 59))) := by rw [← hK]; exact h4.lay [.int .i64 1, .bool false] _
  clear h4 CW HL2
  go_upto_region 6 with (fail)
  obtain ⟨W5, hW5⟩ : ∃ W, W4.alloc (.cells #[.int .i64 1, .bool false] 59) = W := ⟨_, rfl⟩
  replace HL4 : Hid (Lw w [] [(K, [.int .i64 1, .bool false])] w.heap.size B M 1 0 1 1 2 1 (0 + 1) (gput (fun _ _ => 0) 1 X) (.slice none 0 0) 0 (fun _ _ => 0) v4 (0 + 1 - 1) (tlZ (snZ (fun _ _ => 0) 0 (ffn 6 0 0 0 1 0 0 0))) W5) := by rw [← hW5]; exact HL4.out
  rw [hW5]
  clear hW5 hK
  have CR : Hid (Calls Try.prog 21 #[.pointer (some ⟨B, 0, none⟩), .int .i64 1] W5 fun e w' => e = .returned (.tuple #[.agg L.toArray, .agg #[.int .i64 1, .bool false], .int .i64 0]) ∧ ∃ vc', Lw w [] [(K, [.int .i64 1, .bool false])] w.heap.size B M 1 0 1 1 2 1 (0 + 1) (gput (fun _ _ => 0) 1 X) (.slice none 0 0) 0 (fun _ _ => 0) vc' (0 + 1 - 1 - 1) (tlZ (tlZ (snZ (fun _ _ => 0) 0 (ffn 6 0 0 0 1 0 0 0)))) w') := by
    rw [← HXL.out]
    refine (dRead_any HL4.out.d .bits 1 (by decide)).mono ?_
    rintro e w' ⟨rfl, ht⟩
    obtain ⟨v, h1, _⟩ := HL4.out.tk ht
    exact ⟨rfl, v, h1⟩
  go_wp2_with fail
  refine CR.out.mono ?_
  rintro e W6 ⟨rfl, v6, h6⟩
  obtain ⟨h7, ht, ht2⟩ := h6.layRW L T0 40 59 1 false hll
  have on : (#[.int .i64 1, .bool false] : Array Value).all (·.oneCell') = true := one_we _ _
  obtain ⟨R, hR⟩ : ∃ R, W6.heap.size = R := ⟨_, rfl⟩
  rw [hR] at ht ht2 h7
  have HL7 : Hid (Lw w [] [(R + 1, [.int .i64 1, .bool false]), (R, L), (K, [.int .i64 1, .bool false])] w.heap.size B M 1 0 1 1 2 1 (0 + 1) (gput (fun _ _ => 0) 1 X) (.slice none 0 0) 0 (fun _ _ => 0) v6 (0 + 1 - 1 - 1) (tlZ (tlZ (snZ (fun _ _ => 0) 0 (ffn 6 0 0 0 1 0 0 0)))) ((((W6.alloc (.cells T0.toArray 40)).alloc (.cells #[.int .i64 0, .bool false] 59)).setCells R 0 L).setCells (R + 1) 0 [.int .i64 1, .bool false])) := h7
  clear h6 h7 CR HL4
  go_upto_region 7 with (first
    | refine wpList_store_mid rfl 40 _ _ rfl R 0 L.toArray rfl rfl ht iL one ?_
    | refine wpList_store_mid rfl 59 _ _ rfl (R + 1) 0 #[.int .i64 1, .bool false] rfl rfl ht2 infoWe on ?_)
  obtain ⟨W7, hW7⟩ : ∃ W, ((((W6.alloc (.cells T0.toArray 40)).alloc (.cells #[.int .i64 0, .bool false] 59)).setCells R 0 L).setCells (R + 1) 0 [.int .i64 1, .bool false]) = W := ⟨_, rfl⟩
  replace HL7 : Hid (Lw w [] [(R + 1, [.int .i64 1, .bool false]), (R, L), (K, [.int .i64 1, .bool false])] w.heap.size B M 1 0 1 1 2 1 (0 + 1) (gput (fun _ _ => 0) 1 X) (.slice none 0 0) 0 (fun _ _ => 0) v6 (0 + 1 - 1 - 1) (tlZ (tlZ (snZ (fun _ _ => 0) 0 (ffn 6 0 0 0 1 0 0 0)))) W7) := by rw [← hW7]; exact HL7.out
  rw [hW7]
  clear hW7 ht ht2 hR
  have HEW : Hid (∀ w, (binOp .eql 59 (.agg #[.int .i64 1, .bool false]) (.agg #[.int .i64 1, .bool false])).run Try.prog w = .ok (.bool true) w) := fun w => by rw [eqW_eql]; rfl
  refine region_calm (by kernel_rfl) (by kernel_rfl) (fun W => Below W7.heap.size W7 W) (below_drew1 W7) ?_
  intro U hU f hf hof
  have HN : Hid (∀ u W, Below (f u).heap.size (f u) W → ∃ x, W = f x) := fun u W h => hof W ((hf u).trans (h.mono (hf u).size))
  have HE : Hid (∀ y, Lw w [] [(R + 1, [.int .i64 1, .bool false]), (R, L), (K, [.int .i64 1, .bool false])] w.heap.size B M 1 0 1 1 2 1 (0 + 1) (gput (fun _ _ => 0) 1 X) (.slice none 0 0) 0 (fun _ _ => 0) v6 (0 + 1 - 1 - 1) (tlZ (tlZ (snZ (fun _ _ => 0) 0 (ffn 6 0 0 0 1 0 0 0)))) (f y)) := fun y => HL7.out.next (hf y)
  clear hf hof HL7
  go_big_quiet_step (fail)
  go_big_quiet_step (fail)
  go_big_quiet_step (fail)
  go_big_quiet_step (fail)
  go_big_quiet_step (fail)
  go_big_quiet_step (fail)
  go_big_quiet_step (fail)
  refine quiet_load (by rfl) 59 _ rfl K 0 rfl [.int .i64 1, .bool false] _ (by rintro _ ⟨y, rfl⟩; exact (HE.out y).b2.range) Try.underlying59 rfl infoWe ?_
  simp only [Act.put, List.setIfInBounds_toArray, List.set_cons_zero, List.set_cons_succ]
  go_big_quiet_step (fail)
  refine quiet_one (by rfl) (.bool true) (exec_eqlA 59 _ _ _ rfl _ _ _ rfl rfl gdW12 HEW.out) ?_
  simp only [Act.put, List.setIfInBounds_toArray, List.set_cons_zero, List.set_cons_succ]
  go_big_quiet_step (fail)
  go_big_quiet_step (fail)
  go_big_quiet_step (fail)
  go_big_quiet_step (fail)
  go_big_quiet_step (fail)
  go_big_quiet_step (fail)
  refine quiet_load (by rfl) 40 _ rfl R 0 rfl L _ (by rintro _ ⟨y, rfl⟩; exact (HE.out y).b1.range) Try.underlying40 rfl iL2 ?_
  simp only [Act.put, List.setIfInBounds_toArray, List.set_cons_zero, List.set_cons_succ]
  refine quiet_one (by rfl) (.agg T0.toArray) (exec_build12 40 rfl _ HBR.out) ?_
  simp only [Act.put, List.setIfInBounds_toArray, List.set_cons_zero, List.set_cons_succ]
  go_big_quiet_step ((go_at_call 33; exact calm_next HN.out (CF.out _)))
  refine quiet_one (by rfl) (.bool true) (exec_eqlA 40 _ _ _ rfl L.toArray L.toArray _ rfl rfl gdR12 HEQ.out) ?_
  simp only [Act.put, List.setIfInBounds_toArray, List.set_cons_zero, List.set_cons_succ]
  go_big_quiet_step (fail)
  go_big_quiet_step (fail)
  refine wpQuiet_nil ?_
  rintro _ ⟨y, rfl⟩
  have HZ : Hid (Below w.heap.size w (f y)) := (HE.out y).n
  clear HE HN
  go_wp2
  go_ret
  exact ⟨rfl, HZ.out⟩
end Go.Proofs.Ytcpjmfemgdgplaa

/-
  What the laws of chips share: a law ahead of the chips; chips with nothing to come.
-/
namespace Go.Proofs.Ytcpjmfemgdgplaa
open Go.RowKit Go.Shelf
open Ge (pw rt hd ix)
attribute [local go_sem] Oper.semAt_some

/-- a law that has no chips yet -/
structure Pre (w0 : World) (es : List (Nat × List Value)) (W : World) : Prop where
  n : Below w0.heap.size w0 W
  e : ∀ x ∈ es, Cb W x.1 x.2
section
variable {w0 W W' : World} {es ls : List (Nat × List Value)} {lo B M : Nat} {r s b o d m : Int} {n : Nat} {G : Int → Nat → Int} {vb vc : Value} {l1 l2 : Nat} {Y Z : Nat → Nat → Int} {k j : Int}
theorem Pre.next (h : Pre w0 es W) (e : Below W.heap.size W W') : Pre w0 es W' := ⟨h.n.trans (e.mono h.n.size), fun x hx => (h.e x hx).next e⟩
theorem Pre.start (w0 : World) : Pre w0 [] w0 := ⟨Below.refl _ _, fun x hx => by simp at hx⟩
theorem Pre.lay (h : Pre w0 es W) (L : List Value) (t : TypeId) : Pre w0 ((W.heap.size, L) :: es) (W.alloc (.cells L.toArray t)) := by
  have k := h.next ((Below.refl _ W).alloc (Nat.le_refl _) (.cells L.toArray t))
  refine ⟨k.n, fun x hx => ?_⟩
  rcases List.mem_cons.1 hx with rfl | hx
  · exact Cb.new W L t
  · exact k.e x hx
theorem Pre.c0 {x : Nat × List Value} (h : Pre w0 (x :: es) W) : Cb W x.1 x.2 := h.e x (by simp)
theorem Pre.c1 {x y : Nat × List Value} (h : Pre w0 (y :: x :: es) W) : Cb W x.1 x.2 := h.e x (by simp)
theorem Pre.c2 {x y z : Nat × List Value} (h : Pre w0 (z :: y :: x :: es) W) : Cb W x.1 x.2 := h.e x (by simp)
theorem Pre.c3 {x y z v : Nat × List Value} (h : Pre w0 (v :: z :: y :: x :: es) W) : Cb W x.1 x.2 := h.e x (by simp)
theorem Pre.c4 {x y z v u : Nat × List Value} (h : Pre w0 (u :: v :: z :: y :: x :: es) W) : Cb W x.1 x.2 := h.e x (by simp)
/-- New, of a law -/
theorem lwNew (h : Pre w0 es W) (hr : rt r s b o d = true) (hm : Md m k j) (hk : 0 < k) :
    Calls Try.prog 9 #[.agg #[.int .i64 r, .int .i64 s, .int .i64 b, .int .i64 o, .int .i64 d], .int .i64 m] W fun e w' => ∃ B M, e = .returned (.tuple #[.pointer (some ⟨B, 0, none⟩), .int .i64 0]) ∧ Lw w0 es [] W.heap.size B M r s b o d m 0 (fun _ _ => 0) (.slice none 0 0) 0 (fun _ _ => 0) (.slice none 0 0) 0 (fun _ _ => 0) w' := by
  refine (dNew_ok r s b o d m k j hr hm hk W _ (Nat.le_refl _)).mono ?_
  rintro e w' ⟨B, M, rfl, _, _, hd, hb⟩
  exact ⟨B, M, rfl, Lw.begin hd (h.n.trans (hb.mono h.n.size)) h.n.size fun x hx => ⟨(h.e x hx).lt, (h.e x hx).next hb⟩⟩
/-- chips with nothing to come -/
def Lq (w0 : World) (es ls : List (Nat × List Value)) (lo B M : Nat) (r s b o d m : Int) (n : Nat) (G : Int → Nat → Int) (l1 : Nat) (Y : Nat → Nat → Int) (W : World) : Prop := ∃ vb vc Z, Lw w0 es ls lo B M r s b o d m n G vb l1 Y vc 0 Z W
theorem Lq.next (h : Lq w0 es ls lo B M r s b o d m n G l1 Y W) (e : Below W.heap.size W W') : Lq w0 es ls lo B M r s b o d m n G l1 Y W' := by
  obtain ⟨vb, vc, Z, h⟩ := h
  exact ⟨vb, vc, Z, h.next e⟩
theorem Lq.lay (h : Lq w0 es ls lo B M r s b o d m n G l1 Y W) (L : List Value) (t : TypeId) : Lq w0 es ((W.heap.size, L) :: ls) lo B M r s b o d m n G l1 Y (W.alloc (.cells L.toArray t)) := by
  obtain ⟨vb, vc, Z, h⟩ := h
  exact ⟨vb, vc, Z, h.lay L t⟩
theorem Lq.layA (h : Lq w0 es ls lo B M r s b o d m n G l1 Y W) (L L0 : List Value) (t : TypeId) (hl : L.length = L0.length) : Lq w0 es ((W.heap.size, L) :: ls) lo B M r s b o d m n G l1 Y ((W.alloc (.cells L0.toArray t)).setCells W.heap.size 0 L) ∧ (W.alloc (.cells L0.toArray t)).there W.heap.size 0 L.toArray.size := by
  obtain ⟨vb, vc, Z, h⟩ := h
  exact ⟨⟨vb, vc, Z, h.layA L L0 t hl⟩, h.there L L0 t hl⟩
theorem Lq.layRW (h : Lq w0 es ls lo B M r s b o d m n G l1 Y W) (L L0 : List Value) (tR tW : TypeId) (i : Int) (t : Bool) (hl : L.length = L0.length) :
    Lq w0 es ((W.heap.size + 1, [.int .i64 i, .bool t]) :: (W.heap.size, L) :: ls) lo B M r s b o d m n G l1 Y ((((W.alloc (.cells L0.toArray tR)).alloc (.cells #[.int .i64 0, .bool false] tW)).setCells W.heap.size 0 L).setCells (W.heap.size + 1) 0 [.int .i64 i, .bool t]) ∧
    ((W.alloc (.cells L0.toArray tR)).alloc (.cells #[.int .i64 0, .bool false] tW)).there W.heap.size 0 L.toArray.size ∧ (((W.alloc (.cells L0.toArray tR)).alloc (.cells #[.int .i64 0, .bool false] tW)).setCells W.heap.size 0 L).there (W.heap.size + 1) 0 2 := by
  obtain ⟨vb, vc, Z, h⟩ := h
  obtain ⟨h1, h2, h3⟩ := h.layRW L L0 tR tW i t hl
  exact ⟨⟨vb, vc, Z, h1⟩, h2, h3⟩
theorem Lq.bel (h : Lq w0 es ls lo B M r s b o d m n G l1 Y W) : Below w0.heap.size w0 W := by
  obtain ⟨vb, vc, Z, h⟩ := h
  exact h.n
theorem Lq.ce (h : Lq w0 es ls lo B M r s b o d m n G l1 Y W) (x : Nat × List Value) (hx : x ∈ es) : Cb W x.1 x.2 := by
  obtain ⟨vb, vc, Z, h⟩ := h
  exact (h.e x hx).2
theorem Lq.cl (h : Lq w0 es ls lo B M r s b o d m n G l1 Y W) (x : Nat × List Value) (hx : x ∈ ls) : Cb W x.1 x.2 := by
  obtain ⟨vb, vc, Z, h⟩ := h
  exact (h.b x hx).2
theorem Lw.quiet (h : Lw w0 es ls lo B M r s b o d m n G vb l1 Y vc 0 Z W) : Lq w0 es ls lo B M r s b o d m n G l1 Y W := ⟨vb, vc, Z, h⟩
theorem gput_same (G : Int → Nat → Int) (i : Int) (F : Nat → Int) : gput G i F i = F := by simp [gput]
theorem gput_other (G : Int → Nat → Int) (i x : Int) (F : Nat → Int) (h : x ≠ i) : gput G i F x = G x := by simp [gput, h]
theorem Lq.byt (h : Lq w0 es ls lo B M r s b o d m n G l1 Y W) (i : Int) : Byts 72 (G i) := by
  obtain ⟨vb, vc, Z, h⟩ := h
  exact h.d.by_ i
theorem lqWrite_no (h : Lq w0 es ls lo B M r s b o d m n G l1 Y W) (i : Int) (F : Nat → Int) (hi : hx r s b o d i = false) :
    Calls Try.prog 20 #[.pointer (some ⟨B, 0, none⟩), .int .i64 i, rawV F] W fun e w' => e = .returned (.tuple #[.agg #[.int .i64 0, .bool false], .int .i64 12]) ∧ Lq w0 es ls lo B M r s b o d m n G l1 Y w' := by
  obtain ⟨vb, vc, Z, h'⟩ := h
  refine (dWrite_no h'.d i F hi).mono ?_
  rintro e w' ⟨rfl, hb⟩
  exact ⟨rfl, vb, vc, Z, h'.next hb⟩
theorem lqWrite (h : Lq w0 es ls lo B M r s b o d m n G l1 Y W) (i : Int) (F : Nat → Int) (hF : Byts 72 F) (hn : n < 1000000) (hi : hx r s b o d i = true) :
    Calls Try.prog 20 #[.pointer (some ⟨B, 0, none⟩), .int .i64 i, rawV F] W fun e w' => e = .returned (.tuple #[.agg #[.int .i64 i, .bool false], .int .i64 0]) ∧ Lq w0 es ls lo B M r s b o d m (n + 1) (gput G i F) l1 Y w' := by
  obtain ⟨vb, vc, Z, h'⟩ := h
  refine (dWrite_any h'.d i F hF hn hi).mono ?_
  rintro e w' ⟨rfl, ht⟩
  obtain ⟨v, h1, _⟩ := h'.tk ht
  exact ⟨rfl, vb, v, _, h1⟩
theorem lqRead (h : Lq w0 es ls lo B M r s b o d m n G l1 Y W) (hm : Md m k j) (i : Int) (hi : hx r s b o d i = true) :
    Calls Try.prog 21 #[.pointer (some ⟨B, 0, none⟩), .int .i64 i] W fun e w' => e = .returned (.tuple #[rawV (ovF k Y (i / 1048576) (i / 65536 % 16) (i / 64 % 1024) (i % 64) (G i) l1), .agg #[.int .i64 i, .bool false], .int .i64 0]) ∧ Lq w0 es ls lo B M r s b o d m n G l1 Y w' := by
  obtain ⟨vb, vc, Z, h'⟩ := h
  refine (dRead_any h'.d hm i hi).mono ?_
  rintro e w' ⟨rfl, ht⟩
  obtain ⟨v, h1, _⟩ := h'.tk ht
  exact ⟨rfl, vb, v, _, h1⟩
theorem lqRead_no (h : Lq w0 es ls lo B M r s b o d m n G l1 Y W) (i : Int) (hi : hx r s b o d i = false) :
    Calls Try.prog 21 #[.pointer (some ⟨B, 0, none⟩), .int .i64 i] W fun e w' => e = .returned (.tuple #[rawV fun _ => 0, .agg #[.int .i64 0, .bool false], .int .i64 12]) ∧ Lq w0 es ls lo B M r s b o d m n G l1 Y w' := by
  obtain ⟨vb, vc, Z, h'⟩ := h
  refine (dRead_no h'.d i hi).mono ?_
  rintro e w' ⟨rfl, hb⟩
  exact ⟨rfl, vb, vc, Z, h'.next hb⟩
theorem lqLook (h : Lq w0 es ls lo B M r s b o d m n G l1 Y W) (hm : Md m k j) (i : Int) (hi : hx r s b o d i = true) :
    Calls Try.prog 17 #[.pointer (some ⟨B, 0, none⟩), .int .i64 i] W fun e w' => e = .returned (.tuple #[rawV (ovF k Y (i / 1048576) (i / 65536 % 16) (i / 64 % 1024) (i % 64) (G i) l1), .int .i64 0]) ∧ Lq w0 es ls lo B M r s b o d m n G l1 Y w' := by
  obtain ⟨vb, vc, Z, h'⟩ := h
  refine (dLook_yes h'.d hm i (hx_i64 hi) hi).mono ?_
  rintro e w' ⟨rfl, hb⟩
  exact ⟨rfl, vb, vc, Z, h'.next hb⟩
theorem lqFlip (h : Lq w0 es ls lo B M r s b o d m n G l1 Y W) (hm : Md m k j) (p q u v c : Int) (x : Nat) (y : Int) (hf : ∀ i, i < 8 → (Lit.int .i64 (ffn 1 p q u v c x y i)).wf = true) (hn : n < 1000000) (hr : rtF k (hd r s b o d p q u v) 1 p q u v c x y = true) :
    Calls Try.prog 23 #[.pointer (some ⟨B, 0, none⟩), .agg #[.int .i64 1, .int .i64 p, .int .i64 q, .int .i64 u, .int .i64 v, .int .i64 c, .int .i64 x, .int .i64 y]] W fun e w' => e = .returned (.int .i64 0) ∧ Lq w0 es ls lo B M r s b o d m (n + 1) (gput G (ix p q u v) (flR (G (ix p q u v)) x)) l1 Y w' := by
  obtain ⟨vb, vc, Z, h'⟩ := h
  refine (dInject_any h'.d hm 1 p q u v c x y hf hn).mono ?_
  rintro e w' ⟨a, rfl, hij⟩
  rw [hr] at hij
  rcases hij with ⟨h, _⟩ | ⟨_, _, h, h1, h2⟩ | ⟨_, h, _⟩ | ⟨_, h, _⟩ | ⟨_, h, _⟩ | ⟨_, h, _⟩
  · cases h
  · rw [h]
    rw [Int.toNat_natCast] at h1
    exact ⟨rfl, vb, vc, Z, h'.mo h1 h2⟩
  all_goals exact absurd rfl h
theorem lqLast (h : Lq w0 es ls lo B M r s b o d m n G l1 Y W) (hm : Md m k j) (k9 p q u v c x y : Int) (hf : ∀ i, i < 8 → (Lit.int .i64 (ffn k9 p q u v c x y i)).wf = true) (hn : n < 1000000) (hl : Go.Proofs.Ytcpjmfemgdgplaa.ls k9 = true) (h1 : l1 < 256) (hr : rtF k (hd r s b o d p q u v) k9 p q u v c x y = true) :
    Calls Try.prog 23 #[.pointer (some ⟨B, 0, none⟩), .agg #[.int .i64 k9, .int .i64 p, .int .i64 q, .int .i64 u, .int .i64 v, .int .i64 c, .int .i64 x, .int .i64 y]] W fun e w' => e = .returned (.int .i64 0) ∧ Lq w0 es ls lo B M r s b o d m n G (l1 + 1) (snZ Y l1 (ffn k9 p q u v c x y)) w' := by
  obtain ⟨vb, vc, Z, h'⟩ := h
  refine (dInject_any h'.d hm k9 p q u v c x y hf hn).mono ?_
  rintro e w' ⟨a, rfl, hij⟩
  rw [hr] at hij
  rcases hij with ⟨h, _⟩ | ⟨_, h, _⟩ | ⟨_, _, _, h, _⟩ | ⟨_, _, _, _, h, vb', h2, h3⟩ | ⟨_, _, h, _⟩ | ⟨_, _, h, _⟩
  · cases h
  · exfalso
    subst h
    exact absurd hl (by decide)
  · omega
  · rw [h]
    exact ⟨rfl, vb', vc, Z, h'.mo h2 h3⟩
  all_goals exact absurd (hl.symm.trans h) (by decide)
theorem lqBad (h : Lq w0 es ls lo B M r s b o d m n G l1 Y W) (hm : Md m k j) (k9 p q u v c x y : Int) (hf : ∀ i, i < 8 → (Lit.int .i64 (ffn k9 p q u v c x y i)).wf = true) (hn : n < 1000000) (hr : rtF k (hd r s b o d p q u v) k9 p q u v c x y = false) :
    Calls Try.prog 23 #[.pointer (some ⟨B, 0, none⟩), .agg #[.int .i64 k9, .int .i64 p, .int .i64 q, .int .i64 u, .int .i64 v, .int .i64 c, .int .i64 x, .int .i64 y]] W fun e w' => e = .returned (.int .i64 10) ∧ Lq w0 es ls lo B M r s b o d m n G l1 Y w' := by
  obtain ⟨vb, vc, Z, h'⟩ := h
  refine (dInject_any h'.d hm k9 p q u v c x y hf hn).mono ?_
  rintro e w' ⟨a, rfl, hij⟩
  rw [hr] at hij
  rcases hij with ⟨_, h, hb⟩ | ⟨h, _⟩ | ⟨h, _⟩ | ⟨h, _⟩ | ⟨h, _⟩ | ⟨h, _⟩
  · rw [h]
    exact ⟨rfl, vb, vc, Z, h'.next hb⟩
  all_goals cases h
end
end Go.Proofs.Ytcpjmfemgdgplaa

/-
  How much two lines' raw bytes are exposed to one another, by the program.
-/
namespace Go.Proofs.Ytcpjmfemgdgplaa
open Go.RowKit
open Bm (wt wtK)
attribute [local go_sem] Oper.semAt_some

/-- the exposure -/
def ex (m n k : Int) (F G : Nat → Int) : Nat := Rw.mx m F G n.toNat k.toNat
theorem cut9 (b i : Nat) (hi : i < 8) (w : World) : (Instr.sliceAt 40 (.pointer (some ⟨b, 0, none⟩)) (some (.int .i64 ((i : Int) * 9))) (some (.int .i64 (((i : Int) + 1) * 9))) none).run Try.prog w = .ok (.slice (some ⟨b, 9 * i, none⟩) 9 (72 - 9 * i)) w := by
  obtain rfl | rfl | rfl | rfl | rfl | rfl | rfl | rfl : i = 0 ∨ i = 1 ∨ i = 2 ∨ i = 3 ∨ i = 4 ∨ i = 5 ∨ i = 6 ∨ i = 7 := by omega
  all_goals simp [Instr.sliceAt, go_sem]
theorem cut36 (b i : Nat) (hi : i < 2) (w : World) : (Instr.sliceAt 40 (.pointer (some ⟨b, 0, none⟩)) (some (.int .i64 ((i : Int) * 36))) (some (.int .i64 (((i : Int) + 1) * 36))) none).run Try.prog w = .ok (.slice (some ⟨b, 36 * i, none⟩) 36 (72 - 36 * i)) w := by
  obtain rfl | rfl : i = 0 ∨ i = 1 := by omega
  all_goals simp [Instr.sliceAt, go_sem]

end Go.Proofs.Ytcpjmfemgdgplaa
