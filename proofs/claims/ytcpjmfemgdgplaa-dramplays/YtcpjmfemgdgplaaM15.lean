/-
  Texts of one family, one behind another: DrW6, DrW8, DrW9, DrW10.
-/
import Derived.Test.YtcpjmfemgdgplaaM14
import Derived.Great.Walk
import Derived.Maps.AppendAt

/-
  A line is written.
-/
namespace Go.Proofs.Ytcpjmfemgdgplaa
open Go.RowKit Go.Shelf
open Ge (pw rt hd ix)
attribute [local go_sem] Oper.semAt_some

theorem hx_ix {r s b o d p q u v : Int} (h : hd r s b o d p q u v = true) : hx r s b o d (ix p q u v) = true := by
  have hb := hd_bounds h
  unfold hx ix
  have e1 : (1048576 * p + 65536 * q + 64 * u + v) / 1048576 = p := by omega
  have e2 : (1048576 * p + 65536 * q + 64 * u + v) / 65536 % 16 = q := by omega
  have e3 : (1048576 * p + 65536 * q + 64 * u + v) / 64 % 1024 = u := by omega
  have e4 : (1048576 * p + 65536 * q + 64 * u + v) % 64 = v := by omega
  rw [e1, e2, e3, e4, h]
theorem hx_low {r s b o d i : Int} (h : hx r s b o d i = true) : 0 ≤ i ∧ i < 8388608 := by
  have hb := hd_bounds h
  omega
theorem hx_i64 {r s b o d i : Int} (h : hx r s b o d i = true) : I64 i := by
  have := hx_low h
  unfold I64
  omega
/-- a store into a map, by what it does -/
theorem wp_mapput {P : Program} {o : Oper} {a : Act} {w w' : World} {K : Act → World → Prop} {Q : Exit → Act → World → Prop} (T : TypeId) (x y z : Operand) (ho : o.op = .mapUpdate T x y z) (mv kv vv : Value) (hx : a.eval x = mv) (hy : a.eval y = kv) (hz : a.eval z = vv)
    (hr : (Instr.mapUpdate T mv kv vv).run P w = .ok () w') (h : K (a.put o.dst undef) w') : Oper.wp P o a w K Q := by
  unfold Oper.wp
  simp [execOp, ho, hx, hy, hz, hr, Result.andThen]
  exact h
theorem At9.keep {W W' : World} {b : Nat} {L : List Value} (h : At9 W b L) (e : W'.heap[b]? = W.heap[b]?) : At9 W' b L := h.of e
section
variable {W : World} {lo B M R : Nat} {r s b o d m : Int} {n : Nat} {G : Int → Nat → Int} {vb vc : Value} {l1 l2 : Nat} {Y Z : Nat → Nat → Int}
/-- what a call that takes one of what is to come leaves -/
def Tk (lo B M : Nat) (r s b o d m : Int) (n : Nat) (G : Int → Nat → Int) (vb : Value) (l1 : Nat) (Y : Nat → Nat → Int) (vc : Value) (l2 : Nat) (Z : Nat → Nat → Int) (w W : World) : Prop :=
  ∃ vc', Dm W lo B M r s b o d m n G vb l1 Y vc' (l2 - 1) (tlZ Z) ∧ vc'.ownBlock = vc.ownBlock ∧ Mv lo (mine B M vb vc) w W
theorem dAccess_any (h : Dm W lo B M r s b o d m n G vb l1 Y vc l2 Z) (i : Int) :
    Calls Try.prog 47 #[.pointer (some ⟨B, 0, none⟩), .int .i64 i] W fun e w' => e = .returned (.agg #[.int .i64 (wI l2 Z i), .bool (wD l2 Z)]) ∧ Tk lo B M r s b o d m n G vb l1 Y vc l2 Z W w' := by
  cases l2 with
  | zero =>
    refine (dAccess_none h i).mono ?_
    rintro e w' ⟨rfl, hb⟩
    have h' := h.next hb
    refine ⟨by simp [wI, wD], vc, ⟨h'.c, h'.mp, h'.f1, h'.f2, h'.w1, fun i hi => absurd hi (by omega), fun i hi => absurd hi (by omega), h'.by_, h'.lb, h'.lm, h'.a1, h'.a2, h'.a3, h'.a4, h'.le⟩, rfl, Mv.next hb h.lo_le⟩
  | succ l =>
    refine (dAccess_some h i).mono ?_
    rintro e w' ⟨rfl, vc', h1, h2, h3⟩
    exact ⟨rfl, vc', h1, h2, h3⟩
theorem wI_hx (h : Dm W lo B M r s b o d m n G vb l1 Y vc l2 Z) {i : Int} (hi : hx r s b o d i = true) : hx r s b o d (wI l2 Z i) = true := by
  unfold wI
  split
  · exact hi
  · split
    · exact hi
    · rename_i h0 _
      exact hx_ix (h.ok 0 (by omega))
theorem own_eq {vc vc' : Value} (e : vc'.ownBlock = vc.ownBlock) : ∀ g, mine B M vb vc' g ↔ mine B M vb vc g := by
  intro g
  unfold mine
  rw [e]
/-- an index has other bytes -/
theorem Dm.put {W' : World} (h : Dm W lo B M r s b o d m n G vb l1 Y vc l2 Z) {i : Int} {F : Nat → Int} (hF : Byts 72 F) (hm : MpAt W' M (n + 1) (gput G i F)) (hg : W.grownBy W' (some M)) : Dm W' lo B M r s b o d m (n + 1) (gput G i F) vb l1 Y vc l2 Z :=
  have hk : ∀ g, mine B M vb vc g → g ≠ M → W'.heap[g]? = W.heap[g]? := fun g h1 h2 => hg.block g (h.mine_lt g h1).2 (fun e => h2 (by cases e; rfl))
  ⟨h.c.of (hk B (.inl rfl) h.a1), hm, own_kept h.f1 (fun g e => hk g (.inr (.inr (.inl e))) (fun e2 => h.a2.2 (by rw [e, e2]))), own_kept h.f2 (fun g e => hk g (.inr (.inr (.inr e))) (fun e2 => h.a3.2 (by rw [e, e2]))), h.w1, h.w2, h.ok,
    fun j => by unfold gput; split; exact hF; exact h.by_ j, h.lb, h.lm, h.a1, h.a2, h.a3, h.a4, h.le⟩
set_option maxRecDepth 100000 in
set_option maxHeartbeats 4000000 in
theorem dWrite_no (h : Dm W lo B M r s b o d m n G vb l1 Y vc l2 Z) (i : Int) (F : Nat → Int) (hx1 : hx r s b o d i = false) :
    Calls Try.prog 20 #[.pointer (some ⟨B, 0, none⟩), .int .i64 i, rawV F] W fun e w' => e = .returned (.tuple #[.agg #[.int .i64 0, .bool false], .int .i64 12]) ∧ Below W.heap.size W w' := by
  unfold rawV
  have CH : Hid (∀ w, Below W.heap.size W w → Calls Try.prog 41 #[.pointer (some ⟨B, 0, none⟩), .int .i64 i] w fun e w' => e = .returned (.bool false) ∧ Below w.heap.size w w') := fun w hw => by rw [← hx1]; exact dHas_any (h.next hw) i
  obtain ⟨L, hL⟩ : ∃ L, ints .u8 72 F = L := ⟨_, rfl⟩
  rw [hL]
  clear hL h hx1
  go_enter Try.func20, Try.ntmps20
  go_upto_region 1 with (fail)
  obtain ⟨R, hR⟩ : ∃ R, W.heap.size + 1 = R := ⟨_, rfl⟩
  obtain ⟨V, hV⟩ : ∃ V, (W.alloc (.cells L.toArray 40)).alloc (.cells #[.int .i64 0, .bool false] 59) = V := ⟨_, rfl⟩
  have HB : Hid (Below W.heap.size W V) := by rw [← hV]; exact ((Below.refl _ W).alloc (Nat.le_refl _) _).alloc (by simp) _
  have HE : Hid (Cb V R [.int .i64 0, .bool false]) := by
    have := Cb.new (W.alloc (.cells L.toArray 40)) [.int .i64 0, .bool false] 59
    rw [← hV, ← hR]
    rw [World.size_alloc] at this
    exact this
  rw [hV, hR]
  clear hV
  go_wp2_with fail
  refine (CH.out _ HB.out).mono ?_
  rintro e W1 ⟨rfl, b1⟩
  have HN : Hid (Below W.heap.size W W1) := HB.out.trans (b1.mono HB.out.size)
  have th := (HE.out.next b1).thereAt 0 2 (by simp)
  have on : (#[.int .i64 0, .bool false] : Array Value).all (·.oneCell') = true := one_we _ _
  clear b1 HE HB CH
  go_wp2_with (first | refine wpList_store_mid rfl 59 _ _ rfl R 0 #[.int .i64 0, .bool false] rfl rfl th infoWe on ?_)
  have hs2 : (World.setCells W1 R 0 [.int .i64 0, .bool false]).rangeAt R 0 [.int .i64 0, .bool false] := World.rangeAt_setCells_same W1 _ 0 _ (by simpa using th)
  have hld := run_loadVar_mid (P := Try.prog) (World.setCells W1 R 0 [.int .i64 0, .bool false]) R 0 59 [.int .i64 0, .bool false] _ hs2 Try.underlying59 rfl infoWe
  refine bodyPost_ret (v := .tuple #[.agg #[.int .i64 0, .bool false], .int .i64 12]) ?_ rfl ⟨rfl, belows_put (by omega) _ 0 HN.out⟩
  simp [results, Try.f20, asAddr, hld]
/-- at work in Write, behind the access -/
structure Wr (lo B M : Nat) (r s b o d m : Int) (n : Nat) (G : Int → Nat → Int) (vb : Value) (l1 : Nat) (Y : Nat → Nat → Int) (vc : Value) (l2 : Nat) (Z : Nat → Nat → Int) (T : Nat → Prop) (R K : Nat) (i : Int) (t : Bool) (w W : World) : Prop where
  d : Dm W lo B M r s b o d m n G vb l1 Y vc l2 Z
  m : Mv lo T w W
  e : Cb W R [.int .i64 0, .bool false]
  k : Cb W K [.int .i64 i, .bool t]
theorem Wr.next {T : Nat → Prop} {K : Nat} {i : Int} {t : Bool} {w W W' : World} (h : Wr lo B M r s b o d m n G vb l1 Y vc l2 Z T R K i t w W) (e : Below W.heap.size W W') : Wr lo B M r s b o d m n G vb l1 Y vc l2 Z T R K i t w W' := ⟨h.d.next e, h.m.then e h.d.lo_le, h.e.next e, h.k.next e⟩
set_option maxRecDepth 100000 in
set_option maxHeartbeats 4000000 in
theorem dWrite_any (h : Dm W lo B M r s b o d m n G vb l1 Y vc l2 Z) (i : Int) (F : Nat → Int) (hF : Byts 72 F) (hn : n < 1000000) (hx1 : hx r s b o d i = true) :
    Calls Try.prog 20 #[.pointer (some ⟨B, 0, none⟩), .int .i64 i, rawV F] W fun e w' => e = .returned (.tuple #[.agg #[.int .i64 (wI l2 Z i), .bool (wD l2 Z)], .int .i64 0]) ∧ Tk lo B M r s b o d m (n + 1) (if wD l2 Z = true then G else gput G (wI l2 Z i) F) vb l1 Y vc l2 Z W w' := by
  have hwx := wI_hx h hx1
  have HWI : Hid (I64 (wI l2 Z i)) := hx_i64 hwx
  have CH : Hid (∀ w, Below W.heap.size W w → Calls Try.prog 41 #[.pointer (some ⟨B, 0, none⟩), .int .i64 i] w fun e w' => e = .returned (.bool true) ∧ Below w.heap.size w w') := fun w hw => by rw [← hx1]; exact dHas_any (h.next hw) i
  have CA : Hid (∀ w, Below W.heap.size W w → Calls Try.prog 47 #[.pointer (some ⟨B, 0, none⟩), .int .i64 i] w fun e w' => e = .returned (.agg #[.int .i64 (wI l2 Z i), .bool (wD l2 Z)]) ∧ Tk lo B M r s b o d m n G vb l1 Y vc l2 Z w w') := fun w hw => dAccess_any (h.next hw) i
  have HM : Hid (∀ g, mine B M vb vc g → g < W.heap.size) := fun g hg => (h.mine_lt g hg).2
  have HLO : Hid (lo ≤ W.heap.size) := h.lo_le
  have HFF : Hid (Byts 72 F) := hF
  have HNN : Hid (n < 1000000) := hn
  obtain ⟨j, hj⟩ : ∃ j, wI l2 Z i = j := ⟨_, rfl⟩
  obtain ⟨t, ht⟩ : ∃ t, wD l2 Z = t := ⟨_, rfl⟩
  rw [hj] at HWI
  rw [hj, ht] at CA
  rw [hj, ht]
  clear hj ht h hx1 hF hwx hn
  have HP : Hid (∀ W', MpAt W' M n G → ∃ W2, (Instr.mapUpdate 80 (.map (some M)) (.int .i64 j) (rawV F)).run Try.prog W' = .ok () W2 ∧ MpAt W2 M (n + 1) (gput G j F) ∧ W'.grownBy W2 (some M)) := fun W' h' => h'.put HWI.out (by have := HNN.out; unfold maxLen; omega) F
  unfold rawV at HP ⊢
  obtain ⟨L, hL⟩ : ∃ L, ints .u8 72 F = L := ⟨_, rfl⟩
  have iL2 : (Try.prog.info? 40).map (·.size) = some L.length := by rw [← hL, ints_len]; exact infoR
  rw [hL] at HP ⊢
  clear hL
  go_enter Try.func20, Try.ntmps20
  go_upto_region 1 with (fail)
  obtain ⟨A, hA⟩ : ∃ A, W.heap.size = A := ⟨_, rfl⟩
  obtain ⟨R, hR⟩ : ∃ R, A + 1 = R := ⟨_, rfl⟩
  obtain ⟨V, hV⟩ : ∃ V, (W.alloc (.cells L.toArray 40)).alloc (.cells #[.int .i64 0, .bool false] 59) = V := ⟨_, rfl⟩
  have HB : Hid (Below W.heap.size W V) := by rw [← hV]; exact ((Below.refl _ W).alloc (Nat.le_refl _) _).alloc (by simp) _
  have HE : Hid (Cb V R [.int .i64 0, .bool false]) := by
    have := Cb.new (W.alloc (.cells L.toArray 40)) [.int .i64 0, .bool false] 59
    rw [← hV, ← hR, ← hA]
    rw [World.size_alloc] at this
    exact this
  have HA : Hid (Cb V A L) := by rw [← hV, ← hA]; exact (Cb.new W L _).alloc _
  rw [hV, hA, hR]
  clear hV
  go_wp2_with fail
  refine (CH.out _ HB.out).mono ?_
  rintro e W1 ⟨rfl, b1⟩
  replace HE : Hid (Cb W1 R [.int .i64 0, .bool false]) := HE.out.next b1
  replace HA : Hid (Cb W1 A L) := HA.out.next b1
  replace HB : Hid (Below W.heap.size W W1) := HB.out.trans (b1.mono HB.out.size)
  clear b1 CH
  go_wp2_with fail
  refine (CA.out _ HB.out).mono ?_
  rintro e W2 ⟨rfl, vc', hd2, hown, hmv⟩
  have HS2 : Hid (Dm W2 lo B M r s b o d m n G vb l1 Y vc' (l2 - 1) (tlZ Z) ∧ Mv lo (mine B M vb vc) W W2 ∧ Cb W2 R [.int .i64 0, .bool false] ∧ Cb W2 A L) := by
    have hk := fun g (h1 : g < W1.heap.size) (h2 : W.heap.size ≤ g) => hmv.k g h1 (fun hm => by have := HM.out g hm; omega)
    refine ⟨hd2, ⟨(HB.out.mono HLO.out).trans hmv.n, fun g hg ht => (hmv.k g (Nat.lt_of_lt_of_le hg HB.out.size) ht).trans (HB.out.block g hg)⟩, HE.out.of (hk R HE.out.lt (by omega)), HA.out.of (hk A HA.out.lt (by omega))⟩
  have HOWN : Hid (vc'.ownBlock = vc.ownBlock) := hown
  clear hd2 hown hmv HB HE HA CA
  go_upto_region 4 with (fail)
  obtain ⟨K, hK⟩ : ∃ K, W2.heap.size = K := ⟨_, rfl⟩
  obtain ⟨W3, hW3⟩ : ∃ W3, W2.alloc (.cells #[.int .i64 j, .bool t] 59) = W3 := ⟨_, rfl⟩
  have HS : Hid (Wr lo B M r s b o d m n G vb l1 Y vc' (l2 - 1) (tlZ Z) (mine B M vb vc) R K j t W W3 ∧ Cb W3 A L) := by
    have b3 : Below W2.heap.size W2 W3 := by rw [← hW3]; exact (Below.refl _ W2).alloc (Nat.le_refl _) _
    refine ⟨⟨HS2.out.1.next b3, HS2.out.2.1.then b3 HS2.out.1.lo_le, HS2.out.2.2.1.next b3, ?_⟩, HS2.out.2.2.2.next b3⟩
    rw [← hW3, ← hK]
    exact Cb.new W2 _ _
  have HRK : Hid (R < K ∧ A < R ∧ W.heap.size ≤ A) := ⟨by rw [← hK]; exact HS2.out.2.2.1.lt, by omega, by omega⟩
  rw [hW3, hK]
  clear hW3 HS2
  have ck := HS.out.1.k.cell (i := 1) rfl
  cases t with
  | true =>
    have hrk := HS.out.1.k.range
    have th := HS.out.1.e.thereAt 0 2 (by simp)
    have on : (#[.int .i64 j, .bool true] : Array Value).all (·.oneCell') = true := one_we _ _
    go_wp2_with (first
      | refine wpList_load_mid rfl 59 _ rfl K 0 rfl [.int .i64 j, .bool true] _ hrk Try.underlying59 rfl infoWe ?_
      | refine wpList_store_mid rfl 59 _ _ rfl R 0 #[.int .i64 j, .bool true] rfl rfl th infoWe on ?_)
    have HE := dm_put (R := R) HS.out.1.d HS.out.1.m (fun g hg => by have := HM.out g ((own_eq HOWN.out g).1 hg); have := HRK.out; omega) (by have := HRK.out; omega) (by have := HLO.out; have := HRK.out; omega) [.int .i64 j, .bool true]
    have hs2 : (World.setCells W3 R 0 [.int .i64 j, .bool true]).rangeAt R 0 [.int .i64 j, .bool true] := World.rangeAt_setCells_same W3 _ 0 _ (by simpa using th)
    have hld := run_loadVar_mid (P := Try.prog) (World.setCells W3 R 0 [.int .i64 j, .bool true]) R 0 59 [.int .i64 j, .bool true] _ hs2 Try.underlying59 rfl infoWe
    refine bodyPost_ret (v := .tuple #[.agg #[.int .i64 j, .bool true], .int .i64 0]) ?_ rfl ⟨rfl, vc', by first | exact HE.1.mono (by omega) | (rw [if_pos rfl]; exact HE.1.mono (by omega)), HOWN.out, HE.2⟩
    simp [results, Try.f20, asAddr, hld]
  | false =>
    go_upto_region 5 with (fail)
    clear ck
    have HT : Hid (Cb W3.drew A L ∧ Wr lo B M r s b o d m n G vb l1 Y vc' (l2 - 1) (tlZ Z) (mine B M vb vc) R K j false W W3.drew) := ⟨HS.out.2.next (below_drew1 _), HS.out.1.next (below_drew1 _)⟩
    obtain ⟨W4, hput, hmp, hgr⟩ := HP.out W3.drew HT.out.2.d.mp
    have HFI : Hid (Wr lo B M r s b o d m (n + 1) (gput G j F) vb l1 Y vc' (l2 - 1) (tlZ Z) (mine B M vb vc) R K j false W W4 ∧ Cb W4 A L) := by
      have hMW := HM.out M (.inr (.inl rfl))
      have hrk := HRK.out
      have hk : ∀ g, g < W3.drew.heap.size → M ≠ g → W4.heap[g]? = W3.drew.heap[g]? := fun g h1 h2 => hgr.block g h1 (fun e => h2 (by cases e; rfl))
      refine ⟨⟨HT.out.2.d.put HFF.out hmp hgr, ⟨?_, fun g hg hm => ?_⟩, HT.out.2.e.of (hk R HT.out.2.e.lt (by omega)), HT.out.2.k.of (hk K HT.out.2.k.lt (by omega))⟩, HT.out.1.of (hk A HT.out.1.lt (by omega))⟩
      · exact below_grown7 HT.out.2.m.n hgr (fun g e => by cases e; exact HT.out.2.d.lm) HT.out.2.d.lo_le
      · exact (hk g (Nat.lt_of_lt_of_le hg HT.out.2.m.n.size) (fun e => hm (.inr (.inl e.symm)))).trans (HT.out.2.m.k g hg hm)
    clear hmp hgr HP
    refine region_ends (by kernel_rfl) (fun W' => Cb W' A L ∧ (∃ vb vc, Cb W' B (dl r s b o d m (.map (some M)) vb vc)) ∧ Cb W' K [.int .i64 j, .bool false]) (fun a2 W' => a2 = ({ tmps := #[.pointer (some ⟨B, 0, none⟩), .int .i64 i, .agg L.toArray, undef, undef, .pointer (some ⟨A, 0, none⟩), .pointer (some ⟨R, 0, none⟩), .int .i64 0, .pointer (some ⟨K, 0, none⟩), .pointer (some ⟨B, 0, none⟩), .int .i64 i, .bool true, .bool false, undef, .pointer (some ⟨B, 0, none⟩), .int .i64 i, .agg #[.int .i64 j, .bool false], .pointer (some ⟨K, 1, none⟩), .bool false, .bool true, .pointer (some ⟨B, 0, none⟩), .pointer (some ⟨B, 0, none⟩), .pointer (some ⟨B, 6, none⟩), .map (some M), .pointer (some ⟨K, 0, none⟩), .int .i64 j, .agg L.toArray, undef], defers := [] } : Act) ∧ W' = W4) ⟨HT.out.1, ⟨_, _, HT.out.2.d.c⟩, HT.out.2.k⟩ (fun hH => ?reg) (fun a2 V3 hr => ?aft)
    case reg =>
      refine take_pure 0 (v := .pointer (some ⟨B, 0, none⟩)) rfl (by kernel_rfl) rfl (fun w' hw => by simp [execOp, go_sem]) hH ?_
      show wpAnyH _ _ _ _ _ _ _ ({ tmps := #[.pointer (some ⟨B, 0, none⟩), .int .i64 i, .agg L.toArray, undef, undef, .pointer (some ⟨A, 0, none⟩), .pointer (some ⟨R, 0, none⟩), .int .i64 0, .pointer (some ⟨K, 0, none⟩), .pointer (some ⟨B, 0, none⟩), .int .i64 i, .bool true, .bool false, undef, .pointer (some ⟨B, 0, none⟩), .int .i64 i, .agg #[.int .i64 j, .bool false], .pointer (some ⟨K, 1, none⟩), .bool false, .bool true, .pointer (some ⟨B, 0, none⟩), undef, undef, undef, undef, undef, undef, undef], defers := [] } : Act) _
      refine take_pure 1 (v := .pointer (some ⟨B, 0, none⟩)) rfl (by kernel_rfl) rfl (fun w' hw => by simp [execOp, go_sem]) hH ?_
      show wpAnyH _ _ _ _ _ _ _ ({ tmps := #[.pointer (some ⟨B, 0, none⟩), .int .i64 i, .agg L.toArray, undef, undef, .pointer (some ⟨A, 0, none⟩), .pointer (some ⟨R, 0, none⟩), .int .i64 0, .pointer (some ⟨K, 0, none⟩), .pointer (some ⟨B, 0, none⟩), .int .i64 i, .bool true, .bool false, undef, .pointer (some ⟨B, 0, none⟩), .int .i64 i, .agg #[.int .i64 j, .bool false], .pointer (some ⟨K, 1, none⟩), .bool false, .bool true, .pointer (some ⟨B, 0, none⟩), .pointer (some ⟨B, 0, none⟩), undef, undef, undef, undef, undef, undef], defers := [] } : Act) _
      refine take_pure 2 (v := .pointer (some ⟨B, 6, none⟩)) rfl (by kernel_rfl) rfl (fun w' hw => by simp [execOp, go_sem]) hH ?_
      show wpAnyH _ _ _ _ _ _ _ ({ tmps := #[.pointer (some ⟨B, 0, none⟩), .int .i64 i, .agg L.toArray, undef, undef, .pointer (some ⟨A, 0, none⟩), .pointer (some ⟨R, 0, none⟩), .int .i64 0, .pointer (some ⟨K, 0, none⟩), .pointer (some ⟨B, 0, none⟩), .int .i64 i, .bool true, .bool false, undef, .pointer (some ⟨B, 0, none⟩), .int .i64 i, .agg #[.int .i64 j, .bool false], .pointer (some ⟨K, 1, none⟩), .bool false, .bool true, .pointer (some ⟨B, 0, none⟩), .pointer (some ⟨B, 0, none⟩), .pointer (some ⟨B, 6, none⟩), undef, undef, undef, undef, undef], defers := [] } : Act) _
      refine take_pure 3 (v := .map (some M)) rfl (by kernel_rfl) rfl (fun w' hw => by obtain ⟨_, _, hc⟩ := hw.2.1; simp [execOp, go_sem, hc.cell (i := 6) rfl]) hH ?_
      show wpAnyH _ _ _ _ _ _ _ ({ tmps := #[.pointer (some ⟨B, 0, none⟩), .int .i64 i, .agg L.toArray, undef, undef, .pointer (some ⟨A, 0, none⟩), .pointer (some ⟨R, 0, none⟩), .int .i64 0, .pointer (some ⟨K, 0, none⟩), .pointer (some ⟨B, 0, none⟩), .int .i64 i, .bool true, .bool false, undef, .pointer (some ⟨B, 0, none⟩), .int .i64 i, .agg #[.int .i64 j, .bool false], .pointer (some ⟨K, 1, none⟩), .bool false, .bool true, .pointer (some ⟨B, 0, none⟩), .pointer (some ⟨B, 0, none⟩), .pointer (some ⟨B, 6, none⟩), .map (some M), undef, undef, undef, undef], defers := [] } : Act) _
      refine take_pure 4 (v := .pointer (some ⟨K, 0, none⟩)) rfl (by kernel_rfl) rfl (fun w' hw => by simp [execOp, go_sem]) hH ?_
      show wpAnyH _ _ _ _ _ _ _ ({ tmps := #[.pointer (some ⟨B, 0, none⟩), .int .i64 i, .agg L.toArray, undef, undef, .pointer (some ⟨A, 0, none⟩), .pointer (some ⟨R, 0, none⟩), .int .i64 0, .pointer (some ⟨K, 0, none⟩), .pointer (some ⟨B, 0, none⟩), .int .i64 i, .bool true, .bool false, undef, .pointer (some ⟨B, 0, none⟩), .int .i64 i, .agg #[.int .i64 j, .bool false], .pointer (some ⟨K, 1, none⟩), .bool false, .bool true, .pointer (some ⟨B, 0, none⟩), .pointer (some ⟨B, 0, none⟩), .pointer (some ⟨B, 6, none⟩), .map (some M), .pointer (some ⟨K, 0, none⟩), undef, undef, undef], defers := [] } : Act) _
      refine take_pure 5 (v := .int .i64 j) rfl (by kernel_rfl) rfl (fun w' hw => by simp [execOp, go_sem, hw.2.2.cell (i := 0) rfl]) hH ?_
      show wpAnyH _ _ _ _ _ _ _ ({ tmps := #[.pointer (some ⟨B, 0, none⟩), .int .i64 i, .agg L.toArray, undef, undef, .pointer (some ⟨A, 0, none⟩), .pointer (some ⟨R, 0, none⟩), .int .i64 0, .pointer (some ⟨K, 0, none⟩), .pointer (some ⟨B, 0, none⟩), .int .i64 i, .bool true, .bool false, undef, .pointer (some ⟨B, 0, none⟩), .int .i64 i, .agg #[.int .i64 j, .bool false], .pointer (some ⟨K, 1, none⟩), .bool false, .bool true, .pointer (some ⟨B, 0, none⟩), .pointer (some ⟨B, 0, none⟩), .pointer (some ⟨B, 6, none⟩), .map (some M), .pointer (some ⟨K, 0, none⟩), .int .i64 j, undef, undef], defers := [] } : Act) _
      refine take_pure 6 (v := .agg L.toArray) rfl (by kernel_rfl) rfl (fun w' hw => exec_range 40 (.tmp 5) rfl A 0 rfl L _ hw.1.range Try.underlying40 rfl iL2) hH ?_
      show wpAnyH _ _ _ _ _ _ _ ({ tmps := #[.pointer (some ⟨B, 0, none⟩), .int .i64 i, .agg L.toArray, undef, undef, .pointer (some ⟨A, 0, none⟩), .pointer (some ⟨R, 0, none⟩), .int .i64 0, .pointer (some ⟨K, 0, none⟩), .pointer (some ⟨B, 0, none⟩), .int .i64 i, .bool true, .bool false, undef, .pointer (some ⟨B, 0, none⟩), .int .i64 i, .agg #[.int .i64 j, .bool false], .pointer (some ⟨K, 1, none⟩), .bool false, .bool true, .pointer (some ⟨B, 0, none⟩), .pointer (some ⟨B, 0, none⟩), .pointer (some ⟨B, 6, none⟩), .map (some M), .pointer (some ⟨K, 0, none⟩), .int .i64 j, .agg L.toArray, undef], defers := [] } : Act) _
      refine take_one 7 rfl rfl (by kernel_rfl) ?_
      refine wp_mapput 80 (.tmp 23) (.tmp 25) (.tmp 26) rfl (.map (some M)) (.int .i64 j) (.agg L.toArray) rfl rfl rfl hput ?_
      refine ⟨⟨HFI.out.2, ⟨_, _, HFI.out.1.d.c⟩, HFI.out.1.k⟩, fun hH => ?_⟩
      exact wpAnyH_done (by kernel_rfl) ⟨rfl, rfl⟩ _
    case aft =>
      obtain ⟨rfl, rfl⟩ := hr
      clear hput HT HS
      have hrk := HFI.out.1.k.range
      have th := HFI.out.1.e.thereAt 0 2 (by simp)
      have on : (#[.int .i64 j, .bool false] : Array Value).all (·.oneCell') = true := one_we _ _
      go_wp2_with (first
        | refine wpList_load_mid rfl 59 _ rfl K 0 rfl [.int .i64 j, .bool false] _ hrk Try.underlying59 rfl infoWe ?_
        | refine wpList_store_mid rfl 59 _ _ rfl R 0 #[.int .i64 j, .bool false] rfl rfl th infoWe on ?_)
      have HE := dm_put (R := R) HFI.out.1.d HFI.out.1.m (fun g hg => by have := HM.out g ((own_eq HOWN.out g).1 hg); have := HRK.out; omega) (by have := HRK.out; omega) (by have := HLO.out; have := HRK.out; omega) [.int .i64 j, .bool false]
      have hs2 : (World.setCells V3 R 0 [.int .i64 j, .bool false]).rangeAt R 0 [.int .i64 j, .bool false] := World.rangeAt_setCells_same V3 _ 0 _ (by simpa using th)
      have hld := run_loadVar_mid (P := Try.prog) (World.setCells V3 R 0 [.int .i64 j, .bool false]) R 0 59 [.int .i64 j, .bool false] _ hs2 Try.underlying59 rfl infoWe
      refine bodyPost_ret (v := .tuple #[.agg #[.int .i64 j, .bool false], .int .i64 0]) ?_ rfl ⟨rfl, vc', by first | exact HE.1 | (rw [if_neg (by simp)]; exact HE.1), HOWN.out, HE.2⟩
      simp [results, Try.f20, asAddr, hld]
end
end Go.Proofs.Ytcpjmfemgdgplaa

/-
  A fault is put behind others: what put's one region does.
-/
namespace Go.Proofs.Ytcpjmfemgdgplaa
open Go.RowKit Go.Shelf
open Ge (pw rt hd ix)
attribute [local go_sem] Oper.semAt_some

theorem wp_sliceTo {P : Program} {o : Oper} {a : Act} {w : World} {K : Act → World → Prop} {Q : Exit → Act → World → Prop} (t e : TypeId) (len : Nat) (parts : Array (Nat × Operand)) (ho : o.op = .buildSlice t len parts)
    (hu : P.underlying t = some (.slice e)) (cells : Array Value) (hf : P.builtSlice e len (parts.map fun (i, x) => (i, a.eval x)).toList = some cells)
    (h : K (a.put o.dst (.slice (some ⟨w.heap.size, 0, none⟩) len len)) (w.alloc (.cells cells e))) : Oper.wp P o a w K Q := by
  unfold Program.builtSlice at hf
  cases hie : P.info? e with
  | none => simp [hie] at hf
  | some ie =>
    simp only [hie] at hf
    cases hz : ie.zero with
    | none => simp [hz] at hf
    | some z =>
      simp only [hz] at hf
      by_cases hc : len * ie.size > 2 ^ 24 ∨ len * ie.size = 0
      · simp [hc] at hf
      · rw [if_neg hc] at hf
        exact wp_buildSlice t e len parts ho cells ie z hu hie hz (fun h' => hc (Or.inl h')) (fun h' => hc (Or.inr h')) hf h
theorem wp_appendTo {P : Program} {o : Oper} {a : Act} {w w' : World} {K : Act → World → Prop} {Q : Exit → Act → World → Prop} (s x : Operand) (t : TypeId) (ho : o.op = .call { callee := .builtin .append, args := #[s, x], argTypes := #[t, t] })
    (vs vx v : Value) (hs : a.eval s = vs) (hx : a.eval x = vx) (hr : (Builtin.append_ #[t, t] o.type #[vs, vx]).run P w = .ok v w') (h : K (a.put o.dst v) w') : Oper.wp P o a w K Q := by
  unfold Oper.wp execOp
  simp only [ho, resolve, invoke, builtin, Sem.run_bind, Sem.run_pure, Result.andThen_ok, List.map_toArray, List.map_cons, List.map_nil, hs, hx, hr]
  exact h
theorem builtFl (k p q u v c x y : Int) : Try.prog.builtSlice 38 1 [(0, .agg #[.int .i64 k, .int .i64 p, .int .i64 q, .int .i64 u, .int .i64 v, .int .i64 c, .int .i64 x, .int .i64 y])] = some #[.int .i64 k, .int .i64 p, .int .i64 q, .int .i64 u, .int .i64 v, .int .i64 c, .int .i64 x, .int .i64 y] := by kernel_rfl
/-- a fault put behind those of an owned row, the block laid ahead of it and all -/
theorem append_one (lo l : Nat) (v0 : Value) (Z : Nat → Nat → Int) (k p q u v c x y : Int) (W : World) (ty : TypeId) (hl : l < 256) (hlo : lo ≤ W.heap.size) (h : W.ownsRow lo 38 8 v0 l (fcells12 l Z)) :
    ∃ v1 W', (Builtin.append_ #[45, 45] ty #[v0, .slice (some ⟨W.heap.size, 0, none⟩) 1 1]).run Try.prog (W.alloc (.cells #[.int .i64 k, .int .i64 p, .int .i64 q, .int .i64 u, .int .i64 v, .int .i64 c, .int .i64 x, .int .i64 y] 38)) = .ok v1 W' ∧
      W'.ownsRow lo 38 8 v1 (l + 1) (fcells12 (l + 1) (snZ Z l (ffn k p q u v c x y))) ∧ W.grownBy W' v0.ownBlock ∧ (v1.ownBlock = v0.ownBlock ∨ ∃ g, v1.ownBlock = some g ∧ W.heap.size < g) := by
  obtain ⟨i0, hi, hz0, hz1, hz2⟩ := info_three infoFl
  obtain ⟨V, hV⟩ : ∃ V, W.alloc (.cells #[.int .i64 k, .int .i64 p, .int .i64 q, .int .i64 u, .int .i64 v, .int .i64 c, .int .i64 x, .int .i64 y] 38) = V := ⟨_, rfl⟩
  have hF : Ft V W.heap.size k p q u v c x y := by rw [← hV]; exact Ft.new W k p q u v c x y _
  have hs : V.heap.size = W.heap.size + 1 := by rw [← hV]; simp
  have ho : V.ownsRow lo 38 8 v0 l (fcells12 l Z) := by rw [← hV]; exact h.alloc _
  have hg0 : W.grownBy V v0.ownBlock := by rw [← hV]; exact World.grownBy_alloc W _ _
  rw [hV]
  clear hV
  obtain ⟨v1, W', hr, h1, h2, _, h4⟩ := run_append_own_at (P := Try.prog) V lo 45 ty 38 i0 _ 8 64 Try.underlying45 hi hz0 hz1 hz2 rfl (by decide) v0 l (fcells12 l Z) ho ⟨W.heap.size, 0, none⟩ 1 1 (ints .i64 8 (ffn k p q u v c x y)) (by simp [ints_len]) (fun j w hj => by
    rw [Addr.add_lit, Nat.zero_add]
    have := hF.range j w hj
    rwa [Nat.zero_add] at this) (ints_one' .i64 8 _) (by unfold maxLen; omega) (by omega) (by omega)
  rw [fcells12_snoc] at h1
  refine ⟨v1, W', hr, h1, grown_trans hg0 h2, ?_⟩
  rcases h4 with h4 | h4
  · exact .inl h4
  · exact .inr ⟨_, h4, by omega⟩
end Go.Proofs.Ytcpjmfemgdgplaa

/-
  A fault is put behind others.
-/
namespace Go.Proofs.Ytcpjmfemgdgplaa
open Go.RowKit Go.Shelf
open Ge (pw rt hd ix)
attribute [local go_sem] Oper.semAt_some

theorem wp_store_slice {o : Oper} {a : Act} {w : World} {K : Act → World → Prop} {Q : Exit → Act → World → Prop} (x y : Operand) (ho : o.op = .store 45 x y) (b i : Nat) (hx : a.eval x = .pointer (some ⟨b, i, none⟩)) (z : Option Addr) (l c : Nat) (hy : a.eval y = .slice z l c)
    (old : Value) (hc : w.cell? ⟨b, i, none⟩ = some old) (hf : w.frozen? ⟨b, i, none⟩ = false) (h : K (a.put o.dst undef) (w.setCell ⟨b, i, none⟩ (.slice z l c))) : Oper.wp Try.prog o a w K Q := by
  unfold Oper.wp execOp
  simp only [ho, hx, hy]
  simp [go_sem, Oper.upon, hc, hf]
  exact h
theorem wp_loadc {o : Oper} {a : Act} {w : World} {K : Act → World → Prop} {Q : Exit → Act → World → Prop} (x : Operand) (ho : o.op = .load 45 x) (b i : Nat) (hx : a.eval x = .pointer (some ⟨b, i, none⟩)) (v : Value) (hc : w.cell? ⟨b, i, none⟩ = some v) (h : K (a.put o.dst v) w) : Oper.wp Try.prog o a w K Q := by
  unfold Oper.wp execOp
  simp only [ho, hx]
  simp [go_sem, Oper.upon, hc]
  exact h
theorem own_form {W : World} {lo l : Nat} {t : TypeId} {v : Value} {xs : List Value} (h : W.ownsRow lo t 8 v l xs) : ∃ a c, v = .slice a l c := by
  rcases h.2 with ⟨rfl, rfl⟩ | ⟨g, cap, cur, rfl, _⟩
  · exact ⟨none, 0, rfl⟩
  · exact ⟨_, cap, rfl⟩
set_option maxRecDepth 100000 in
set_option maxHeartbeats 4000000 in
theorem dPut_full (B f l : Nat) (a : Option Addr) (cap : Nat) (k p q u v c x y : Int) (hl : 256 ≤ l) (hl2 : l ≤ 256) (W : World) (hc : W.cell? ⟨B, f, none⟩ = some (.slice a l cap)) :
    Calls Try.prog 51 #[.pointer (some ⟨B, f, none⟩), .agg #[.int .i64 k, .int .i64 p, .int .i64 q, .int .i64 u, .int .i64 v, .int .i64 c, .int .i64 x, .int .i64 y]] W fun e w' => e = .returned (.int .i64 14) ∧ Below W.heap.size W w' := by
  obtain rfl : l = 256 := by omega
  go_enter Try.func51, Try.ntmps51
  go_upto_region 1 with (fail)
  obtain ⟨V, hV⟩ : ∃ V, W.alloc (.cells #[.int .i64 k, .int .i64 p, .int .i64 q, .int .i64 u, .int .i64 v, .int .i64 c, .int .i64 x, .int .i64 y] 38) = V := ⟨_, rfl⟩
  have HB : Hid (Below W.heap.size W V) := by rw [← hV]; exact (Below.refl _ W).alloc (Nat.le_refl _) _
  have c0 : V.cell? ⟨B, f, none⟩ = some (.slice a 256 cap) := by rw [← hV]; exact Lib.cell?_alloc_some _ hc
  rw [hV]
  clear hV hc
  go_wp2
  go_ret
  exact ⟨rfl, HB.out⟩
/-- at work in put -/
structure Pw (B C f l : Nat) (a : Option Addr) (cap : Nat) (D : List Value) (k p q u v c x y : Int) (W : World) : Prop where
  b : ∃ D' v', Cb W B D' ∧ D'[f]? = some v'
  f : Ft W C k p q u v c x y
set_option maxRecDepth 100000 in
set_option maxHeartbeats 4000000 in
theorem dPut_any (lo B f l : Nat) (v0 : Value) (Z : Nat → Nat → Int) (D : List Value) (k p q u v c x y : Int) (hl : l < 256) (W : World) (hc : Cb W B D) (hv : D[f]? = some v0) (ho : W.ownsRow lo 38 8 v0 l (fcells12 l Z)) (hne : v0.ownBlock ≠ some B) (hlo : lo ≤ B) :
    Calls Try.prog 51 #[.pointer (some ⟨B, f, none⟩), .agg #[.int .i64 k, .int .i64 p, .int .i64 q, .int .i64 u, .int .i64 v, .int .i64 c, .int .i64 x, .int .i64 y]] W fun e w' => e = .returned (.int .i64 0) ∧ ∃ v1, Cb w' B (D.set f v1) ∧ w'.ownsRow lo 38 8 v1 (l + 1) (fcells12 (l + 1) (snZ Z l (ffn k p q u v c x y))) ∧ (v1.ownBlock = v0.ownBlock ∨ ∃ g, v1.ownBlock = some g ∧ W.heap.size ≤ g) ∧ Below lo W w' ∧ ∀ j, j < W.heap.size → j ≠ B → v0.ownBlock ≠ some j → w'.heap[j]? = W.heap[j]? := by
  obtain ⟨a, cap, rfl⟩ := own_form ho
  have HD : Hid (Cb W B D ∧ D[f]? = some (.slice a l cap) ∧ W.ownsRow lo 38 8 (.slice a l cap) l (fcells12 l Z) ∧ (Value.slice a l cap).ownBlock ≠ some B ∧ lo ≤ B) := ⟨hc, hv, ho, hne, hlo⟩
  clear hc hv ho hne hlo
  have hbF := builtFl k p q u v c x y
  go_enter Try.func51, Try.ntmps51
  go_upto_region 1 with (fail)
  obtain ⟨C, hC⟩ : ∃ C, W.heap.size = C := ⟨_, rfl⟩
  obtain ⟨V, hV⟩ : ∃ V, W.alloc (.cells #[.int .i64 k, .int .i64 p, .int .i64 q, .int .i64 u, .int .i64 v, .int .i64 c, .int .i64 x, .int .i64 y] 38) = V := ⟨_, rfl⟩
  have HB : Hid (Below W.heap.size W V) := by rw [← hV]; exact (Below.refl _ W).alloc (Nat.le_refl _) _
  have HV : Hid (Cb V B D ∧ V.ownsRow lo 38 8 (.slice a l cap) l (fcells12 l Z) ∧ Ft V C k p q u v c x y) := by
    rw [← hV]
    refine ⟨HD.out.1.alloc _, HD.out.2.2.1.alloc _, ?_⟩
    rw [← hC]
    exact Ft.new W k p q u v c x y _
  have HVS : Hid (V.heap.size = C + 1) := by rw [← hV, ← hC]; simp [Hid]
  rw [hV, hC]
  clear hV
  have c0 := HV.out.1.cell HD.out.2.1
  have hlt : ¬ ((l : Int) ≥ 256) := by omega
  go_upto_region 3 with (fail)
  clear c0
  have HS : Hid (Pw B C f l a cap D k p q u v c x y V.drew ∧ V.drew.cell? ⟨B, f, none⟩ = some (.slice a l cap)) := ⟨⟨⟨D, _, HV.out.1, HD.out.2.1⟩, HV.out.2.2⟩, HV.out.1.cell HD.out.2.1⟩
  have hlo2 : lo ≤ V.drew.heap.size := by have := HD.out.1.lt; have := HD.out.2.2.2.2; have := HB.out.size; show lo ≤ V.heap.size; omega
  obtain ⟨v1, W2, hap, how, hgr, hloc⟩ := append_one lo l (.slice a l cap) Z k p q u v c x y V.drew 45 hl hlo2 HV.out.2.1
  obtain ⟨a1, cap1, rfl⟩ := own_form how
  have hBC : B < C := by rw [← hC]; exact HD.out.1.lt
  have hsz : V.drew.heap.size = C + 1 := by have := HV.out.2.2.lt; show V.heap.size = C + 1; exact HVS.out
  have hk : ∀ j, j < V.drew.heap.size → (Value.slice a l cap).ownBlock ≠ some j → W2.heap[j]? = V.heap[j]? := fun j h1 h2 => hgr.block j h1 (fun e => h2 e.symm)
  have hw2 : Cb W2 B D := HV.out.1.of (hk B (by omega) HD.out.2.2.2.1)
  have HC2 : Hid (∃ v', D[f]? = some v') := ⟨_, HD.out.2.1⟩
  obtain ⟨W3, hW3⟩ : ∃ W3, W2.setCell ⟨B, f, none⟩ (.slice a1 (l + 1) cap1) = W3 := ⟨_, rfl⟩
  have HF : Hid (Pw B C f l a cap D k p q u v c x y W3 ∧ Cb W3 B (D.set f (.slice a1 (l + 1) cap1)) ∧ W3.ownsRow lo 38 8 (.slice a1 (l + 1) cap1) (l + 1) (fcells12 (l + 1) (snZ Z l (ffn k p q u v c x y))) ∧ ((Value.slice a1 (l + 1) cap1).ownBlock = (Value.slice a l cap).ownBlock ∨ ∃ g, (Value.slice a1 (l + 1) cap1).ownBlock = some g ∧ W.heap.size ≤ g) ∧ Below lo W W3 ∧ ∀ j, j < W.heap.size → j ≠ B → (Value.slice a l cap).ownBlock ≠ some j → W3.heap[j]? = W.heap[j]?) := by
    have ho3 : ∀ j, j ≠ B → W3.heap[j]? = W2.heap[j]? := fun j hj => by rw [← hW3]; exact Below.heap_setCell W2 ⟨B, f, none⟩ _ j hj
    have hown : ∀ j, (Value.slice a l cap).ownBlock = some j → lo ≤ j ∧ j < W.heap.size := fun j e => HD.out.2.2.1.lt j e
    have h3 : Cb W3 B (D.set f (.slice a1 (l + 1) cap1)) := by rw [← hW3]; exact hw2.set f _
    have hCo : (Value.slice a l cap).ownBlock ≠ some C := fun e => by have := (hown C e).2; omega
    refine ⟨⟨⟨_, .slice a1 (l + 1) cap1, h3, by rw [List.getElem?_set_self (List.getElem?_eq_some_iff.1 HD.out.2.1).1]⟩, Bk.of HV.out.2.2 ((ho3 C (by omega)).trans (hk C (by omega) hCo))⟩, h3, own_kept how (fun g hg => ho3 g (fun e => ?_)), ?_, ?_, fun j h1 h2 h3 => ?_⟩
    · subst e
      rcases hloc with h | ⟨g2, h, h'⟩
      · exact HD.out.2.2.2.1 (by rw [← h, hg])
      · rw [hg] at h
        cases h
        omega
    · rcases hloc with h | ⟨g2, h, h'⟩
      · exact .inl h
      · exact .inr ⟨g2, h, by omega⟩
    · rw [← hW3]
      exact below_set12 HD.out.2.2.2.2 (below_grown7 ((HB.out.mono (by have := HD.out.1.lt; have := HD.out.2.2.2.2; omega)).trans (below_stay (Below.refl lo V) (Stay.drewN _ V 1) (by have := HD.out.1.lt; have := HD.out.2.2.2.2; have := HB.out.size; omega))) hgr (fun g e => (hown g e).1) hlo2)
    · exact (ho3 j h2).trans ((hk j (by omega) h3).trans (HB.out.block j h1))
  have HB2 : Hid (Cb W2 B D) := hw2
  have hF2 : Ft W2 C k p q u v c x y := Bk.of HV.out.2.2 (hk C (by omega) (fun e => by have := (HD.out.2.2.1.lt C e).2; omega))
  clear how hgr hloc hk hw2
  refine region_ends (by kernel_rfl) (fun W' => Ft W' C k p q u v c x y ∧ ∃ D' v', Cb W' B D' ∧ D'[f]? = some v') (fun a2 W' => a2 = ({ tmps := #[.pointer (some ⟨B, f, none⟩), .agg #[.int .i64 k, .int .i64 p, .int .i64 q, .int .i64 u, .int .i64 v, .int .i64 c, .int .i64 x, .int .i64 y], undef, .pointer (some ⟨C, 0, none⟩), .int .i64 0, .pointer (some ⟨B, f, none⟩), .pointer (some ⟨B, f, none⟩), .slice a l cap, .int .i64 (l : Int), .bool false, .pointer (some ⟨B, f, none⟩), .pointer (some ⟨B, f, none⟩), .pointer (some ⟨B, f, none⟩), .slice a l cap, .agg #[.int .i64 k, .int .i64 p, .int .i64 q, .int .i64 u, .int .i64 v, .int .i64 c, .int .i64 x, .int .i64 y], .slice (some ⟨V.drew.heap.size, 0, none⟩) 1 1, .slice a1 (l + 1) cap1, .pointer (some ⟨B, f, none⟩)], defers := [] } : Act) ∧ W' = W3) ⟨HS.out.1.f, HS.out.1.b⟩ (fun hH => ?reg) (fun a2 V3 hr => ?aft)
  case reg =>
    refine take_pure 0 (v := .pointer (some ⟨B, f, none⟩)) rfl (by kernel_rfl) rfl (fun w' hw => by simp [execOp, go_sem]) hH ?_
    show wpAnyH _ _ _ _ _ _ _ ({ tmps := #[.pointer (some ⟨B, f, none⟩), .agg #[.int .i64 k, .int .i64 p, .int .i64 q, .int .i64 u, .int .i64 v, .int .i64 c, .int .i64 x, .int .i64 y], undef, .pointer (some ⟨C, 0, none⟩), .int .i64 0, .pointer (some ⟨B, f, none⟩), .pointer (some ⟨B, f, none⟩), .slice a l cap, .int .i64 (l : Int), .bool false, .pointer (some ⟨B, f, none⟩), undef, undef, undef, undef, undef, undef, undef], defers := [] } : Act) _
    refine take_pure 1 (v := .pointer (some ⟨B, f, none⟩)) rfl (by kernel_rfl) rfl (fun w' hw => by simp [execOp, go_sem]) hH ?_
    show wpAnyH _ _ _ _ _ _ _ ({ tmps := #[.pointer (some ⟨B, f, none⟩), .agg #[.int .i64 k, .int .i64 p, .int .i64 q, .int .i64 u, .int .i64 v, .int .i64 c, .int .i64 x, .int .i64 y], undef, .pointer (some ⟨C, 0, none⟩), .int .i64 0, .pointer (some ⟨B, f, none⟩), .pointer (some ⟨B, f, none⟩), .slice a l cap, .int .i64 (l : Int), .bool false, .pointer (some ⟨B, f, none⟩), .pointer (some ⟨B, f, none⟩), undef, undef, undef, undef, undef, undef], defers := [] } : Act) _
    refine take_pure 2 (v := .pointer (some ⟨B, f, none⟩)) rfl (by kernel_rfl) rfl (fun w' hw => by simp [execOp, go_sem]) hH ?_
    show wpAnyH _ _ _ _ _ _ _ ({ tmps := #[.pointer (some ⟨B, f, none⟩), .agg #[.int .i64 k, .int .i64 p, .int .i64 q, .int .i64 u, .int .i64 v, .int .i64 c, .int .i64 x, .int .i64 y], undef, .pointer (some ⟨C, 0, none⟩), .int .i64 0, .pointer (some ⟨B, f, none⟩), .pointer (some ⟨B, f, none⟩), .slice a l cap, .int .i64 (l : Int), .bool false, .pointer (some ⟨B, f, none⟩), .pointer (some ⟨B, f, none⟩), .pointer (some ⟨B, f, none⟩), undef, undef, undef, undef, undef], defers := [] } : Act) _
    refine take_pure 4 (v := .agg #[.int .i64 k, .int .i64 p, .int .i64 q, .int .i64 u, .int .i64 v, .int .i64 c, .int .i64 x, .int .i64 y]) rfl (by kernel_rfl) rfl (fun w' hw => exec_range 38 (.tmp 3) rfl C 0 rfl [.int .i64 k, .int .i64 p, .int .i64 q, .int .i64 u, .int .i64 v, .int .i64 c, .int .i64 x, .int .i64 y] _ hw.1.range Try.underlying38 rfl infoFt) hH ?_
    show wpAnyH _ _ _ _ _ _ _ ({ tmps := #[.pointer (some ⟨B, f, none⟩), .agg #[.int .i64 k, .int .i64 p, .int .i64 q, .int .i64 u, .int .i64 v, .int .i64 c, .int .i64 x, .int .i64 y], undef, .pointer (some ⟨C, 0, none⟩), .int .i64 0, .pointer (some ⟨B, f, none⟩), .pointer (some ⟨B, f, none⟩), .slice a l cap, .int .i64 (l : Int), .bool false, .pointer (some ⟨B, f, none⟩), .pointer (some ⟨B, f, none⟩), .pointer (some ⟨B, f, none⟩), undef, .agg #[.int .i64 k, .int .i64 p, .int .i64 q, .int .i64 u, .int .i64 v, .int .i64 c, .int .i64 x, .int .i64 y], undef, undef, undef], defers := [] } : Act) _
    refine take_two 3 5 rfl rfl rfl rfl (by kernel_rfl) ?_ ?_
    · refine wp_loadc (.tmp 12) rfl B f rfl (.slice a l cap) (HS.out.2) ?_
      refine ⟨hH, fun hH => ?_⟩
      show wpAnyH _ _ _ _ _ _ _ ({ tmps := #[.pointer (some ⟨B, f, none⟩), .agg #[.int .i64 k, .int .i64 p, .int .i64 q, .int .i64 u, .int .i64 v, .int .i64 c, .int .i64 x, .int .i64 y], undef, .pointer (some ⟨C, 0, none⟩), .int .i64 0, .pointer (some ⟨B, f, none⟩), .pointer (some ⟨B, f, none⟩), .slice a l cap, .int .i64 (l : Int), .bool false, .pointer (some ⟨B, f, none⟩), .pointer (some ⟨B, f, none⟩), .pointer (some ⟨B, f, none⟩), .slice a l cap, .agg #[.int .i64 k, .int .i64 p, .int .i64 q, .int .i64 u, .int .i64 v, .int .i64 c, .int .i64 x, .int .i64 y], undef, undef, undef], defers := [] } : Act) _
      refine take_one 5 rfl rfl (by kernel_rfl) ?_
      refine wp_sliceTo 45 38 1 #[(0, .tmp 14)] rfl Try.underlying45 #[.int .i64 k, .int .i64 p, .int .i64 q, .int .i64 u, .int .i64 v, .int .i64 c, .int .i64 x, .int .i64 y] (by simpa [Act.eval] using hbF) ?_
      refine ⟨⟨hH.1.next ((Below.refl _ _).alloc (Nat.le_refl _) _), (let ⟨D', v', x, y⟩ := hH.2; ⟨D', v', x.alloc _, y⟩)⟩, fun hH => ?_⟩
      show wpAnyH _ _ _ _ _ _ _ ({ tmps := #[.pointer (some ⟨B, f, none⟩), .agg #[.int .i64 k, .int .i64 p, .int .i64 q, .int .i64 u, .int .i64 v, .int .i64 c, .int .i64 x, .int .i64 y], undef, .pointer (some ⟨C, 0, none⟩), .int .i64 0, .pointer (some ⟨B, f, none⟩), .pointer (some ⟨B, f, none⟩), .slice a l cap, .int .i64 (l : Int), .bool false, .pointer (some ⟨B, f, none⟩), .pointer (some ⟨B, f, none⟩), .pointer (some ⟨B, f, none⟩), .slice a l cap, .agg #[.int .i64 k, .int .i64 p, .int .i64 q, .int .i64 u, .int .i64 v, .int .i64 c, .int .i64 x, .int .i64 y], .slice (some ⟨V.drew.heap.size, 0, none⟩) 1 1, undef, undef], defers := [] } : Act) _
      refine take_one 6 rfl rfl (by kernel_rfl) ?_
      refine wp_appendTo (.tmp 13) (.tmp 15) 45 rfl (.slice a l cap) (.slice (some ⟨V.drew.heap.size, 0, none⟩) 1 1) (.slice a1 (l + 1) cap1) rfl rfl hap ?_
      refine ⟨⟨hF2, ⟨_, _, HB2.out, HC2.out.choose_spec⟩⟩, fun hH => ?_⟩
      show wpAnyH _ _ _ _ _ _ _ ({ tmps := #[.pointer (some ⟨B, f, none⟩), .agg #[.int .i64 k, .int .i64 p, .int .i64 q, .int .i64 u, .int .i64 v, .int .i64 c, .int .i64 x, .int .i64 y], undef, .pointer (some ⟨C, 0, none⟩), .int .i64 0, .pointer (some ⟨B, f, none⟩), .pointer (some ⟨B, f, none⟩), .slice a l cap, .int .i64 (l : Int), .bool false, .pointer (some ⟨B, f, none⟩), .pointer (some ⟨B, f, none⟩), .pointer (some ⟨B, f, none⟩), .slice a l cap, .agg #[.int .i64 k, .int .i64 p, .int .i64 q, .int .i64 u, .int .i64 v, .int .i64 c, .int .i64 x, .int .i64 y], .slice (some ⟨V.drew.heap.size, 0, none⟩) 1 1, .slice a1 (l + 1) cap1, undef], defers := [] } : Act) _
      refine take_pure 7 (v := .pointer (some ⟨B, f, none⟩)) rfl (by kernel_rfl) rfl (fun w' hw => by simp [execOp, go_sem]) hH ?_
      show wpAnyH _ _ _ _ _ _ _ ({ tmps := #[.pointer (some ⟨B, f, none⟩), .agg #[.int .i64 k, .int .i64 p, .int .i64 q, .int .i64 u, .int .i64 v, .int .i64 c, .int .i64 x, .int .i64 y], undef, .pointer (some ⟨C, 0, none⟩), .int .i64 0, .pointer (some ⟨B, f, none⟩), .pointer (some ⟨B, f, none⟩), .slice a l cap, .int .i64 (l : Int), .bool false, .pointer (some ⟨B, f, none⟩), .pointer (some ⟨B, f, none⟩), .pointer (some ⟨B, f, none⟩), .slice a l cap, .agg #[.int .i64 k, .int .i64 p, .int .i64 q, .int .i64 u, .int .i64 v, .int .i64 c, .int .i64 x, .int .i64 y], .slice (some ⟨V.drew.heap.size, 0, none⟩) 1 1, .slice a1 (l + 1) cap1, .pointer (some ⟨B, f, none⟩)], defers := [] } : Act) _
      refine take_one 8 rfl rfl (by kernel_rfl) ?_
      refine wp_store_slice (.tmp 17) (.tmp 16) rfl B f rfl a1 (l + 1) cap1 rfl _ (HB2.out.cell HC2.out.choose_spec) (HB2.out.free f) ?_
      rw [hW3]
      refine ⟨⟨HF.out.1.f, HF.out.1.b⟩, fun hH => ?_⟩
      show wpAnyH _ _ _ _ _ _ _ ({ tmps := #[.pointer (some ⟨B, f, none⟩), .agg #[.int .i64 k, .int .i64 p, .int .i64 q, .int .i64 u, .int .i64 v, .int .i64 c, .int .i64 x, .int .i64 y], undef, .pointer (some ⟨C, 0, none⟩), .int .i64 0, .pointer (some ⟨B, f, none⟩), .pointer (some ⟨B, f, none⟩), .slice a l cap, .int .i64 (l : Int), .bool false, .pointer (some ⟨B, f, none⟩), .pointer (some ⟨B, f, none⟩), .pointer (some ⟨B, f, none⟩), .slice a l cap, .agg #[.int .i64 k, .int .i64 p, .int .i64 q, .int .i64 u, .int .i64 v, .int .i64 c, .int .i64 x, .int .i64 y], .slice (some ⟨V.drew.heap.size, 0, none⟩) 1 1, .slice a1 (l + 1) cap1, .pointer (some ⟨B, f, none⟩)], defers := [] } : Act) _
      exact wpAnyH_done (by kernel_rfl) ⟨rfl, rfl⟩ _
    · refine wp_sliceTo 45 38 1 #[(0, .tmp 14)] rfl Try.underlying45 #[.int .i64 k, .int .i64 p, .int .i64 q, .int .i64 u, .int .i64 v, .int .i64 c, .int .i64 x, .int .i64 y] (by simpa [Act.eval] using hbF) ?_
      refine ⟨⟨hH.1.next ((Below.refl _ _).alloc (Nat.le_refl _) _), (let ⟨D', v', x, y⟩ := hH.2; ⟨D', v', x.alloc _, y⟩)⟩, fun hH => ?_⟩
      show wpAnyH _ _ _ _ _ _ _ ({ tmps := #[.pointer (some ⟨B, f, none⟩), .agg #[.int .i64 k, .int .i64 p, .int .i64 q, .int .i64 u, .int .i64 v, .int .i64 c, .int .i64 x, .int .i64 y], undef, .pointer (some ⟨C, 0, none⟩), .int .i64 0, .pointer (some ⟨B, f, none⟩), .pointer (some ⟨B, f, none⟩), .slice a l cap, .int .i64 (l : Int), .bool false, .pointer (some ⟨B, f, none⟩), .pointer (some ⟨B, f, none⟩), .pointer (some ⟨B, f, none⟩), undef, .agg #[.int .i64 k, .int .i64 p, .int .i64 q, .int .i64 u, .int .i64 v, .int .i64 c, .int .i64 x, .int .i64 y], .slice (some ⟨V.drew.heap.size, 0, none⟩) 1 1, undef, undef], defers := [] } : Act) _
      refine take_one 3 rfl rfl (by kernel_rfl) ?_
      refine wp_loadc (.tmp 12) rfl B f rfl (.slice a l cap) (Lib.cell?_alloc_some _ HS.out.2) ?_
      refine ⟨hH, fun hH => ?_⟩
      show wpAnyH _ _ _ _ _ _ _ ({ tmps := #[.pointer (some ⟨B, f, none⟩), .agg #[.int .i64 k, .int .i64 p, .int .i64 q, .int .i64 u, .int .i64 v, .int .i64 c, .int .i64 x, .int .i64 y], undef, .pointer (some ⟨C, 0, none⟩), .int .i64 0, .pointer (some ⟨B, f, none⟩), .pointer (some ⟨B, f, none⟩), .slice a l cap, .int .i64 (l : Int), .bool false, .pointer (some ⟨B, f, none⟩), .pointer (some ⟨B, f, none⟩), .pointer (some ⟨B, f, none⟩), .slice a l cap, .agg #[.int .i64 k, .int .i64 p, .int .i64 q, .int .i64 u, .int .i64 v, .int .i64 c, .int .i64 x, .int .i64 y], .slice (some ⟨V.drew.heap.size, 0, none⟩) 1 1, undef, undef], defers := [] } : Act) _
      refine take_one 6 rfl rfl (by kernel_rfl) ?_
      refine wp_appendTo (.tmp 13) (.tmp 15) 45 rfl (.slice a l cap) (.slice (some ⟨V.drew.heap.size, 0, none⟩) 1 1) (.slice a1 (l + 1) cap1) rfl rfl hap ?_
      refine ⟨⟨hF2, ⟨_, _, HB2.out, HC2.out.choose_spec⟩⟩, fun hH => ?_⟩
      show wpAnyH _ _ _ _ _ _ _ ({ tmps := #[.pointer (some ⟨B, f, none⟩), .agg #[.int .i64 k, .int .i64 p, .int .i64 q, .int .i64 u, .int .i64 v, .int .i64 c, .int .i64 x, .int .i64 y], undef, .pointer (some ⟨C, 0, none⟩), .int .i64 0, .pointer (some ⟨B, f, none⟩), .pointer (some ⟨B, f, none⟩), .slice a l cap, .int .i64 (l : Int), .bool false, .pointer (some ⟨B, f, none⟩), .pointer (some ⟨B, f, none⟩), .pointer (some ⟨B, f, none⟩), .slice a l cap, .agg #[.int .i64 k, .int .i64 p, .int .i64 q, .int .i64 u, .int .i64 v, .int .i64 c, .int .i64 x, .int .i64 y], .slice (some ⟨V.drew.heap.size, 0, none⟩) 1 1, .slice a1 (l + 1) cap1, undef], defers := [] } : Act) _
      refine take_pure 7 (v := .pointer (some ⟨B, f, none⟩)) rfl (by kernel_rfl) rfl (fun w' hw => by simp [execOp, go_sem]) hH ?_
      show wpAnyH _ _ _ _ _ _ _ ({ tmps := #[.pointer (some ⟨B, f, none⟩), .agg #[.int .i64 k, .int .i64 p, .int .i64 q, .int .i64 u, .int .i64 v, .int .i64 c, .int .i64 x, .int .i64 y], undef, .pointer (some ⟨C, 0, none⟩), .int .i64 0, .pointer (some ⟨B, f, none⟩), .pointer (some ⟨B, f, none⟩), .slice a l cap, .int .i64 (l : Int), .bool false, .pointer (some ⟨B, f, none⟩), .pointer (some ⟨B, f, none⟩), .pointer (some ⟨B, f, none⟩), .slice a l cap, .agg #[.int .i64 k, .int .i64 p, .int .i64 q, .int .i64 u, .int .i64 v, .int .i64 c, .int .i64 x, .int .i64 y], .slice (some ⟨V.drew.heap.size, 0, none⟩) 1 1, .slice a1 (l + 1) cap1, .pointer (some ⟨B, f, none⟩)], defers := [] } : Act) _
      refine take_one 8 rfl rfl (by kernel_rfl) ?_
      refine wp_store_slice (.tmp 17) (.tmp 16) rfl B f rfl a1 (l + 1) cap1 rfl _ (HB2.out.cell HC2.out.choose_spec) (HB2.out.free f) ?_
      rw [hW3]
      refine ⟨⟨HF.out.1.f, HF.out.1.b⟩, fun hH => ?_⟩
      show wpAnyH _ _ _ _ _ _ _ ({ tmps := #[.pointer (some ⟨B, f, none⟩), .agg #[.int .i64 k, .int .i64 p, .int .i64 q, .int .i64 u, .int .i64 v, .int .i64 c, .int .i64 x, .int .i64 y], undef, .pointer (some ⟨C, 0, none⟩), .int .i64 0, .pointer (some ⟨B, f, none⟩), .pointer (some ⟨B, f, none⟩), .slice a l cap, .int .i64 (l : Int), .bool false, .pointer (some ⟨B, f, none⟩), .pointer (some ⟨B, f, none⟩), .pointer (some ⟨B, f, none⟩), .slice a l cap, .agg #[.int .i64 k, .int .i64 p, .int .i64 q, .int .i64 u, .int .i64 v, .int .i64 c, .int .i64 x, .int .i64 y], .slice (some ⟨V.drew.heap.size, 0, none⟩) 1 1, .slice a1 (l + 1) cap1, .pointer (some ⟨B, f, none⟩)], defers := [] } : Act) _
      exact wpAnyH_done (by kernel_rfl) ⟨rfl, rfl⟩ _
  case aft =>
    obtain ⟨rfl, rfl⟩ := hr
    clear hap HS
    rw [hC] at HF
    go_wp2
    go_ret
    exact ⟨rfl, _, HF.out.2.1, HF.out.2.2.1, HF.out.2.2.2.1, HF.out.2.2.2.2.1, HF.out.2.2.2.2.2⟩
end Go.Proofs.Ytcpjmfemgdgplaa

/-
  A bit that is stored is turned.
-/
namespace Go.Proofs.Ytcpjmfemgdgplaa
open Go.RowKit Go.Shelf
open Ge (pw rt hd ix)
attribute [local go_sem] Oper.semAt_some

theorem wp_known1 {P : Program} {o : Oper} {a : Act} {w : World} {K : Act → World → Prop} {Q : Exit → Act → World → Prop} (v : Value) (hx : (execOp a.eval o).run P w = .ok (.value v) w) (h : K (a.put o.dst v) w) : Oper.wp P o a w K Q := by
  unfold Oper.wp
  rw [hx]
  exact h
theorem flR_byt (F : Nat → Int) (hF : Byts 72 F) (i : Nat) : Byts 72 (flR F i) := by
  intro j hj
  rw [flR_at F hF i j hj]
  have h1 := hF j hj
  split
  · have h2 : (F j).toNat < 2 ^ 8 := by omega
    have h3 : 2 ^ (i % 8) < 2 ^ 8 := Nat.pow_lt_pow_right (by omega) (by omega)
    have := Nat.xor_lt_two_pow h2 h3
    omega
  · exact h1
section
variable {W : World} {lo B M R : Nat} {r s b o d m : Int} {n : Nat} {G : Int → Nat → Int} {vb vc : Value} {l1 l2 : Nat} {Y Z : Nat → Nat → Int}
set_option maxRecDepth 100000 in
set_option maxHeartbeats 4000000 in
theorem dFlip_any (h : Dm W lo B M r s b o d m n G vb l1 Y vc l2 Z) (k p q u v c : Int) (x : Nat) (y : Int) (hx : x < 576) (hn : n < 1000000) (hh : hd r s b o d p q u v = true) :
    Calls Try.prog 50 #[.pointer (some ⟨B, 0, none⟩), .agg #[.int .i64 k, .int .i64 p, .int .i64 q, .int .i64 u, .int .i64 v, .int .i64 c, .int .i64 (x : Int), .int .i64 y]] W fun e w' => e = .returned (.tuple #[]) ∧ Dm w' lo B M r s b o d m (n + 1) (gput G (ix p q u v) (flR (G (ix p q u v)) x)) vb l1 Y vc l2 Z ∧ Mv lo (mine B M vb vc) W w' := by
  have CI : Hid (∀ w, Below W.heap.size W w → Calls Try.prog 74 #[.pointer (some ⟨B, 0, none⟩), .agg #[.int .i64 k, .int .i64 p, .int .i64 q, .int .i64 u, .int .i64 v, .int .i64 c, .int .i64 (x : Int), .int .i64 y]] w fun e w' => e = .returned (.int .i64 (ix p q u v)) ∧ Below w.heap.size w w') := fun w hw => dIndexOf_any (h.next hw) k p q u v c x y hh
  have HX : Hid (x < 576) := hx
  have hwx : I64 (ix p q u v) := hx_i64 (hx_ix hh)
  obtain ⟨z, hz⟩ : ∃ z, ix p q u v = z := ⟨_, rfl⟩
  rw [hz] at hwx
  rw [hz] at CI ⊢
  have CF : Hid (∀ w : World, Calls Try.prog 33 #[.agg (ints .u8 72 (G z)).toArray, .int .i64 (x : Int)] w fun e w' => e = .returned (.agg (ints .u8 72 (flR (G z) x)).toArray) ∧ Below w.heap.size w w') := fun w => flipR_yes (G z) (h.by_ z) x hx w
  have HFF : Hid (Byts 72 (flR (G z) x)) := flR_byt _ (h.by_ z) x
  obtain ⟨F3, hF3⟩ : ∃ F, flR (G z) x = F := ⟨_, rfl⟩
  rw [hF3] at CF HFF ⊢
  obtain ⟨L3, hL3⟩ : ∃ L, ints .u8 72 F3 = L := ⟨_, rfl⟩
  obtain ⟨L2, hL2⟩ : ∃ L, ints .u8 72 (G z) = L := ⟨_, rfl⟩
  have HLK : Hid (∀ W', MpAt W' M n G → (Instr.lookup 80 (.map (some M)) (.int .i64 z) false).run Try.prog W' = .ok (.agg L2.toArray) W') := fun W' h' => by rw [← hL2]; exact h'.look hwx
  have HP : Hid (∀ W', MpAt W' M n G → ∃ W2, (Instr.mapUpdate 80 (.map (some M)) (.int .i64 z) (.agg L3.toArray)).run Try.prog W' = .ok () W2 ∧ MpAt W2 M (n + 1) (gput G z F3) ∧ W'.grownBy W2 (some M)) := fun W' h' => by rw [← hL3]; exact h'.put hwx (by unfold maxLen; omega) F3
  rw [hL2, hL3] at CF
  have HD : Hid (Dm W lo B M r s b o d m n G vb l1 Y vc l2 Z) := h
  clear hL2 hL3 hF3 hwx hz h hx hn hh
  go_enter Try.func50, Try.ntmps50
  go_upto_region 1 with (fail)
  obtain ⟨C, hC⟩ : ∃ C, W.heap.size = C := ⟨_, rfl⟩
  obtain ⟨V, hV⟩ : ∃ V, W.alloc (.cells #[.int .i64 k, .int .i64 p, .int .i64 q, .int .i64 u, .int .i64 v, .int .i64 c, .int .i64 (x : Int), .int .i64 y] 38) = V := ⟨_, rfl⟩
  have HS : Hid (Fa lo B M r s b o d m n G vb l1 Y vc l2 Z C k p q u v c x y W V) := by
    have b1 : Below W.heap.size W V := by rw [← hV]; exact (Below.refl _ W).alloc (Nat.le_refl _) _
    refine ⟨HD.out.next b1, ?_, b1⟩
    rw [← hV, ← hC]
    exact Ft.new W k p q u v c x y _
  have HCM : Hid (∀ g, mine B M vb vc g → g < C) := fun g hg => by rw [← hC]; exact (HD.out.mine_lt g hg).2
  rw [hV, hC]
  clear hV
  have hr := HS.out.f.range
  go_wp2_with (first | refine wpList_load_mid rfl 38 _ rfl C 0 rfl [.int .i64 k, .int .i64 p, .int .i64 q, .int .i64 u, .int .i64 v, .int .i64 c, .int .i64 (x : Int), .int .i64 y] _ hr Try.underlying38 rfl infoFt ?_)
  refine (CI.out _ HS.out.n).mono ?_
  rintro e W1 ⟨rfl, b1⟩
  replace HS : Hid (Fa lo B M r s b o d m n G vb l1 Y vc l2 Z C k p q u v c x y W W1) := HS.out.next b1
  clear hr b1 CI
  go_upto_region 2 with (fail)
  refine region_ends (by kernel_rfl) (fun W' => Ft W' C k p q u v c x y ∧ ∃ vb vc, Cb W' B (dl r s b o d m (.map (some M)) vb vc)) (fun a2 W' => a2 = ({ tmps := #[.pointer (some ⟨B, 0, none⟩), .agg #[.int .i64 k, .int .i64 p, .int .i64 q, .int .i64 u, .int .i64 v, .int .i64 c, .int .i64 (x : Int), .int .i64 y], undef, .pointer (some ⟨C, 0, none⟩), .int .i64 z, .pointer (some ⟨B, 0, none⟩), .agg #[.int .i64 k, .int .i64 p, .int .i64 q, .int .i64 u, .int .i64 v, .int .i64 c, .int .i64 (x : Int), .int .i64 y], .int .i64 z, .pointer (some ⟨B, 0, none⟩), .pointer (some ⟨B, 0, none⟩), .pointer (some ⟨B, 6, none⟩), .map (some M), .int .i64 z, .pointer (some ⟨B, 0, none⟩), .pointer (some ⟨B, 0, none⟩), .pointer (some ⟨B, 6, none⟩), .map (some M), .int .i64 z, .agg L2.toArray, .pointer (some ⟨C, 6, none⟩), .int .i64 (x : Int), .agg L3.toArray], defers := [] } : Act) ∧ Dm W' lo B M r s b o d m (n + 1) (gput G z F3) vb l1 Y vc l2 Z ∧ Mv lo (mine B M vb vc) W W') ⟨(HS.out.next (below_drew1 _)).f, _, _, (HS.out.next (below_drew1 _)).d.c⟩ (fun hH => ?reg) (fun a2 V3 hr => ?aft)
  case reg =>
    refine take_pure 0 (v := .pointer (some ⟨B, 0, none⟩)) rfl (by kernel_rfl) rfl (fun w' hw => by simp [execOp, go_sem]) hH ?_
    show wpAnyH _ _ _ _ _ _ _ ({ tmps := #[.pointer (some ⟨B, 0, none⟩), .agg #[.int .i64 k, .int .i64 p, .int .i64 q, .int .i64 u, .int .i64 v, .int .i64 c, .int .i64 (x : Int), .int .i64 y], undef, .pointer (some ⟨C, 0, none⟩), .int .i64 z, .pointer (some ⟨B, 0, none⟩), .agg #[.int .i64 k, .int .i64 p, .int .i64 q, .int .i64 u, .int .i64 v, .int .i64 c, .int .i64 (x : Int), .int .i64 y], .int .i64 z, .pointer (some ⟨B, 0, none⟩), undef, undef, undef, undef, undef, undef, undef, undef, undef, undef, undef, undef, undef], defers := [] } : Act) _
    refine take_pure 1 (v := .pointer (some ⟨B, 0, none⟩)) rfl (by kernel_rfl) rfl (fun w' hw => by simp [execOp, go_sem]) hH ?_
    show wpAnyH _ _ _ _ _ _ _ ({ tmps := #[.pointer (some ⟨B, 0, none⟩), .agg #[.int .i64 k, .int .i64 p, .int .i64 q, .int .i64 u, .int .i64 v, .int .i64 c, .int .i64 (x : Int), .int .i64 y], undef, .pointer (some ⟨C, 0, none⟩), .int .i64 z, .pointer (some ⟨B, 0, none⟩), .agg #[.int .i64 k, .int .i64 p, .int .i64 q, .int .i64 u, .int .i64 v, .int .i64 c, .int .i64 (x : Int), .int .i64 y], .int .i64 z, .pointer (some ⟨B, 0, none⟩), .pointer (some ⟨B, 0, none⟩), undef, undef, undef, undef, undef, undef, undef, undef, undef, undef, undef, undef], defers := [] } : Act) _
    refine take_pure 2 (v := .pointer (some ⟨B, 6, none⟩)) rfl (by kernel_rfl) rfl (fun w' hw => by simp [execOp, go_sem]) hH ?_
    show wpAnyH _ _ _ _ _ _ _ ({ tmps := #[.pointer (some ⟨B, 0, none⟩), .agg #[.int .i64 k, .int .i64 p, .int .i64 q, .int .i64 u, .int .i64 v, .int .i64 c, .int .i64 (x : Int), .int .i64 y], undef, .pointer (some ⟨C, 0, none⟩), .int .i64 z, .pointer (some ⟨B, 0, none⟩), .agg #[.int .i64 k, .int .i64 p, .int .i64 q, .int .i64 u, .int .i64 v, .int .i64 c, .int .i64 (x : Int), .int .i64 y], .int .i64 z, .pointer (some ⟨B, 0, none⟩), .pointer (some ⟨B, 0, none⟩), .pointer (some ⟨B, 6, none⟩), undef, undef, undef, undef, undef, undef, undef, undef, undef, undef, undef], defers := [] } : Act) _
    refine take_pure 3 (v := .map (some M)) rfl (by kernel_rfl) rfl (fun w' hw => by obtain ⟨_, _, hc⟩ := hw.2; simp [execOp, go_sem, hc.cell (i := 6) rfl]) hH ?_
    show wpAnyH _ _ _ _ _ _ _ ({ tmps := #[.pointer (some ⟨B, 0, none⟩), .agg #[.int .i64 k, .int .i64 p, .int .i64 q, .int .i64 u, .int .i64 v, .int .i64 c, .int .i64 (x : Int), .int .i64 y], undef, .pointer (some ⟨C, 0, none⟩), .int .i64 z, .pointer (some ⟨B, 0, none⟩), .agg #[.int .i64 k, .int .i64 p, .int .i64 q, .int .i64 u, .int .i64 v, .int .i64 c, .int .i64 (x : Int), .int .i64 y], .int .i64 z, .pointer (some ⟨B, 0, none⟩), .pointer (some ⟨B, 0, none⟩), .pointer (some ⟨B, 6, none⟩), .map (some M), undef, undef, undef, undef, undef, undef, undef, undef, undef, undef], defers := [] } : Act) _
    refine take_pure 4 (v := .int .i64 z) rfl (by kernel_rfl) rfl (fun w' hw => by simp [execOp, go_sem]) hH ?_
    show wpAnyH _ _ _ _ _ _ _ ({ tmps := #[.pointer (some ⟨B, 0, none⟩), .agg #[.int .i64 k, .int .i64 p, .int .i64 q, .int .i64 u, .int .i64 v, .int .i64 c, .int .i64 (x : Int), .int .i64 y], undef, .pointer (some ⟨C, 0, none⟩), .int .i64 z, .pointer (some ⟨B, 0, none⟩), .agg #[.int .i64 k, .int .i64 p, .int .i64 q, .int .i64 u, .int .i64 v, .int .i64 c, .int .i64 (x : Int), .int .i64 y], .int .i64 z, .pointer (some ⟨B, 0, none⟩), .pointer (some ⟨B, 0, none⟩), .pointer (some ⟨B, 6, none⟩), .map (some M), .int .i64 z, undef, undef, undef, undef, undef, undef, undef, undef, undef], defers := [] } : Act) _
    refine take_pure 5 (v := .pointer (some ⟨B, 0, none⟩)) rfl (by kernel_rfl) rfl (fun w' hw => by simp [execOp, go_sem]) hH ?_
    show wpAnyH _ _ _ _ _ _ _ ({ tmps := #[.pointer (some ⟨B, 0, none⟩), .agg #[.int .i64 k, .int .i64 p, .int .i64 q, .int .i64 u, .int .i64 v, .int .i64 c, .int .i64 (x : Int), .int .i64 y], undef, .pointer (some ⟨C, 0, none⟩), .int .i64 z, .pointer (some ⟨B, 0, none⟩), .agg #[.int .i64 k, .int .i64 p, .int .i64 q, .int .i64 u, .int .i64 v, .int .i64 c, .int .i64 (x : Int), .int .i64 y], .int .i64 z, .pointer (some ⟨B, 0, none⟩), .pointer (some ⟨B, 0, none⟩), .pointer (some ⟨B, 6, none⟩), .map (some M), .int .i64 z, .pointer (some ⟨B, 0, none⟩), undef, undef, undef, undef, undef, undef, undef, undef], defers := [] } : Act) _
    refine take_pure 6 (v := .pointer (some ⟨B, 0, none⟩)) rfl (by kernel_rfl) rfl (fun w' hw => by simp [execOp, go_sem]) hH ?_
    show wpAnyH _ _ _ _ _ _ _ ({ tmps := #[.pointer (some ⟨B, 0, none⟩), .agg #[.int .i64 k, .int .i64 p, .int .i64 q, .int .i64 u, .int .i64 v, .int .i64 c, .int .i64 (x : Int), .int .i64 y], undef, .pointer (some ⟨C, 0, none⟩), .int .i64 z, .pointer (some ⟨B, 0, none⟩), .agg #[.int .i64 k, .int .i64 p, .int .i64 q, .int .i64 u, .int .i64 v, .int .i64 c, .int .i64 (x : Int), .int .i64 y], .int .i64 z, .pointer (some ⟨B, 0, none⟩), .pointer (some ⟨B, 0, none⟩), .pointer (some ⟨B, 6, none⟩), .map (some M), .int .i64 z, .pointer (some ⟨B, 0, none⟩), .pointer (some ⟨B, 0, none⟩), undef, undef, undef, undef, undef, undef, undef], defers := [] } : Act) _
    refine take_pure 7 (v := .pointer (some ⟨B, 6, none⟩)) rfl (by kernel_rfl) rfl (fun w' hw => by simp [execOp, go_sem]) hH ?_
    show wpAnyH _ _ _ _ _ _ _ ({ tmps := #[.pointer (some ⟨B, 0, none⟩), .agg #[.int .i64 k, .int .i64 p, .int .i64 q, .int .i64 u, .int .i64 v, .int .i64 c, .int .i64 (x : Int), .int .i64 y], undef, .pointer (some ⟨C, 0, none⟩), .int .i64 z, .pointer (some ⟨B, 0, none⟩), .agg #[.int .i64 k, .int .i64 p, .int .i64 q, .int .i64 u, .int .i64 v, .int .i64 c, .int .i64 (x : Int), .int .i64 y], .int .i64 z, .pointer (some ⟨B, 0, none⟩), .pointer (some ⟨B, 0, none⟩), .pointer (some ⟨B, 6, none⟩), .map (some M), .int .i64 z, .pointer (some ⟨B, 0, none⟩), .pointer (some ⟨B, 0, none⟩), .pointer (some ⟨B, 6, none⟩), undef, undef, undef, undef, undef, undef], defers := [] } : Act) _
    refine take_pure 8 (v := .map (some M)) rfl (by kernel_rfl) rfl (fun w' hw => by obtain ⟨_, _, hc⟩ := hw.2; simp [execOp, go_sem, hc.cell (i := 6) rfl]) hH ?_
    show wpAnyH _ _ _ _ _ _ _ ({ tmps := #[.pointer (some ⟨B, 0, none⟩), .agg #[.int .i64 k, .int .i64 p, .int .i64 q, .int .i64 u, .int .i64 v, .int .i64 c, .int .i64 (x : Int), .int .i64 y], undef, .pointer (some ⟨C, 0, none⟩), .int .i64 z, .pointer (some ⟨B, 0, none⟩), .agg #[.int .i64 k, .int .i64 p, .int .i64 q, .int .i64 u, .int .i64 v, .int .i64 c, .int .i64 (x : Int), .int .i64 y], .int .i64 z, .pointer (some ⟨B, 0, none⟩), .pointer (some ⟨B, 0, none⟩), .pointer (some ⟨B, 6, none⟩), .map (some M), .int .i64 z, .pointer (some ⟨B, 0, none⟩), .pointer (some ⟨B, 0, none⟩), .pointer (some ⟨B, 6, none⟩), .map (some M), undef, undef, undef, undef, undef], defers := [] } : Act) _
    refine take_pure 9 (v := .int .i64 z) rfl (by kernel_rfl) rfl (fun w' hw => by simp [execOp, go_sem]) hH ?_
    show wpAnyH _ _ _ _ _ _ _ ({ tmps := #[.pointer (some ⟨B, 0, none⟩), .agg #[.int .i64 k, .int .i64 p, .int .i64 q, .int .i64 u, .int .i64 v, .int .i64 c, .int .i64 (x : Int), .int .i64 y], undef, .pointer (some ⟨C, 0, none⟩), .int .i64 z, .pointer (some ⟨B, 0, none⟩), .agg #[.int .i64 k, .int .i64 p, .int .i64 q, .int .i64 u, .int .i64 v, .int .i64 c, .int .i64 (x : Int), .int .i64 y], .int .i64 z, .pointer (some ⟨B, 0, none⟩), .pointer (some ⟨B, 0, none⟩), .pointer (some ⟨B, 6, none⟩), .map (some M), .int .i64 z, .pointer (some ⟨B, 0, none⟩), .pointer (some ⟨B, 0, none⟩), .pointer (some ⟨B, 6, none⟩), .map (some M), .int .i64 z, undef, undef, undef, undef], defers := [] } : Act) _
    refine take_pure 11 (v := .pointer (some ⟨C, 6, none⟩)) rfl (by kernel_rfl) rfl (fun w' hw => by simp [execOp, go_sem]) hH ?_
    show wpAnyH _ _ _ _ _ _ _ ({ tmps := #[.pointer (some ⟨B, 0, none⟩), .agg #[.int .i64 k, .int .i64 p, .int .i64 q, .int .i64 u, .int .i64 v, .int .i64 c, .int .i64 (x : Int), .int .i64 y], undef, .pointer (some ⟨C, 0, none⟩), .int .i64 z, .pointer (some ⟨B, 0, none⟩), .agg #[.int .i64 k, .int .i64 p, .int .i64 q, .int .i64 u, .int .i64 v, .int .i64 c, .int .i64 (x : Int), .int .i64 y], .int .i64 z, .pointer (some ⟨B, 0, none⟩), .pointer (some ⟨B, 0, none⟩), .pointer (some ⟨B, 6, none⟩), .map (some M), .int .i64 z, .pointer (some ⟨B, 0, none⟩), .pointer (some ⟨B, 0, none⟩), .pointer (some ⟨B, 6, none⟩), .map (some M), .int .i64 z, undef, .pointer (some ⟨C, 6, none⟩), undef, undef], defers := [] } : Act) _
    refine take_pure 12 (v := .int .i64 (x : Int)) rfl (by kernel_rfl) rfl (fun w' hw => by simp [execOp, go_sem, hw.1.c6]) hH ?_
    show wpAnyH _ _ _ _ _ _ _ ({ tmps := #[.pointer (some ⟨B, 0, none⟩), .agg #[.int .i64 k, .int .i64 p, .int .i64 q, .int .i64 u, .int .i64 v, .int .i64 c, .int .i64 (x : Int), .int .i64 y], undef, .pointer (some ⟨C, 0, none⟩), .int .i64 z, .pointer (some ⟨B, 0, none⟩), .agg #[.int .i64 k, .int .i64 p, .int .i64 q, .int .i64 u, .int .i64 v, .int .i64 c, .int .i64 (x : Int), .int .i64 y], .int .i64 z, .pointer (some ⟨B, 0, none⟩), .pointer (some ⟨B, 0, none⟩), .pointer (some ⟨B, 6, none⟩), .map (some M), .int .i64 z, .pointer (some ⟨B, 0, none⟩), .pointer (some ⟨B, 0, none⟩), .pointer (some ⟨B, 6, none⟩), .map (some M), .int .i64 z, undef, .pointer (some ⟨C, 6, none⟩), .int .i64 (x : Int), undef], defers := [] } : Act) _
    refine take_one 10 rfl rfl (by kernel_rfl) ?_
    refine wp_known1 (.agg L2.toArray) (exec_look 80 (.tmp 16) (.tmp 17) rfl (.map (some M)) (.int .i64 z) (.agg L2.toArray) rfl rfl (HLK.out _ (HS.out.next (below_drew1 _)).d.mp)) ?_
    refine ⟨hH, fun hH => ?_⟩
    show wpAnyH _ _ _ _ _ _ _ ({ tmps := #[.pointer (some ⟨B, 0, none⟩), .agg #[.int .i64 k, .int .i64 p, .int .i64 q, .int .i64 u, .int .i64 v, .int .i64 c, .int .i64 (x : Int), .int .i64 y], undef, .pointer (some ⟨C, 0, none⟩), .int .i64 z, .pointer (some ⟨B, 0, none⟩), .agg #[.int .i64 k, .int .i64 p, .int .i64 q, .int .i64 u, .int .i64 v, .int .i64 c, .int .i64 (x : Int), .int .i64 y], .int .i64 z, .pointer (some ⟨B, 0, none⟩), .pointer (some ⟨B, 0, none⟩), .pointer (some ⟨B, 6, none⟩), .map (some M), .int .i64 z, .pointer (some ⟨B, 0, none⟩), .pointer (some ⟨B, 0, none⟩), .pointer (some ⟨B, 6, none⟩), .map (some M), .int .i64 z, .agg L2.toArray, .pointer (some ⟨C, 6, none⟩), .int .i64 (x : Int), undef], defers := [] } : Act) _
    refine take_one 13 rfl rfl (by kernel_rfl) ?_
    refine wp_contract 33 [.tmp 18, .tmp 20] _ rfl (enters_of Try.func33 (by kernel_rfl) rfl) [.agg L2.toArray, .int .i64 (x : Int)] rfl (CF.out _) ?_
    rintro e W' ⟨rfl, b2⟩
    have hq := (HS.out.next (below_drew1 _)).next b2
    refine ⟨_, rfl, ⟨hq.f, _, _, hq.d.c⟩, fun hH => ?_⟩
    show wpAnyH _ _ _ _ _ _ _ ({ tmps := #[.pointer (some ⟨B, 0, none⟩), .agg #[.int .i64 k, .int .i64 p, .int .i64 q, .int .i64 u, .int .i64 v, .int .i64 c, .int .i64 (x : Int), .int .i64 y], undef, .pointer (some ⟨C, 0, none⟩), .int .i64 z, .pointer (some ⟨B, 0, none⟩), .agg #[.int .i64 k, .int .i64 p, .int .i64 q, .int .i64 u, .int .i64 v, .int .i64 c, .int .i64 (x : Int), .int .i64 y], .int .i64 z, .pointer (some ⟨B, 0, none⟩), .pointer (some ⟨B, 0, none⟩), .pointer (some ⟨B, 6, none⟩), .map (some M), .int .i64 z, .pointer (some ⟨B, 0, none⟩), .pointer (some ⟨B, 0, none⟩), .pointer (some ⟨B, 6, none⟩), .map (some M), .int .i64 z, .agg L2.toArray, .pointer (some ⟨C, 6, none⟩), .int .i64 (x : Int), .agg L3.toArray], defers := [] } : Act) _
    obtain ⟨W4, hput, hmp, hgr⟩ := HP.out _ hq.d.mp
    have hMW := HCM.out M (.inr (.inl rfl))
    have hBW := HCM.out B (.inl rfl)
    have hk : ∀ g, g < W'.heap.size → M ≠ g → W4.heap[g]? = W'.heap[g]? := fun g h1 h2 => hgr.block g h1 (fun e => h2 (by cases e; rfl))
    have hfin : Dm W4 lo B M r s b o d m (n + 1) (gput G z F3) vb l1 Y vc l2 Z ∧ Mv lo (mine B M vb vc) W W4 := by
      refine ⟨hq.d.put HFF.out hmp hgr, ⟨?_, fun g hg hm => ?_⟩⟩
      · exact below_grown7 (hq.n.mono HD.out.lo_le) hgr (fun g e => by cases e; exact hq.d.lm) hq.d.lo_le
      · exact (hk g (Nat.lt_of_lt_of_le hg hq.n.size) (fun e => hm (.inr (.inl e.symm)))).trans (hq.n.block g hg)
    have hf4 : Ft W4 C k p q u v c x y := Bk.of hq.f (hk C hq.f.lt (by omega))
    refine take_one 14 rfl rfl (by kernel_rfl) ?_
    refine wp_mapput 80 (.tmp 11) (.tmp 12) (.tmp 21) rfl (.map (some M)) (.int .i64 z) (.agg L3.toArray) rfl rfl rfl hput ?_
    refine ⟨⟨hf4, _, _, hfin.1.c⟩, fun hH => ?_⟩
    exact wpAnyH_done (by kernel_rfl) ⟨rfl, hfin⟩ _
  case aft =>
    obtain ⟨rfl, h1, h2⟩ := hr
    have HF : Hid (Dm V3 lo B M r s b o d m (n + 1) (gput G z F3) vb l1 Y vc l2 Z ∧ Mv lo (mine B M vb vc) W V3) := ⟨h1, h2⟩
    clear h1 h2 HS HP HLK CF
    go_wp2
    exact Great.bodyPost_end0 rfl rfl ⟨rfl, HF.out.1, HF.out.2⟩
end
end Go.Proofs.Ytcpjmfemgdgplaa
