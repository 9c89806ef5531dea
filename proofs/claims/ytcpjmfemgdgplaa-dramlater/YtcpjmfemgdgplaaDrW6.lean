/-
  A line is written.
-/
import Derived.Test.YtcpjmfemgdgplaaDrW5
namespace Go.Proofs.Ytcpjmfemgdgplaa
open Go.RowKit Go.Shelf
open Ge (pw rt hd ix)
attribute [local go_sem] Oper.semAt_some

theorem hx_ix {r s b o d p q u v : Int} (h : hd r s b o d p q u v = true) : hx r s b o d (ix p q u v) = true := by
  have hb := hd_bounds h
  unfold hx ix
  have e1 : (1048576 * p + 65536 * q + 64 * u + v) / 1048576 = p := by omega
  have e2 : (1048576 * p + 65536 * q + 64 * u + v) / 65536 % 16 = q := by omega
  have e3 : (1048576 * p + 65536 * q + 64 * u + v) / 64 % 1024 = u := by omega
  have e4 : (1048576 * p + 65536 * q + 64 * u + v) % 64 = v := by omega
  rw [e1, e2, e3, e4, h]
theorem hx_low {r s b o d i : Int} (h : hx r s b o d i = true) : 0 ≤ i ∧ i < 8388608 := by
  have hb := hd_bounds h
  omega
theorem hx_i64 {r s b o d i : Int} (h : hx r s b o d i = true) : I64 i := by
  have := hx_low h
  unfold I64
  omega
/-- a store into a map, by what it does -/
theorem wp_mapput {P : Program} {o : Oper} {a : Act} {w w' : World} {K : Act → World → Prop} {Q : Exit → Act → World → Prop} (T : TypeId) (x y z : Operand) (ho : o.op = .mapUpdate T x y z) (mv kv vv : Value) (hx : a.eval x = mv) (hy : a.eval y = kv) (hz : a.eval z = vv)
    (hr : (Instr.mapUpdate T mv kv vv).run P w = .ok () w') (h : K (a.put o.dst undef) w') : Oper.wp P o a w K Q := by
  unfold Oper.wp
  simp [execOp, ho, hx, hy, hz, hr, Result.andThen]
  exact h
theorem At9.keep {W W' : World} {b : Nat} {L : List Value} (h : At9 W b L) (e : W'.heap[b]? = W.heap[b]?) : At9 W' b L := h.of e
section
variable {W : World} {lo B M R : Nat} {r s b o d m : Int} {n : Nat} {G : Int → Nat → Int} {vb vc : Value} {l1 l2 : Nat} {Y Z : Nat → Nat → Int}
/-- what a call that takes one of what is to come leaves -/
def Tk (lo B M : Nat) (r s b o d m : Int) (n : Nat) (G : Int → Nat → Int) (vb : Value) (l1 : Nat) (Y : Nat → Nat → Int) (vc : Value) (l2 : Nat) (Z : Nat → Nat → Int) (w W : World) : Prop :=
  ∃ vc', Dm W lo B M r s b o d m n G vb l1 Y vc' (l2 - 1) (tlZ Z) ∧ vc'.ownBlock = vc.ownBlock ∧ Mv lo (mine B M vb vc) w W
theorem dAccess_any (h : Dm W lo B M r s b o d m n G vb l1 Y vc l2 Z) (i : Int) :
    Calls Try.prog 47 #[.pointer (some ⟨B, 0, none⟩), .int .i64 i] W fun e w' => e = .returned (.agg #[.int .i64 (wI l2 Z i), .bool (wD l2 Z)]) ∧ Tk lo B M r s b o d m n G vb l1 Y vc l2 Z W w' := by
  cases l2 with
  | zero =>
    refine (dAccess_none h i).mono ?_
    rintro e w' ⟨rfl, hb⟩
    have h' := h.next hb
    refine ⟨by simp [wI, wD], vc, ⟨h'.c, h'.mp, h'.f1, h'.f2, h'.w1, fun i hi => absurd hi (by omega), fun i hi => absurd hi (by omega), h'.by_, h'.lb, h'.lm, h'.a1, h'.a2, h'.a3, h'.a4, h'.le⟩, rfl, Mv.next hb h.lo_le⟩
  | succ l =>
    refine (dAccess_some h i).mono ?_
    rintro e w' ⟨rfl, vc', h1, h2, h3⟩
    exact ⟨rfl, vc', h1, h2, h3⟩
theorem wI_hx (h : Dm W lo B M r s b o d m n G vb l1 Y vc l2 Z) {i : Int} (hi : hx r s b o d i = true) : hx r s b o d (wI l2 Z i) = true := by
  unfold wI
  split
  · exact hi
  · split
    · exact hi
    · rename_i h0 _
      exact hx_ix (h.ok 0 (by omega))
theorem own_eq {vc vc' : Value} (e : vc'.ownBlock = vc.ownBlock) : ∀ g, mine B M vb vc' g ↔ mine B M vb vc g := by
  intro g
  unfold mine
  rw [e]
/-- an index has other bytes -/
theorem Dm.put {W' : World} (h : Dm W lo B M r s b o d m n G vb l1 Y vc l2 Z) {i : Int} {F : Nat → Int} (hF : Byts 72 F) (hm : MpAt W' M (n + 1) (gput G i F)) (hg : W.grownBy W' (some M)) : Dm W' lo B M r s b o d m (n + 1) (gput G i F) vb l1 Y vc l2 Z :=
  have hk : ∀ g, mine B M vb vc g → g ≠ M → W'.heap[g]? = W.heap[g]? := fun g h1 h2 => hg.block g (h.mine_lt g h1).2 (fun e => h2 (by cases e; rfl))
  ⟨h.c.of (hk B (.inl rfl) h.a1), hm, own_kept h.f1 (fun g e => hk g (.inr (.inr (.inl e))) (fun e2 => h.a2.2 (by rw [e, e2]))), own_kept h.f2 (fun g e => hk g (.inr (.inr (.inr e))) (fun e2 => h.a3.2 (by rw [e, e2]))), h.w1, h.w2, h.ok,
    fun j => by unfold gput; split; exact hF; exact h.by_ j, h.lb, h.lm, h.a1, h.a2, h.a3, h.a4, h.le⟩
set_option maxRecDepth 100000 in
set_option maxHeartbeats 4000000 in
theorem dWrite_no (h : Dm W lo B M r s b o d m n G vb l1 Y vc l2 Z) (i : Int) (F : Nat → Int) (hx1 : hx r s b o d i = false) :
    Calls Try.prog 20 #[.pointer (some ⟨B, 0, none⟩), .int .i64 i, rawV F] W fun e w' => e = .returned (.tuple #[.agg #[.int .i64 0, .bool false], .int .i64 12]) ∧ Below W.heap.size W w' := by
  unfold rawV
  have CH : Hid (∀ w, Below W.heap.size W w → Calls Try.prog 41 #[.pointer (some ⟨B, 0, none⟩), .int .i64 i] w fun e w' => e = .returned (.bool false) ∧ Below w.heap.size w w') := fun w hw => by rw [← hx1]; exact dHas_any (h.next hw) i
  obtain ⟨L, hL⟩ : ∃ L, ints .u8 72 F = L := ⟨_, rfl⟩
  rw [hL]
  clear hL h hx1
  go_enter Try.func20, Try.ntmps20
  go_upto_region 1 with (fail)
  obtain ⟨R, hR⟩ : ∃ R, W.heap.size + 1 = R := ⟨_, rfl⟩
  obtain ⟨V, hV⟩ : ∃ V, (W.alloc (.cells L.toArray 40)).alloc (.cells #[.int .i64 0, .bool false] 59) = V := ⟨_, rfl⟩
  have HB : Hid (Below W.heap.size W V) := by rw [← hV]; exact ((Below.refl _ W).alloc (Nat.le_refl _) _).alloc (by simp) _
  have HE : Hid (Cb V R [.int .i64 0, .bool false]) := by
    have := Cb.new (W.alloc (.cells L.toArray 40)) [.int .i64 0, .bool false] 59
    rw [← hV, ← hR]
    rw [World.size_alloc] at this
    exact this
  rw [hV, hR]
  clear hV
  go_wp2_with fail
  refine (CH.out _ HB.out).mono ?_
  rintro e W1 ⟨rfl, b1⟩
  have HN : Hid (Below W.heap.size W W1) := HB.out.trans (b1.mono HB.out.size)
  have th := (HE.out.next b1).thereAt 0 2 (by simp)
  have on : (#[.int .i64 0, .bool false] : Array Value).all (·.oneCell') = true := one_we _ _
  clear b1 HE HB CH
  go_wp2_with (first | refine wpList_store_mid rfl 59 _ _ rfl R 0 #[.int .i64 0, .bool false] rfl rfl th infoWe on ?_)
  have hs2 : (World.setCells W1 R 0 [.int .i64 0, .bool false]).rangeAt R 0 [.int .i64 0, .bool false] := World.rangeAt_setCells_same W1 _ 0 _ (by simpa using th)
  have hld := run_loadVar_mid (P := Try.prog) (World.setCells W1 R 0 [.int .i64 0, .bool false]) R 0 59 [.int .i64 0, .bool false] _ hs2 Try.underlying59 rfl infoWe
  refine bodyPost_ret (v := .tuple #[.agg #[.int .i64 0, .bool false], .int .i64 12]) ?_ rfl ⟨rfl, belows_put (by omega) _ 0 HN.out⟩
  simp [results, Try.f20, asAddr, hld]
/-- at work in Write, behind the access -/
structure Wr (lo B M : Nat) (r s b o d m : Int) (n : Nat) (G : Int → Nat → Int) (vb : Value) (l1 : Nat) (Y : Nat → Nat → Int) (vc : Value) (l2 : Nat) (Z : Nat → Nat → Int) (T : Nat → Prop) (R K : Nat) (i : Int) (t : Bool) (w W : World) : Prop where
  d : Dm W lo B M r s b o d m n G vb l1 Y vc l2 Z
  m : Mv lo T w W
  e : Cb W R [.int .i64 0, .bool false]
  k : Cb W K [.int .i64 i, .bool t]
theorem Wr.next {T : Nat → Prop} {K : Nat} {i : Int} {t : Bool} {w W W' : World} (h : Wr lo B M r s b o d m n G vb l1 Y vc l2 Z T R K i t w W) (e : Below W.heap.size W W') : Wr lo B M r s b o d m n G vb l1 Y vc l2 Z T R K i t w W' := ⟨h.d.next e, h.m.then e h.d.lo_le, h.e.next e, h.k.next e⟩
set_option maxRecDepth 100000 in
set_option maxHeartbeats 4000000 in
theorem dWrite_any (h : Dm W lo B M r s b o d m n G vb l1 Y vc l2 Z) (i : Int) (F : Nat → Int) (hF : Byts 72 F) (hn : n < 1000000) (hx1 : hx r s b o d i = true) :
    Calls Try.prog 20 #[.pointer (some ⟨B, 0, none⟩), .int .i64 i, rawV F] W fun e w' => e = .returned (.tuple #[.agg #[.int .i64 (wI l2 Z i), .bool (wD l2 Z)], .int .i64 0]) ∧ Tk lo B M r s b o d m (n + 1) (if wD l2 Z = true then G else gput G (wI l2 Z i) F) vb l1 Y vc l2 Z W w' := by
  have hwx := wI_hx h hx1
  have HWI : Hid (I64 (wI l2 Z i)) := hx_i64 hwx
  have CH : Hid (∀ w, Below W.heap.size W w → Calls Try.prog 41 #[.pointer (some ⟨B, 0, none⟩), .int .i64 i] w fun e w' => e = .returned (.bool true) ∧ Below w.heap.size w w') := fun w hw => by rw [← hx1]; exact dHas_any (h.next hw) i
  have CA : Hid (∀ w, Below W.heap.size W w → Calls Try.prog 47 #[.pointer (some ⟨B, 0, none⟩), .int .i64 i] w fun e w' => e = .returned (.agg #[.int .i64 (wI l2 Z i), .bool (wD l2 Z)]) ∧ Tk lo B M r s b o d m n G vb l1 Y vc l2 Z w w') := fun w hw => dAccess_any (h.next hw) i
  have HM : Hid (∀ g, mine B M vb vc g → g < W.heap.size) := fun g hg => (h.mine_lt g hg).2
  have HLO : Hid (lo ≤ W.heap.size) := h.lo_le
  have HFF : Hid (Byts 72 F) := hF
  have HNN : Hid (n < 1000000) := hn
  obtain ⟨j, hj⟩ : ∃ j, wI l2 Z i = j := ⟨_, rfl⟩
  obtain ⟨t, ht⟩ : ∃ t, wD l2 Z = t := ⟨_, rfl⟩
  rw [hj] at HWI
  rw [hj, ht] at CA
  rw [hj, ht]
  clear hj ht h hx1 hF hwx hn
  have HP : Hid (∀ W', MpAt W' M n G → ∃ W2, (Instr.mapUpdate 80 (.map (some M)) (.int .i64 j) (rawV F)).run Try.prog W' = .ok () W2 ∧ MpAt W2 M (n + 1) (gput G j F) ∧ W'.grownBy W2 (some M)) := fun W' h' => h'.put HWI.out (by have := HNN.out; unfold maxLen; omega) F
  unfold rawV at HP ⊢
  obtain ⟨L, hL⟩ : ∃ L, ints .u8 72 F = L := ⟨_, rfl⟩
  have iL2 : (Try.prog.info? 40).map (·.size) = some L.length := by rw [← hL, ints_len]; exact infoR
  rw [hL] at HP ⊢
  clear hL
  go_enter Try.func20, Try.ntmps20
  go_upto_region 1 with (fail)
  obtain ⟨A, hA⟩ : ∃ A, W.heap.size = A := ⟨_, rfl⟩
  obtain ⟨R, hR⟩ : ∃ R, A + 1 = R := ⟨_, rfl⟩
  obtain ⟨V, hV⟩ : ∃ V, (W.alloc (.cells L.toArray 40)).alloc (.cells #[.int .i64 0, .bool false] 59) = V := ⟨_, rfl⟩
  have HB : Hid (Below W.heap.size W V) := by rw [← hV]; exact ((Below.refl _ W).alloc (Nat.le_refl _) _).alloc (by simp) _
  have HE : Hid (Cb V R [.int .i64 0, .bool false]) := by
    have := Cb.new (W.alloc (.cells L.toArray 40)) [.int .i64 0, .bool false] 59
    rw [← hV, ← hR, ← hA]
    rw [World.size_alloc] at this
    exact this
  have HA : Hid (Cb V A L) := by rw [← hV, ← hA]; exact (Cb.new W L _).alloc _
  rw [hV, hA, hR]
  clear hV
  go_wp2_with fail
  refine (CH.out _ HB.out).mono ?_
  rintro e W1 ⟨rfl, b1⟩
  replace HE : Hid (Cb W1 R [.int .i64 0, .bool false]) := HE.out.next b1
  replace HA : Hid (Cb W1 A L) := HA.out.next b1
  replace HB : Hid (Below W.heap.size W W1) := HB.out.trans (b1.mono HB.out.size)
  clear b1 CH
  go_wp2_with fail
  refine (CA.out _ HB.out).mono ?_
  rintro e W2 ⟨rfl, vc', hd2, hown, hmv⟩
  have HS2 : Hid (Dm W2 lo B M r s b o d m n G vb l1 Y vc' (l2 - 1) (tlZ Z) ∧ Mv lo (mine B M vb vc) W W2 ∧ Cb W2 R [.int .i64 0, .bool false] ∧ Cb W2 A L) := by
    have hk := fun g (h1 : g < W1.heap.size) (h2 : W.heap.size ≤ g) => hmv.k g h1 (fun hm => by have := HM.out g hm; omega)
    refine ⟨hd2, ⟨(HB.out.mono HLO.out).trans hmv.n, fun g hg ht => (hmv.k g (Nat.lt_of_lt_of_le hg HB.out.size) ht).trans (HB.out.block g hg)⟩, HE.out.of (hk R HE.out.lt (by omega)), HA.out.of (hk A HA.out.lt (by omega))⟩
  have HOWN : Hid (vc'.ownBlock = vc.ownBlock) := hown
  clear hd2 hown hmv HB HE HA CA
  go_upto_region 4 with (fail)
  obtain ⟨K, hK⟩ : ∃ K, W2.heap.size = K := ⟨_, rfl⟩
  obtain ⟨W3, hW3⟩ : ∃ W3, W2.alloc (.cells #[.int .i64 j, .bool t] 59) = W3 := ⟨_, rfl⟩
  have HS : Hid (Wr lo B M r s b o d m n G vb l1 Y vc' (l2 - 1) (tlZ Z) (mine B M vb vc) R K j t W W3 ∧ Cb W3 A L) := by
    have b3 : Below W2.heap.size W2 W3 := by rw [← hW3]; exact (Below.refl _ W2).alloc (Nat.le_refl _) _
    refine ⟨⟨HS2.out.1.next b3, HS2.out.2.1.then b3 HS2.out.1.lo_le, HS2.out.2.2.1.next b3, ?_⟩, HS2.out.2.2.2.next b3⟩
    rw [← hW3, ← hK]
    exact Cb.new W2 _ _
  have HRK : Hid (R < K ∧ A < R ∧ W.heap.size ≤ A) := ⟨by rw [← hK]; exact HS2.out.2.2.1.lt, by omega, by omega⟩
  rw [hW3, hK]
  clear hW3 HS2
  have ck := HS.out.1.k.cell (i := 1) rfl
  cases t with
  | true =>
    have hrk := HS.out.1.k.range
    have th := HS.out.1.e.thereAt 0 2 (by simp)
    have on : (#[.int .i64 j, .bool true] : Array Value).all (·.oneCell') = true := one_we _ _
    go_wp2_with (first
      | refine wpList_load_mid rfl 59 _ rfl K 0 rfl [.int .i64 j, .bool true] _ hrk Try.underlying59 rfl infoWe ?_
      | refine wpList_store_mid rfl 59 _ _ rfl R 0 #[.int .i64 j, .bool true] rfl rfl th infoWe on ?_)
    have HE := dm_put (R := R) HS.out.1.d HS.out.1.m (fun g hg => by have := HM.out g ((own_eq HOWN.out g).1 hg); have := HRK.out; omega) (by have := HRK.out; omega) (by have := HLO.out; have := HRK.out; omega) [.int .i64 j, .bool true]
    have hs2 : (World.setCells W3 R 0 [.int .i64 j, .bool true]).rangeAt R 0 [.int .i64 j, .bool true] := World.rangeAt_setCells_same W3 _ 0 _ (by simpa using th)
    have hld := run_loadVar_mid (P := Try.prog) (World.setCells W3 R 0 [.int .i64 j, .bool true]) R 0 59 [.int .i64 j, .bool true] _ hs2 Try.underlying59 rfl infoWe
    refine bodyPost_ret (v := .tuple #[.agg #[.int .i64 j, .bool true], .int .i64 0]) ?_ rfl ⟨rfl, vc', by first | exact HE.1.mono (by omega) | (rw [if_pos rfl]; exact HE.1.mono (by omega)), HOWN.out, HE.2⟩
    simp [results, Try.f20, asAddr, hld]
  | false =>
    go_upto_region 5 with (fail)
    clear ck
    have HT : Hid (Cb W3.drew A L ∧ Wr lo B M r s b o d m n G vb l1 Y vc' (l2 - 1) (tlZ Z) (mine B M vb vc) R K j false W W3.drew) := ⟨HS.out.2.next (below_drew1 _), HS.out.1.next (below_drew1 _)⟩
    obtain ⟨W4, hput, hmp, hgr⟩ := HP.out W3.drew HT.out.2.d.mp
    have HFI : Hid (Wr lo B M r s b o d m (n + 1) (gput G j F) vb l1 Y vc' (l2 - 1) (tlZ Z) (mine B M vb vc) R K j false W W4 ∧ Cb W4 A L) := by
      have hMW := HM.out M (.inr (.inl rfl))
      have hrk := HRK.out
      have hk : ∀ g, g < W3.drew.heap.size → M ≠ g → W4.heap[g]? = W3.drew.heap[g]? := fun g h1 h2 => hgr.block g h1 (fun e => h2 (by cases e; rfl))
      refine ⟨⟨HT.out.2.d.put HFF.out hmp hgr, ⟨?_, fun g hg hm => ?_⟩, HT.out.2.e.of (hk R HT.out.2.e.lt (by omega)), HT.out.2.k.of (hk K HT.out.2.k.lt (by omega))⟩, HT.out.1.of (hk A HT.out.1.lt (by omega))⟩
      · exact below_grown7 HT.out.2.m.n hgr (fun g e => by cases e; exact HT.out.2.d.lm) HT.out.2.d.lo_le
      · exact (hk g (Nat.lt_of_lt_of_le hg HT.out.2.m.n.size) (fun e => hm (.inr (.inl e.symm)))).trans (HT.out.2.m.k g hg hm)
    clear hmp hgr HP
    refine region_ends (by kernel_rfl) (fun W' => Cb W' A L ∧ (∃ vb vc, Cb W' B (dl r s b o d m (.map (some M)) vb vc)) ∧ Cb W' K [.int .i64 j, .bool false]) (fun a2 W' => a2 = ({ tmps := #[.pointer (some ⟨B, 0, none⟩), .int .i64 i, .agg L.toArray, undef, undef, .pointer (some ⟨A, 0, none⟩), .pointer (some ⟨R, 0, none⟩), .int .i64 0, .pointer (some ⟨K, 0, none⟩), .pointer (some ⟨B, 0, none⟩), .int .i64 i, .bool true, .bool false, undef, .pointer (some ⟨B, 0, none⟩), .int .i64 i, .agg #[.int .i64 j, .bool false], .pointer (some ⟨K, 1, none⟩), .bool false, .bool true, .pointer (some ⟨B, 0, none⟩), .pointer (some ⟨B, 0, none⟩), .pointer (some ⟨B, 6, none⟩), .map (some M), .pointer (some ⟨K, 0, none⟩), .int .i64 j, .agg L.toArray, undef], defers := [] } : Act) ∧ W' = W4) ⟨HT.out.1, ⟨_, _, HT.out.2.d.c⟩, HT.out.2.k⟩ (fun hH => ?reg) (fun a2 V3 hr => ?aft)
    case reg =>
      refine take_pure 0 (v := .pointer (some ⟨B, 0, none⟩)) rfl (by kernel_rfl) rfl (fun w' hw => by simp [execOp, go_sem]) hH ?_
      show wpAnyH _ _ _ _ _ _ _ ({ tmps := #[.pointer (some ⟨B, 0, none⟩), .int .i64 i, .agg L.toArray, undef, undef, .pointer (some ⟨A, 0, none⟩), .pointer (some ⟨R, 0, none⟩), .int .i64 0, .pointer (some ⟨K, 0, none⟩), .pointer (some ⟨B, 0, none⟩), .int .i64 i, .bool true, .bool false, undef, .pointer (some ⟨B, 0, none⟩), .int .i64 i, .agg #[.int .i64 j, .bool false], .pointer (some ⟨K, 1, none⟩), .bool false, .bool true, .pointer (some ⟨B, 0, none⟩), undef, undef, undef, undef, undef, undef, undef], defers := [] } : Act) _
      refine take_pure 1 (v := .pointer (some ⟨B, 0, none⟩)) rfl (by kernel_rfl) rfl (fun w' hw => by simp [execOp, go_sem]) hH ?_
      show wpAnyH _ _ _ _ _ _ _ ({ tmps := #[.pointer (some ⟨B, 0, none⟩), .int .i64 i, .agg L.toArray, undef, undef, .pointer (some ⟨A, 0, none⟩), .pointer (some ⟨R, 0, none⟩), .int .i64 0, .pointer (some ⟨K, 0, none⟩), .pointer (some ⟨B, 0, none⟩), .int .i64 i, .bool true, .bool false, undef, .pointer (some ⟨B, 0, none⟩), .int .i64 i, .agg #[.int .i64 j, .bool false], .pointer (some ⟨K, 1, none⟩), .bool false, .bool true, .pointer (some ⟨B, 0, none⟩), .pointer (some ⟨B, 0, none⟩), undef, undef, undef, undef, undef, undef], defers := [] } : Act) _
      refine take_pure 2 (v := .pointer (some ⟨B, 6, none⟩)) rfl (by kernel_rfl) rfl (fun w' hw => by simp [execOp, go_sem]) hH ?_
      show wpAnyH _ _ _ _ _ _ _ ({ tmps := #[.pointer (some ⟨B, 0, none⟩), .int .i64 i, .agg L.toArray, undef, undef, .pointer (some ⟨A, 0, none⟩), .pointer (some ⟨R, 0, none⟩), .int .i64 0, .pointer (some ⟨K, 0, none⟩), .pointer (some ⟨B, 0, none⟩), .int .i64 i, .bool true, .bool false, undef, .pointer (some ⟨B, 0, none⟩), .int .i64 i, .agg #[.int .i64 j, .bool false], .pointer (some ⟨K, 1, none⟩), .bool false, .bool true, .pointer (some ⟨B, 0, none⟩), .pointer (some ⟨B, 0, none⟩), .pointer (some ⟨B, 6, none⟩), undef, undef, undef, undef, undef], defers := [] } : Act) _
      refine take_pure 3 (v := .map (some M)) rfl (by kernel_rfl) rfl (fun w' hw => by obtain ⟨_, _, hc⟩ := hw.2.1; simp [execOp, go_sem, hc.cell (i := 6) rfl]) hH ?_
      show wpAnyH _ _ _ _ _ _ _ ({ tmps := #[.pointer (some ⟨B, 0, none⟩), .int .i64 i, .agg L.toArray, undef, undef, .pointer (some ⟨A, 0, none⟩), .pointer (some ⟨R, 0, none⟩), .int .i64 0, .pointer (some ⟨K, 0, none⟩), .pointer (some ⟨B, 0, none⟩), .int .i64 i, .bool true, .bool false, undef, .pointer (some ⟨B, 0, none⟩), .int .i64 i, .agg #[.int .i64 j, .bool false], .pointer (some ⟨K, 1, none⟩), .bool false, .bool true, .pointer (some ⟨B, 0, none⟩), .pointer (some ⟨B, 0, none⟩), .pointer (some ⟨B, 6, none⟩), .map (some M), undef, undef, undef, undef], defers := [] } : Act) _
      refine take_pure 4 (v := .pointer (some ⟨K, 0, none⟩)) rfl (by kernel_rfl) rfl (fun w' hw => by simp [execOp, go_sem]) hH ?_
      show wpAnyH _ _ _ _ _ _ _ ({ tmps := #[.pointer (some ⟨B, 0, none⟩), .int .i64 i, .agg L.toArray, undef, undef, .pointer (some ⟨A, 0, none⟩), .pointer (some ⟨R, 0, none⟩), .int .i64 0, .pointer (some ⟨K, 0, none⟩), .pointer (some ⟨B, 0, none⟩), .int .i64 i, .bool true, .bool false, undef, .pointer (some ⟨B, 0, none⟩), .int .i64 i, .agg #[.int .i64 j, .bool false], .pointer (some ⟨K, 1, none⟩), .bool false, .bool true, .pointer (some ⟨B, 0, none⟩), .pointer (some ⟨B, 0, none⟩), .pointer (some ⟨B, 6, none⟩), .map (some M), .pointer (some ⟨K, 0, none⟩), undef, undef, undef], defers := [] } : Act) _
      refine take_pure 5 (v := .int .i64 j) rfl (by kernel_rfl) rfl (fun w' hw => by simp [execOp, go_sem, hw.2.2.cell (i := 0) rfl]) hH ?_
      show wpAnyH _ _ _ _ _ _ _ ({ tmps := #[.pointer (some ⟨B, 0, none⟩), .int .i64 i, .agg L.toArray, undef, undef, .pointer (some ⟨A, 0, none⟩), .pointer (some ⟨R, 0, none⟩), .int .i64 0, .pointer (some ⟨K, 0, none⟩), .pointer (some ⟨B, 0, none⟩), .int .i64 i, .bool true, .bool false, undef, .pointer (some ⟨B, 0, none⟩), .int .i64 i, .agg #[.int .i64 j, .bool false], .pointer (some ⟨K, 1, none⟩), .bool false, .bool true, .pointer (some ⟨B, 0, none⟩), .pointer (some ⟨B, 0, none⟩), .pointer (some ⟨B, 6, none⟩), .map (some M), .pointer (some ⟨K, 0, none⟩), .int .i64 j, undef, undef], defers := [] } : Act) _
      refine take_pure 6 (v := .agg L.toArray) rfl (by kernel_rfl) rfl (fun w' hw => exec_range 40 (.tmp 5) rfl A 0 rfl L _ hw.1.range Try.underlying40 rfl iL2) hH ?_
      show wpAnyH _ _ _ _ _ _ _ ({ tmps := #[.pointer (some ⟨B, 0, none⟩), .int .i64 i, .agg L.toArray, undef, undef, .pointer (some ⟨A, 0, none⟩), .pointer (some ⟨R, 0, none⟩), .int .i64 0, .pointer (some ⟨K, 0, none⟩), .pointer (some ⟨B, 0, none⟩), .int .i64 i, .bool true, .bool false, undef, .pointer (some ⟨B, 0, none⟩), .int .i64 i, .agg #[.int .i64 j, .bool false], .pointer (some ⟨K, 1, none⟩), .bool false, .bool true, .pointer (some ⟨B, 0, none⟩), .pointer (some ⟨B, 0, none⟩), .pointer (some ⟨B, 6, none⟩), .map (some M), .pointer (some ⟨K, 0, none⟩), .int .i64 j, .agg L.toArray, undef], defers := [] } : Act) _
      refine take_one 7 rfl rfl (by kernel_rfl) ?_
      refine wp_mapput 80 (.tmp 23) (.tmp 25) (.tmp 26) rfl (.map (some M)) (.int .i64 j) (.agg L.toArray) rfl rfl rfl hput ?_
      refine ⟨⟨HFI.out.2, ⟨_, _, HFI.out.1.d.c⟩, HFI.out.1.k⟩, fun hH => ?_⟩
      exact wpAnyH_done (by kernel_rfl) ⟨rfl, rfl⟩ _
    case aft =>
      obtain ⟨rfl, rfl⟩ := hr
      clear hput HT HS
      have hrk := HFI.out.1.k.range
      have th := HFI.out.1.e.thereAt 0 2 (by simp)
      have on : (#[.int .i64 j, .bool false] : Array Value).all (·.oneCell') = true := one_we _ _
      go_wp2_with (first
        | refine wpList_load_mid rfl 59 _ rfl K 0 rfl [.int .i64 j, .bool false] _ hrk Try.underlying59 rfl infoWe ?_
        | refine wpList_store_mid rfl 59 _ _ rfl R 0 #[.int .i64 j, .bool false] rfl rfl th infoWe on ?_)
      have HE := dm_put (R := R) HFI.out.1.d HFI.out.1.m (fun g hg => by have := HM.out g ((own_eq HOWN.out g).1 hg); have := HRK.out; omega) (by have := HRK.out; omega) (by have := HLO.out; have := HRK.out; omega) [.int .i64 j, .bool false]
      have hs2 : (World.setCells V3 R 0 [.int .i64 j, .bool false]).rangeAt R 0 [.int .i64 j, .bool false] := World.rangeAt_setCells_same V3 _ 0 _ (by simpa using th)
      have hld := run_loadVar_mid (P := Try.prog) (World.setCells V3 R 0 [.int .i64 j, .bool false]) R 0 59 [.int .i64 j, .bool false] _ hs2 Try.underlying59 rfl infoWe
      refine bodyPost_ret (v := .tuple #[.agg #[.int .i64 j, .bool false], .int .i64 0]) ?_ rfl ⟨rfl, vc', by first | exact HE.1 | (rw [if_neg (by simp)]; exact HE.1), HOWN.out, HE.2⟩
      simp [results, Try.f20, asAddr, hld]
end
end Go.Proofs.Ytcpjmfemgdgplaa
