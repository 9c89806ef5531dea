/-
  An access, a read or a write.
-/
import Derived.Test.YtcpjmfemgdgplaaM17
namespace Go.Proofs.Ytcpjmfemgdgplaa
open Go.RowKit Go.Shelf
open Ge (pw rt hd ix)
attribute [local go_sem] Oper.semAt_some

section
variable {W : World} {lo B M : Nat} {r s b o d m : Int} {n : Nat} {G : Int → Nat → Int} {vb vc : Value} {l1 l2 : Nat} {Y Z : Nat → Nat → Int} {k8 j8 : Int}
/-- what an access leaves -/
def Tc (lo B M : Nat) (r s b o d m : Int) (n : Nat) (vb : Value) (l1 : Nat) (Y : Nat → Nat → Int) (vc : Value) (l2 : Nat) (Z : Nat → Nat → Int) (w W : World) : Prop :=
  ∃ vc' G', Dm W lo B M r s b o d m (n + 1) G' vb l1 Y vc' (l2 - 1) (tlZ Z) ∧ vc'.ownBlock = vc.ownBlock ∧ Mv lo (mine B M vb vc) w W
theorem Tk.tc {w : World} (h : Tk lo B M r s b o d m n G vb l1 Y vc l2 Z w W) : Tc lo B M r s b o d m n vb l1 Y vc l2 Z w W := by
  obtain ⟨vc', h1, h2, h3⟩ := h
  exact ⟨vc', G, h1.mono (by omega), h2, h3⟩
theorem Tk.tc1 {w : World} (h : Tk lo B M r s b o d m (n + 1) G vb l1 Y vc l2 Z w W) : Tc lo B M r s b o d m n vb l1 Y vc l2 Z w W := by
  obtain ⟨vc', h1, h2, h3⟩ := h
  exact ⟨vc', G, h1, h2, h3⟩
/-- new blocks ahead of it, and what is done to new ones behind it -/
theorem Tc.wide {w V W' : World} (h : Tc lo B M r s b o d m n vb l1 Y vc l2 Z V W) (k : Below w.heap.size w V) (hl : lo ≤ w.heap.size) (hm : ∀ g, mine B M vb vc g → g < w.heap.size) (e : Below w.heap.size W W') : Tc lo B M r s b o d m n vb l1 Y vc l2 Z w W' := by
  obtain ⟨vc', G', h1, h2, h3⟩ := h
  refine ⟨vc', G', h1.of fun g hg => e.block g (hm g ((own_eq h2 g).1 hg)), h2, ((k.mono hl).trans h3.n).trans (e.mono hl), fun g hg ht => (e.block g hg).trans ((h3.k g (Nat.lt_of_lt_of_le hg k.size) ht).trans (k.block g hg))⟩
set_option maxRecDepth 100000 in
set_option maxHeartbeats 4000000 in
theorem dTouch_any (h : Dm W lo B M r s b o d m n G vb l1 Y vc l2 Z) (hm : Md m k8 j8) (i : Int) (hn : n < 1000000) (hx1 : hx r s b o d i = true) (rd : Bool) :
    Calls Try.prog 26 #[.pointer (some ⟨B, 0, none⟩), .int .i64 i, .bool rd] W fun e w' => e = .returned (.tuple #[.agg #[.int .i64 (wI l2 Z i), .bool (wD l2 Z)], .int .i64 0]) ∧ Tc lo B M r s b o d m n vb l1 Y vc l2 Z W w' := by
  have hF0 : Byts 72 (fun _ => 0) := fun _ _ => ⟨Int.le_refl _, show (0 : Int) < 256 by decide⟩
  have CR : Hid (∀ w, Below W.heap.size W w → Calls Try.prog 21 #[.pointer (some ⟨B, 0, none⟩), .int .i64 i] w fun e w' => ∃ F, Hid (rawV F = rawV F) ∧ e = .returned (.tuple #[rawV F, .agg #[.int .i64 (wI l2 Z i), .bool (wD l2 Z)], .int .i64 0]) ∧ Tc lo B M r s b o d m n vb l1 Y vc l2 Z w w') := fun w hw => by
    refine (dRead_any (h.next hw) hm i hx1).mono ?_
    rintro e w' ⟨rfl, ht⟩
    exact ⟨_, rfl, rfl, ht.tc⟩
  have CW : Hid (∀ w, Below W.heap.size W w → Calls Try.prog 20 #[.pointer (some ⟨B, 0, none⟩), .int .i64 i, rawV fun _ => 0] w fun e w' => e = .returned (.tuple #[.agg #[.int .i64 (wI l2 Z i), .bool (wD l2 Z)], .int .i64 0]) ∧ Tc lo B M r s b o d m n vb l1 Y vc l2 Z w w') := fun w hw => by
    refine (dWrite_any (h.next hw) i _ hF0 hn hx1).mono ?_
    rintro e w' ⟨rfl, ht⟩
    exact ⟨rfl, ht.tc1⟩
  have HM : Hid (∀ g, mine B M vb vc g → g < W.heap.size) := fun g hg => (h.mine_lt g hg).2
  have HLO : Hid (lo ≤ W.heap.size) := h.lo_le
  obtain ⟨j, hj⟩ : ∃ j, wI l2 Z i = j := ⟨_, rfl⟩
  obtain ⟨t, ht⟩ : ∃ t, wD l2 Z = t := ⟨_, rfl⟩
  rw [hj, ht] at CR CW
  rw [hj, ht]
  have hz := zeroR
  have hbr : ∀ w, (Instr.build 40 #[]).run Try.prog w = .ok (.agg (ints .u8 72 fun _ => 0).toArray) w := fun w => run_build w _ _ _ (by kernel_rfl)
  unfold rawV at CW
  obtain ⟨T0, hT0⟩ : ∃ Z, (ints .u8 72 fun _ => 0) = Z := ⟨_, rfl⟩
  have lt0 : T0.length = 72 := by rw [← hT0]; exact ints_len _ _ _
  rw [hT0] at hz hbr CW
  have on : (#[.int .i64 j, .bool t] : Array Value).all (·.oneCell') = true := one_we _ _
  clear hj ht hT0 h hx1 hm hn hF0
  go_enter Try.func26, Try.ntmps26
  go_upto_region 1 with (fail)
  obtain ⟨R, hR⟩ : ∃ R, W.heap.size = R := ⟨_, rfl⟩
  obtain ⟨V, hV⟩ : ∃ V, W.alloc (.cells #[.int .i64 0, .bool false] 59) = V := ⟨_, rfl⟩
  have HB : Hid (Below W.heap.size W V) := by rw [← hV]; exact (Below.refl _ W).alloc (Nat.le_refl _) _
  have HR : Hid (Cb V R [.int .i64 0, .bool false]) := by rw [← hV, ← hR]; exact Cb.new W _ _
  rw [hV, hR]
  clear hV
  have hk6 : ∀ {W2 : World}, Tc lo B M r s b o d m n vb l1 Y vc l2 Z V W2 → Cb W2 R [.int .i64 0, .bool false] := fun ⟨_, _, _, _, h3⟩ => HR.out.of (h3.k R HR.out.lt (fun e => by have := HM.out R e; omega))
  have HK6 : Hid (∀ {W2 : World}, Tc lo B M r s b o d m n vb l1 Y vc l2 Z V W2 → Cb W2 R [.int .i64 0, .bool false]) := hk6
  clear hk6 HR
  cases rd with
  | true =>
    go_wp2_with fail
    refine (CR.out _ HB.out).mono ?_
    rintro e W2 ⟨F, _, rfl, ht⟩
    have c6 := HK6.out ht
    have HT : Hid (Tc lo B M r s b o d m n vb l1 Y vc l2 Z V W2) := ht
    unfold rawV
    obtain ⟨L, hL⟩ : ∃ L, ints .u8 72 F = L := ⟨_, rfl⟩
    have ll : L.length = 72 := by rw [← hL]; exact ints_len _ _ _
    have iL : (Try.prog.info? 40).map (·.size) = some L.toArray.size := by rw [List.size_toArray, ll]; exact infoR
    have one1 : L.toArray.all (·.oneCell') = true := by rw [← hL]; exact ints_one .u8 72 _
    rw [hL]
    clear ht hL CR CW hbr
    obtain ⟨K, hK⟩ : ∃ K, W2.heap.size = K := ⟨_, rfl⟩
    have HRK : Hid (R < K) := by rw [← hK]; exact c6.lt
    have a1 := (Cb.new W2 T0 40).alloc (.cells #[.int .i64 0, .bool false] 59)
    have a2 := Cb.new (W2.alloc (.cells T0.toArray 40)) [.int .i64 0, .bool false] 59
    rw [World.size_alloc] at a2
    rw [hK] at a1 a2
    have t1 : ((W2.alloc (.cells T0.toArray 40)).alloc (.cells #[.int .i64 0, .bool false] 59)).there K 0 L.toArray.size := by
      have := a1.thereAt 0 L.length (by omega)
      simpa using this
    have t2 := (a2.putOther (c := K) (by omega) 0 L).thereAt 0 2 (by simp)
    have k2 := (a2.putOther (c := K) (by omega) 0 L).all (vs := [.int .i64 j, .bool t]) rfl
    have k6 := (((c6.alloc (.cells T0.toArray 40)).alloc (.cells #[.int .i64 0, .bool false] 59)).putOther (c := K) (by have := HRK.out; omega) 0 L).putOther (c := K + 1) (by have := HRK.out; omega) 0 [.int .i64 j, .bool t]
    have hb : Below W.heap.size W2 (((((W2.alloc (.cells T0.toArray 40)).alloc (.cells #[.int .i64 0, .bool false] 59)).setCells K 0 L).setCells (K + 1) 0 [.int .i64 j, .bool t]).setCells R 0 [.int .i64 j, .bool t]) := by
      have := HRK.out
      exact belows_put (by omega) _ 0 (belows_put (by omega) _ 0 (belows_put (by omega) _ 0 (((Below.refl _ W2).alloc (by omega) _).alloc (by simp; omega) _)))
    have HE : Hid (Tc lo B M r s b o d m n vb l1 Y vc l2 Z W (((((W2.alloc (.cells T0.toArray 40)).alloc (.cells #[.int .i64 0, .bool false] 59)).setCells K 0 L).setCells (K + 1) 0 [.int .i64 j, .bool t]).setCells R 0 [.int .i64 j, .bool t])) := HT.out.wide HB.out HLO.out HM.out hb
    clear hb a1 a2 c6
    have KK : Hid (Cb ((((W2.alloc (.cells T0.toArray 40)).alloc (.cells #[.int .i64 0, .bool false] 59)).setCells K 0 L).setCells (K + 1) 0 [.int .i64 j, .bool t]) (K + 1) [.int .i64 j, .bool t] ∧ Cb ((((W2.alloc (.cells T0.toArray 40)).alloc (.cells #[.int .i64 0, .bool false] 59)).setCells K 0 L).setCells (K + 1) 0 [.int .i64 j, .bool t]) R [.int .i64 0, .bool false]) := ⟨k2, k6⟩
    clear k2 k6
    go_upto_region 3 with (first
      | refine wpList_store_mid rfl 40 _ _ rfl K 0 L.toArray rfl rfl t1 iL one1 ?_
      | refine wpList_store_mid rfl 59 _ _ rfl (K + 1) 0 #[.int .i64 j, .bool t] rfl rfl t2 infoWe on ?_)
    obtain ⟨W3, hW3⟩ : ∃ W, ((((W2.alloc (.cells T0.toArray 40)).alloc (.cells #[.int .i64 0, .bool false] 59)).setCells K 0 L).setCells (K + 1) 0 [.int .i64 j, .bool t]) = W := ⟨_, rfl⟩
    rw [hW3] at KK HE ⊢
    clear hW3 t1 t2 iL one1 hz hK
    have q1 := KK.out.1.range
    have q2 := KK.out.2.thereAt 0 2 (by simp)
    have q3 := KK.out.2.all (vs := [.int .i64 j, .bool t]) rfl
    have hld := run_loadVar_mid (P := Try.prog) _ R 0 59 [.int .i64 j, .bool t] _ q3.range Try.underlying59 rfl infoWe
    clear q3
    go_wp2_with (first
      | refine wpList_load_mid rfl 59 _ rfl (K + 1) 0 rfl [.int .i64 j, .bool t] _ q1 Try.underlying59 rfl infoWe ?_
      | refine wpList_store_mid rfl 59 _ _ rfl R 0 #[.int .i64 j, .bool t] rfl rfl q2 infoWe on ?_)
    refine bodyPost_ret (v := .tuple #[.agg #[.int .i64 j, .bool t], .int .i64 0]) ?_ rfl ⟨rfl, HE.out⟩
    simp [results, Try.f26, asAddr, hld]
  | false =>
    go_wp2_with (first | refine wpList_known rfl _ (exec_build12 40 rfl _ hbr _) ?_)
    refine (CW.out _ HB.out).mono ?_
    rintro e W2 ⟨rfl, ht⟩
    have c6 := HK6.out ht
    have HE : Hid (Tc lo B M r s b o d m n vb l1 Y vc l2 Z W (W2.setCells R 0 [.int .i64 j, .bool t])) := ht.wide HB.out HLO.out HM.out (belows_put (by omega) _ 0 (Below.refl _ W2))
    have q2 := c6.thereAt 0 2 (by simp)
    have q3 := c6.all (vs := [.int .i64 j, .bool t]) rfl
    have hld := run_loadVar_mid (P := Try.prog) _ R 0 59 [.int .i64 j, .bool t] _ q3.range Try.underlying59 rfl infoWe
    clear q3 c6 ht CR CW hbr hz
    go_wp2_with (first
      | refine wpList_store_mid rfl 59 _ _ rfl R 0 #[.int .i64 j, .bool t] rfl rfl q2 infoWe on ?_)
    refine bodyPost_ret (v := .tuple #[.agg #[.int .i64 j, .bool t], .int .i64 0]) ?_ rfl ⟨rfl, HE.out⟩
    simp [results, Try.f26, asAddr, hld]
end
end Go.Proofs.Ytcpjmfemgdgplaa
