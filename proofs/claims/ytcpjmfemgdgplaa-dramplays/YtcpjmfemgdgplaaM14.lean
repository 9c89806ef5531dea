/-
  Texts of one family, one behind another: DrW3, DrW4, DrW5.
-/
import Derived.Test.YtcpjmfemgdgplaaM11
import Derived.Test.YtcpjmfemgdgplaaM13
import Derived.Test.YtcpjmfemgdgplaaM12
import Derived.Deep.RegionLaw
import Derived.Lib.SliceRun

/-
  What the chips tell of an index: readAt, Look.
-/
namespace Go.Proofs.Ytcpjmfemgdgplaa
open Go.RowKit Go.Shelf
open Ge (pw rt hd ix)
attribute [local go_sem] Oper.semAt_some

theorem exec_look {P : Program} {op : Oper} {a : Act} {w : World} (T : TypeId) (x y : Operand) (ho : op.op = .lookup T x y false) (mv kv v : Value) (hx : a.eval x = mv) (hy : a.eval y = kv) (h : (Instr.lookup T mv kv false).run P w = .ok v w) : (execOp a.eval op).run P w = .ok (.value v) w := by
  simp [execOp, ho, hx, hy, h, Result.andThen]
/-- at work in readAt -/
structure Ra (lo B M : Nat) (r s b o d m : Int) (n : Nat) (G : Int → Nat → Int) (vb : Value) (l1 : Nat) (Y : Nat → Nat → Int) (vc : Value) (l2 : Nat) (Z : Nat → Nat → Int) (K R : Nat) (p q u v : Int) (w W : World) : Prop where
  d : Dm W lo B M r s b o d m n G vb l1 Y vc l2 Z
  p : Pl W K p q u v
  e : ∃ X, Bk .u8 W R 72 X
  n : Below w.heap.size w W
theorem Ra.next {lo B M : Nat} {r s b o d m : Int} {n : Nat} {G : Int → Nat → Int} {vb : Value} {l1 : Nat} {Y : Nat → Nat → Int} {vc : Value} {l2 : Nat} {Z : Nat → Nat → Int} {K R : Nat} {p q u v : Int} {w W W' : World} (h : Ra lo B M r s b o d m n G vb l1 Y vc l2 Z K R p q u v w W) (k : Below W.heap.size W W') : Ra lo B M r s b o d m n G vb l1 Y vc l2 Z K R p q u v w W' := ⟨h.d.next k, h.p.next k, (let ⟨X, e⟩ := h.e; ⟨X, e.next k⟩), h.n.trans (k.mono h.n.size)⟩
section
variable {W : World} {lo B M : Nat} {r s b o d m : Int} {n : Nat} {G : Int → Nat → Int} {vb vc : Value} {l1 l2 : Nat} {Y Z : Nat → Nat → Int}
set_option maxRecDepth 100000 in
set_option maxHeartbeats 4000000 in
theorem dReadAt_any (h : Dm W lo B M r s b o d m n G vb l1 Y vc l2 Z) {k j : Int} (hm : Md m k j) (i : Int) (hi : I64 i) (hx1 : hx r s b o d i = true) :
    Calls Try.prog 42 #[.pointer (some ⟨B, 0, none⟩), .int .i64 i] W fun e w' => e = .returned (rawV (ovF k Y (i / 1048576) (i / 65536 % 16) (i / 64 % 1024) (i % 64) (G i) l1)) ∧ Below W.heap.size W w' := by
  unfold rawV
  have CA : Hid (∀ w : World, Calls Try.prog 69 #[.agg #[.int .i64 r, .int .i64 s, .int .i64 b, .int .i64 o, .int .i64 d], .int .i64 i] w fun e w' => e = .returned (.tuple #[.agg #[.int .i64 (i / 1048576), .int .i64 (i / 65536 % 16), .int .i64 (i / 64 % 1024), .int .i64 (i % 64)], .int .i64 0]) ∧ Below w.heap.size w w') := fun w => at_yes r s b o d i hx1 w
  obtain ⟨p, hp⟩ : ∃ y, i / 1048576 = y := ⟨_, rfl⟩
  obtain ⟨q, hq⟩ : ∃ y, i / 65536 % 16 = y := ⟨_, rfl⟩
  obtain ⟨u, hu⟩ : ∃ y, i / 64 % 1024 = y := ⟨_, rfl⟩
  obtain ⟨v, hv⟩ : ∃ y, i % 64 = y := ⟨_, rfl⟩
  rw [hp, hq, hu, hv] at CA
  rw [hp, hq, hu, hv]
  clear hp hq hu hv hx1
  obtain ⟨a, c, e1, hf⟩ := h.fs1
  have CO : Hid (∀ w, Below W.heap.size W w → Calls Try.prog 70 #[vb, .int .i64 m, .agg #[.int .i64 p, .int .i64 q, .int .i64 u, .int .i64 v], .agg (ints .u8 72 (G i)).toArray] w fun e w' => e = .returned (.agg (ints .u8 72 (ovF k Y p q u v (G i) l1)).toArray) ∧ Below w.heap.size w w') := fun w hw => by rw [e1]; exact overlay_any a l1 c Y p q u v (G i) (h.by_ i) m k j hm w (hf.below hw)
  obtain ⟨F2, hF2⟩ : ∃ F, ovF k Y p q u v (G i) l1 = F := ⟨_, rfl⟩
  rw [hF2] at CO
  rw [hF2]
  clear hF2 hf e1 hm
  obtain ⟨L2, hL2⟩ : ∃ L, ints .u8 72 F2 = L := ⟨_, rfl⟩
  obtain ⟨L, hL⟩ : ∃ L, ints .u8 72 (G i) = L := ⟨_, rfl⟩
  have iL : (Try.prog.info? 40).map (·.size) = some L2.toArray.size := by rw [← hL2]; exact infoR
  have iL2 : (Try.prog.info? 40).map (·.size) = some L2.length := by rw [← hL2, ints_len]; exact infoR
  have one : L2.toArray.all (·.oneCell') = true := by rw [← hL2]; exact ints_one .u8 72 F2
  have HL : Hid (∀ W', Dm W' lo B M r s b o d m n G vb l1 Y vc l2 Z → (Instr.lookup 80 (.map (some M)) (.int .i64 i) false).run Try.prog W' = .ok (.agg L.toArray) W') := fun W' h' => by rw [← hL]; exact h'.mp.look hi
  have HT : Hid (∀ W' R, (∃ X, Bk .u8 W' R 72 X) → W'.there R 0 L2.toArray.size) := fun W' R h' => by obtain ⟨X, h'⟩ := h'; rw [← hL2]; simpa [ints] using Bk.there h' .u8 F2
  have HP : Hid (∀ W' R, (∃ X, Bk .u8 W' R 72 X) → ∃ X, Bk .u8 (W'.setCells R 0 L2) R 72 X) := fun W' R h' => by obtain ⟨X, h'⟩ := h'; rw [← hL2]; exact ⟨_, h'.put F2⟩
  have HM : Hid (∀ g, mine B M vb vc g → g < W.heap.size) := fun g hg => (h.mine_lt g hg).2
  rw [hL, hL2] at CO
  rw [hL2]
  have HD : Hid (Dm W lo B M r s b o d m n G vb l1 Y vc l2 Z) := h
  have hz := zeroR
  obtain ⟨T, hT⟩ : ∃ Z, (ints .u8 72 fun _ => 0).toArray = Z := ⟨_, rfl⟩
  rw [hT] at hz
  clear hL hL2 h hi
  go_enter Try.func42, Try.ntmps42
  go_upto_region 1 with (fail)
  obtain ⟨R, hR⟩ : ∃ R, W.heap.size = R := ⟨_, rfl⟩
  obtain ⟨V, hV⟩ : ∃ V, W.alloc (.cells T 40) = V := ⟨_, rfl⟩
  have HB : Hid (Below W.heap.size W V) := by rw [← hV]; exact (Below.refl _ W).alloc (Nat.le_refl _) _
  have HE : Hid (Bk .u8 V R 72 fun _ => 0) := by rw [← hV, ← hT, ← hR]; exact Bk.new .u8 W 72 (fun _ => 0) _
  have HV : Hid (Dm V lo B M r s b o d m n G vb l1 Y vc l2 Z) := HD.out.next HB.out
  have hg := HV.out.g
  have c0 := HV.out.c.cell (i := 0) rfl
  rw [hV, hR]
  clear hV hT hz HD
  go_wp2_with (first | refine wpList_load_mid rfl 23 _ rfl B 0 rfl [.int .i64 r, .int .i64 s, .int .i64 b, .int .i64 o, .int .i64 d] _ hg Try.underlying23 rfl infoGm ?_)
  refine (CA.out _).mono ?_
  rintro e W1 ⟨rfl, b1⟩
  have HV1 : Hid (Dm W1 lo B M r s b o d m n G vb l1 Y vc l2 Z ∧ Bk .u8 W1 R 72 (fun _ => 0) ∧ Below W.heap.size W W1) := ⟨HV.out.next b1, HE.out.next b1, HB.out.trans (b1.mono HB.out.size)⟩
  obtain ⟨K, hK⟩ : ∃ K, W1.heap.size = K := ⟨_, rfl⟩
  have HKR : Hid (R < K) := by rw [← hK]; exact HV1.out.2.1.lt
  clear b1 hg c0 HV HE HB CA
  go_upto_region 2 with (fail)
  obtain ⟨W2, hW2⟩ : ∃ W2, W1.alloc (.cells #[.int .i64 p, .int .i64 q, .int .i64 u, .int .i64 v] 36) = W2 := ⟨_, rfl⟩
  have HS : Hid (Ra lo B M r s b o d m n G vb l1 Y vc l2 Z K R p q u v W W2) := by
    have hB1 : Below W1.heap.size W1 W2 := by rw [← hW2]; exact (Below.refl _ W1).alloc (Nat.le_refl _) _
    refine ⟨HV1.out.1.next hB1, ?_, ⟨_, HV1.out.2.1.next hB1⟩, HV1.out.2.2.trans (hB1.mono HV1.out.2.2.size)⟩
    rw [← hW2, ← hK]
    exact Pl.new W1 p q u v _
  rw [hW2]
  clear hW2 HV1
  refine region_ends (by kernel_rfl) (fun W' => Ra lo B M r s b o d m n G vb l1 Y vc l2 Z K R p q u v W W') (fun a2 W' => a2 = ({ tmps := #[.pointer (some ⟨B, 0, none⟩), .int .i64 i, undef, undef, .pointer (some ⟨R, 0, none⟩), .pointer (some ⟨K, 0, none⟩), .int .i64 0, .tuple #[.agg #[.int .i64 p, .int .i64 q, .int .i64 u, .int .i64 v], .int .i64 0], .pointer (some ⟨B, 0, none⟩), .pointer (some ⟨B, 0, none⟩), .pointer (some ⟨B, 0, none⟩), .agg #[.int .i64 r, .int .i64 s, .int .i64 b, .int .i64 o, .int .i64 d], .int .i64 i, .tuple #[.agg #[.int .i64 p, .int .i64 q, .int .i64 u, .int .i64 v], .int .i64 0], .agg #[.int .i64 p, .int .i64 q, .int .i64 u, .int .i64 v], .int .i64 0, .pointer (some ⟨B, 0, none⟩), .pointer (some ⟨B, 0, none⟩), .pointer (some ⟨B, 7, none⟩), vb, .pointer (some ⟨B, 0, none⟩), .pointer (some ⟨B, 0, none⟩), .pointer (some ⟨B, 5, none⟩), .int .i64 m, .agg #[.int .i64 p, .int .i64 q, .int .i64 u, .int .i64 v], .pointer (some ⟨B, 0, none⟩), .pointer (some ⟨B, 0, none⟩), .pointer (some ⟨B, 6, none⟩), .map (some M), .int .i64 i, .agg L.toArray, .agg L2.toArray], defers := [] } : Act) ∧ ∃ W3, Ra lo B M r s b o d m n G vb l1 Y vc l2 Z K R p q u v W W3 ∧ W' = W3.setCells R 0 L2) (HS.out.next (below_drew1 _)) (fun hH => ?reg) (fun a2 V3 hr => ?aft)
  case reg =>
    refine take_pure 0 (v := .pointer (some ⟨B, 0, none⟩)) rfl (by kernel_rfl) rfl (fun w' hw => by simp [execOp, go_sem]) hH ?_
    show wpAnyH _ _ _ _ _ _ _ ({ tmps := #[.pointer (some ⟨B, 0, none⟩), .int .i64 i, undef, undef, .pointer (some ⟨R, 0, none⟩), .pointer (some ⟨K, 0, none⟩), .int .i64 0, .tuple #[.agg #[.int .i64 p, .int .i64 q, .int .i64 u, .int .i64 v], .int .i64 0], .pointer (some ⟨B, 0, none⟩), .pointer (some ⟨B, 0, none⟩), .pointer (some ⟨B, 0, none⟩), .agg #[.int .i64 r, .int .i64 s, .int .i64 b, .int .i64 o, .int .i64 d], .int .i64 i, .tuple #[.agg #[.int .i64 p, .int .i64 q, .int .i64 u, .int .i64 v], .int .i64 0], .agg #[.int .i64 p, .int .i64 q, .int .i64 u, .int .i64 v], .int .i64 0, .pointer (some ⟨B, 0, none⟩), undef, undef, undef, undef, undef, undef, undef, undef, undef, undef, undef, undef, undef, undef, undef], defers := [] } : Act) _
    refine take_pure 1 (v := .pointer (some ⟨B, 0, none⟩)) rfl (by kernel_rfl) rfl (fun w' hw => by simp [execOp, go_sem]) hH ?_
    show wpAnyH _ _ _ _ _ _ _ ({ tmps := #[.pointer (some ⟨B, 0, none⟩), .int .i64 i, undef, undef, .pointer (some ⟨R, 0, none⟩), .pointer (some ⟨K, 0, none⟩), .int .i64 0, .tuple #[.agg #[.int .i64 p, .int .i64 q, .int .i64 u, .int .i64 v], .int .i64 0], .pointer (some ⟨B, 0, none⟩), .pointer (some ⟨B, 0, none⟩), .pointer (some ⟨B, 0, none⟩), .agg #[.int .i64 r, .int .i64 s, .int .i64 b, .int .i64 o, .int .i64 d], .int .i64 i, .tuple #[.agg #[.int .i64 p, .int .i64 q, .int .i64 u, .int .i64 v], .int .i64 0], .agg #[.int .i64 p, .int .i64 q, .int .i64 u, .int .i64 v], .int .i64 0, .pointer (some ⟨B, 0, none⟩), .pointer (some ⟨B, 0, none⟩), undef, undef, undef, undef, undef, undef, undef, undef, undef, undef, undef, undef, undef, undef], defers := [] } : Act) _
    refine take_pure 2 (v := .pointer (some ⟨B, 7, none⟩)) rfl (by kernel_rfl) rfl (fun w' hw => by simp [execOp, go_sem]) hH ?_
    show wpAnyH _ _ _ _ _ _ _ ({ tmps := #[.pointer (some ⟨B, 0, none⟩), .int .i64 i, undef, undef, .pointer (some ⟨R, 0, none⟩), .pointer (some ⟨K, 0, none⟩), .int .i64 0, .tuple #[.agg #[.int .i64 p, .int .i64 q, .int .i64 u, .int .i64 v], .int .i64 0], .pointer (some ⟨B, 0, none⟩), .pointer (some ⟨B, 0, none⟩), .pointer (some ⟨B, 0, none⟩), .agg #[.int .i64 r, .int .i64 s, .int .i64 b, .int .i64 o, .int .i64 d], .int .i64 i, .tuple #[.agg #[.int .i64 p, .int .i64 q, .int .i64 u, .int .i64 v], .int .i64 0], .agg #[.int .i64 p, .int .i64 q, .int .i64 u, .int .i64 v], .int .i64 0, .pointer (some ⟨B, 0, none⟩), .pointer (some ⟨B, 0, none⟩), .pointer (some ⟨B, 7, none⟩), undef, undef, undef, undef, undef, undef, undef, undef, undef, undef, undef, undef, undef], defers := [] } : Act) _
    refine take_pure 3 (v := vb) rfl (by kernel_rfl) rfl (fun w' hw => by simp [execOp, go_sem, hw.d.cb]) hH ?_
    show wpAnyH _ _ _ _ _ _ _ ({ tmps := #[.pointer (some ⟨B, 0, none⟩), .int .i64 i, undef, undef, .pointer (some ⟨R, 0, none⟩), .pointer (some ⟨K, 0, none⟩), .int .i64 0, .tuple #[.agg #[.int .i64 p, .int .i64 q, .int .i64 u, .int .i64 v], .int .i64 0], .pointer (some ⟨B, 0, none⟩), .pointer (some ⟨B, 0, none⟩), .pointer (some ⟨B, 0, none⟩), .agg #[.int .i64 r, .int .i64 s, .int .i64 b, .int .i64 o, .int .i64 d], .int .i64 i, .tuple #[.agg #[.int .i64 p, .int .i64 q, .int .i64 u, .int .i64 v], .int .i64 0], .agg #[.int .i64 p, .int .i64 q, .int .i64 u, .int .i64 v], .int .i64 0, .pointer (some ⟨B, 0, none⟩), .pointer (some ⟨B, 0, none⟩), .pointer (some ⟨B, 7, none⟩), vb, undef, undef, undef, undef, undef, undef, undef, undef, undef, undef, undef, undef], defers := [] } : Act) _
    refine take_pure 4 (v := .pointer (some ⟨B, 0, none⟩)) rfl (by kernel_rfl) rfl (fun w' hw => by simp [execOp, go_sem]) hH ?_
    show wpAnyH _ _ _ _ _ _ _ ({ tmps := #[.pointer (some ⟨B, 0, none⟩), .int .i64 i, undef, undef, .pointer (some ⟨R, 0, none⟩), .pointer (some ⟨K, 0, none⟩), .int .i64 0, .tuple #[.agg #[.int .i64 p, .int .i64 q, .int .i64 u, .int .i64 v], .int .i64 0], .pointer (some ⟨B, 0, none⟩), .pointer (some ⟨B, 0, none⟩), .pointer (some ⟨B, 0, none⟩), .agg #[.int .i64 r, .int .i64 s, .int .i64 b, .int .i64 o, .int .i64 d], .int .i64 i, .tuple #[.agg #[.int .i64 p, .int .i64 q, .int .i64 u, .int .i64 v], .int .i64 0], .agg #[.int .i64 p, .int .i64 q, .int .i64 u, .int .i64 v], .int .i64 0, .pointer (some ⟨B, 0, none⟩), .pointer (some ⟨B, 0, none⟩), .pointer (some ⟨B, 7, none⟩), vb, .pointer (some ⟨B, 0, none⟩), undef, undef, undef, undef, undef, undef, undef, undef, undef, undef, undef], defers := [] } : Act) _
    refine take_pure 5 (v := .pointer (some ⟨B, 0, none⟩)) rfl (by kernel_rfl) rfl (fun w' hw => by simp [execOp, go_sem]) hH ?_
    show wpAnyH _ _ _ _ _ _ _ ({ tmps := #[.pointer (some ⟨B, 0, none⟩), .int .i64 i, undef, undef, .pointer (some ⟨R, 0, none⟩), .pointer (some ⟨K, 0, none⟩), .int .i64 0, .tuple #[.agg #[.int .i64 p, .int .i64 q, .int .i64 u, .int .i64 v], .int .i64 0], .pointer (some ⟨B, 0, none⟩), .pointer (some ⟨B, 0, none⟩), .pointer (some ⟨B, 0, none⟩), .agg #[.int .i64 r, .int .i64 s, .int .i64 b, .int .i64 o, .int .i64 d], .int .i64 i, .tuple #[.agg #[.int .i64 p, .int .i64 q, .int .i64 u, .int .i64 v], .int .i64 0], .agg #[.int .i64 p, .int .i64 q, .int .i64 u, .int .i64 v], .int .i64 0, .pointer (some ⟨B, 0, none⟩), .pointer (some ⟨B, 0, none⟩), .pointer (some ⟨B, 7, none⟩), vb, .pointer (some ⟨B, 0, none⟩), .pointer (some ⟨B, 0, none⟩), undef, undef, undef, undef, undef, undef, undef, undef, undef, undef], defers := [] } : Act) _
    refine take_pure 6 (v := .pointer (some ⟨B, 5, none⟩)) rfl (by kernel_rfl) rfl (fun w' hw => by simp [execOp, go_sem]) hH ?_
    show wpAnyH _ _ _ _ _ _ _ ({ tmps := #[.pointer (some ⟨B, 0, none⟩), .int .i64 i, undef, undef, .pointer (some ⟨R, 0, none⟩), .pointer (some ⟨K, 0, none⟩), .int .i64 0, .tuple #[.agg #[.int .i64 p, .int .i64 q, .int .i64 u, .int .i64 v], .int .i64 0], .pointer (some ⟨B, 0, none⟩), .pointer (some ⟨B, 0, none⟩), .pointer (some ⟨B, 0, none⟩), .agg #[.int .i64 r, .int .i64 s, .int .i64 b, .int .i64 o, .int .i64 d], .int .i64 i, .tuple #[.agg #[.int .i64 p, .int .i64 q, .int .i64 u, .int .i64 v], .int .i64 0], .agg #[.int .i64 p, .int .i64 q, .int .i64 u, .int .i64 v], .int .i64 0, .pointer (some ⟨B, 0, none⟩), .pointer (some ⟨B, 0, none⟩), .pointer (some ⟨B, 7, none⟩), vb, .pointer (some ⟨B, 0, none⟩), .pointer (some ⟨B, 0, none⟩), .pointer (some ⟨B, 5, none⟩), undef, undef, undef, undef, undef, undef, undef, undef, undef], defers := [] } : Act) _
    refine take_pure 7 (v := .int .i64 m) rfl (by kernel_rfl) rfl (fun w' hw => by simp [execOp, go_sem, hw.d.cm]) hH ?_
    show wpAnyH _ _ _ _ _ _ _ ({ tmps := #[.pointer (some ⟨B, 0, none⟩), .int .i64 i, undef, undef, .pointer (some ⟨R, 0, none⟩), .pointer (some ⟨K, 0, none⟩), .int .i64 0, .tuple #[.agg #[.int .i64 p, .int .i64 q, .int .i64 u, .int .i64 v], .int .i64 0], .pointer (some ⟨B, 0, none⟩), .pointer (some ⟨B, 0, none⟩), .pointer (some ⟨B, 0, none⟩), .agg #[.int .i64 r, .int .i64 s, .int .i64 b, .int .i64 o, .int .i64 d], .int .i64 i, .tuple #[.agg #[.int .i64 p, .int .i64 q, .int .i64 u, .int .i64 v], .int .i64 0], .agg #[.int .i64 p, .int .i64 q, .int .i64 u, .int .i64 v], .int .i64 0, .pointer (some ⟨B, 0, none⟩), .pointer (some ⟨B, 0, none⟩), .pointer (some ⟨B, 7, none⟩), vb, .pointer (some ⟨B, 0, none⟩), .pointer (some ⟨B, 0, none⟩), .pointer (some ⟨B, 5, none⟩), .int .i64 m, undef, undef, undef, undef, undef, undef, undef, undef], defers := [] } : Act) _
    refine take_if 8 (v := .agg #[.int .i64 p, .int .i64 q, .int .i64 u, .int .i64 v]) rfl (by kernel_rfl) (yieldsIf_load_mid (by rfl) _ _ rfl K 0 rfl [.int .i64 p, .int .i64 q, .int .i64 u, .int .i64 v] _ (fun w' hw => hw.p.range) Try.underlying36 rfl info_place) hH ?_
    show wpAnyH _ _ _ _ _ _ _ ({ tmps := #[.pointer (some ⟨B, 0, none⟩), .int .i64 i, undef, undef, .pointer (some ⟨R, 0, none⟩), .pointer (some ⟨K, 0, none⟩), .int .i64 0, .tuple #[.agg #[.int .i64 p, .int .i64 q, .int .i64 u, .int .i64 v], .int .i64 0], .pointer (some ⟨B, 0, none⟩), .pointer (some ⟨B, 0, none⟩), .pointer (some ⟨B, 0, none⟩), .agg #[.int .i64 r, .int .i64 s, .int .i64 b, .int .i64 o, .int .i64 d], .int .i64 i, .tuple #[.agg #[.int .i64 p, .int .i64 q, .int .i64 u, .int .i64 v], .int .i64 0], .agg #[.int .i64 p, .int .i64 q, .int .i64 u, .int .i64 v], .int .i64 0, .pointer (some ⟨B, 0, none⟩), .pointer (some ⟨B, 0, none⟩), .pointer (some ⟨B, 7, none⟩), vb, .pointer (some ⟨B, 0, none⟩), .pointer (some ⟨B, 0, none⟩), .pointer (some ⟨B, 5, none⟩), .int .i64 m, .agg #[.int .i64 p, .int .i64 q, .int .i64 u, .int .i64 v], undef, undef, undef, undef, undef, undef, undef], defers := [] } : Act) _
    refine take_pure 9 (v := .pointer (some ⟨B, 0, none⟩)) rfl (by kernel_rfl) rfl (fun w' hw => by simp [execOp, go_sem]) hH ?_
    show wpAnyH _ _ _ _ _ _ _ ({ tmps := #[.pointer (some ⟨B, 0, none⟩), .int .i64 i, undef, undef, .pointer (some ⟨R, 0, none⟩), .pointer (some ⟨K, 0, none⟩), .int .i64 0, .tuple #[.agg #[.int .i64 p, .int .i64 q, .int .i64 u, .int .i64 v], .int .i64 0], .pointer (some ⟨B, 0, none⟩), .pointer (some ⟨B, 0, none⟩), .pointer (some ⟨B, 0, none⟩), .agg #[.int .i64 r, .int .i64 s, .int .i64 b, .int .i64 o, .int .i64 d], .int .i64 i, .tuple #[.agg #[.int .i64 p, .int .i64 q, .int .i64 u, .int .i64 v], .int .i64 0], .agg #[.int .i64 p, .int .i64 q, .int .i64 u, .int .i64 v], .int .i64 0, .pointer (some ⟨B, 0, none⟩), .pointer (some ⟨B, 0, none⟩), .pointer (some ⟨B, 7, none⟩), vb, .pointer (some ⟨B, 0, none⟩), .pointer (some ⟨B, 0, none⟩), .pointer (some ⟨B, 5, none⟩), .int .i64 m, .agg #[.int .i64 p, .int .i64 q, .int .i64 u, .int .i64 v], .pointer (some ⟨B, 0, none⟩), undef, undef, undef, undef, undef, undef], defers := [] } : Act) _
    refine take_pure 10 (v := .pointer (some ⟨B, 0, none⟩)) rfl (by kernel_rfl) rfl (fun w' hw => by simp [execOp, go_sem]) hH ?_
    show wpAnyH _ _ _ _ _ _ _ ({ tmps := #[.pointer (some ⟨B, 0, none⟩), .int .i64 i, undef, undef, .pointer (some ⟨R, 0, none⟩), .pointer (some ⟨K, 0, none⟩), .int .i64 0, .tuple #[.agg #[.int .i64 p, .int .i64 q, .int .i64 u, .int .i64 v], .int .i64 0], .pointer (some ⟨B, 0, none⟩), .pointer (some ⟨B, 0, none⟩), .pointer (some ⟨B, 0, none⟩), .agg #[.int .i64 r, .int .i64 s, .int .i64 b, .int .i64 o, .int .i64 d], .int .i64 i, .tuple #[.agg #[.int .i64 p, .int .i64 q, .int .i64 u, .int .i64 v], .int .i64 0], .agg #[.int .i64 p, .int .i64 q, .int .i64 u, .int .i64 v], .int .i64 0, .pointer (some ⟨B, 0, none⟩), .pointer (some ⟨B, 0, none⟩), .pointer (some ⟨B, 7, none⟩), vb, .pointer (some ⟨B, 0, none⟩), .pointer (some ⟨B, 0, none⟩), .pointer (some ⟨B, 5, none⟩), .int .i64 m, .agg #[.int .i64 p, .int .i64 q, .int .i64 u, .int .i64 v], .pointer (some ⟨B, 0, none⟩), .pointer (some ⟨B, 0, none⟩), undef, undef, undef, undef, undef], defers := [] } : Act) _
    refine take_pure 11 (v := .pointer (some ⟨B, 6, none⟩)) rfl (by kernel_rfl) rfl (fun w' hw => by simp [execOp, go_sem]) hH ?_
    show wpAnyH _ _ _ _ _ _ _ ({ tmps := #[.pointer (some ⟨B, 0, none⟩), .int .i64 i, undef, undef, .pointer (some ⟨R, 0, none⟩), .pointer (some ⟨K, 0, none⟩), .int .i64 0, .tuple #[.agg #[.int .i64 p, .int .i64 q, .int .i64 u, .int .i64 v], .int .i64 0], .pointer (some ⟨B, 0, none⟩), .pointer (some ⟨B, 0, none⟩), .pointer (some ⟨B, 0, none⟩), .agg #[.int .i64 r, .int .i64 s, .int .i64 b, .int .i64 o, .int .i64 d], .int .i64 i, .tuple #[.agg #[.int .i64 p, .int .i64 q, .int .i64 u, .int .i64 v], .int .i64 0], .agg #[.int .i64 p, .int .i64 q, .int .i64 u, .int .i64 v], .int .i64 0, .pointer (some ⟨B, 0, none⟩), .pointer (some ⟨B, 0, none⟩), .pointer (some ⟨B, 7, none⟩), vb, .pointer (some ⟨B, 0, none⟩), .pointer (some ⟨B, 0, none⟩), .pointer (some ⟨B, 5, none⟩), .int .i64 m, .agg #[.int .i64 p, .int .i64 q, .int .i64 u, .int .i64 v], .pointer (some ⟨B, 0, none⟩), .pointer (some ⟨B, 0, none⟩), .pointer (some ⟨B, 6, none⟩), undef, undef, undef, undef], defers := [] } : Act) _
    refine take_pure 12 (v := .map (some M)) rfl (by kernel_rfl) rfl (fun w' hw => by simp [execOp, go_sem, hw.d.ca]) hH ?_
    show wpAnyH _ _ _ _ _ _ _ ({ tmps := #[.pointer (some ⟨B, 0, none⟩), .int .i64 i, undef, undef, .pointer (some ⟨R, 0, none⟩), .pointer (some ⟨K, 0, none⟩), .int .i64 0, .tuple #[.agg #[.int .i64 p, .int .i64 q, .int .i64 u, .int .i64 v], .int .i64 0], .pointer (some ⟨B, 0, none⟩), .pointer (some ⟨B, 0, none⟩), .pointer (some ⟨B, 0, none⟩), .agg #[.int .i64 r, .int .i64 s, .int .i64 b, .int .i64 o, .int .i64 d], .int .i64 i, .tuple #[.agg #[.int .i64 p, .int .i64 q, .int .i64 u, .int .i64 v], .int .i64 0], .agg #[.int .i64 p, .int .i64 q, .int .i64 u, .int .i64 v], .int .i64 0, .pointer (some ⟨B, 0, none⟩), .pointer (some ⟨B, 0, none⟩), .pointer (some ⟨B, 7, none⟩), vb, .pointer (some ⟨B, 0, none⟩), .pointer (some ⟨B, 0, none⟩), .pointer (some ⟨B, 5, none⟩), .int .i64 m, .agg #[.int .i64 p, .int .i64 q, .int .i64 u, .int .i64 v], .pointer (some ⟨B, 0, none⟩), .pointer (some ⟨B, 0, none⟩), .pointer (some ⟨B, 6, none⟩), .map (some M), undef, undef, undef], defers := [] } : Act) _
    refine take_pure 13 (v := .int .i64 i) rfl (by kernel_rfl) rfl (fun w' hw => by simp [execOp, go_sem]) hH ?_
    show wpAnyH _ _ _ _ _ _ _ ({ tmps := #[.pointer (some ⟨B, 0, none⟩), .int .i64 i, undef, undef, .pointer (some ⟨R, 0, none⟩), .pointer (some ⟨K, 0, none⟩), .int .i64 0, .tuple #[.agg #[.int .i64 p, .int .i64 q, .int .i64 u, .int .i64 v], .int .i64 0], .pointer (some ⟨B, 0, none⟩), .pointer (some ⟨B, 0, none⟩), .pointer (some ⟨B, 0, none⟩), .agg #[.int .i64 r, .int .i64 s, .int .i64 b, .int .i64 o, .int .i64 d], .int .i64 i, .tuple #[.agg #[.int .i64 p, .int .i64 q, .int .i64 u, .int .i64 v], .int .i64 0], .agg #[.int .i64 p, .int .i64 q, .int .i64 u, .int .i64 v], .int .i64 0, .pointer (some ⟨B, 0, none⟩), .pointer (some ⟨B, 0, none⟩), .pointer (some ⟨B, 7, none⟩), vb, .pointer (some ⟨B, 0, none⟩), .pointer (some ⟨B, 0, none⟩), .pointer (some ⟨B, 5, none⟩), .int .i64 m, .agg #[.int .i64 p, .int .i64 q, .int .i64 u, .int .i64 v], .pointer (some ⟨B, 0, none⟩), .pointer (some ⟨B, 0, none⟩), .pointer (some ⟨B, 6, none⟩), .map (some M), .int .i64 i, undef, undef], defers := [] } : Act) _
    refine take_pure 14 (v := .agg L.toArray) rfl (by kernel_rfl) rfl (fun w' hw => exec_look 80 (.tmp 28) (.tmp 29) rfl (.map (some M)) (.int .i64 i) (.agg L.toArray) rfl rfl (HL.out _ hw.d)) hH ?_
    show wpAnyH _ _ _ _ _ _ _ ({ tmps := #[.pointer (some ⟨B, 0, none⟩), .int .i64 i, undef, undef, .pointer (some ⟨R, 0, none⟩), .pointer (some ⟨K, 0, none⟩), .int .i64 0, .tuple #[.agg #[.int .i64 p, .int .i64 q, .int .i64 u, .int .i64 v], .int .i64 0], .pointer (some ⟨B, 0, none⟩), .pointer (some ⟨B, 0, none⟩), .pointer (some ⟨B, 0, none⟩), .agg #[.int .i64 r, .int .i64 s, .int .i64 b, .int .i64 o, .int .i64 d], .int .i64 i, .tuple #[.agg #[.int .i64 p, .int .i64 q, .int .i64 u, .int .i64 v], .int .i64 0], .agg #[.int .i64 p, .int .i64 q, .int .i64 u, .int .i64 v], .int .i64 0, .pointer (some ⟨B, 0, none⟩), .pointer (some ⟨B, 0, none⟩), .pointer (some ⟨B, 7, none⟩), vb, .pointer (some ⟨B, 0, none⟩), .pointer (some ⟨B, 0, none⟩), .pointer (some ⟨B, 5, none⟩), .int .i64 m, .agg #[.int .i64 p, .int .i64 q, .int .i64 u, .int .i64 v], .pointer (some ⟨B, 0, none⟩), .pointer (some ⟨B, 0, none⟩), .pointer (some ⟨B, 6, none⟩), .map (some M), .int .i64 i, .agg L.toArray, undef], defers := [] } : Act) _
    refine take_one 15 rfl rfl (by kernel_rfl) ?_
    refine wp_contract 70 [.tmp 19, .tmp 23, .tmp 24, .tmp 30] _ rfl (enters_of Try.func70 (by kernel_rfl) rfl) [vb, .int .i64 m, .agg #[.int .i64 p, .int .i64 q, .int .i64 u, .int .i64 v], .agg L.toArray] rfl (CO.out _ hH.n) ?_
    rintro e W' ⟨rfl, b2⟩
    refine ⟨_, rfl, hH.next b2, fun hH => ?_⟩
    show wpAnyH _ _ _ _ _ _ _ ({ tmps := #[.pointer (some ⟨B, 0, none⟩), .int .i64 i, undef, undef, .pointer (some ⟨R, 0, none⟩), .pointer (some ⟨K, 0, none⟩), .int .i64 0, .tuple #[.agg #[.int .i64 p, .int .i64 q, .int .i64 u, .int .i64 v], .int .i64 0], .pointer (some ⟨B, 0, none⟩), .pointer (some ⟨B, 0, none⟩), .pointer (some ⟨B, 0, none⟩), .agg #[.int .i64 r, .int .i64 s, .int .i64 b, .int .i64 o, .int .i64 d], .int .i64 i, .tuple #[.agg #[.int .i64 p, .int .i64 q, .int .i64 u, .int .i64 v], .int .i64 0], .agg #[.int .i64 p, .int .i64 q, .int .i64 u, .int .i64 v], .int .i64 0, .pointer (some ⟨B, 0, none⟩), .pointer (some ⟨B, 0, none⟩), .pointer (some ⟨B, 7, none⟩), vb, .pointer (some ⟨B, 0, none⟩), .pointer (some ⟨B, 0, none⟩), .pointer (some ⟨B, 5, none⟩), .int .i64 m, .agg #[.int .i64 p, .int .i64 q, .int .i64 u, .int .i64 v], .pointer (some ⟨B, 0, none⟩), .pointer (some ⟨B, 0, none⟩), .pointer (some ⟨B, 6, none⟩), .map (some M), .int .i64 i, .agg L.toArray, .agg L2.toArray], defers := [] } : Act) _
    have hW' := hH
    refine take_one 16 rfl rfl (by kernel_rfl) ?_
    refine wp_store_mid 40 _ _ rfl R 0 L2.toArray rfl rfl (HT.out _ _ hH.e) iL one ?_
    refine ⟨⟨hH.d.of fun g hg => heap_puts R L2 0 W' g (by have := HM.out g hg; omega), hH.p.putOther (by have := HKR.out; omega) 0 _, HP.out _ _ hH.e, belows_put (by omega) _ 0 hH.n⟩, fun hH => ?_⟩
    exact wpAnyH_done (by kernel_rfl) ⟨rfl, W', hW', rfl⟩ _
  case aft =>
    obtain ⟨rfl, W3, h3, rfl⟩ := hr
    have ht := HT.out W3 R h3.e
    have hs2 : (World.setCells W3 R 0 L2).rangeAt R 0 L2 := World.rangeAt_setCells_same W3 _ 0 L2 (by simpa using ht)
    have hld := run_loadVar_mid (P := Try.prog) (World.setCells W3 R 0 L2) R 0 40 L2 _ hs2 Try.underlying40 rfl iL2
    have HN : Hid (Below W.heap.size W (World.setCells W3 R 0 L2)) := belows_put (by omega) _ 0 h3.n
    clear ht hs2 h3
    go_wp2
    refine bodyPost_ret (v := .agg L2.toArray) ?_ rfl ⟨rfl, HN.out⟩
    simp [results, Try.f42, asAddr, hld]
set_option maxRecDepth 100000 in
set_option maxHeartbeats 4000000 in
theorem dLook_no (h : Dm W lo B M r s b o d m n G vb l1 Y vc l2 Z) (i : Int) (hx1 : hx r s b o d i = false) :
    Calls Try.prog 17 #[.pointer (some ⟨B, 0, none⟩), .int .i64 i] W fun e w' => e = .returned (.tuple #[rawV fun _ => 0, .int .i64 12]) ∧ Below W.heap.size W w' := by
  unfold rawV
  have CH : Hid (∀ w, Below W.heap.size W w → Calls Try.prog 41 #[.pointer (some ⟨B, 0, none⟩), .int .i64 i] w fun e w' => e = .returned (.bool false) ∧ Below w.heap.size w w') := fun w hw => by rw [← hx1]; exact dHas_any (h.next hw) i
  obtain ⟨L2, hL2⟩ : ∃ L, (ints .u8 72 fun _ => 0) = L := ⟨_, rfl⟩
  have iL : (Try.prog.info? 40).map (·.size) = some L2.toArray.size := by rw [← hL2]; exact infoR
  have iL2 : (Try.prog.info? 40).map (·.size) = some L2.length := by rw [← hL2, ints_len]; exact infoR
  have one : L2.toArray.all (·.oneCell') = true := by rw [← hL2]; exact ints_one .u8 72 _
  have HT : Hid (∀ W' R, Bk .u8 W' R 72 (fun _ => 0) → W'.there R 0 L2.toArray.size) := fun W' R h' => by rw [← hL2]; simpa [ints] using Bk.there h' .u8 fun _ => 0
  have hz := zeroR
  have HZ : Hid ((ints .u8 72 fun _ => 0) = L2) := hL2
  have hbr : ∀ w, (Instr.build 40 #[]).run Try.prog w = .ok (.agg (ints .u8 72 fun _ => 0).toArray) w := fun w => run_build w _ _ _ (by kernel_rfl)
  rw [hL2] at hz hbr
  rw [hL2]
  clear hL2 h hx1
  go_enter Try.func17, Try.ntmps17
  go_upto_region 1 with (fail)
  obtain ⟨R, hR⟩ : ∃ R, W.heap.size = R := ⟨_, rfl⟩
  obtain ⟨V, hV⟩ : ∃ V, W.alloc (.cells L2.toArray 40) = V := ⟨_, rfl⟩
  have HB : Hid (Below W.heap.size W V) := by rw [← hV]; exact (Below.refl _ W).alloc (Nat.le_refl _) _
  have HE : Hid (Bk .u8 V R 72 fun _ => 0) := by rw [← hV, ← HZ.out, ← hR]; exact Bk.new .u8 W 72 (fun _ => 0) _
  rw [hV, hR]
  clear hV hz
  go_wp2_with fail
  refine (CH.out _ HB.out).mono ?_
  rintro e W1 ⟨rfl, b1⟩
  have HN : Hid (Below W.heap.size W W1) := HB.out.trans (b1.mono HB.out.size)
  have ht := HT.out W1 R (HE.out.next b1)
  clear b1 HE HB CH
  go_wp2_with (first | refine wpList_known rfl _ (exec_build12 40 rfl _ hbr _) ?_ | refine wpList_store_mid rfl 40 _ _ rfl R 0 L2.toArray rfl rfl ht iL one ?_)
  have hs2 : (World.setCells W1 R 0 L2).rangeAt R 0 L2 := World.rangeAt_setCells_same W1 _ 0 L2 (by simpa using ht)
  have hld := run_loadVar_mid (P := Try.prog) (World.setCells W1 R 0 L2) R 0 40 L2 _ hs2 Try.underlying40 rfl iL2
  refine bodyPost_ret (v := .tuple #[.agg L2.toArray, .int .i64 12]) ?_ rfl ⟨rfl, belows_put (by omega) _ 0 HN.out⟩
  simp [results, Try.f17, asAddr, hld]
set_option maxRecDepth 100000 in
set_option maxHeartbeats 4000000 in
theorem dLook_yes (h : Dm W lo B M r s b o d m n G vb l1 Y vc l2 Z) {k j : Int} (hm : Md m k j) (i : Int) (hi : I64 i) (hx1 : hx r s b o d i = true) :
    Calls Try.prog 17 #[.pointer (some ⟨B, 0, none⟩), .int .i64 i] W fun e w' => e = .returned (.tuple #[rawV (ovF k Y (i / 1048576) (i / 65536 % 16) (i / 64 % 1024) (i % 64) (G i) l1), .int .i64 0]) ∧ Below W.heap.size W w' := by
  have CH : Hid (∀ w, Below W.heap.size W w → Calls Try.prog 41 #[.pointer (some ⟨B, 0, none⟩), .int .i64 i] w fun e w' => e = .returned (.bool true) ∧ Below w.heap.size w w') := fun w hw => by rw [← hx1]; exact dHas_any (h.next hw) i
  have CR : Hid (∀ w, Below W.heap.size W w → Calls Try.prog 42 #[.pointer (some ⟨B, 0, none⟩), .int .i64 i] w fun e w' => e = .returned (rawV (ovF k Y (i / 1048576) (i / 65536 % 16) (i / 64 % 1024) (i % 64) (G i) l1)) ∧ Below w.heap.size w w') := fun w hw => dReadAt_any (h.next hw) hm i hi hx1
  obtain ⟨F2, hF2⟩ : ∃ F, ovF k Y (i / 1048576) (i / 65536 % 16) (i / 64 % 1024) (i % 64) (G i) l1 = F := ⟨_, rfl⟩
  rw [hF2] at CR
  rw [hF2]
  unfold rawV at CR ⊢
  clear hF2
  obtain ⟨L2, hL2⟩ : ∃ L, ints .u8 72 F2 = L := ⟨_, rfl⟩
  have iL : (Try.prog.info? 40).map (·.size) = some L2.toArray.size := by rw [← hL2]; exact infoR
  have iL2 : (Try.prog.info? 40).map (·.size) = some L2.length := by rw [← hL2, ints_len]; exact infoR
  have one : L2.toArray.all (·.oneCell') = true := by rw [← hL2]; exact ints_one .u8 72 _
  have HT : Hid (∀ W' R, Bk .u8 W' R 72 (fun _ => 0) → W'.there R 0 L2.toArray.size) := fun W' R h' => by rw [← hL2]; simpa [ints] using Bk.there h' .u8 F2
  rw [hL2] at CR
  rw [hL2]
  have hz := zeroR
  obtain ⟨T, hT⟩ : ∃ Z, (ints .u8 72 fun _ => 0).toArray = Z := ⟨_, rfl⟩
  rw [hT] at hz
  clear hL2 h hx1 hm hi
  go_enter Try.func17, Try.ntmps17
  go_upto_region 1 with (fail)
  obtain ⟨R, hR⟩ : ∃ R, W.heap.size = R := ⟨_, rfl⟩
  obtain ⟨V, hV⟩ : ∃ V, W.alloc (.cells T 40) = V := ⟨_, rfl⟩
  have HB : Hid (Below W.heap.size W V) := by rw [← hV]; exact (Below.refl _ W).alloc (Nat.le_refl _) _
  have HE : Hid (Bk .u8 V R 72 fun _ => 0) := by rw [← hV, ← hT, ← hR]; exact Bk.new .u8 W 72 (fun _ => 0) _
  rw [hV, hR]
  clear hV hz hT
  go_wp2_with fail
  refine (CH.out _ HB.out).mono ?_
  rintro e W1 ⟨rfl, b1⟩
  replace HE : Hid (Bk .u8 W1 R 72 fun _ => 0) := HE.out.next b1
  replace HB : Hid (Below W.heap.size W W1) := HB.out.trans (b1.mono HB.out.size)
  clear b1 CH
  go_wp2_with fail
  refine (CR.out _ HB.out).mono ?_
  rintro e W2 ⟨rfl, b1⟩
  have ht := HT.out W2 R (HE.out.next b1)
  have HN : Hid (Below W.heap.size W W2) := HB.out.trans (b1.mono HB.out.size)
  clear b1 CR HE HB
  go_wp2_with (first | refine wpList_store_mid rfl 40 _ _ rfl R 0 L2.toArray rfl rfl ht iL one ?_)
  have hs2 : (World.setCells W2 R 0 L2).rangeAt R 0 L2 := World.rangeAt_setCells_same W2 _ 0 L2 (by simpa using ht)
  have hld := run_loadVar_mid (P := Try.prog) (World.setCells W2 R 0 L2) R 0 40 L2 _ hs2 Try.underlying40 rfl iL2
  refine bodyPost_ret (v := .tuple #[.agg L2.toArray, .int .i64 0]) ?_ rfl ⟨rfl, belows_put (by omega) _ 0 HN.out⟩
  simp [results, Try.f17, asAddr, hld]
end
end Go.Proofs.Ytcpjmfemgdgplaa

/-
  The first one of a list of faults is taken off: slices.Delete.
-/
namespace Go.Proofs.Ytcpjmfemgdgplaa
open Go.RowKit Go.Shelf
attribute [local go_sem] Oper.semAt_some

/-- a row's first elements -/
theorem own_of_row {W : World} {lo g n cap : Nat} {t : TypeId} {f : Nat → Value} {xs : List Value} (hlo : lo ≤ g) (h : W.rowIs g t (cap * 8) f) (hn : n ≤ cap) (hc : cap ≤ maxLen) (hl : xs.length = n * 8) (hx : ∀ j, j < n * 8 → xs[j]? = some (f j)) :
    W.ownsRow lo t 8 (.slice (some ⟨g, 0, none⟩) n cap) n xs := by
  obtain ⟨c, h1, h2, h3⟩ := h
  refine ⟨hl, .inr ⟨g, cap, c, rfl, hlo, h1, hn, hc, h2, ?_⟩⟩
  refine List.ext_getElem? fun j => ?_
  by_cases hj : j < n * 8
  · rw [List.getElem?_take_of_lt hj, hx j hj, ← h3 j (by omega)]
    simp
  · rw [List.getElem?_eq_none (by simp; omega), List.getElem?_eq_none (by omega)]
theorem row_of_own {W : World} {lo g n cap : Nat} {t : TypeId} {xs : List Value} (h : W.ownsRow lo t 8 (.slice (some ⟨g, 0, none⟩) n cap) n xs) : lo ≤ g ∧ n ≤ cap ∧ cap ≤ maxLen ∧ ∃ f, W.rowIs g t (cap * 8) f ∧ ∀ j, j < n * 8 → xs[j]? = some (f j) := by
  obtain ⟨hl, ⟨h, _⟩ | ⟨g', cap', cur, hv, hg, hh, hnc, hcm, hsz, htk⟩⟩ := h
  · cases h
  · cases hv
    refine ⟨hg, hnc, hcm, fun i => cur[i]?.getD default, ⟨cur, hh, hsz, fun i hi => by simp [Array.getElem?_eq_getElem (show i < cur.size by omega)]⟩, fun j hj => ?_⟩
    rw [← htk, List.getElem?_take_of_lt hj]
    have : j < cur.size := by have := Nat.mul_le_mul_right 8 hnc; omega
    simp [this]
/-- clear over one element of eight cells -/
theorem run_clear8 {P : Program} (w : World) (t e ty : TypeId) (z : Value) (zs : List Value) (ht : P.underlying t = some (.slice e)) (hv : ∀ w, (zeroValue e).run P w = .ok z w) (hz : (Builtin.zeroCells z.cells 1).toList = zs) (h1 : ∀ v ∈ zs, v.oneCell' = true) (b o c : Nat)
    (hc : ∀ j, j < zs.length → (w.cell? ⟨b, o + j, none⟩).isSome = true) (hf : ∀ j, j < zs.length → w.frozen? ⟨b, o + j, none⟩ = false) :
    (Builtin.clear_ #[t] ty #[.slice (some ⟨b, o, none⟩) 1 c]).run P w = .ok (.tuple #[]) (w.setCells b o zs) := by
  have hst := run_storeCells_cells (P := P) b o zs 0 w (by simpa using hc) (by simpa using hf) h1
  simp only [Nat.add_zero] at hst
  simp [Builtin.clear_, run_underlying ht, hv, hz, hst]
theorem fc_at (len : Nat) (Z : Nat → Nat → Int) (j : Nat) (hj : j < len * 8) : (fcells12 len Z)[j]? = some (.int .i64 (Z (j / 8) (j % 8))) := by
  have e := fcells12_at len Z (j / 8) (j % 8) (by omega) (by omega)
  rwa [show j / 8 * 8 + j % 8 = j by omega] at e
theorem fc_len (len : Nat) (Z : Nat → Nat → Int) : (fcells12 len Z).length = len * 8 := by simp [fcells12]
theorem fc_one (len : Nat) (Z : Nat → Nat → Int) : ∀ u ∈ fcells12 len Z, u.oneCell' = true := by
  intro u hu
  obtain ⟨y, _, rfl⟩ := List.mem_map.1 hu
  rfl
theorem infoFl : (Try.prog.info? 38).map (fun i => (i.zero, i.size, i.bytes)) = some (some (.agg (ints .i64 8 fun _ => 0).toArray), 8, 64) := by kernel_rfl
theorem zeroFl (w : World) : (zeroValue 38).run Try.prog w = .ok (.agg (ints .i64 8 fun _ => 0).toArray) w := by kernel_rfl
theorem grown_put (W : World) (g o : Nat) (vs : List Value) : W.grownBy (W.setCells g o vs) (some g) := by
  have h := belows_put (Nat.zero_le g) vs o (Below.refl 0 W)
  exact ⟨h.os, h.tape, h.output, h.size, fun k _ hk => heap_puts g vs o W k (fun e => hk (by rw [e]))⟩
theorem grown_trans {A B C : World} {row : Option Nat} (h : A.grownBy B row) (k : B.grownBy C row) : A.grownBy C row :=
  ⟨k.os.trans h.os, k.tape.trans h.tape, k.output.trans h.output, Nat.le_trans h.size k.size, fun i hi hr => (k.block i (Nat.lt_of_lt_of_le hi h.size) hr).trans (h.block i hi hr)⟩
set_option maxRecDepth 100000 in
set_option maxHeartbeats 4000000 in
theorem delete12_any (lo g l cap : Nat) (Z : Nat → Nat → Int) (W : World) (h : W.ownsRow lo 38 8 (.slice (some ⟨g, 0, none⟩) (l + 1) cap) (l + 1) (fcells12 (l + 1) Z)) :
    Calls Try.prog 73 #[.slice (some ⟨g, 0, none⟩) (l + 1) cap, .int .i64 0, .int .i64 1] W fun e w' => e = .returned (.slice (some ⟨g, 0, none⟩) l cap) ∧ w'.ownsRow lo 38 8 (.slice (some ⟨g, 0, none⟩) l cap) l (fcells12 l (tlZ Z)) ∧ W.grownBy w' (some g) := by
  obtain ⟨i0, hi, hz0, hz1, hz2⟩ := info_three infoFl
  obtain ⟨hlo, hlc, hcm, f, hrow, hxs⟩ := row_of_own h
  have hcm2 : cap ≤ 9223372036854775807 := hcm
  clear h
  have hcell : ∀ j, j < (l + 1) * 8 → W.drew.cell? ⟨g, j, none⟩ = some (.int .i64 (Z (j / 8) (j % 8))) := fun j hj => by
    have e := hxs j hj
    rw [fc_at _ _ j hj] at e
    exact (hrow.cell (by have := Nat.mul_le_mul_right 8 hlc; omega)).trans e.symm
  obtain ⟨A, hA, hsrc⟩ : ∃ A : Addr, (if cap = 1 then some (⟨g, 0, none⟩ : Addr) else some ⟨g, 8, none⟩) = some A ∧ Hid (∀ t u, (fcells12 l (tlZ Z))[t]? = some u → W.drew.cell? (A.add t) = some u) := by
    by_cases h1 : cap = 1
    · refine ⟨⟨g, 0, none⟩, by simp [h1], fun t u hu => ?_⟩
      have ht : t < l * 8 := by have := (List.getElem?_eq_some_iff.1 hu).1; rwa [fc_len] at this
      omega
    · refine ⟨⟨g, 8, none⟩, by simp [h1], fun t u hu => ?_⟩
      have ht : t < l * 8 := by have := (List.getElem?_eq_some_iff.1 hu).1; rwa [fc_len] at this
      rw [fc_at _ _ t ht] at hu
      rw [Addr.add_lit, hcell (8 + t) (by omega), ← hu]
      unfold tlZ
      rw [show (8 + t) / 8 = t / 8 + 1 by omega, show (8 + t) % 8 = t % 8 by omega]
  obtain ⟨news, hnews⟩ : ∃ news, fcells12 l (tlZ Z) = news := ⟨_, rfl⟩
  have s1 : Hid (news.length = l * 8) := by rw [← hnews]; exact fc_len _ _
  have s2 : Hid (∀ u ∈ news, u.oneCell' = true) := by rw [← hnews]; exact fc_one _ _
  have s3 : Hid (∀ t, t < news.length → (W.drew.cell? ⟨g, 0 + 0 * 8 + t, none⟩).isSome = true ∧ W.drew.frozen? ⟨g, 0 + 0 * 8 + t, none⟩ = false) := fun t ht => by
    rw [s1.out] at ht
    rw [show 0 + 0 * 8 + t = t by omega, hcell t (by omega)]
    exact ⟨rfl, hrow.frozen t⟩
  obtain ⟨zs, hzs⟩ : ∃ zs, ints .i64 8 (fun _ => 0) = zs := ⟨_, rfl⟩
  have zl : zs.length = 8 := by rw [← hzs, ints_len]
  have hr0 : W.drew.rowIs g 38 (cap * 8) f := hrow
  have hr1 := rows_put news (0 + 0 * 8) W.drew f hr0
  have hr2 := rows_put zs (l * 8) _ _ hr1
  obtain ⟨W1, hW1⟩ : ∃ W1, W.drew.setCells g (0 + 0 * 8) news = W1 := ⟨_, rfl⟩
  rw [hW1] at hr1 hr2
  have hcl : ∀ ty, (Builtin.clear_ #[45] ty #[.slice (some ⟨g, l * 8, none⟩) 1 (cap - l)]).run Try.prog W1 = .ok (.tuple #[]) (W1.setCells g (l * 8) zs) := fun ty => by
    have hb := Nat.mul_le_mul_right 8 hlc
    refine run_clear8 W1 _ 38 ty (.agg (ints .i64 8 fun _ => 0).toArray) zs Try.underlying45 zeroFl (by rw [← hzs]; kernel_rfl) (by rw [← hzs]; exact ints_one' .i64 8 _) g (l * 8) (cap - l) (fun j hj => ?_) (fun j hj => hr1.frozen _)
    rw [hr1.cell (by omega)]
    rfl
  have HF : Hid (W.grownBy (W1.setCells g (l * 8) zs) (some g) ∧ (W1.setCells g (l * 8) zs).ownsRow lo 38 8 (.slice (some ⟨g, 0, none⟩) l cap) l (fcells12 l (tlZ Z))) := by
    refine ⟨?_, own_of_row hlo hr2 (by omega) hcm (fc_len _ _) fun j hj => ?_⟩
    · have g1 : W.grownBy W.drew (some g) := ⟨rfl, rfl, rfl, Nat.le_refl _, fun _ _ _ => rfl⟩
      have g2 : W.drew.grownBy W1 (some g) := by rw [← hW1]; exact grown_put _ _ _ _
      exact grown_trans (grown_trans g1 g2) (grown_put _ _ _ _)
    · rw [if_neg (by omega), if_pos (by rw [s1.out]; omega), hnews, show j - (0 + 0 * 8) = j by omega]
      have : j < news.length := by rw [s1.out]; omega
      rw [List.getElem?_eq_getElem this]
      rfl
  have HW1 : Hid (W.drew.setCells g (0 + 0 * 8) news = W1) := hW1
  have HL : Hid (fcells12 l (tlZ Z) = news) := hnews
  rw [hnews] at hsrc
  clear hW1 hr0 hr1 hr2 hxs hcell hrow hlo hnews hzs zl
  go_enter Try.func73, Try.ntmps73
  go_wp2_with fail
  have hb1 : (1 : Int) ≤ (l : Int) + 1 := by omega
  go_region_law (refine step_append_room rfl (.tmp 22) (.tmp 25) 45 rfl 38 i0 8 Try.underlying45 hi hz1 g 0 0 cap (by simp [Act.eval, Act.put]) A l (cap - 1) news (by simp [Act.eval, Act.put]) s1.out hsrc.out s2.out (by omega) s3.out ?_; rw [HW1.out])
  go_wp2
  go_ret
  rw [HL.out] at HF ⊢
  exact ⟨rfl, HF.out.2, HF.out.1⟩
end Go.Proofs.Ytcpjmfemgdgplaa

/-
  Where an access goes: indexOf, access.
-/
namespace Go.Proofs.Ytcpjmfemgdgplaa
open Go.RowKit Go.Shelf
open Ge (pw rt hd ix)
attribute [local go_sem] Oper.semAt_some

/-- at work on a fault -/
structure Fa (lo B M : Nat) (r s b o d m : Int) (n : Nat) (G : Int → Nat → Int) (vb : Value) (l1 : Nat) (Y : Nat → Nat → Int) (vc : Value) (l2 : Nat) (Z : Nat → Nat → Int) (C : Nat) (k p q u v c x y : Int) (w W : World) : Prop where
  d : Dm W lo B M r s b o d m n G vb l1 Y vc l2 Z
  f : Ft W C k p q u v c x y
  n : Below w.heap.size w W
theorem Fa.next {lo B M : Nat} {r s b o d m : Int} {n : Nat} {G : Int → Nat → Int} {vb : Value} {l1 : Nat} {Y : Nat → Nat → Int} {vc : Value} {l2 : Nat} {Z : Nat → Nat → Int} {C : Nat} {k p q u v c x y : Int} {w W W' : World} (h : Fa lo B M r s b o d m n G vb l1 Y vc l2 Z C k p q u v c x y w W) (e : Below W.heap.size W W') : Fa lo B M r s b o d m n G vb l1 Y vc l2 Z C k p q u v c x y w W' := ⟨h.d.next e, h.f.next e, h.n.trans (e.mono h.n.size)⟩
theorem one_we (i : Int) (b : Bool) : (#[.int .i64 i, .bool b] : Array Value).all (·.oneCell') = true := by
  simp only [List.all_toArray, List.all_cons, List.all_nil]
  rfl
theorem infoWe : (Try.prog.info? 59).map (·.size) = some 2 := by kernel_rfl
theorem infoFt : (Try.prog.info? 38).map (·.size) = some 8 := by kernel_rfl
/-- where an access goes; whether it is dropped -/
def wI (l2 : Nat) (Z : Nat → Nat → Int) (i : Int) : Int := if l2 = 0 then i else if Z 0 0 = 7 then i else ix (Z 0 1) (Z 0 2) (Z 0 3) (Z 0 4)
def wD (l2 : Nat) (Z : Nat → Nat → Int) : Bool := decide (l2 ≠ 0 ∧ Z 0 0 = 7)
theorem Mv.then {lo : Nat} {T : Nat → Prop} {W W' W'' : World} (h : Mv lo T W W') (e : Below W'.heap.size W' W'') (hl : lo ≤ W'.heap.size) : Mv lo T W W'' :=
  ⟨h.n.trans (e.mono hl), fun g hg ht => (e.block g (Nat.lt_of_lt_of_le hg h.n.size)).trans (h.k g hg ht)⟩
section
variable {W : World} {lo B M R : Nat} {r s b o d m : Int} {n : Nat} {G : Int → Nat → Int} {vb vc : Value} {l1 l2 : Nat} {Y Z : Nat → Nat → Int}
set_option maxRecDepth 100000 in
set_option maxHeartbeats 4000000 in
theorem dIndexOf_any (h : Dm W lo B M r s b o d m n G vb l1 Y vc l2 Z) (k p q u v c x y : Int) (hh : hd r s b o d p q u v = true) :
    Calls Try.prog 74 #[.pointer (some ⟨B, 0, none⟩), .agg #[.int .i64 k, .int .i64 p, .int .i64 q, .int .i64 u, .int .i64 v, .int .i64 c, .int .i64 x, .int .i64 y]] W fun e w' => e = .returned (.int .i64 (ix p q u v)) ∧ Below W.heap.size W w' := by
  have CI : Hid (∀ w : World, Calls Try.prog 22 #[.agg #[.int .i64 r, .int .i64 s, .int .i64 b, .int .i64 o, .int .i64 d], .agg #[.int .i64 p, .int .i64 q, .int .i64 u, .int .i64 v]] w fun e w' => e = .returned (.tuple #[.int .i64 (ix p q u v), .int .i64 0]) ∧ Below w.heap.size w w') := fun w => index_yes r s b o d p q u v hh w
  obtain ⟨z, hz⟩ : ∃ z, ix p q u v = z := ⟨_, rfl⟩
  rw [hz] at CI ⊢
  have HD : Hid (Dm W lo B M r s b o d m n G vb l1 Y vc l2 Z) := h
  clear hz hh h
  go_enter Try.func74, Try.ntmps74
  go_upto_region 1 with (fail)
  obtain ⟨C, hC⟩ : ∃ C, W.heap.size = C := ⟨_, rfl⟩
  obtain ⟨V, hV⟩ : ∃ V, W.alloc (.cells #[.int .i64 k, .int .i64 p, .int .i64 q, .int .i64 u, .int .i64 v, .int .i64 c, .int .i64 x, .int .i64 y] 38) = V := ⟨_, rfl⟩
  have HS : Hid (Fa lo B M r s b o d m n G vb l1 Y vc l2 Z C k p q u v c x y W V) := by
    have b1 : Below W.heap.size W V := by rw [← hV]; exact (Below.refl _ W).alloc (Nat.le_refl _) _
    refine ⟨HD.out.next b1, ?_, b1⟩
    rw [← hV, ← hC]
    exact Ft.new W k p q u v c x y _
  rw [hV, hC]
  clear hV HD
  refine region_ends (by kernel_rfl) (fun W' => Fa lo B M r s b o d m n G vb l1 Y vc l2 Z C k p q u v c x y W W') (fun a2 W' => a2 = ({ tmps := #[.pointer (some ⟨B, 0, none⟩), .agg #[.int .i64 k, .int .i64 p, .int .i64 q, .int .i64 u, .int .i64 v, .int .i64 c, .int .i64 x, .int .i64 y], undef, .pointer (some ⟨C, 0, none⟩), .int .i64 0, .int .i64 z, .int .i64 0, .tuple #[.int .i64 z, .int .i64 0], .pointer (some ⟨B, 0, none⟩), .pointer (some ⟨B, 0, none⟩), .pointer (some ⟨B, 0, none⟩), .agg #[.int .i64 r, .int .i64 s, .int .i64 b, .int .i64 o, .int .i64 d], .pointer (some ⟨C, 1, none⟩), .agg #[.int .i64 p, .int .i64 q, .int .i64 u, .int .i64 v], .tuple #[.int .i64 z, .int .i64 0], .int .i64 z, .int .i64 0, undef], defers := [] } : Act) ∧ Below W.heap.size W W') (HS.out.next (below_drew1 _)) (fun hH => ?reg) (fun a2 V3 hr => ?aft)
  case reg =>
    refine take_pure 0 (v := .pointer (some ⟨B, 0, none⟩)) rfl (by kernel_rfl) rfl (fun w' hw => by simp [execOp, go_sem]) hH ?_
    show wpAnyH _ _ _ _ _ _ _ ({ tmps := #[.pointer (some ⟨B, 0, none⟩), .agg #[.int .i64 k, .int .i64 p, .int .i64 q, .int .i64 u, .int .i64 v, .int .i64 c, .int .i64 x, .int .i64 y], undef, .pointer (some ⟨C, 0, none⟩), .int .i64 0, undef, undef, undef, .pointer (some ⟨B, 0, none⟩), undef, undef, undef, undef, undef, undef, undef, undef, undef], defers := [] } : Act) _
    refine take_pure 1 (v := .pointer (some ⟨B, 0, none⟩)) rfl (by kernel_rfl) rfl (fun w' hw => by simp [execOp, go_sem]) hH ?_
    show wpAnyH _ _ _ _ _ _ _ ({ tmps := #[.pointer (some ⟨B, 0, none⟩), .agg #[.int .i64 k, .int .i64 p, .int .i64 q, .int .i64 u, .int .i64 v, .int .i64 c, .int .i64 x, .int .i64 y], undef, .pointer (some ⟨C, 0, none⟩), .int .i64 0, undef, undef, undef, .pointer (some ⟨B, 0, none⟩), .pointer (some ⟨B, 0, none⟩), undef, undef, undef, undef, undef, undef, undef, undef], defers := [] } : Act) _
    refine take_pure 2 (v := .pointer (some ⟨B, 0, none⟩)) rfl (by kernel_rfl) rfl (fun w' hw => by simp [execOp, go_sem]) hH ?_
    show wpAnyH _ _ _ _ _ _ _ ({ tmps := #[.pointer (some ⟨B, 0, none⟩), .agg #[.int .i64 k, .int .i64 p, .int .i64 q, .int .i64 u, .int .i64 v, .int .i64 c, .int .i64 x, .int .i64 y], undef, .pointer (some ⟨C, 0, none⟩), .int .i64 0, undef, undef, undef, .pointer (some ⟨B, 0, none⟩), .pointer (some ⟨B, 0, none⟩), .pointer (some ⟨B, 0, none⟩), undef, undef, undef, undef, undef, undef, undef], defers := [] } : Act) _
    refine take_if 3 (v := .agg #[.int .i64 r, .int .i64 s, .int .i64 b, .int .i64 o, .int .i64 d]) rfl (by kernel_rfl) (yieldsIf_load_mid (by rfl) _ _ rfl B 0 rfl [.int .i64 r, .int .i64 s, .int .i64 b, .int .i64 o, .int .i64 d] _ (fun w' hw => hw.d.g) Try.underlying23 rfl infoGm) hH ?_
    show wpAnyH _ _ _ _ _ _ _ ({ tmps := #[.pointer (some ⟨B, 0, none⟩), .agg #[.int .i64 k, .int .i64 p, .int .i64 q, .int .i64 u, .int .i64 v, .int .i64 c, .int .i64 x, .int .i64 y], undef, .pointer (some ⟨C, 0, none⟩), .int .i64 0, undef, undef, undef, .pointer (some ⟨B, 0, none⟩), .pointer (some ⟨B, 0, none⟩), .pointer (some ⟨B, 0, none⟩), .agg #[.int .i64 r, .int .i64 s, .int .i64 b, .int .i64 o, .int .i64 d], undef, undef, undef, undef, undef, undef], defers := [] } : Act) _
    refine take_pure 4 (v := .pointer (some ⟨C, 1, none⟩)) rfl (by kernel_rfl) rfl (fun w' hw => by simp [execOp, go_sem]) hH ?_
    show wpAnyH _ _ _ _ _ _ _ ({ tmps := #[.pointer (some ⟨B, 0, none⟩), .agg #[.int .i64 k, .int .i64 p, .int .i64 q, .int .i64 u, .int .i64 v, .int .i64 c, .int .i64 x, .int .i64 y], undef, .pointer (some ⟨C, 0, none⟩), .int .i64 0, undef, undef, undef, .pointer (some ⟨B, 0, none⟩), .pointer (some ⟨B, 0, none⟩), .pointer (some ⟨B, 0, none⟩), .agg #[.int .i64 r, .int .i64 s, .int .i64 b, .int .i64 o, .int .i64 d], .pointer (some ⟨C, 1, none⟩), undef, undef, undef, undef, undef], defers := [] } : Act) _
    refine take_pure 5 (v := .agg #[.int .i64 p, .int .i64 q, .int .i64 u, .int .i64 v]) rfl (by kernel_rfl) rfl (fun w' hw => exec_range 36 (.tmp 12) rfl C 1 rfl [.int .i64 p, .int .i64 q, .int .i64 u, .int .i64 v] _ hw.f.place Try.underlying36 rfl info_place) hH ?_
    show wpAnyH _ _ _ _ _ _ _ ({ tmps := #[.pointer (some ⟨B, 0, none⟩), .agg #[.int .i64 k, .int .i64 p, .int .i64 q, .int .i64 u, .int .i64 v, .int .i64 c, .int .i64 x, .int .i64 y], undef, .pointer (some ⟨C, 0, none⟩), .int .i64 0, undef, undef, undef, .pointer (some ⟨B, 0, none⟩), .pointer (some ⟨B, 0, none⟩), .pointer (some ⟨B, 0, none⟩), .agg #[.int .i64 r, .int .i64 s, .int .i64 b, .int .i64 o, .int .i64 d], .pointer (some ⟨C, 1, none⟩), .agg #[.int .i64 p, .int .i64 q, .int .i64 u, .int .i64 v], undef, undef, undef, undef], defers := [] } : Act) _
    refine take_one 6 rfl rfl (by kernel_rfl) ?_
    refine wp_contract 22 [.tmp 11, .tmp 13] _ rfl (enters_of Try.func22 (by kernel_rfl) rfl) [.agg #[.int .i64 r, .int .i64 s, .int .i64 b, .int .i64 o, .int .i64 d], .agg #[.int .i64 p, .int .i64 q, .int .i64 u, .int .i64 v]] rfl (CI.out _) ?_
    rintro e W' ⟨rfl, b2⟩
    refine ⟨_, rfl, hH.next b2, fun hH => ?_⟩
    show wpAnyH _ _ _ _ _ _ _ ({ tmps := #[.pointer (some ⟨B, 0, none⟩), .agg #[.int .i64 k, .int .i64 p, .int .i64 q, .int .i64 u, .int .i64 v, .int .i64 c, .int .i64 x, .int .i64 y], undef, .pointer (some ⟨C, 0, none⟩), .int .i64 0, undef, undef, undef, .pointer (some ⟨B, 0, none⟩), .pointer (some ⟨B, 0, none⟩), .pointer (some ⟨B, 0, none⟩), .agg #[.int .i64 r, .int .i64 s, .int .i64 b, .int .i64 o, .int .i64 d], .pointer (some ⟨C, 1, none⟩), .agg #[.int .i64 p, .int .i64 q, .int .i64 u, .int .i64 v], .tuple #[.int .i64 z, .int .i64 0], undef, undef, undef], defers := [] } : Act) _
    refine take_pure 7 (v := .tuple #[.int .i64 z, .int .i64 0]) rfl (by kernel_rfl) rfl (fun w' hw => by simp [execOp, go_sem]) hH ?_
    show wpAnyH _ _ _ _ _ _ _ ({ tmps := #[.pointer (some ⟨B, 0, none⟩), .agg #[.int .i64 k, .int .i64 p, .int .i64 q, .int .i64 u, .int .i64 v, .int .i64 c, .int .i64 x, .int .i64 y], undef, .pointer (some ⟨C, 0, none⟩), .int .i64 0, undef, undef, .tuple #[.int .i64 z, .int .i64 0], .pointer (some ⟨B, 0, none⟩), .pointer (some ⟨B, 0, none⟩), .pointer (some ⟨B, 0, none⟩), .agg #[.int .i64 r, .int .i64 s, .int .i64 b, .int .i64 o, .int .i64 d], .pointer (some ⟨C, 1, none⟩), .agg #[.int .i64 p, .int .i64 q, .int .i64 u, .int .i64 v], .tuple #[.int .i64 z, .int .i64 0], undef, undef, undef], defers := [] } : Act) _
    refine take_pure 8 (v := .int .i64 z) rfl (by kernel_rfl) rfl (fun w' hw => by simp [execOp, go_sem]) hH ?_
    show wpAnyH _ _ _ _ _ _ _ ({ tmps := #[.pointer (some ⟨B, 0, none⟩), .agg #[.int .i64 k, .int .i64 p, .int .i64 q, .int .i64 u, .int .i64 v, .int .i64 c, .int .i64 x, .int .i64 y], undef, .pointer (some ⟨C, 0, none⟩), .int .i64 0, undef, undef, .tuple #[.int .i64 z, .int .i64 0], .pointer (some ⟨B, 0, none⟩), .pointer (some ⟨B, 0, none⟩), .pointer (some ⟨B, 0, none⟩), .agg #[.int .i64 r, .int .i64 s, .int .i64 b, .int .i64 o, .int .i64 d], .pointer (some ⟨C, 1, none⟩), .agg #[.int .i64 p, .int .i64 q, .int .i64 u, .int .i64 v], .tuple #[.int .i64 z, .int .i64 0], .int .i64 z, undef, undef], defers := [] } : Act) _
    refine take_pure 9 (v := .int .i64 0) rfl (by kernel_rfl) rfl (fun w' hw => by simp [execOp, go_sem]) hH ?_
    show wpAnyH _ _ _ _ _ _ _ ({ tmps := #[.pointer (some ⟨B, 0, none⟩), .agg #[.int .i64 k, .int .i64 p, .int .i64 q, .int .i64 u, .int .i64 v, .int .i64 c, .int .i64 x, .int .i64 y], undef, .pointer (some ⟨C, 0, none⟩), .int .i64 0, undef, undef, .tuple #[.int .i64 z, .int .i64 0], .pointer (some ⟨B, 0, none⟩), .pointer (some ⟨B, 0, none⟩), .pointer (some ⟨B, 0, none⟩), .agg #[.int .i64 r, .int .i64 s, .int .i64 b, .int .i64 o, .int .i64 d], .pointer (some ⟨C, 1, none⟩), .agg #[.int .i64 p, .int .i64 q, .int .i64 u, .int .i64 v], .tuple #[.int .i64 z, .int .i64 0], .int .i64 z, .int .i64 0, undef], defers := [] } : Act) _
    refine take_pure 10 (v := .int .i64 z) rfl (by kernel_rfl) rfl (fun w' hw => by simp [execOp, go_sem]) hH ?_
    show wpAnyH _ _ _ _ _ _ _ ({ tmps := #[.pointer (some ⟨B, 0, none⟩), .agg #[.int .i64 k, .int .i64 p, .int .i64 q, .int .i64 u, .int .i64 v, .int .i64 c, .int .i64 x, .int .i64 y], undef, .pointer (some ⟨C, 0, none⟩), .int .i64 0, .int .i64 z, undef, .tuple #[.int .i64 z, .int .i64 0], .pointer (some ⟨B, 0, none⟩), .pointer (some ⟨B, 0, none⟩), .pointer (some ⟨B, 0, none⟩), .agg #[.int .i64 r, .int .i64 s, .int .i64 b, .int .i64 o, .int .i64 d], .pointer (some ⟨C, 1, none⟩), .agg #[.int .i64 p, .int .i64 q, .int .i64 u, .int .i64 v], .tuple #[.int .i64 z, .int .i64 0], .int .i64 z, .int .i64 0, undef], defers := [] } : Act) _
    refine take_pure 11 (v := .int .i64 0) rfl (by kernel_rfl) rfl (fun w' hw => by simp [execOp, go_sem]) hH ?_
    show wpAnyH _ _ _ _ _ _ _ ({ tmps := #[.pointer (some ⟨B, 0, none⟩), .agg #[.int .i64 k, .int .i64 p, .int .i64 q, .int .i64 u, .int .i64 v, .int .i64 c, .int .i64 x, .int .i64 y], undef, .pointer (some ⟨C, 0, none⟩), .int .i64 0, .int .i64 z, .int .i64 0, .tuple #[.int .i64 z, .int .i64 0], .pointer (some ⟨B, 0, none⟩), .pointer (some ⟨B, 0, none⟩), .pointer (some ⟨B, 0, none⟩), .agg #[.int .i64 r, .int .i64 s, .int .i64 b, .int .i64 o, .int .i64 d], .pointer (some ⟨C, 1, none⟩), .agg #[.int .i64 p, .int .i64 q, .int .i64 u, .int .i64 v], .tuple #[.int .i64 z, .int .i64 0], .int .i64 z, .int .i64 0, undef], defers := [] } : Act) _
    exact wpAnyH_done (by kernel_rfl) ⟨rfl, hH.n⟩ _
  case aft =>
    obtain ⟨rfl, hN⟩ := hr
    have HN : Hid (Below W.heap.size W V3) := hN
    clear hN
    go_wp2
    go_ret
    exact ⟨rfl, HN.out⟩
set_option maxRecDepth 100000 in
set_option maxHeartbeats 4000000 in
theorem dAccess_none (h : Dm W lo B M r s b o d m n G vb l1 Y vc 0 Z) (i : Int) :
    Calls Try.prog 47 #[.pointer (some ⟨B, 0, none⟩), .int .i64 i] W fun e w' => e = .returned (.agg #[.int .i64 i, .bool false]) ∧ Below W.heap.size W w' := by
  obtain ⟨a, c, e1, _⟩ := h.fs2
  subst e1
  have HD : Hid (Dm W lo B M r s b o d m n G vb l1 Y (.slice a 0 c) 0 Z) := h
  clear h
  go_enter Try.func47, Try.ntmps47
  go_upto_region 1 with (fail)
  obtain ⟨R, hR⟩ : ∃ R, W.heap.size = R := ⟨_, rfl⟩
  obtain ⟨V, hV⟩ : ∃ V, W.alloc (.cells #[.int .i64 0, .bool false] 59) = V := ⟨_, rfl⟩
  have HB : Hid (Below W.heap.size W V) := by rw [← hV]; exact (Below.refl _ W).alloc (Nat.le_refl _) _
  have HR : Cb V R [.int .i64 0, .bool false] := by rw [← hV, ← hR]; exact Cb.new W _ _
  have hD := HD.out.next HB.out
  have c0 := hD.c.cell (i := 0) rfl
  have c8 := hD.cc
  have th := HR.thereAt 0 2 (by simp)
  have on : (#[.int .i64 i, .bool false] : Array Value).all (·.oneCell') = true := one_we _ _
  rw [hV, hR]
  clear hV HD hD HR
  go_wp2_with (first | refine wpList_store_mid rfl 59 _ _ rfl R 0 #[.int .i64 i, .bool false] rfl rfl th infoWe on ?_)
  have hs2 : (World.setCells V R 0 [.int .i64 i, .bool false]).rangeAt R 0 [.int .i64 i, .bool false] := World.rangeAt_setCells_same V _ 0 _ (by simpa using th)
  have hld := run_loadVar_mid (P := Try.prog) (World.setCells V R 0 [.int .i64 i, .bool false]) R 0 59 [.int .i64 i, .bool false] _ hs2 Try.underlying59 rfl infoWe
  refine bodyPost_ret (v := .agg #[.int .i64 i, .bool false]) ?_ rfl ⟨rfl, belows_put (by omega) _ 0 HB.out⟩
  simp [results, Try.f47, Act.put, asAddr, hld]
/-- a store into a block that is new -/
theorem dm_put {W' : World} {n' : Nat} {G' : Int → Nat → Int} {vb' vc' : Value} {l1' l2' : Nat} {Y' Z' : Nat → Nat → Int} {T : Nat → Prop} (h : Dm W' lo B M r s b o d m n' G' vb' l1' Y' vc' l2' Z') (k : Mv lo T W W') (hm : ∀ g, mine B M vb' vc' g → g < R) (hR : W.heap.size ≤ R) (hl : lo ≤ R) (vs : List Value) :
    Dm (W'.setCells R 0 vs) lo B M r s b o d m n' G' vb' l1' Y' vc' l2' Z' ∧ Mv lo T W (W'.setCells R 0 vs) :=
  ⟨h.of fun g hg => heap_puts R vs 0 W' g (by have := hm g hg; omega), ⟨belows_put hl vs 0 k.n, fun g hg ht => (heap_puts R vs 0 W' g (by omega)).trans (k.k g hg ht)⟩⟩
/-- the parts of chips with something to come, one taken -/
theorem Dm.taken {l : Nat} {W' : World} {g cap : Nat} (h : Dm W lo B M r s b o d m n G vb l1 Y (.slice (some ⟨g, 0, none⟩) (l + 1) cap) (l + 1) Z) (ho : W'.ownsRow lo 38 8 (.slice (some ⟨g, 0, none⟩) l cap) l (fcells12 l (tlZ Z))) (hc : Cb W' B (dl r s b o d m (.map (some M)) vb (.slice (some ⟨g, 0, none⟩) l cap)))
    (hk : ∀ j, j ≠ B → j ≠ g → mine B M vb (.slice (some ⟨g, 0, none⟩) (l + 1) cap) j → W'.heap[j]? = W.heap[j]?) : Dm W' lo B M r s b o d m n G vb l1 Y (.slice (some ⟨g, 0, none⟩) l cap) l (tlZ Z) := by
  have hM : M ≠ g := fun e => h.a3.2 (by simp [Value.ownBlock, e])
  have hB : B ≠ g := fun e => h.a3.1 (by simp [Value.ownBlock, e])
  refine ⟨hc, h.mp.of (hk M (fun e => h.a1 e.symm) hM (.inr (.inl rfl))), own_kept h.f1 fun j hj => hk j (fun e => h.a2.1 (by rw [hj, e])) (fun e => h.a4 j hj (by simp [Value.ownBlock, e])) (.inr (.inr (.inl hj))), ho, h.w1, fun i hi j hj => h.w2 (i + 1) (by omega) j hj, fun i hi => h.ok (i + 1) (by omega), h.by_, h.lb, h.lm, h.a1, h.a2, h.a3, h.a4, ⟨h.le.1, by have := h.le.2; omega⟩⟩
set_option maxRecDepth 100000 in
set_option maxHeartbeats 4000000 in
theorem dAccess_some {l : Nat} (h : Dm W lo B M r s b o d m n G vb l1 Y vc (l + 1) Z) (i : Int) :
    Calls Try.prog 47 #[.pointer (some ⟨B, 0, none⟩), .int .i64 i] W fun e w' => e = .returned (.agg #[.int .i64 (wI (l + 1) Z i), .bool (wD (l + 1) Z)]) ∧ ∃ vc', Dm w' lo B M r s b o d m n G vb l1 Y vc' l (tlZ Z) ∧ vc'.ownBlock = vc.ownBlock ∧ Mv lo (mine B M vb vc) W w' := by
  obtain ⟨g, cap, e1⟩ : ∃ g cap, vc = .slice (some ⟨g, 0, none⟩) (l + 1) cap := by
    rcases h.f2.2 with ⟨_, e⟩ | ⟨g, cap, _, e, _⟩
    · omega
    · exact ⟨g, cap, e⟩
  subst e1
  have HD : Hid (Dm W lo B M r s b o d m n G vb l1 Y (.slice (some ⟨g, 0, none⟩) (l + 1) cap) (l + 1) Z) := h
  have HO := h.ok 0 (by omega)
  have hl := h.le.2
  clear h
  have HW : Hid (wI (l + 1) Z i = if Z 0 0 = 7 then i else ix (Z 0 1) (Z 0 2) (Z 0 3) (Z 0 4)) := by unfold Hid wI; rw [if_neg (by omega)]
  have HX : Hid (wD (l + 1) Z = decide (Z 0 0 = 7)) := by unfold Hid wD; simp
  have HG : Hid (∀ W', Dm W' lo B M r s b o d m n G vb l1 Y (.slice (some ⟨g, 0, none⟩) (l + 1) cap) (l + 1) Z → W'.rangeAt g 0 [.int .i64 (Z 0 0), .int .i64 (Z 0 1), .int .i64 (Z 0 2), .int .i64 (Z 0 3), .int .i64 (Z 0 4), .int .i64 (Z 0 5), .int .i64 (Z 0 6), .int .i64 (Z 0 7)]) := fun W' h' => by
    obtain ⟨a, c, e, hf⟩ := h'.fs2
    cases e
    obtain ⟨b', o', e, _, hc⟩ := hf.at_ (by omega)
    cases e
    have := fs_range hc 0 (by omega)
    simpa using this
  have CD : Hid (∀ W', Dm W' lo B M r s b o d m n G vb l1 Y (.slice (some ⟨g, 0, none⟩) (l + 1) cap) (l + 1) Z → Calls Try.prog 73 #[.slice (some ⟨g, 0, none⟩) (l + 1) cap, .int .i64 0, .int .i64 1] W' fun e w' => e = .returned (.slice (some ⟨g, 0, none⟩) l cap) ∧ w'.ownsRow lo 38 8 (.slice (some ⟨g, 0, none⟩) l cap) l (fcells12 l (tlZ Z)) ∧ W'.grownBy w' (some g)) := fun W' h' => delete12_any lo g l cap Z W' h'.f2
  have CI : Hid (∀ (W' : World) (vc' : Value), Dm W' lo B M r s b o d m n G vb l1 Y vc' l (tlZ Z) → Calls Try.prog 74 #[.pointer (some ⟨B, 0, none⟩), .agg #[.int .i64 (Z 0 0), .int .i64 (Z 0 1), .int .i64 (Z 0 2), .int .i64 (Z 0 3), .int .i64 (Z 0 4), .int .i64 (Z 0 5), .int .i64 (Z 0 6), .int .i64 (Z 0 7)]] W' fun e w' => e = .returned (.int .i64 (ix (Z 0 1) (Z 0 2) (Z 0 3) (Z 0 4))) ∧ Below W'.heap.size W' w') := fun W' vc' h' => dIndexOf_any h' _ _ _ _ _ _ _ _ HO
  obtain ⟨k, hk⟩ : ∃ y, Z 0 0 = y := ⟨_, rfl⟩
  obtain ⟨z, hz⟩ : ∃ y, ix (Z 0 1) (Z 0 2) (Z 0 3) (Z 0 4) = y := ⟨_, rfl⟩
  obtain ⟨z1, hz1⟩ : ∃ y, Z 0 1 = y := ⟨_, rfl⟩
  obtain ⟨z2, hz2⟩ : ∃ y, Z 0 2 = y := ⟨_, rfl⟩
  obtain ⟨z3, hz3⟩ : ∃ y, Z 0 3 = y := ⟨_, rfl⟩
  obtain ⟨z4, hz4⟩ : ∃ y, Z 0 4 = y := ⟨_, rfl⟩
  obtain ⟨z5, hz5⟩ : ∃ y, Z 0 5 = y := ⟨_, rfl⟩
  obtain ⟨z6, hz6⟩ : ∃ y, Z 0 6 = y := ⟨_, rfl⟩
  obtain ⟨z7, hz7⟩ : ∃ y, Z 0 7 = y := ⟨_, rfl⟩
  rw [hz] at HW CI
  rw [hk] at HW HX HG CI
  rw [hz1, hz2, hz3, hz4, hz5, hz6, hz7] at HG CI
  clear hk hz hz1 hz2 hz3 hz4 hz5 hz6 hz7 HO
  go_enter Try.func47, Try.ntmps47
  go_upto_region 1 with (fail)
  obtain ⟨R, hR⟩ : ∃ R, W.heap.size = R := ⟨_, rfl⟩
  obtain ⟨V, hV⟩ : ∃ V, W.alloc (.cells #[.int .i64 0, .bool false] 59) = V := ⟨_, rfl⟩
  have HB : Hid (Below W.heap.size W V) := by rw [← hV]; exact (Below.refl _ W).alloc (Nat.le_refl _) _
  have HR : Hid (Cb V R [.int .i64 0, .bool false]) := by rw [← hV, ← hR]; exact Cb.new W _ _
  have HV : Hid (Dm V lo B M r s b o d m n G vb l1 Y (.slice (some ⟨g, 0, none⟩) (l + 1) cap) (l + 1) Z) := HD.out.next HB.out
  have c0 := HV.out.c.cell (i := 0) rfl
  have c8 := HV.out.cc
  have hg := HG.out V HV.out
  rw [hV, hR]
  clear hV
  go_upto_region 4 with (first | refine wpList_load_mid rfl 38 _ rfl g 0 rfl [.int .i64 k, .int .i64 z1, .int .i64 z2, .int .i64 z3, .int .i64 z4, .int .i64 z5, .int .i64 z6, .int .i64 z7] _ hg Try.underlying38 rfl infoFt ?_)
  obtain ⟨K, hK⟩ : ∃ K, V.heap.size = K := ⟨_, rfl⟩
  have HRK : Hid (R < K ∧ W.heap.size ≤ R) := ⟨by rw [← hK]; exact HR.out.lt, by omega⟩
  obtain ⟨V2, hV2⟩ : ∃ V2, V.alloc (.cells #[.int .i64 k, .int .i64 z1, .int .i64 z2, .int .i64 z3, .int .i64 z4, .int .i64 z5, .int .i64 z6, .int .i64 z7] 38) = V2 := ⟨_, rfl⟩
  have HF : Hid (Ft V2 K k z1 z2 z3 z4 z5 z6 z7) := by rw [← hV2, ← hK]; exact Ft.new V k z1 z2 z3 z4 z5 z6 z7 _
  have b2 : Below V.heap.size V V2 := by rw [← hV2]; exact (Below.refl _ V).alloc (Nat.le_refl _) _
  replace HB : Hid (Below W.heap.size W V2) := HB.out.trans (b2.mono HB.out.size)
  replace HR : Hid (Cb V2 R [.int .i64 0, .bool false]) := HR.out.next b2
  replace HV : Hid (Dm V2 lo B M r s b o d m n G vb l1 Y (.slice (some ⟨g, 0, none⟩) (l + 1) cap) (l + 1) Z) := HV.out.next b2
  rw [hV2, hK]
  clear hV2 b2 c0 c8 hg HG
  have c0 := HV.out.c.cell (i := 0) rfl
  have c8 := HV.out.cc
  go_wp2_with fail
  refine (CD.out _ HV.out).mono ?_
  rintro e W3 ⟨rfl, ho, hgr⟩
  have HML : Hid (∀ j, mine B M vb (.slice (some ⟨g, 0, none⟩) (l + 1) cap) j → lo ≤ j ∧ j < W.heap.size) := HD.out.mine_lt
  have hBg : B ≠ g := fun e => HV.out.a3.1 (by simp [Value.ownBlock, e])
  have hgW : lo ≤ g ∧ g < W.heap.size := HML.out g (.inr (.inr (.inr rfl)))
  have hBW : lo ≤ B ∧ B < W.heap.size := HML.out B (.inl rfl)
  have cB : Cb W3 B (dl r s b o d m (.map (some M)) vb (.slice (some ⟨g, 0, none⟩) (l + 1) cap)) := HV.out.c.of (hgr.block B HV.out.c.lt (fun e => hBg (by cases e; rfl)))
  have hf8 := cB.free 8
  clear c0 c8
  have c0 := cB.cell (i := 0) rfl
  have c8 := cB.cell (i := 8) rfl
  obtain ⟨W4, hW4⟩ : ∃ W4, W3.setCell ⟨B, 8, none⟩ (.slice (some ⟨g, 0, none⟩) l cap) = W4 := ⟨_, rfl⟩
  have hoth : ∀ j, j ≠ B → W4.heap[j]? = W3.heap[j]? := fun j hj => by rw [← hW4]; exact Below.heap_setCell W3 ⟨B, 8, none⟩ _ j hj
  have HQ : Hid (Dm W4 lo B M r s b o d m n G vb l1 Y (.slice (some ⟨g, 0, none⟩) l cap) l (tlZ Z) ∧ Mv lo (mine B M vb (.slice (some ⟨g, 0, none⟩) (l + 1) cap)) W W4 ∧ Cb W4 R [.int .i64 0, .bool false] ∧ Ft W4 K k z1 z2 z3 z4 z5 z6 z7) := by
    have hK4 : ∀ j, j < V2.heap.size → j ≠ B → j ≠ g → W4.heap[j]? = V2.heap[j]? := fun j h1 h2 h3 => (hoth j h2).trans (hgr.block j h1 (fun e => h3 (by cases e; rfl)))
    have hRK := HRK.out
    refine ⟨HV.out.taken (own_kept ho fun j hj => ?_) (by rw [← hW4]; exact cB.set 8 _) (fun j h1 h2 h3 => hK4 j (HV.out.mine_lt j h3).2 h1 h2), ⟨?_, fun j hj hm => ?_⟩, HR.out.of (hK4 R HR.out.lt (by omega) (by omega)), Bk.of HF.out (hK4 K HF.out.lt (by omega) (by omega))⟩
    · cases hj
      exact hoth g (fun e => hBg e.symm)
    · rw [← hW4]
      exact below_set12 hBW.1 (below_grown7 (HB.out.mono HD.out.lo_le) hgr (fun j e => by cases e; exact hgW.1) (Nat.le_trans HD.out.lo_le HB.out.size))
    · refine (hK4 j (Nat.lt_of_lt_of_le hj HB.out.size) (fun e => hm (.inl e)) (fun e => hm (.inr (.inr (.inr (by rw [e]; rfl)))))).trans (HB.out.block j hj)
  have HMN : Hid (∀ j, mine B M vb (.slice (some ⟨g, 0, none⟩) l cap) j → j < R) := fun j hj => by have := (HML.out j hj).2; have := HRK.out; omega
  have HLO : Hid (lo ≤ W.heap.size) := HD.out.lo_le
  clear cB ho hgr HML hBg hgW hBW hoth HV HB HR HF CD HD
  go_upto_region 5 with (fail)
  clear hW4 hf8 c0 c8
  have ck := HQ.out.2.2.2.c0
  by_cases h7 : k = 7
  · rw [if_pos h7] at HW
    rw [decide_eq_true h7] at HX
    have HW2 : Hid (wI (l + 1) Z i = i ∧ wD (l + 1) Z = true) := ⟨HW.out, HX.out⟩
    subst h7
    have th := HQ.out.2.2.1.thereAt 0 2 (by simp)
    have on : (#[.int .i64 i, .bool true] : Array Value).all (·.oneCell') = true := one_we _ _
    clear HX HW CI
    go_wp2_with (first | refine wpList_store_mid rfl 59 _ _ rfl R 0 #[.int .i64 i, .bool true] rfl rfl th infoWe on ?_)
    have hRK := HRK.out
    have HE : Hid (Dm (World.setCells W4 R 0 [.int .i64 i, .bool true]) lo B M r s b o d m n G vb l1 Y (.slice (some ⟨g, 0, none⟩) l cap) l (tlZ Z) ∧ Mv lo (mine B M vb (.slice (some ⟨g, 0, none⟩) (l + 1) cap)) W (World.setCells W4 R 0 [.int .i64 i, .bool true])) := dm_put HQ.out.1 HQ.out.2.1 HMN.out hRK.2 (Nat.le_trans HLO.out hRK.2) _
    have hs2 : (World.setCells W4 R 0 [.int .i64 i, .bool true]).rangeAt R 0 [.int .i64 i, .bool true] := World.rangeAt_setCells_same W4 _ 0 _ (by simpa using th)
    have hld := run_loadVar_mid (P := Try.prog) (World.setCells W4 R 0 [.int .i64 i, .bool true]) R 0 59 [.int .i64 i, .bool true] _ hs2 Try.underlying59 rfl infoWe
    refine bodyPost_ret (v := .agg #[.int .i64 i, .bool true]) ?_ rfl ⟨by rw [HW2.out.1, HW2.out.2], _, HE.out.1, rfl, HE.out.2⟩
    simp [results, Try.f47, Act.put, asAddr, hld]
  · rw [if_neg h7] at HW
    rw [decide_eq_false h7] at HX
    have HW2 : Hid (wI (l + 1) Z i = z ∧ wD (l + 1) Z = false) := ⟨HW.out, HX.out⟩
    have hrF := HQ.out.2.2.2.range
    clear HX HW
    go_wp2_with (first | refine wpList_load_mid rfl 38 _ rfl K 0 rfl [.int .i64 k, .int .i64 z1, .int .i64 z2, .int .i64 z3, .int .i64 z4, .int .i64 z5, .int .i64 z6, .int .i64 z7] _ hrF Try.underlying38 rfl infoFt ?_)
    refine (CI.out _ _ HQ.out.1).mono ?_
    rintro e W5 ⟨rfl, b5⟩
    replace HQ : Hid (Dm W5 lo B M r s b o d m n G vb l1 Y (.slice (some ⟨g, 0, none⟩) l cap) l (tlZ Z) ∧ Mv lo (mine B M vb (.slice (some ⟨g, 0, none⟩) (l + 1) cap)) W W5 ∧ Cb W5 R [.int .i64 0, .bool false]) := ⟨HQ.out.1.next b5, HQ.out.2.1.then b5 HQ.out.1.lo_le, HQ.out.2.2.1.next b5⟩
    have th := HQ.out.2.2.thereAt 0 2 (by simp)
    have on : (#[.int .i64 z, .bool false] : Array Value).all (·.oneCell') = true := one_we _ _
    clear b5 hrF ck CI
    go_wp2_with (first | refine wpList_store_mid rfl 59 _ _ rfl R 0 #[.int .i64 z, .bool false] rfl rfl th infoWe on ?_)
    have hRK := HRK.out
    have HE : Hid (Dm (World.setCells W5 R 0 [.int .i64 z, .bool false]) lo B M r s b o d m n G vb l1 Y (.slice (some ⟨g, 0, none⟩) l cap) l (tlZ Z) ∧ Mv lo (mine B M vb (.slice (some ⟨g, 0, none⟩) (l + 1) cap)) W (World.setCells W5 R 0 [.int .i64 z, .bool false])) := dm_put HQ.out.1 HQ.out.2.1 HMN.out hRK.2 (Nat.le_trans HLO.out hRK.2) _
    have hs2 : (World.setCells W5 R 0 [.int .i64 z, .bool false]).rangeAt R 0 [.int .i64 z, .bool false] := World.rangeAt_setCells_same W5 _ 0 _ (by simpa using th)
    have hld := run_loadVar_mid (P := Try.prog) (World.setCells W5 R 0 [.int .i64 z, .bool false]) R 0 59 [.int .i64 z, .bool false] _ hs2 Try.underlying59 rfl infoWe
    refine bodyPost_ret (v := .agg #[.int .i64 z, .bool false]) ?_ rfl ⟨by rw [HW2.out.1, HW2.out.2], _, HE.out.1, rfl, HE.out.2⟩
    simp [results, Try.f47, Act.put, asAddr, hld]
end
end Go.Proofs.Ytcpjmfemgdgplaa
