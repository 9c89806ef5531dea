/-
  What the chips tell of an index: readAt, Look.
-/
import Derived.Test.YtcpjmfemgdgplaaDrW2
import Derived.Test.YtcpjmfemgdgplaaDrR8
namespace Go.Proofs.Ytcpjmfemgdgplaa
open Go.RowKit Go.Shelf
open Ge (pw rt hd ix)
attribute [local go_sem] Oper.semAt_some

theorem exec_look {P : Program} {op : Oper} {a : Act} {w : World} (T : TypeId) (x y : Operand) (ho : op.op = .lookup T x y false) (mv kv v : Value) (hx : a.eval x = mv) (hy : a.eval y = kv) (h : (Instr.lookup T mv kv false).run P w = .ok v w) : (execOp a.eval op).run P w = .ok (.value v) w := by
  simp [execOp, ho, hx, hy, h, Result.andThen]
/-- at work in readAt -/
structure Ra (lo B M : Nat) (r s b o d m : Int) (n : Nat) (G : Int → Nat → Int) (vb : Value) (l1 : Nat) (Y : Nat → Nat → Int) (vc : Value) (l2 : Nat) (Z : Nat → Nat → Int) (K R : Nat) (p q u v : Int) (w W : World) : Prop where
  d : Dm W lo B M r s b o d m n G vb l1 Y vc l2 Z
  p : Pl W K p q u v
  e : ∃ X, Bk .u8 W R 72 X
  n : Below w.heap.size w W
theorem Ra.next {lo B M : Nat} {r s b o d m : Int} {n : Nat} {G : Int → Nat → Int} {vb : Value} {l1 : Nat} {Y : Nat → Nat → Int} {vc : Value} {l2 : Nat} {Z : Nat → Nat → Int} {K R : Nat} {p q u v : Int} {w W W' : World} (h : Ra lo B M r s b o d m n G vb l1 Y vc l2 Z K R p q u v w W) (k : Below W.heap.size W W') : Ra lo B M r s b o d m n G vb l1 Y vc l2 Z K R p q u v w W' := ⟨h.d.next k, h.p.next k, (let ⟨X, e⟩ := h.e; ⟨X, e.next k⟩), h.n.trans (k.mono h.n.size)⟩
section
variable {W : World} {lo B M : Nat} {r s b o d m : Int} {n : Nat} {G : Int → Nat → Int} {vb vc : Value} {l1 l2 : Nat} {Y Z : Nat → Nat → Int}
set_option maxRecDepth 100000 in
set_option maxHeartbeats 4000000 in
theorem dReadAt_any (h : Dm W lo B M r s b o d m n G vb l1 Y vc l2 Z) {k j : Int} (hm : Md m k j) (i : Int) (hi : I64 i) (hx1 : hx r s b o d i = true) :
    Calls Try.prog 42 #[.pointer (some ⟨B, 0, none⟩), .int .i64 i] W fun e w' => e = .returned (rawV (ovF k Y (i / 1048576) (i / 65536 % 16) (i / 64 % 1024) (i % 64) (G i) l1)) ∧ Below W.heap.size W w' := by
  unfold rawV
  have CA : Hid (∀ w : World, Calls Try.prog 69 #[.agg #[.int .i64 r, .int .i64 s, .int .i64 b, .int .i64 o, .int .i64 d], .int .i64 i] w fun e w' => e = .returned (.tuple #[.agg #[.int .i64 (i / 1048576), .int .i64 (i / 65536 % 16), .int .i64 (i / 64 % 1024), .int .i64 (i % 64)], .int .i64 0]) ∧ Below w.heap.size w w') := fun w => at_yes r s b o d i hx1 w
  obtain ⟨p, hp⟩ : ∃ y, i / 1048576 = y := ⟨_, rfl⟩
  obtain ⟨q, hq⟩ : ∃ y, i / 65536 % 16 = y := ⟨_, rfl⟩
  obtain ⟨u, hu⟩ : ∃ y, i / 64 % 1024 = y := ⟨_, rfl⟩
  obtain ⟨v, hv⟩ : ∃ y, i % 64 = y := ⟨_, rfl⟩
  rw [hp, hq, hu, hv] at CA
  rw [hp, hq, hu, hv]
  clear hp hq hu hv hx1
  obtain ⟨a, c, e1, hf⟩ := h.fs1
  have CO : Hid (∀ w, Below W.heap.size W w → Calls Try.prog 70 #[vb, .int .i64 m, .agg #[.int .i64 p, .int .i64 q, .int .i64 u, .int .i64 v], .agg (ints .u8 72 (G i)).toArray] w fun e w' => e = .returned (.agg (ints .u8 72 (ovF k Y p q u v (G i) l1)).toArray) ∧ Below w.heap.size w w') := fun w hw => by rw [e1]; exact overlay_any a l1 c Y p q u v (G i) (h.by_ i) m k j hm w (hf.below hw)
  obtain ⟨F2, hF2⟩ : ∃ F, ovF k Y p q u v (G i) l1 = F := ⟨_, rfl⟩
  rw [hF2] at CO
  rw [hF2]
  clear hF2 hf e1 hm
  obtain ⟨L2, hL2⟩ : ∃ L, ints .u8 72 F2 = L := ⟨_, rfl⟩
  obtain ⟨L, hL⟩ : ∃ L, ints .u8 72 (G i) = L := ⟨_, rfl⟩
  have iL : (Try.prog.info? 40).map (·.size) = some L2.toArray.size := by rw [← hL2]; exact infoR
  have iL2 : (Try.prog.info? 40).map (·.size) = some L2.length := by rw [← hL2, ints_len]; exact infoR
  have one : L2.toArray.all (·.oneCell') = true := by rw [← hL2]; exact ints_one .u8 72 F2
  have HL : Hid (∀ W', Dm W' lo B M r s b o d m n G vb l1 Y vc l2 Z → (Instr.lookup 80 (.map (some M)) (.int .i64 i) false).run Try.prog W' = .ok (.agg L.toArray) W') := fun W' h' => by rw [← hL]; exact h'.mp.look hi
  have HT : Hid (∀ W' R, (∃ X, Bk .u8 W' R 72 X) → W'.there R 0 L2.toArray.size) := fun W' R h' => by obtain ⟨X, h'⟩ := h'; rw [← hL2]; simpa [ints] using Bk.there h' .u8 F2
  have HP : Hid (∀ W' R, (∃ X, Bk .u8 W' R 72 X) → ∃ X, Bk .u8 (W'.setCells R 0 L2) R 72 X) := fun W' R h' => by obtain ⟨X, h'⟩ := h'; rw [← hL2]; exact ⟨_, h'.put F2⟩
  have HM : Hid (∀ g, mine B M vb vc g → g < W.heap.size) := fun g hg => (h.mine_lt g hg).2
  rw [hL, hL2] at CO
  rw [hL2]
  have HD : Hid (Dm W lo B M r s b o d m n G vb l1 Y vc l2 Z) := h
  have hz := zeroR
  obtain ⟨T, hT⟩ : ∃ Z, (ints .u8 72 fun _ => 0).toArray = Z := ⟨_, rfl⟩
  rw [hT] at hz
  clear hL hL2 h hi
  go_enter Try.func42, Try.ntmps42
  go_upto_region 1 with (fail)
  obtain ⟨R, hR⟩ : ∃ R, W.heap.size = R := ⟨_, rfl⟩
  obtain ⟨V, hV⟩ : ∃ V, W.alloc (.cells T 40) = V := ⟨_, rfl⟩
  have HB : Hid (Below W.heap.size W V) := by rw [← hV]; exact (Below.refl _ W).alloc (Nat.le_refl _) _
  have HE : Hid (Bk .u8 V R 72 fun _ => 0) := by rw [← hV, ← hT, ← hR]; exact Bk.new .u8 W 72 (fun _ => 0) _
  have HV : Hid (Dm V lo B M r s b o d m n G vb l1 Y vc l2 Z) := HD.out.next HB.out
  have hg := HV.out.g
  have c0 := HV.out.c.cell (i := 0) rfl
  rw [hV, hR]
  clear hV hT hz HD
  go_wp2_with (first | refine wpList_load_mid rfl 23 _ rfl B 0 rfl [.int .i64 r, .int .i64 s, .int .i64 b, .int .i64 o, .int .i64 d] _ hg Try.underlying23 rfl infoGm ?_)
  refine (CA.out _).mono ?_
  rintro e W1 ⟨rfl, b1⟩
  have HV1 : Hid (Dm W1 lo B M r s b o d m n G vb l1 Y vc l2 Z ∧ Bk .u8 W1 R 72 (fun _ => 0) ∧ Below W.heap.size W W1) := ⟨HV.out.next b1, HE.out.next b1, HB.out.trans (b1.mono HB.out.size)⟩
  obtain ⟨K, hK⟩ : ∃ K, W1.heap.size = K := ⟨_, rfl⟩
  have HKR : Hid (R < K) := by rw [← hK]; exact HV1.out.2.1.lt
  clear b1 hg c0 HV HE HB CA
  go_upto_region 2 with (fail)
  obtain ⟨W2, hW2⟩ : ∃ W2, W1.alloc (.cells #[.int .i64 p, .int .i64 q, .int .i64 u, .int .i64 v] 36) = W2 := ⟨_, rfl⟩
  have HS : Hid (Ra lo B M r s b o d m n G vb l1 Y vc l2 Z K R p q u v W W2) := by
    have hB1 : Below W1.heap.size W1 W2 := by rw [← hW2]; exact (Below.refl _ W1).alloc (Nat.le_refl _) _
    refine ⟨HV1.out.1.next hB1, ?_, ⟨_, HV1.out.2.1.next hB1⟩, HV1.out.2.2.trans (hB1.mono HV1.out.2.2.size)⟩
    rw [← hW2, ← hK]
    exact Pl.new W1 p q u v _
  rw [hW2]
  clear hW2 HV1
  refine region_ends (by kernel_rfl) (fun W' => Ra lo B M r s b o d m n G vb l1 Y vc l2 Z K R p q u v W W') (fun a2 W' => a2 = ({ tmps := #[.pointer (some ⟨B, 0, none⟩), .int .i64 i, undef, undef, .pointer (some ⟨R, 0, none⟩), .pointer (some ⟨K, 0, none⟩), .int .i64 0, .tuple #[.agg #[.int .i64 p, .int .i64 q, .int .i64 u, .int .i64 v], .int .i64 0], .pointer (some ⟨B, 0, none⟩), .pointer (some ⟨B, 0, none⟩), .pointer (some ⟨B, 0, none⟩), .agg #[.int .i64 r, .int .i64 s, .int .i64 b, .int .i64 o, .int .i64 d], .int .i64 i, .tuple #[.agg #[.int .i64 p, .int .i64 q, .int .i64 u, .int .i64 v], .int .i64 0], .agg #[.int .i64 p, .int .i64 q, .int .i64 u, .int .i64 v], .int .i64 0, .pointer (some ⟨B, 0, none⟩), .pointer (some ⟨B, 0, none⟩), .pointer (some ⟨B, 7, none⟩), vb, .pointer (some ⟨B, 0, none⟩), .pointer (some ⟨B, 0, none⟩), .pointer (some ⟨B, 5, none⟩), .int .i64 m, .agg #[.int .i64 p, .int .i64 q, .int .i64 u, .int .i64 v], .pointer (some ⟨B, 0, none⟩), .pointer (some ⟨B, 0, none⟩), .pointer (some ⟨B, 6, none⟩), .map (some M), .int .i64 i, .agg L.toArray, .agg L2.toArray], defers := [] } : Act) ∧ ∃ W3, Ra lo B M r s b o d m n G vb l1 Y vc l2 Z K R p q u v W W3 ∧ W' = W3.setCells R 0 L2) (HS.out.next (below_drew1 _)) (fun hH => ?reg) (fun a2 V3 hr => ?aft)
  case reg =>
    refine take_pure 0 (v := .pointer (some ⟨B, 0, none⟩)) rfl (by kernel_rfl) rfl (fun w' hw => by simp [execOp, go_sem]) hH ?_
    show wpAnyH _ _ _ _ _ _ _ ({ tmps := #[.pointer (some ⟨B, 0, none⟩), .int .i64 i, undef, undef, .pointer (some ⟨R, 0, none⟩), .pointer (some ⟨K, 0, none⟩), .int .i64 0, .tuple #[.agg #[.int .i64 p, .int .i64 q, .int .i64 u, .int .i64 v], .int .i64 0], .pointer (some ⟨B, 0, none⟩), .pointer (some ⟨B, 0, none⟩), .pointer (some ⟨B, 0, none⟩), .agg #[.int .i64 r, .int .i64 s, .int .i64 b, .int .i64 o, .int .i64 d], .int .i64 i, .tuple #[.agg #[.int .i64 p, .int .i64 q, .int .i64 u, .int .i64 v], .int .i64 0], .agg #[.int .i64 p, .int .i64 q, .int .i64 u, .int .i64 v], .int .i64 0, .pointer (some ⟨B, 0, none⟩), undef, undef, undef, undef, undef, undef, undef, undef, undef, undef, undef, undef, undef, undef, undef], defers := [] } : Act) _
    refine take_pure 1 (v := .pointer (some ⟨B, 0, none⟩)) rfl (by kernel_rfl) rfl (fun w' hw => by simp [execOp, go_sem]) hH ?_
    show wpAnyH _ _ _ _ _ _ _ ({ tmps := #[.pointer (some ⟨B, 0, none⟩), .int .i64 i, undef, undef, .pointer (some ⟨R, 0, none⟩), .pointer (some ⟨K, 0, none⟩), .int .i64 0, .tuple #[.agg #[.int .i64 p, .int .i64 q, .int .i64 u, .int .i64 v], .int .i64 0], .pointer (some ⟨B, 0, none⟩), .pointer (some ⟨B, 0, none⟩), .pointer (some ⟨B, 0, none⟩), .agg #[.int .i64 r, .int .i64 s, .int .i64 b, .int .i64 o, .int .i64 d], .int .i64 i, .tuple #[.agg #[.int .i64 p, .int .i64 q, .int .i64 u, .int .i64 v], .int .i64 0], .agg #[.int .i64 p, .int .i64 q, .int .i64 u, .int .i64 v], .int .i64 0, .pointer (some ⟨B, 0, none⟩), .pointer (some ⟨B, 0, none⟩), undef, undef, undef, undef, undef, undef, undef, undef, undef, undef, undef, undef, undef, undef], defers := [] } : Act) _
    refine take_pure 2 (v := .pointer (some ⟨B, 7, none⟩)) rfl (by kernel_rfl) rfl (fun w' hw => by simp [execOp, go_sem]) hH ?_
    show wpAnyH _ _ _ _ _ _ _ ({ tmps := #[.pointer (some ⟨B, 0, none⟩), .int .i64 i, undef, undef, .pointer (some ⟨R, 0, none⟩), .pointer (some ⟨K, 0, none⟩), .int .i64 0, .tuple #[.agg #[.int .i64 p, .int .i64 q, .int .i64 u, .int .i64 v], .int .i64 0], .pointer (some ⟨B, 0, none⟩), .pointer (some ⟨B, 0, none⟩), .pointer (some ⟨B, 0, none⟩), .agg #[.int .i64 r, .int .i64 s, .int .i64 b, .int .i64 o, .int .i64 d], .int .i64 i, .tuple #[.agg #[.int .i64 p, .int .i64 q, .int .i64 u, .int .i64 v], .int .i64 0], .agg #[.int .i64 p, .int .i64 q, .int .i64 u, .int .i64 v], .int .i64 0, .pointer (some ⟨B, 0, none⟩), .pointer (some ⟨B, 0, none⟩), .pointer (some ⟨B, 7, none⟩), undef, undef, undef, undef, undef, undef, undef, undef, undef, undef, undef, undef, undef], defers := [] } : Act) _
    refine take_pure 3 (v := vb) rfl (by kernel_rfl) rfl (fun w' hw => by simp [execOp, go_sem, hw.d.cb]) hH ?_
    show wpAnyH _ _ _ _ _ _ _ ({ tmps := #[.pointer (some ⟨B, 0, none⟩), .int .i64 i, undef, undef, .pointer (some ⟨R, 0, none⟩), .pointer (some ⟨K, 0, none⟩), .int .i64 0, .tuple #[.agg #[.int .i64 p, .int .i64 q, .int .i64 u, .int .i64 v], .int .i64 0], .pointer (some ⟨B, 0, none⟩), .pointer (some ⟨B, 0, none⟩), .pointer (some ⟨B, 0, none⟩), .agg #[.int .i64 r, .int .i64 s, .int .i64 b, .int .i64 o, .int .i64 d], .int .i64 i, .tuple #[.agg #[.int .i64 p, .int .i64 q, .int .i64 u, .int .i64 v], .int .i64 0], .agg #[.int .i64 p, .int .i64 q, .int .i64 u, .int .i64 v], .int .i64 0, .pointer (some ⟨B, 0, none⟩), .pointer (some ⟨B, 0, none⟩), .pointer (some ⟨B, 7, none⟩), vb, undef, undef, undef, undef, undef, undef, undef, undef, undef, undef, undef, undef], defers := [] } : Act) _
    refine take_pure 4 (v := .pointer (some ⟨B, 0, none⟩)) rfl (by kernel_rfl) rfl (fun w' hw => by simp [execOp, go_sem]) hH ?_
    show wpAnyH _ _ _ _ _ _ _ ({ tmps := #[.pointer (some ⟨B, 0, none⟩), .int .i64 i, undef, undef, .pointer (some ⟨R, 0, none⟩), .pointer (some ⟨K, 0, none⟩), .int .i64 0, .tuple #[.agg #[.int .i64 p, .int .i64 q, .int .i64 u, .int .i64 v], .int .i64 0], .pointer (some ⟨B, 0, none⟩), .pointer (some ⟨B, 0, none⟩), .pointer (some ⟨B, 0, none⟩), .agg #[.int .i64 r, .int .i64 s, .int .i64 b, .int .i64 o, .int .i64 d], .int .i64 i, .tuple #[.agg #[.int .i64 p, .int .i64 q, .int .i64 u, .int .i64 v], .int .i64 0], .agg #[.int .i64 p, .int .i64 q, .int .i64 u, .int .i64 v], .int .i64 0, .pointer (some ⟨B, 0, none⟩), .pointer (some ⟨B, 0, none⟩), .pointer (some ⟨B, 7, none⟩), vb, .pointer (some ⟨B, 0, none⟩), undef, undef, undef, undef, undef, undef, undef, undef, undef, undef, undef], defers := [] } : Act) _
    refine take_pure 5 (v := .pointer (some ⟨B, 0, none⟩)) rfl (by kernel_rfl) rfl (fun w' hw => by simp [execOp, go_sem]) hH ?_
    show wpAnyH _ _ _ _ _ _ _ ({ tmps := #[.pointer (some ⟨B, 0, none⟩), .int .i64 i, undef, undef, .pointer (some ⟨R, 0, none⟩), .pointer (some ⟨K, 0, none⟩), .int .i64 0, .tuple #[.agg #[.int .i64 p, .int .i64 q, .int .i64 u, .int .i64 v], .int .i64 0], .pointer (some ⟨B, 0, none⟩), .pointer (some ⟨B, 0, none⟩), .pointer (some ⟨B, 0, none⟩), .agg #[.int .i64 r, .int .i64 s, .int .i64 b, .int .i64 o, .int .i64 d], .int .i64 i, .tuple #[.agg #[.int .i64 p, .int .i64 q, .int .i64 u, .int .i64 v], .int .i64 0], .agg #[.int .i64 p, .int .i64 q, .int .i64 u, .int .i64 v], .int .i64 0, .pointer (some ⟨B, 0, none⟩), .pointer (some ⟨B, 0, none⟩), .pointer (some ⟨B, 7, none⟩), vb, .pointer (some ⟨B, 0, none⟩), .pointer (some ⟨B, 0, none⟩), undef, undef, undef, undef, undef, undef, undef, undef, undef, undef], defers := [] } : Act) _
    refine take_pure 6 (v := .pointer (some ⟨B, 5, none⟩)) rfl (by kernel_rfl) rfl (fun w' hw => by simp [execOp, go_sem]) hH ?_
    show wpAnyH _ _ _ _ _ _ _ ({ tmps := #[.pointer (some ⟨B, 0, none⟩), .int .i64 i, undef, undef, .pointer (some ⟨R, 0, none⟩), .pointer (some ⟨K, 0, none⟩), .int .i64 0, .tuple #[.agg #[.int .i64 p, .int .i64 q, .int .i64 u, .int .i64 v], .int .i64 0], .pointer (some ⟨B, 0, none⟩), .pointer (some ⟨B, 0, none⟩), .pointer (some ⟨B, 0, none⟩), .agg #[.int .i64 r, .int .i64 s, .int .i64 b, .int .i64 o, .int .i64 d], .int .i64 i, .tuple #[.agg #[.int .i64 p, .int .i64 q, .int .i64 u, .int .i64 v], .int .i64 0], .agg #[.int .i64 p, .int .i64 q, .int .i64 u, .int .i64 v], .int .i64 0, .pointer (some ⟨B, 0, none⟩), .pointer (some ⟨B, 0, none⟩), .pointer (some ⟨B, 7, none⟩), vb, .pointer (some ⟨B, 0, none⟩), .pointer (some ⟨B, 0, none⟩), .pointer (some ⟨B, 5, none⟩), undef, undef, undef, undef, undef, undef, undef, undef, undef], defers := [] } : Act) _
    refine take_pure 7 (v := .int .i64 m) rfl (by kernel_rfl) rfl (fun w' hw => by simp [execOp, go_sem, hw.d.cm]) hH ?_
    show wpAnyH _ _ _ _ _ _ _ ({ tmps := #[.pointer (some ⟨B, 0, none⟩), .int .i64 i, undef, undef, .pointer (some ⟨R, 0, none⟩), .pointer (some ⟨K, 0, none⟩), .int .i64 0, .tuple #[.agg #[.int .i64 p, .int .i64 q, .int .i64 u, .int .i64 v], .int .i64 0], .pointer (some ⟨B, 0, none⟩), .pointer (some ⟨B, 0, none⟩), .pointer (some ⟨B, 0, none⟩), .agg #[.int .i64 r, .int .i64 s, .int .i64 b, .int .i64 o, .int .i64 d], .int .i64 i, .tuple #[.agg #[.int .i64 p, .int .i64 q, .int .i64 u, .int .i64 v], .int .i64 0], .agg #[.int .i64 p, .int .i64 q, .int .i64 u, .int .i64 v], .int .i64 0, .pointer (some ⟨B, 0, none⟩), .pointer (some ⟨B, 0, none⟩), .pointer (some ⟨B, 7, none⟩), vb, .pointer (some ⟨B, 0, none⟩), .pointer (some ⟨B, 0, none⟩), .pointer (some ⟨B, 5, none⟩), .int .i64 m, undef, undef, undef, undef, undef, undef, undef, undef], defers := [] } : Act) _
    refine take_if 8 (v := .agg #[.int .i64 p, .int .i64 q, .int .i64 u, .int .i64 v]) rfl (by kernel_rfl) (yieldsIf_load_mid (by rfl) _ _ rfl K 0 rfl [.int .i64 p, .int .i64 q, .int .i64 u, .int .i64 v] _ (fun w' hw => hw.p.range) Try.underlying36 rfl info_place) hH ?_
    show wpAnyH _ _ _ _ _ _ _ ({ tmps := #[.pointer (some ⟨B, 0, none⟩), .int .i64 i, undef, undef, .pointer (some ⟨R, 0, none⟩), .pointer (some ⟨K, 0, none⟩), .int .i64 0, .tuple #[.agg #[.int .i64 p, .int .i64 q, .int .i64 u, .int .i64 v], .int .i64 0], .pointer (some ⟨B, 0, none⟩), .pointer (some ⟨B, 0, none⟩), .pointer (some ⟨B, 0, none⟩), .agg #[.int .i64 r, .int .i64 s, .int .i64 b, .int .i64 o, .int .i64 d], .int .i64 i, .tuple #[.agg #[.int .i64 p, .int .i64 q, .int .i64 u, .int .i64 v], .int .i64 0], .agg #[.int .i64 p, .int .i64 q, .int .i64 u, .int .i64 v], .int .i64 0, .pointer (some ⟨B, 0, none⟩), .pointer (some ⟨B, 0, none⟩), .pointer (some ⟨B, 7, none⟩), vb, .pointer (some ⟨B, 0, none⟩), .pointer (some ⟨B, 0, none⟩), .pointer (some ⟨B, 5, none⟩), .int .i64 m, .agg #[.int .i64 p, .int .i64 q, .int .i64 u, .int .i64 v], undef, undef, undef, undef, undef, undef, undef], defers := [] } : Act) _
    refine take_pure 9 (v := .pointer (some ⟨B, 0, none⟩)) rfl (by kernel_rfl) rfl (fun w' hw => by simp [execOp, go_sem]) hH ?_
    show wpAnyH _ _ _ _ _ _ _ ({ tmps := #[.pointer (some ⟨B, 0, none⟩), .int .i64 i, undef, undef, .pointer (some ⟨R, 0, none⟩), .pointer (some ⟨K, 0, none⟩), .int .i64 0, .tuple #[.agg #[.int .i64 p, .int .i64 q, .int .i64 u, .int .i64 v], .int .i64 0], .pointer (some ⟨B, 0, none⟩), .pointer (some ⟨B, 0, none⟩), .pointer (some ⟨B, 0, none⟩), .agg #[.int .i64 r, .int .i64 s, .int .i64 b, .int .i64 o, .int .i64 d], .int .i64 i, .tuple #[.agg #[.int .i64 p, .int .i64 q, .int .i64 u, .int .i64 v], .int .i64 0], .agg #[.int .i64 p, .int .i64 q, .int .i64 u, .int .i64 v], .int .i64 0, .pointer (some ⟨B, 0, none⟩), .pointer (some ⟨B, 0, none⟩), .pointer (some ⟨B, 7, none⟩), vb, .pointer (some ⟨B, 0, none⟩), .pointer (some ⟨B, 0, none⟩), .pointer (some ⟨B, 5, none⟩), .int .i64 m, .agg #[.int .i64 p, .int .i64 q, .int .i64 u, .int .i64 v], .pointer (some ⟨B, 0, none⟩), undef, undef, undef, undef, undef, undef], defers := [] } : Act) _
    refine take_pure 10 (v := .pointer (some ⟨B, 0, none⟩)) rfl (by kernel_rfl) rfl (fun w' hw => by simp [execOp, go_sem]) hH ?_
    show wpAnyH _ _ _ _ _ _ _ ({ tmps := #[.pointer (some ⟨B, 0, none⟩), .int .i64 i, undef, undef, .pointer (some ⟨R, 0, none⟩), .pointer (some ⟨K, 0, none⟩), .int .i64 0, .tuple #[.agg #[.int .i64 p, .int .i64 q, .int .i64 u, .int .i64 v], .int .i64 0], .pointer (some ⟨B, 0, none⟩), .pointer (some ⟨B, 0, none⟩), .pointer (some ⟨B, 0, none⟩), .agg #[.int .i64 r, .int .i64 s, .int .i64 b, .int .i64 o, .int .i64 d], .int .i64 i, .tuple #[.agg #[.int .i64 p, .int .i64 q, .int .i64 u, .int .i64 v], .int .i64 0], .agg #[.int .i64 p, .int .i64 q, .int .i64 u, .int .i64 v], .int .i64 0, .pointer (some ⟨B, 0, none⟩), .pointer (some ⟨B, 0, none⟩), .pointer (some ⟨B, 7, none⟩), vb, .pointer (some ⟨B, 0, none⟩), .pointer (some ⟨B, 0, none⟩), .pointer (some ⟨B, 5, none⟩), .int .i64 m, .agg #[.int .i64 p, .int .i64 q, .int .i64 u, .int .i64 v], .pointer (some ⟨B, 0, none⟩), .pointer (some ⟨B, 0, none⟩), undef, undef, undef, undef, undef], defers := [] } : Act) _
    refine take_pure 11 (v := .pointer (some ⟨B, 6, none⟩)) rfl (by kernel_rfl) rfl (fun w' hw => by simp [execOp, go_sem]) hH ?_
    show wpAnyH _ _ _ _ _ _ _ ({ tmps := #[.pointer (some ⟨B, 0, none⟩), .int .i64 i, undef, undef, .pointer (some ⟨R, 0, none⟩), .pointer (some ⟨K, 0, none⟩), .int .i64 0, .tuple #[.agg #[.int .i64 p, .int .i64 q, .int .i64 u, .int .i64 v], .int .i64 0], .pointer (some ⟨B, 0, none⟩), .pointer (some ⟨B, 0, none⟩), .pointer (some ⟨B, 0, none⟩), .agg #[.int .i64 r, .int .i64 s, .int .i64 b, .int .i64 o, .int .i64 d], .int .i64 i, .tuple #[.agg #[.int .i64 p, .int .i64 q, .int .i64 u, .int .i64 v], .int .i64 0], .agg #[.int .i64 p, .int .i64 q, .int .i64 u, .int .i64 v], .int .i64 0, .pointer (some ⟨B, 0, none⟩), .pointer (some ⟨B, 0, none⟩), .pointer (some ⟨B, 7, none⟩), vb, .pointer (some ⟨B, 0, none⟩), .pointer (some ⟨B, 0, none⟩), .pointer (some ⟨B, 5, none⟩), .int .i64 m, .agg #[.int .i64 p, .int .i64 q, .int .i64 u, .int .i64 v], .pointer (some ⟨B, 0, none⟩), .pointer (some ⟨B, 0, none⟩), .pointer (some ⟨B, 6, none⟩), undef, undef, undef, undef], defers := [] } : Act) _
    refine take_pure 12 (v := .map (some M)) rfl (by kernel_rfl) rfl (fun w' hw => by simp [execOp, go_sem, hw.d.ca]) hH ?_
    show wpAnyH _ _ _ _ _ _ _ ({ tmps := #[.pointer (some ⟨B, 0, none⟩), .int .i64 i, undef, undef, .pointer (some ⟨R, 0, none⟩), .pointer (some ⟨K, 0, none⟩), .int .i64 0, .tuple #[.agg #[.int .i64 p, .int .i64 q, .int .i64 u, .int .i64 v], .int .i64 0], .pointer (some ⟨B, 0, none⟩), .pointer (some ⟨B, 0, none⟩), .pointer (some ⟨B, 0, none⟩), .agg #[.int .i64 r, .int .i64 s, .int .i64 b, .int .i64 o, .int .i64 d], .int .i64 i, .tuple #[.agg #[.int .i64 p, .int .i64 q, .int .i64 u, .int .i64 v], .int .i64 0], .agg #[.int .i64 p, .int .i64 q, .int .i64 u, .int .i64 v], .int .i64 0, .pointer (some ⟨B, 0, none⟩), .pointer (some ⟨B, 0, none⟩), .pointer (some ⟨B, 7, none⟩), vb, .pointer (some ⟨B, 0, none⟩), .pointer (some ⟨B, 0, none⟩), .pointer (some ⟨B, 5, none⟩), .int .i64 m, .agg #[.int .i64 p, .int .i64 q, .int .i64 u, .int .i64 v], .pointer (some ⟨B, 0, none⟩), .pointer (some ⟨B, 0, none⟩), .pointer (some ⟨B, 6, none⟩), .map (some M), undef, undef, undef], defers := [] } : Act) _
    refine take_pure 13 (v := .int .i64 i) rfl (by kernel_rfl) rfl (fun w' hw => by simp [execOp, go_sem]) hH ?_
    show wpAnyH _ _ _ _ _ _ _ ({ tmps := #[.pointer (some ⟨B, 0, none⟩), .int .i64 i, undef, undef, .pointer (some ⟨R, 0, none⟩), .pointer (some ⟨K, 0, none⟩), .int .i64 0, .tuple #[.agg #[.int .i64 p, .int .i64 q, .int .i64 u, .int .i64 v], .int .i64 0], .pointer (some ⟨B, 0, none⟩), .pointer (some ⟨B, 0, none⟩), .pointer (some ⟨B, 0, none⟩), .agg #[.int .i64 r, .int .i64 s, .int .i64 b, .int .i64 o, .int .i64 d], .int .i64 i, .tuple #[.agg #[.int .i64 p, .int .i64 q, .int .i64 u, .int .i64 v], .int .i64 0], .agg #[.int .i64 p, .int .i64 q, .int .i64 u, .int .i64 v], .int .i64 0, .pointer (some ⟨B, 0, none⟩), .pointer (some ⟨B, 0, none⟩), .pointer (some ⟨B, 7, none⟩), vb, .pointer (some ⟨B, 0, none⟩), .pointer (some ⟨B, 0, none⟩), .pointer (some ⟨B, 5, none⟩), .int .i64 m, .agg #[.int .i64 p, .int .i64 q, .int .i64 u, .int .i64 v], .pointer (some ⟨B, 0, none⟩), .pointer (some ⟨B, 0, none⟩), .pointer (some ⟨B, 6, none⟩), .map (some M), .int .i64 i, undef, undef], defers := [] } : Act) _
    refine take_pure 14 (v := .agg L.toArray) rfl (by kernel_rfl) rfl (fun w' hw => exec_look 80 (.tmp 28) (.tmp 29) rfl (.map (some M)) (.int .i64 i) (.agg L.toArray) rfl rfl (HL.out _ hw.d)) hH ?_
    show wpAnyH _ _ _ _ _ _ _ ({ tmps := #[.pointer (some ⟨B, 0, none⟩), .int .i64 i, undef, undef, .pointer (some ⟨R, 0, none⟩), .pointer (some ⟨K, 0, none⟩), .int .i64 0, .tuple #[.agg #[.int .i64 p, .int .i64 q, .int .i64 u, .int .i64 v], .int .i64 0], .pointer (some ⟨B, 0, none⟩), .pointer (some ⟨B, 0, none⟩), .pointer (some ⟨B, 0, none⟩), .agg #[.int .i64 r, .int .i64 s, .int .i64 b, .int .i64 o, .int .i64 d], .int .i64 i, .tuple #[.agg #[.int .i64 p, .int .i64 q, .int .i64 u, .int .i64 v], .int .i64 0], .agg #[.int .i64 p, .int .i64 q, .int .i64 u, .int .i64 v], .int .i64 0, .pointer (some ⟨B, 0, none⟩), .pointer (some ⟨B, 0, none⟩), .pointer (some ⟨B, 7, none⟩), vb, .pointer (some ⟨B, 0, none⟩), .pointer (some ⟨B, 0, none⟩), .pointer (some ⟨B, 5, none⟩), .int .i64 m, .agg #[.int .i64 p, .int .i64 q, .int .i64 u, .int .i64 v], .pointer (some ⟨B, 0, none⟩), .pointer (some ⟨B, 0, none⟩), .pointer (some ⟨B, 6, none⟩), .map (some M), .int .i64 i, .agg L.toArray, undef], defers := [] } : Act) _
    refine take_one 15 rfl rfl (by kernel_rfl) ?_
    refine wp_contract 70 [.tmp 19, .tmp 23, .tmp 24, .tmp 30] _ rfl (enters_of Try.func70 (by kernel_rfl) rfl) [vb, .int .i64 m, .agg #[.int .i64 p, .int .i64 q, .int .i64 u, .int .i64 v], .agg L.toArray] rfl (CO.out _ hH.n) ?_
    rintro e W' ⟨rfl, b2⟩
    refine ⟨_, rfl, hH.next b2, fun hH => ?_⟩
    show wpAnyH _ _ _ _ _ _ _ ({ tmps := #[.pointer (some ⟨B, 0, none⟩), .int .i64 i, undef, undef, .pointer (some ⟨R, 0, none⟩), .pointer (some ⟨K, 0, none⟩), .int .i64 0, .tuple #[.agg #[.int .i64 p, .int .i64 q, .int .i64 u, .int .i64 v], .int .i64 0], .pointer (some ⟨B, 0, none⟩), .pointer (some ⟨B, 0, none⟩), .pointer (some ⟨B, 0, none⟩), .agg #[.int .i64 r, .int .i64 s, .int .i64 b, .int .i64 o, .int .i64 d], .int .i64 i, .tuple #[.agg #[.int .i64 p, .int .i64 q, .int .i64 u, .int .i64 v], .int .i64 0], .agg #[.int .i64 p, .int .i64 q, .int .i64 u, .int .i64 v], .int .i64 0, .pointer (some ⟨B, 0, none⟩), .pointer (some ⟨B, 0, none⟩), .pointer (some ⟨B, 7, none⟩), vb, .pointer (some ⟨B, 0, none⟩), .pointer (some ⟨B, 0, none⟩), .pointer (some ⟨B, 5, none⟩), .int .i64 m, .agg #[.int .i64 p, .int .i64 q, .int .i64 u, .int .i64 v], .pointer (some ⟨B, 0, none⟩), .pointer (some ⟨B, 0, none⟩), .pointer (some ⟨B, 6, none⟩), .map (some M), .int .i64 i, .agg L.toArray, .agg L2.toArray], defers := [] } : Act) _
    have hW' := hH
    refine take_one 16 rfl rfl (by kernel_rfl) ?_
    refine wp_store_mid 40 _ _ rfl R 0 L2.toArray rfl rfl (HT.out _ _ hH.e) iL one ?_
    refine ⟨⟨hH.d.of fun g hg => heap_puts R L2 0 W' g (by have := HM.out g hg; omega), hH.p.putOther (by have := HKR.out; omega) 0 _, HP.out _ _ hH.e, belows_put (by omega) _ 0 hH.n⟩, fun hH => ?_⟩
    exact wpAnyH_done (by kernel_rfl) ⟨rfl, W', hW', rfl⟩ _
  case aft =>
    obtain ⟨rfl, W3, h3, rfl⟩ := hr
    have ht := HT.out W3 R h3.e
    have hs2 : (World.setCells W3 R 0 L2).rangeAt R 0 L2 := World.rangeAt_setCells_same W3 _ 0 L2 (by simpa using ht)
    have hld := run_loadVar_mid (P := Try.prog) (World.setCells W3 R 0 L2) R 0 40 L2 _ hs2 Try.underlying40 rfl iL2
    have HN : Hid (Below W.heap.size W (World.setCells W3 R 0 L2)) := belows_put (by omega) _ 0 h3.n
    clear ht hs2 h3
    go_wp2
    refine bodyPost_ret (v := .agg L2.toArray) ?_ rfl ⟨rfl, HN.out⟩
    simp [results, Try.f42, asAddr, hld]
set_option maxRecDepth 100000 in
set_option maxHeartbeats 4000000 in
theorem dLook_no (h : Dm W lo B M r s b o d m n G vb l1 Y vc l2 Z) (i : Int) (hx1 : hx r s b o d i = false) :
    Calls Try.prog 17 #[.pointer (some ⟨B, 0, none⟩), .int .i64 i] W fun e w' => e = .returned (.tuple #[rawV fun _ => 0, .int .i64 12]) ∧ Below W.heap.size W w' := by
  unfold rawV
  have CH : Hid (∀ w, Below W.heap.size W w → Calls Try.prog 41 #[.pointer (some ⟨B, 0, none⟩), .int .i64 i] w fun e w' => e = .returned (.bool false) ∧ Below w.heap.size w w') := fun w hw => by rw [← hx1]; exact dHas_any (h.next hw) i
  obtain ⟨L2, hL2⟩ : ∃ L, (ints .u8 72 fun _ => 0) = L := ⟨_, rfl⟩
  have iL : (Try.prog.info? 40).map (·.size) = some L2.toArray.size := by rw [← hL2]; exact infoR
  have iL2 : (Try.prog.info? 40).map (·.size) = some L2.length := by rw [← hL2, ints_len]; exact infoR
  have one : L2.toArray.all (·.oneCell') = true := by rw [← hL2]; exact ints_one .u8 72 _
  have HT : Hid (∀ W' R, Bk .u8 W' R 72 (fun _ => 0) → W'.there R 0 L2.toArray.size) := fun W' R h' => by rw [← hL2]; simpa [ints] using Bk.there h' .u8 fun _ => 0
  have hz := zeroR
  have HZ : Hid ((ints .u8 72 fun _ => 0) = L2) := hL2
  have hbr : ∀ w, (Instr.build 40 #[]).run Try.prog w = .ok (.agg (ints .u8 72 fun _ => 0).toArray) w := fun w => run_build w _ _ _ (by kernel_rfl)
  rw [hL2] at hz hbr
  rw [hL2]
  clear hL2 h hx1
  go_enter Try.func17, Try.ntmps17
  go_upto_region 1 with (fail)
  obtain ⟨R, hR⟩ : ∃ R, W.heap.size = R := ⟨_, rfl⟩
  obtain ⟨V, hV⟩ : ∃ V, W.alloc (.cells L2.toArray 40) = V := ⟨_, rfl⟩
  have HB : Hid (Below W.heap.size W V) := by rw [← hV]; exact (Below.refl _ W).alloc (Nat.le_refl _) _
  have HE : Hid (Bk .u8 V R 72 fun _ => 0) := by rw [← hV, ← HZ.out, ← hR]; exact Bk.new .u8 W 72 (fun _ => 0) _
  rw [hV, hR]
  clear hV hz
  go_wp2_with fail
  refine (CH.out _ HB.out).mono ?_
  rintro e W1 ⟨rfl, b1⟩
  have HN : Hid (Below W.heap.size W W1) := HB.out.trans (b1.mono HB.out.size)
  have ht := HT.out W1 R (HE.out.next b1)
  clear b1 HE HB CH
  go_wp2_with (first | refine wpList_known rfl _ (exec_build12 40 rfl _ hbr _) ?_ | refine wpList_store_mid rfl 40 _ _ rfl R 0 L2.toArray rfl rfl ht iL one ?_)
  have hs2 : (World.setCells W1 R 0 L2).rangeAt R 0 L2 := World.rangeAt_setCells_same W1 _ 0 L2 (by simpa using ht)
  have hld := run_loadVar_mid (P := Try.prog) (World.setCells W1 R 0 L2) R 0 40 L2 _ hs2 Try.underlying40 rfl iL2
  refine bodyPost_ret (v := .tuple #[.agg L2.toArray, .int .i64 12]) ?_ rfl ⟨rfl, belows_put (by omega) _ 0 HN.out⟩
  simp [results, Try.f17, asAddr, hld]
set_option maxRecDepth 100000 in
set_option maxHeartbeats 4000000 in
theorem dLook_yes (h : Dm W lo B M r s b o d m n G vb l1 Y vc l2 Z) {k j : Int} (hm : Md m k j) (i : Int) (hi : I64 i) (hx1 : hx r s b o d i = true) :
    Calls Try.prog 17 #[.pointer (some ⟨B, 0, none⟩), .int .i64 i] W fun e w' => e = .returned (.tuple #[rawV (ovF k Y (i / 1048576) (i / 65536 % 16) (i / 64 % 1024) (i % 64) (G i) l1), .int .i64 0]) ∧ Below W.heap.size W w' := by
  have CH : Hid (∀ w, Below W.heap.size W w → Calls Try.prog 41 #[.pointer (some ⟨B, 0, none⟩), .int .i64 i] w fun e w' => e = .returned (.bool true) ∧ Below w.heap.size w w') := fun w hw => by rw [← hx1]; exact dHas_any (h.next hw) i
  have CR : Hid (∀ w, Below W.heap.size W w → Calls Try.prog 42 #[.pointer (some ⟨B, 0, none⟩), .int .i64 i] w fun e w' => e = .returned (rawV (ovF k Y (i / 1048576) (i / 65536 % 16) (i / 64 % 1024) (i % 64) (G i) l1)) ∧ Below w.heap.size w w') := fun w hw => dReadAt_any (h.next hw) hm i hi hx1
  obtain ⟨F2, hF2⟩ : ∃ F, ovF k Y (i / 1048576) (i / 65536 % 16) (i / 64 % 1024) (i % 64) (G i) l1 = F := ⟨_, rfl⟩
  rw [hF2] at CR
  rw [hF2]
  unfold rawV at CR ⊢
  clear hF2
  obtain ⟨L2, hL2⟩ : ∃ L, ints .u8 72 F2 = L := ⟨_, rfl⟩
  have iL : (Try.prog.info? 40).map (·.size) = some L2.toArray.size := by rw [← hL2]; exact infoR
  have iL2 : (Try.prog.info? 40).map (·.size) = some L2.length := by rw [← hL2, ints_len]; exact infoR
  have one : L2.toArray.all (·.oneCell') = true := by rw [← hL2]; exact ints_one .u8 72 _
  have HT : Hid (∀ W' R, Bk .u8 W' R 72 (fun _ => 0) → W'.there R 0 L2.toArray.size) := fun W' R h' => by rw [← hL2]; simpa [ints] using Bk.there h' .u8 F2
  rw [hL2] at CR
  rw [hL2]
  have hz := zeroR
  obtain ⟨T, hT⟩ : ∃ Z, (ints .u8 72 fun _ => 0).toArray = Z := ⟨_, rfl⟩
  rw [hT] at hz
  clear hL2 h hx1 hm hi
  go_enter Try.func17, Try.ntmps17
  go_upto_region 1 with (fail)
  obtain ⟨R, hR⟩ : ∃ R, W.heap.size = R := ⟨_, rfl⟩
  obtain ⟨V, hV⟩ : ∃ V, W.alloc (.cells T 40) = V := ⟨_, rfl⟩
  have HB : Hid (Below W.heap.size W V) := by rw [← hV]; exact (Below.refl _ W).alloc (Nat.le_refl _) _
  have HE : Hid (Bk .u8 V R 72 fun _ => 0) := by rw [← hV, ← hT, ← hR]; exact Bk.new .u8 W 72 (fun _ => 0) _
  rw [hV, hR]
  clear hV hz hT
  go_wp2_with fail
  refine (CH.out _ HB.out).mono ?_
  rintro e W1 ⟨rfl, b1⟩
  replace HE : Hid (Bk .u8 W1 R 72 fun _ => 0) := HE.out.next b1
  replace HB : Hid (Below W.heap.size W W1) := HB.out.trans (b1.mono HB.out.size)
  clear b1 CH
  go_wp2_with fail
  refine (CR.out _ HB.out).mono ?_
  rintro e W2 ⟨rfl, b1⟩
  have ht := HT.out W2 R (HE.out.next b1)
  have HN : Hid (Below W.heap.size W W2) := HB.out.trans (b1.mono HB.out.size)
  clear b1 CR HE HB
  go_wp2_with (first | refine wpList_store_mid rfl 40 _ _ rfl R 0 L2.toArray rfl rfl ht iL one ?_)
  have hs2 : (World.setCells W2 R 0 L2).rangeAt R 0 L2 := World.rangeAt_setCells_same W2 _ 0 L2 (by simpa using ht)
  have hld := run_loadVar_mid (P := Try.prog) (World.setCells W2 R 0 L2) R 0 40 L2 _ hs2 Try.underlying40 rfl iL2
  refine bodyPost_ret (v := .tuple #[.agg L2.toArray, .int .i64 0]) ?_ rfl ⟨rfl, belows_put (by omega) _ 0 HN.out⟩
  simp [results, Try.f17, asAddr, hld]
end
end Go.Proofs.Ytcpjmfemgdgplaa
