/-
  Where an access goes: indexOf, access.
-/
import Derived.Test.YtcpjmfemgdgplaaDrW3
import Derived.Test.YtcpjmfemgdgplaaDrW4
namespace Go.Proofs.Ytcpjmfemgdgplaa
open Go.RowKit Go.Shelf
open Ge (pw rt hd ix)
attribute [local go_sem] Oper.semAt_some

/-- at work on a fault -/
structure Fa (lo B M : Nat) (r s b o d m : Int) (n : Nat) (G : Int → Nat → Int) (vb : Value) (l1 : Nat) (Y : Nat → Nat → Int) (vc : Value) (l2 : Nat) (Z : Nat → Nat → Int) (C : Nat) (k p q u v c x y : Int) (w W : World) : Prop where
  d : Dm W lo B M r s b o d m n G vb l1 Y vc l2 Z
  f : Ft W C k p q u v c x y
  n : Below w.heap.size w W
theorem Fa.next {lo B M : Nat} {r s b o d m : Int} {n : Nat} {G : Int → Nat → Int} {vb : Value} {l1 : Nat} {Y : Nat → Nat → Int} {vc : Value} {l2 : Nat} {Z : Nat → Nat → Int} {C : Nat} {k p q u v c x y : Int} {w W W' : World} (h : Fa lo B M r s b o d m n G vb l1 Y vc l2 Z C k p q u v c x y w W) (e : Below W.heap.size W W') : Fa lo B M r s b o d m n G vb l1 Y vc l2 Z C k p q u v c x y w W' := ⟨h.d.next e, h.f.next e, h.n.trans (e.mono h.n.size)⟩
theorem one_we (i : Int) (b : Bool) : (#[.int .i64 i, .bool b] : Array Value).all (·.oneCell') = true := by
  simp only [List.all_toArray, List.all_cons, List.all_nil]
  rfl
theorem infoWe : (Try.prog.info? 59).map (·.size) = some 2 := by kernel_rfl
theorem infoFt : (Try.prog.info? 38).map (·.size) = some 8 := by kernel_rfl
/-- where an access goes; whether it is dropped -/
def wI (l2 : Nat) (Z : Nat → Nat → Int) (i : Int) : Int := if l2 = 0 then i else if Z 0 0 = 7 then i else ix (Z 0 1) (Z 0 2) (Z 0 3) (Z 0 4)
def wD (l2 : Nat) (Z : Nat → Nat → Int) : Bool := decide (l2 ≠ 0 ∧ Z 0 0 = 7)
theorem Mv.then {lo : Nat} {T : Nat → Prop} {W W' W'' : World} (h : Mv lo T W W') (e : Below W'.heap.size W' W'') (hl : lo ≤ W'.heap.size) : Mv lo T W W'' :=
  ⟨h.n.trans (e.mono hl), fun g hg ht => (e.block g (Nat.lt_of_lt_of_le hg h.n.size)).trans (h.k g hg ht)⟩
section
variable {W : World} {lo B M R : Nat} {r s b o d m : Int} {n : Nat} {G : Int → Nat → Int} {vb vc : Value} {l1 l2 : Nat} {Y Z : Nat → Nat → Int}
set_option maxRecDepth 100000 in
set_option maxHeartbeats 4000000 in
theorem dIndexOf_any (h : Dm W lo B M r s b o d m n G vb l1 Y vc l2 Z) (k p q u v c x y : Int) (hh : hd r s b o d p q u v = true) :
    Calls Try.prog 74 #[.pointer (some ⟨B, 0, none⟩), .agg #[.int .i64 k, .int .i64 p, .int .i64 q, .int .i64 u, .int .i64 v, .int .i64 c, .int .i64 x, .int .i64 y]] W fun e w' => e = .returned (.int .i64 (ix p q u v)) ∧ Below W.heap.size W w' := by
  have CI : Hid (∀ w : World, Calls Try.prog 22 #[.agg #[.int .i64 r, .int .i64 s, .int .i64 b, .int .i64 o, .int .i64 d], .agg #[.int .i64 p, .int .i64 q, .int .i64 u, .int .i64 v]] w fun e w' => e = .returned (.tuple #[.int .i64 (ix p q u v), .int .i64 0]) ∧ Below w.heap.size w w') := fun w => index_yes r s b o d p q u v hh w
  obtain ⟨z, hz⟩ : ∃ z, ix p q u v = z := ⟨_, rfl⟩
  rw [hz] at CI ⊢
  have HD : Hid (Dm W lo B M r s b o d m n G vb l1 Y vc l2 Z) := h
  clear hz hh h
  go_enter Try.func74, Try.ntmps74
  go_upto_region 1 with (fail)
  obtain ⟨C, hC⟩ : ∃ C, W.heap.size = C := ⟨_, rfl⟩
  obtain ⟨V, hV⟩ : ∃ V, W.alloc (.cells #[.int .i64 k, .int .i64 p, .int .i64 q, .int .i64 u, .int .i64 v, .int .i64 c, .int .i64 x, .int .i64 y] 38) = V := ⟨_, rfl⟩
  have HS : Hid (Fa lo B M r s b o d m n G vb l1 Y vc l2 Z C k p q u v c x y W V) := by
    have b1 : Below W.heap.size W V := by rw [← hV]; exact (Below.refl _ W).alloc (Nat.le_refl _) _
    refine ⟨HD.out.next b1, ?_, b1⟩
    rw [← hV, ← hC]
    exact Ft.new W k p q u v c x y _
  rw [hV, hC]
  clear hV HD
  refine region_ends (by kernel_rfl) (fun W' => Fa lo B M r s b o d m n G vb l1 Y vc l2 Z C k p q u v c x y W W') (fun a2 W' => a2 = ({ tmps := #[.pointer (some ⟨B, 0, none⟩), .agg #[.int .i64 k, .int .i64 p, .int .i64 q, .int .i64 u, .int .i64 v, .int .i64 c, .int .i64 x, .int .i64 y], undef, .pointer (some ⟨C, 0, none⟩), .int .i64 0, .int .i64 z, .int .i64 0, .tuple #[.int .i64 z, .int .i64 0], .pointer (some ⟨B, 0, none⟩), .pointer (some ⟨B, 0, none⟩), .pointer (some ⟨B, 0, none⟩), .agg #[.int .i64 r, .int .i64 s, .int .i64 b, .int .i64 o, .int .i64 d], .pointer (some ⟨C, 1, none⟩), .agg #[.int .i64 p, .int .i64 q, .int .i64 u, .int .i64 v], .tuple #[.int .i64 z, .int .i64 0], .int .i64 z, .int .i64 0, undef], defers := [] } : Act) ∧ Below W.heap.size W W') (HS.out.next (below_drew1 _)) (fun hH => ?reg) (fun a2 V3 hr => ?aft)
  case reg =>
    refine take_pure 0 (v := .pointer (some ⟨B, 0, none⟩)) rfl (by kernel_rfl) rfl (fun w' hw => by simp [execOp, go_sem]) hH ?_
    show wpAnyH _ _ _ _ _ _ _ ({ tmps := #[.pointer (some ⟨B, 0, none⟩), .agg #[.int .i64 k, .int .i64 p, .int .i64 q, .int .i64 u, .int .i64 v, .int .i64 c, .int .i64 x, .int .i64 y], undef, .pointer (some ⟨C, 0, none⟩), .int .i64 0, undef, undef, undef, .pointer (some ⟨B, 0, none⟩), undef, undef, undef, undef, undef, undef, undef, undef, undef], defers := [] } : Act) _
    refine take_pure 1 (v := .pointer (some ⟨B, 0, none⟩)) rfl (by kernel_rfl) rfl (fun w' hw => by simp [execOp, go_sem]) hH ?_
    show wpAnyH _ _ _ _ _ _ _ ({ tmps := #[.pointer (some ⟨B, 0, none⟩), .agg #[.int .i64 k, .int .i64 p, .int .i64 q, .int .i64 u, .int .i64 v, .int .i64 c, .int .i64 x, .int .i64 y], undef, .pointer (some ⟨C, 0, none⟩), .int .i64 0, undef, undef, undef, .pointer (some ⟨B, 0, none⟩), .pointer (some ⟨B, 0, none⟩), undef, undef, undef, undef, undef, undef, undef, undef], defers := [] } : Act) _
    refine take_pure 2 (v := .pointer (some ⟨B, 0, none⟩)) rfl (by kernel_rfl) rfl (fun w' hw => by simp [execOp, go_sem]) hH ?_
    show wpAnyH _ _ _ _ _ _ _ ({ tmps := #[.pointer (some ⟨B, 0, none⟩), .agg #[.int .i64 k, .int .i64 p, .int .i64 q, .int .i64 u, .int .i64 v, .int .i64 c, .int .i64 x, .int .i64 y], undef, .pointer (some ⟨C, 0, none⟩), .int .i64 0, undef, undef, undef, .pointer (some ⟨B, 0, none⟩), .pointer (some ⟨B, 0, none⟩), .pointer (some ⟨B, 0, none⟩), undef, undef, undef, undef, undef, undef, undef], defers := [] } : Act) _
    refine take_if 3 (v := .agg #[.int .i64 r, .int .i64 s, .int .i64 b, .int .i64 o, .int .i64 d]) rfl (by kernel_rfl) (yieldsIf_load_mid (by rfl) _ _ rfl B 0 rfl [.int .i64 r, .int .i64 s, .int .i64 b, .int .i64 o, .int .i64 d] _ (fun w' hw => hw.d.g) Try.underlying23 rfl infoGm) hH ?_
    show wpAnyH _ _ _ _ _ _ _ ({ tmps := #[.pointer (some ⟨B, 0, none⟩), .agg #[.int .i64 k, .int .i64 p, .int .i64 q, .int .i64 u, .int .i64 v, .int .i64 c, .int .i64 x, .int .i64 y], undef, .pointer (some ⟨C, 0, none⟩), .int .i64 0, undef, undef, undef, .pointer (some ⟨B, 0, none⟩), .pointer (some ⟨B, 0, none⟩), .pointer (some ⟨B, 0, none⟩), .agg #[.int .i64 r, .int .i64 s, .int .i64 b, .int .i64 o, .int .i64 d], undef, undef, undef, undef, undef, undef], defers := [] } : Act) _
    refine take_pure 4 (v := .pointer (some ⟨C, 1, none⟩)) rfl (by kernel_rfl) rfl (fun w' hw => by simp [execOp, go_sem]) hH ?_
    show wpAnyH _ _ _ _ _ _ _ ({ tmps := #[.pointer (some ⟨B, 0, none⟩), .agg #[.int .i64 k, .int .i64 p, .int .i64 q, .int .i64 u, .int .i64 v, .int .i64 c, .int .i64 x, .int .i64 y], undef, .pointer (some ⟨C, 0, none⟩), .int .i64 0, undef, undef, undef, .pointer (some ⟨B, 0, none⟩), .pointer (some ⟨B, 0, none⟩), .pointer (some ⟨B, 0, none⟩), .agg #[.int .i64 r, .int .i64 s, .int .i64 b, .int .i64 o, .int .i64 d], .pointer (some ⟨C, 1, none⟩), undef, undef, undef, undef, undef], defers := [] } : Act) _
    refine take_pure 5 (v := .agg #[.int .i64 p, .int .i64 q, .int .i64 u, .int .i64 v]) rfl (by kernel_rfl) rfl (fun w' hw => exec_range 36 (.tmp 12) rfl C 1 rfl [.int .i64 p, .int .i64 q, .int .i64 u, .int .i64 v] _ hw.f.place Try.underlying36 rfl info_place) hH ?_
    show wpAnyH _ _ _ _ _ _ _ ({ tmps := #[.pointer (some ⟨B, 0, none⟩), .agg #[.int .i64 k, .int .i64 p, .int .i64 q, .int .i64 u, .int .i64 v, .int .i64 c, .int .i64 x, .int .i64 y], undef, .pointer (some ⟨C, 0, none⟩), .int .i64 0, undef, undef, undef, .pointer (some ⟨B, 0, none⟩), .pointer (some ⟨B, 0, none⟩), .pointer (some ⟨B, 0, none⟩), .agg #[.int .i64 r, .int .i64 s, .int .i64 b, .int .i64 o, .int .i64 d], .pointer (some ⟨C, 1, none⟩), .agg #[.int .i64 p, .int .i64 q, .int .i64 u, .int .i64 v], undef, undef, undef, undef], defers := [] } : Act) _
    refine take_one 6 rfl rfl (by kernel_rfl) ?_
    refine wp_contract 22 [.tmp 11, .tmp 13] _ rfl (enters_of Try.func22 (by kernel_rfl) rfl) [.agg #[.int .i64 r, .int .i64 s, .int .i64 b, .int .i64 o, .int .i64 d], .agg #[.int .i64 p, .int .i64 q, .int .i64 u, .int .i64 v]] rfl (CI.out _) ?_
    rintro e W' ⟨rfl, b2⟩
    refine ⟨_, rfl, hH.next b2, fun hH => ?_⟩
    show wpAnyH _ _ _ _ _ _ _ ({ tmps := #[.pointer (some ⟨B, 0, none⟩), .agg #[.int .i64 k, .int .i64 p, .int .i64 q, .int .i64 u, .int .i64 v, .int .i64 c, .int .i64 x, .int .i64 y], undef, .pointer (some ⟨C, 0, none⟩), .int .i64 0, undef, undef, undef, .pointer (some ⟨B, 0, none⟩), .pointer (some ⟨B, 0, none⟩), .pointer (some ⟨B, 0, none⟩), .agg #[.int .i64 r, .int .i64 s, .int .i64 b, .int .i64 o, .int .i64 d], .pointer (some ⟨C, 1, none⟩), .agg #[.int .i64 p, .int .i64 q, .int .i64 u, .int .i64 v], .tuple #[.int .i64 z, .int .i64 0], undef, undef, undef], defers := [] } : Act) _
    refine take_pure 7 (v := .tuple #[.int .i64 z, .int .i64 0]) rfl (by kernel_rfl) rfl (fun w' hw => by simp [execOp, go_sem]) hH ?_
    show wpAnyH _ _ _ _ _ _ _ ({ tmps := #[.pointer (some ⟨B, 0, none⟩), .agg #[.int .i64 k, .int .i64 p, .int .i64 q, .int .i64 u, .int .i64 v, .int .i64 c, .int .i64 x, .int .i64 y], undef, .pointer (some ⟨C, 0, none⟩), .int .i64 0, undef, undef, .tuple #[.int .i64 z, .int .i64 0], .pointer (some ⟨B, 0, none⟩), .pointer (some ⟨B, 0, none⟩), .pointer (some ⟨B, 0, none⟩), .agg #[.int .i64 r, .int .i64 s, .int .i64 b, .int .i64 o, .int .i64 d], .pointer (some ⟨C, 1, none⟩), .agg #[.int .i64 p, .int .i64 q, .int .i64 u, .int .i64 v], .tuple #[.int .i64 z, .int .i64 0], undef, undef, undef], defers := [] } : Act) _
    refine take_pure 8 (v := .int .i64 z) rfl (by kernel_rfl) rfl (fun w' hw => by simp [execOp, go_sem]) hH ?_
    show wpAnyH _ _ _ _ _ _ _ ({ tmps := #[.pointer (some ⟨B, 0, none⟩), .agg #[.int .i64 k, .int .i64 p, .int .i64 q, .int .i64 u, .int .i64 v, .int .i64 c, .int .i64 x, .int .i64 y], undef, .pointer (some ⟨C, 0, none⟩), .int .i64 0, undef, undef, .tuple #[.int .i64 z, .int .i64 0], .pointer (some ⟨B, 0, none⟩), .pointer (some ⟨B, 0, none⟩), .pointer (some ⟨B, 0, none⟩), .agg #[.int .i64 r, .int .i64 s, .int .i64 b, .int .i64 o, .int .i64 d], .pointer (some ⟨C, 1, none⟩), .agg #[.int .i64 p, .int .i64 q, .int .i64 u, .int .i64 v], .tuple #[.int .i64 z, .int .i64 0], .int .i64 z, undef, undef], defers := [] } : Act) _
    refine take_pure 9 (v := .int .i64 0) rfl (by kernel_rfl) rfl (fun w' hw => by simp [execOp, go_sem]) hH ?_
    show wpAnyH _ _ _ _ _ _ _ ({ tmps := #[.pointer (some ⟨B, 0, none⟩), .agg #[.int .i64 k, .int .i64 p, .int .i64 q, .int .i64 u, .int .i64 v, .int .i64 c, .int .i64 x, .int .i64 y], undef, .pointer (some ⟨C, 0, none⟩), .int .i64 0, undef, undef, .tuple #[.int .i64 z, .int .i64 0], .pointer (some ⟨B, 0, none⟩), .pointer (some ⟨B, 0, none⟩), .pointer (some ⟨B, 0, none⟩), .agg #[.int .i64 r, .int .i64 s, .int .i64 b, .int .i64 o, .int .i64 d], .pointer (some ⟨C, 1, none⟩), .agg #[.int .i64 p, .int .i64 q, .int .i64 u, .int .i64 v], .tuple #[.int .i64 z, .int .i64 0], .int .i64 z, .int .i64 0, undef], defers := [] } : Act) _
    refine take_pure 10 (v := .int .i64 z) rfl (by kernel_rfl) rfl (fun w' hw => by simp [execOp, go_sem]) hH ?_
    show wpAnyH _ _ _ _ _ _ _ ({ tmps := #[.pointer (some ⟨B, 0, none⟩), .agg #[.int .i64 k, .int .i64 p, .int .i64 q, .int .i64 u, .int .i64 v, .int .i64 c, .int .i64 x, .int .i64 y], undef, .pointer (some ⟨C, 0, none⟩), .int .i64 0, .int .i64 z, undef, .tuple #[.int .i64 z, .int .i64 0], .pointer (some ⟨B, 0, none⟩), .pointer (some ⟨B, 0, none⟩), .pointer (some ⟨B, 0, none⟩), .agg #[.int .i64 r, .int .i64 s, .int .i64 b, .int .i64 o, .int .i64 d], .pointer (some ⟨C, 1, none⟩), .agg #[.int .i64 p, .int .i64 q, .int .i64 u, .int .i64 v], .tuple #[.int .i64 z, .int .i64 0], .int .i64 z, .int .i64 0, undef], defers := [] } : Act) _
    refine take_pure 11 (v := .int .i64 0) rfl (by kernel_rfl) rfl (fun w' hw => by simp [execOp, go_sem]) hH ?_
    show wpAnyH _ _ _ _ _ _ _ ({ tmps := #[.pointer (some ⟨B, 0, none⟩), .agg #[.int .i64 k, .int .i64 p, .int .i64 q, .int .i64 u, .int .i64 v, .int .i64 c, .int .i64 x, .int .i64 y], undef, .pointer (some ⟨C, 0, none⟩), .int .i64 0, .int .i64 z, .int .i64 0, .tuple #[.int .i64 z, .int .i64 0], .pointer (some ⟨B, 0, none⟩), .pointer (some ⟨B, 0, none⟩), .pointer (some ⟨B, 0, none⟩), .agg #[.int .i64 r, .int .i64 s, .int .i64 b, .int .i64 o, .int .i64 d], .pointer (some ⟨C, 1, none⟩), .agg #[.int .i64 p, .int .i64 q, .int .i64 u, .int .i64 v], .tuple #[.int .i64 z, .int .i64 0], .int .i64 z, .int .i64 0, undef], defers := [] } : Act) _
    exact wpAnyH_done (by kernel_rfl) ⟨rfl, hH.n⟩ _
  case aft =>
    obtain ⟨rfl, hN⟩ := hr
    have HN : Hid (Below W.heap.size W V3) := hN
    clear hN
    go_wp2
    go_ret
    exact ⟨rfl, HN.out⟩
set_option maxRecDepth 100000 in
set_option maxHeartbeats 4000000 in
theorem dAccess_none (h : Dm W lo B M r s b o d m n G vb l1 Y vc 0 Z) (i : Int) :
    Calls Try.prog 47 #[.pointer (some ⟨B, 0, none⟩), .int .i64 i] W fun e w' => e = .returned (.agg #[.int .i64 i, .bool false]) ∧ Below W.heap.size W w' := by
  obtain ⟨a, c, e1, _⟩ := h.fs2
  subst e1
  have HD : Hid (Dm W lo B M r s b o d m n G vb l1 Y (.slice a 0 c) 0 Z) := h
  clear h
  go_enter Try.func47, Try.ntmps47
  go_upto_region 1 with (fail)
  obtain ⟨R, hR⟩ : ∃ R, W.heap.size = R := ⟨_, rfl⟩
  obtain ⟨V, hV⟩ : ∃ V, W.alloc (.cells #[.int .i64 0, .bool false] 59) = V := ⟨_, rfl⟩
  have HB : Hid (Below W.heap.size W V) := by rw [← hV]; exact (Below.refl _ W).alloc (Nat.le_refl _) _
  have HR : Cb V R [.int .i64 0, .bool false] := by rw [← hV, ← hR]; exact Cb.new W _ _
  have hD := HD.out.next HB.out
  have c0 := hD.c.cell (i := 0) rfl
  have c8 := hD.cc
  have th := HR.thereAt 0 2 (by simp)
  have on : (#[.int .i64 i, .bool false] : Array Value).all (·.oneCell') = true := one_we _ _
  rw [hV, hR]
  clear hV HD hD HR
  go_wp2_with (first | refine wpList_store_mid rfl 59 _ _ rfl R 0 #[.int .i64 i, .bool false] rfl rfl th infoWe on ?_)
  have hs2 : (World.setCells V R 0 [.int .i64 i, .bool false]).rangeAt R 0 [.int .i64 i, .bool false] := World.rangeAt_setCells_same V _ 0 _ (by simpa using th)
  have hld := run_loadVar_mid (P := Try.prog) (World.setCells V R 0 [.int .i64 i, .bool false]) R 0 59 [.int .i64 i, .bool false] _ hs2 Try.underlying59 rfl infoWe
  refine bodyPost_ret (v := .agg #[.int .i64 i, .bool false]) ?_ rfl ⟨rfl, belows_put (by omega) _ 0 HB.out⟩
  simp [results, Try.f47, Act.put, asAddr, hld]
/-- a store into a block that is new -/
theorem dm_put {W' : World} {n' : Nat} {G' : Int → Nat → Int} {vb' vc' : Value} {l1' l2' : Nat} {Y' Z' : Nat → Nat → Int} {T : Nat → Prop} (h : Dm W' lo B M r s b o d m n' G' vb' l1' Y' vc' l2' Z') (k : Mv lo T W W') (hm : ∀ g, mine B M vb' vc' g → g < R) (hR : W.heap.size ≤ R) (hl : lo ≤ R) (vs : List Value) :
    Dm (W'.setCells R 0 vs) lo B M r s b o d m n' G' vb' l1' Y' vc' l2' Z' ∧ Mv lo T W (W'.setCells R 0 vs) :=
  ⟨h.of fun g hg => heap_puts R vs 0 W' g (by have := hm g hg; omega), ⟨belows_put hl vs 0 k.n, fun g hg ht => (heap_puts R vs 0 W' g (by omega)).trans (k.k g hg ht)⟩⟩
/-- the parts of chips with something to come, one taken -/
theorem Dm.taken {l : Nat} {W' : World} {g cap : Nat} (h : Dm W lo B M r s b o d m n G vb l1 Y (.slice (some ⟨g, 0, none⟩) (l + 1) cap) (l + 1) Z) (ho : W'.ownsRow lo 38 8 (.slice (some ⟨g, 0, none⟩) l cap) l (fcells12 l (tlZ Z))) (hc : Cb W' B (dl r s b o d m (.map (some M)) vb (.slice (some ⟨g, 0, none⟩) l cap)))
    (hk : ∀ j, j ≠ B → j ≠ g → mine B M vb (.slice (some ⟨g, 0, none⟩) (l + 1) cap) j → W'.heap[j]? = W.heap[j]?) : Dm W' lo B M r s b o d m n G vb l1 Y (.slice (some ⟨g, 0, none⟩) l cap) l (tlZ Z) := by
  have hM : M ≠ g := fun e => h.a3.2 (by simp [Value.ownBlock, e])
  have hB : B ≠ g := fun e => h.a3.1 (by simp [Value.ownBlock, e])
  refine ⟨hc, h.mp.of (hk M (fun e => h.a1 e.symm) hM (.inr (.inl rfl))), own_kept h.f1 fun j hj => hk j (fun e => h.a2.1 (by rw [hj, e])) (fun e => h.a4 j hj (by simp [Value.ownBlock, e])) (.inr (.inr (.inl hj))), ho, h.w1, fun i hi j hj => h.w2 (i + 1) (by omega) j hj, fun i hi => h.ok (i + 1) (by omega), h.by_, h.lb, h.lm, h.a1, h.a2, h.a3, h.a4, ⟨h.le.1, by have := h.le.2; omega⟩⟩
set_option maxRecDepth 100000 in
set_option maxHeartbeats 4000000 in
theorem dAccess_some {l : Nat} (h : Dm W lo B M r s b o d m n G vb l1 Y vc (l + 1) Z) (i : Int) :
    Calls Try.prog 47 #[.pointer (some ⟨B, 0, none⟩), .int .i64 i] W fun e w' => e = .returned (.agg #[.int .i64 (wI (l + 1) Z i), .bool (wD (l + 1) Z)]) ∧ ∃ vc', Dm w' lo B M r s b o d m n G vb l1 Y vc' l (tlZ Z) ∧ vc'.ownBlock = vc.ownBlock ∧ Mv lo (mine B M vb vc) W w' := by
  obtain ⟨g, cap, e1⟩ : ∃ g cap, vc = .slice (some ⟨g, 0, none⟩) (l + 1) cap := by
    rcases h.f2.2 with ⟨_, e⟩ | ⟨g, cap, _, e, _⟩
    · omega
    · exact ⟨g, cap, e⟩
  subst e1
  have HD : Hid (Dm W lo B M r s b o d m n G vb l1 Y (.slice (some ⟨g, 0, none⟩) (l + 1) cap) (l + 1) Z) := h
  have HO := h.ok 0 (by omega)
  have hl := h.le.2
  clear h
  have HW : Hid (wI (l + 1) Z i = if Z 0 0 = 7 then i else ix (Z 0 1) (Z 0 2) (Z 0 3) (Z 0 4)) := by unfold Hid wI; rw [if_neg (by omega)]
  have HX : Hid (wD (l + 1) Z = decide (Z 0 0 = 7)) := by unfold Hid wD; simp
  have HG : Hid (∀ W', Dm W' lo B M r s b o d m n G vb l1 Y (.slice (some ⟨g, 0, none⟩) (l + 1) cap) (l + 1) Z → W'.rangeAt g 0 [.int .i64 (Z 0 0), .int .i64 (Z 0 1), .int .i64 (Z 0 2), .int .i64 (Z 0 3), .int .i64 (Z 0 4), .int .i64 (Z 0 5), .int .i64 (Z 0 6), .int .i64 (Z 0 7)]) := fun W' h' => by
    obtain ⟨a, c, e, hf⟩ := h'.fs2
    cases e
    obtain ⟨b', o', e, _, hc⟩ := hf.at_ (by omega)
    cases e
    have := fs_range hc 0 (by omega)
    simpa using this
  have CD : Hid (∀ W', Dm W' lo B M r s b o d m n G vb l1 Y (.slice (some ⟨g, 0, none⟩) (l + 1) cap) (l + 1) Z → Calls Try.prog 73 #[.slice (some ⟨g, 0, none⟩) (l + 1) cap, .int .i64 0, .int .i64 1] W' fun e w' => e = .returned (.slice (some ⟨g, 0, none⟩) l cap) ∧ w'.ownsRow lo 38 8 (.slice (some ⟨g, 0, none⟩) l cap) l (fcells12 l (tlZ Z)) ∧ W'.grownBy w' (some g)) := fun W' h' => delete12_any lo g l cap Z W' h'.f2
  have CI : Hid (∀ (W' : World) (vc' : Value), Dm W' lo B M r s b o d m n G vb l1 Y vc' l (tlZ Z) → Calls Try.prog 74 #[.pointer (some ⟨B, 0, none⟩), .agg #[.int .i64 (Z 0 0), .int .i64 (Z 0 1), .int .i64 (Z 0 2), .int .i64 (Z 0 3), .int .i64 (Z 0 4), .int .i64 (Z 0 5), .int .i64 (Z 0 6), .int .i64 (Z 0 7)]] W' fun e w' => e = .returned (.int .i64 (ix (Z 0 1) (Z 0 2) (Z 0 3) (Z 0 4))) ∧ Below W'.heap.size W' w') := fun W' vc' h' => dIndexOf_any h' _ _ _ _ _ _ _ _ HO
  obtain ⟨k, hk⟩ : ∃ y, Z 0 0 = y := ⟨_, rfl⟩
  obtain ⟨z, hz⟩ : ∃ y, ix (Z 0 1) (Z 0 2) (Z 0 3) (Z 0 4) = y := ⟨_, rfl⟩
  obtain ⟨z1, hz1⟩ : ∃ y, Z 0 1 = y := ⟨_, rfl⟩
  obtain ⟨z2, hz2⟩ : ∃ y, Z 0 2 = y := ⟨_, rfl⟩
  obtain ⟨z3, hz3⟩ : ∃ y, Z 0 3 = y := ⟨_, rfl⟩
  obtain ⟨z4, hz4⟩ : ∃ y, Z 0 4 = y := ⟨_, rfl⟩
  obtain ⟨z5, hz5⟩ : ∃ y, Z 0 5 = y := ⟨_, rfl⟩
  obtain ⟨z6, hz6⟩ : ∃ y, Z 0 6 = y := ⟨_, rfl⟩
  obtain ⟨z7, hz7⟩ : ∃ y, Z 0 7 = y := ⟨_, rfl⟩
  rw [hz] at HW CI
  rw [hk] at HW HX HG CI
  rw [hz1, hz2, hz3, hz4, hz5, hz6, hz7] at HG CI
  clear hk hz hz1 hz2 hz3 hz4 hz5 hz6 hz7 HO
  go_enter Try.func47, Try.ntmps47
  go_upto_region 1 with (fail)
  obtain ⟨R, hR⟩ : ∃ R, W.heap.size = R := ⟨_, rfl⟩
  obtain ⟨V, hV⟩ : ∃ V, W.alloc (.cells #[.int .i64 0, .bool false] 59) = V := ⟨_, rfl⟩
  have HB : Hid (Below W.heap.size W V) := by rw [← hV]; exact (Below.refl _ W).alloc (Nat.le_refl _) _
  have HR : Hid (Cb V R [.int .i64 0, .bool false]) := by rw [← hV, ← hR]; exact Cb.new W _ _
  have HV : Hid (Dm V lo B M r s b o d m n G vb l1 Y (.slice (some ⟨g, 0, none⟩) (l + 1) cap) (l + 1) Z) := HD.out.next HB.out
  have c0 := HV.out.c.cell (i := 0) rfl
  have c8 := HV.out.cc
  have hg := HG.out V HV.out
  rw [hV, hR]
  clear hV
  go_upto_region 4 with (first | refine wpList_load_mid rfl 38 _ rfl g 0 rfl [.int .i64 k, .int .i64 z1, .int .i64 z2, .int .i64 z3, .int .i64 z4, .int .i64 z5, .int .i64 z6, .int .i64 z7] _ hg Try.underlying38 rfl infoFt ?_)
  obtain ⟨K, hK⟩ : ∃ K, V.heap.size = K := ⟨_, rfl⟩
  have HRK : Hid (R < K ∧ W.heap.size ≤ R) := ⟨by rw [← hK]; exact HR.out.lt, by omega⟩
  obtain ⟨V2, hV2⟩ : ∃ V2, V.alloc (.cells #[.int .i64 k, .int .i64 z1, .int .i64 z2, .int .i64 z3, .int .i64 z4, .int .i64 z5, .int .i64 z6, .int .i64 z7] 38) = V2 := ⟨_, rfl⟩
  have HF : Hid (Ft V2 K k z1 z2 z3 z4 z5 z6 z7) := by rw [← hV2, ← hK]; exact Ft.new V k z1 z2 z3 z4 z5 z6 z7 _
  have b2 : Below V.heap.size V V2 := by rw [← hV2]; exact (Below.refl _ V).alloc (Nat.le_refl _) _
  replace HB : Hid (Below W.heap.size W V2) := HB.out.trans (b2.mono HB.out.size)
  replace HR : Hid (Cb V2 R [.int .i64 0, .bool false]) := HR.out.next b2
  replace HV : Hid (Dm V2 lo B M r s b o d m n G vb l1 Y (.slice (some ⟨g, 0, none⟩) (l + 1) cap) (l + 1) Z) := HV.out.next b2
  rw [hV2, hK]
  clear hV2 b2 c0 c8 hg HG
  have c0 := HV.out.c.cell (i := 0) rfl
  have c8 := HV.out.cc
  go_wp2_with fail
  refine (CD.out _ HV.out).mono ?_
  rintro e W3 ⟨rfl, ho, hgr⟩
  have HML : Hid (∀ j, mine B M vb (.slice (some ⟨g, 0, none⟩) (l + 1) cap) j → lo ≤ j ∧ j < W.heap.size) := HD.out.mine_lt
  have hBg : B ≠ g := fun e => HV.out.a3.1 (by simp [Value.ownBlock, e])
  have hgW : lo ≤ g ∧ g < W.heap.size := HML.out g (.inr (.inr (.inr rfl)))
  have hBW : lo ≤ B ∧ B < W.heap.size := HML.out B (.inl rfl)
  have cB : Cb W3 B (dl r s b o d m (.map (some M)) vb (.slice (some ⟨g, 0, none⟩) (l + 1) cap)) := HV.out.c.of (hgr.block B HV.out.c.lt (fun e => hBg (by cases e; rfl)))
  have hf8 := cB.free 8
  clear c0 c8
  have c0 := cB.cell (i := 0) rfl
  have c8 := cB.cell (i := 8) rfl
  obtain ⟨W4, hW4⟩ : ∃ W4, W3.setCell ⟨B, 8, none⟩ (.slice (some ⟨g, 0, none⟩) l cap) = W4 := ⟨_, rfl⟩
  have hoth : ∀ j, j ≠ B → W4.heap[j]? = W3.heap[j]? := fun j hj => by rw [← hW4]; exact Below.heap_setCell W3 ⟨B, 8, none⟩ _ j hj
  have HQ : Hid (Dm W4 lo B M r s b o d m n G vb l1 Y (.slice (some ⟨g, 0, none⟩) l cap) l (tlZ Z) ∧ Mv lo (mine B M vb (.slice (some ⟨g, 0, none⟩) (l + 1) cap)) W W4 ∧ Cb W4 R [.int .i64 0, .bool false] ∧ Ft W4 K k z1 z2 z3 z4 z5 z6 z7) := by
    have hK4 : ∀ j, j < V2.heap.size → j ≠ B → j ≠ g → W4.heap[j]? = V2.heap[j]? := fun j h1 h2 h3 => (hoth j h2).trans (hgr.block j h1 (fun e => h3 (by cases e; rfl)))
    have hRK := HRK.out
    refine ⟨HV.out.taken (own_kept ho fun j hj => ?_) (by rw [← hW4]; exact cB.set 8 _) (fun j h1 h2 h3 => hK4 j (HV.out.mine_lt j h3).2 h1 h2), ⟨?_, fun j hj hm => ?_⟩, HR.out.of (hK4 R HR.out.lt (by omega) (by omega)), Bk.of HF.out (hK4 K HF.out.lt (by omega) (by omega))⟩
    · cases hj
      exact hoth g (fun e => hBg e.symm)
    · rw [← hW4]
      exact below_set12 hBW.1 (below_grown7 (HB.out.mono HD.out.lo_le) hgr (fun j e => by cases e; exact hgW.1) (Nat.le_trans HD.out.lo_le HB.out.size))
    · refine (hK4 j (Nat.lt_of_lt_of_le hj HB.out.size) (fun e => hm (.inl e)) (fun e => hm (.inr (.inr (.inr (by rw [e]; rfl)))))).trans (HB.out.block j hj)
  have HMN : Hid (∀ j, mine B M vb (.slice (some ⟨g, 0, none⟩) l cap) j → j < R) := fun j hj => by have := (HML.out j hj).2; have := HRK.out; omega
  have HLO : Hid (lo ≤ W.heap.size) := HD.out.lo_le
  clear cB ho hgr HML hBg hgW hBW hoth HV HB HR HF CD HD
  go_upto_region 5 with (fail)
  clear hW4 hf8 c0 c8
  have ck := HQ.out.2.2.2.c0
  by_cases h7 : k = 7
  · rw [if_pos h7] at HW
    rw [decide_eq_true h7] at HX
    have HW2 : Hid (wI (l + 1) Z i = i ∧ wD (l + 1) Z = true) := ⟨HW.out, HX.out⟩
    subst h7
    have th := HQ.out.2.2.1.thereAt 0 2 (by simp)
    have on : (#[.int .i64 i, .bool true] : Array Value).all (·.oneCell') = true := one_we _ _
    clear HX HW CI
    go_wp2_with (first | refine wpList_store_mid rfl 59 _ _ rfl R 0 #[.int .i64 i, .bool true] rfl rfl th infoWe on ?_)
    have hRK := HRK.out
    have HE : Hid (Dm (World.setCells W4 R 0 [.int .i64 i, .bool true]) lo B M r s b o d m n G vb l1 Y (.slice (some ⟨g, 0, none⟩) l cap) l (tlZ Z) ∧ Mv lo (mine B M vb (.slice (some ⟨g, 0, none⟩) (l + 1) cap)) W (World.setCells W4 R 0 [.int .i64 i, .bool true])) := dm_put HQ.out.1 HQ.out.2.1 HMN.out hRK.2 (Nat.le_trans HLO.out hRK.2) _
    have hs2 : (World.setCells W4 R 0 [.int .i64 i, .bool true]).rangeAt R 0 [.int .i64 i, .bool true] := World.rangeAt_setCells_same W4 _ 0 _ (by simpa using th)
    have hld := run_loadVar_mid (P := Try.prog) (World.setCells W4 R 0 [.int .i64 i, .bool true]) R 0 59 [.int .i64 i, .bool true] _ hs2 Try.underlying59 rfl infoWe
    refine bodyPost_ret (v := .agg #[.int .i64 i, .bool true]) ?_ rfl ⟨by rw [HW2.out.1, HW2.out.2], _, HE.out.1, rfl, HE.out.2⟩
    simp [results, Try.f47, Act.put, asAddr, hld]
  · rw [if_neg h7] at HW
    rw [decide_eq_false h7] at HX
    have HW2 : Hid (wI (l + 1) Z i = z ∧ wD (l + 1) Z = false) := ⟨HW.out, HX.out⟩
    have hrF := HQ.out.2.2.2.range
    clear HX HW
    go_wp2_with (first | refine wpList_load_mid rfl 38 _ rfl K 0 rfl [.int .i64 k, .int .i64 z1, .int .i64 z2, .int .i64 z3, .int .i64 z4, .int .i64 z5, .int .i64 z6, .int .i64 z7] _ hrF Try.underlying38 rfl infoFt ?_)
    refine (CI.out _ _ HQ.out.1).mono ?_
    rintro e W5 ⟨rfl, b5⟩
    replace HQ : Hid (Dm W5 lo B M r s b o d m n G vb l1 Y (.slice (some ⟨g, 0, none⟩) l cap) l (tlZ Z) ∧ Mv lo (mine B M vb (.slice (some ⟨g, 0, none⟩) (l + 1) cap)) W W5 ∧ Cb W5 R [.int .i64 0, .bool false]) := ⟨HQ.out.1.next b5, HQ.out.2.1.then b5 HQ.out.1.lo_le, HQ.out.2.2.1.next b5⟩
    have th := HQ.out.2.2.thereAt 0 2 (by simp)
    have on : (#[.int .i64 z, .bool false] : Array Value).all (·.oneCell') = true := one_we _ _
    clear b5 hrF ck CI
    go_wp2_with (first | refine wpList_store_mid rfl 59 _ _ rfl R 0 #[.int .i64 z, .bool false] rfl rfl th infoWe on ?_)
    have hRK := HRK.out
    have HE : Hid (Dm (World.setCells W5 R 0 [.int .i64 z, .bool false]) lo B M r s b o d m n G vb l1 Y (.slice (some ⟨g, 0, none⟩) l cap) l (tlZ Z) ∧ Mv lo (mine B M vb (.slice (some ⟨g, 0, none⟩) (l + 1) cap)) W (World.setCells W5 R 0 [.int .i64 z, .bool false])) := dm_put HQ.out.1 HQ.out.2.1 HMN.out hRK.2 (Nat.le_trans HLO.out hRK.2) _
    have hs2 : (World.setCells W5 R 0 [.int .i64 z, .bool false]).rangeAt R 0 [.int .i64 z, .bool false] := World.rangeAt_setCells_same W5 _ 0 _ (by simpa using th)
    have hld := run_loadVar_mid (P := Try.prog) (World.setCells W5 R 0 [.int .i64 z, .bool false]) R 0 59 [.int .i64 z, .bool false] _ hs2 Try.underlying59 rfl infoWe
    refine bodyPost_ret (v := .agg #[.int .i64 z, .bool false]) ?_ rfl ⟨by rw [HW2.out.1, HW2.out.2], _, HE.out.1, rfl, HE.out.2⟩
    simp [results, Try.f47, Act.put, asAddr, hld]
end
end Go.Proofs.Ytcpjmfemgdgplaa
