/-
  What chips tell without turning: has, Geom, Mode, Faults, Coming, indexOf.
-/
import Derived.Test.YtcpjmfemgdgplaaDrW1
namespace Go.Proofs.Ytcpjmfemgdgplaa
open Go.RowKit Go.Shelf
open Ge (pw rt hd ix)
attribute [local go_sem] Oper.semAt_some

theorem infoDr : (Try.prog.info? 82).map (·.size) = some 9 := by kernel_rfl
theorem at_either (r s b o d i : Int) : ∃ p q u v f : Int, Hid (hx r s b o d i = (f == 0)) ∧ Hid (hx r s b o d i = true → p = i / 1048576 ∧ q = i / 65536 % 16 ∧ u = i / 64 % 1024 ∧ v = i % 64 ∧ f = 0) ∧
    Hid (∀ w, Calls Try.prog 69 #[.agg #[.int .i64 r, .int .i64 s, .int .i64 b, .int .i64 o, .int .i64 d], .int .i64 i] w fun e w' => e = .returned (.tuple #[.agg #[.int .i64 p, .int .i64 q, .int .i64 u, .int .i64 v], .int .i64 f]) ∧ Below w.heap.size w w') := by
  cases h : hx r s b o d i with
  | true => exact ⟨_, _, _, _, 0, by simp [Hid], fun _ => ⟨rfl, rfl, rfl, rfl, rfl⟩, fun w => at_yes r s b o d i h w⟩
  | false => exact ⟨0, 0, 0, 0, 12, by simp [Hid], fun e => (by cases e), fun w => at_no r s b o d i h w⟩
section
variable {W : World} {lo B M : Nat} {r s b o d m : Int} {n : Nat} {G : Int → Nat → Int} {vb vc : Value} {l1 l2 : Nat} {Y Z : Nat → Nat → Int}
set_option maxHeartbeats 1000000 in
theorem dHas_any (h : Dm W lo B M r s b o d m n G vb l1 Y vc l2 Z) (i : Int) :
    Calls Try.prog 41 #[.pointer (some ⟨B, 0, none⟩), .int .i64 i] W fun e w' => e = .returned (.bool (hx r s b o d i)) ∧ Below W.heap.size W w' := by
  obtain ⟨p, q, u, v, f, hz, _, CA⟩ := at_either r s b o d i
  obtain ⟨z, Z0⟩ : ∃ z, hx r s b o d i = z := ⟨_, rfl⟩
  rw [Z0] at hz ⊢
  have HD : Hid (Dm W lo B M r s b o d m n G vb l1 Y vc l2 Z) := h
  have hg := h.g
  have c0 := h.c.cell (i := 0) rfl
  have HB0 : Hid (Below W.heap.size W W) := Below.refl _ W
  clear Z0 h
  go_enter Try.func41, Try.ntmps41
  go_wp2_with (first
    | refine wpList_load_mid rfl 23 _ rfl B 0 rfl [.int .i64 r, .int .i64 s, .int .i64 b, .int .i64 o, .int .i64 d] _ hg Try.underlying23 rfl infoGm ?_)
  refine (CA.out _).mono ?_
  rintro e W1 ⟨rfl, b1⟩
  have HB : Hid (Below W.heap.size W W1) := b1
  clear b1 hg c0 CA HD HB0
  go_wp2
  go_ret
  refine ⟨by rw [hz.out]; rfl, ?_⟩
  exact HB.out.alloc HB.out.size _
set_option maxHeartbeats 1000000 in
theorem dGeom_any (h : Dm W lo B M r s b o d m n G vb l1 Y vc l2 Z) :
    Calls Try.prog 14 #[.pointer (some ⟨B, 0, none⟩)] W fun e w' => e = .returned (.agg #[.int .i64 r, .int .i64 s, .int .i64 b, .int .i64 o, .int .i64 d]) ∧ Below W.heap.size W w' := by
  have HD : Hid (Dm W lo B M r s b o d m n G vb l1 Y vc l2 Z) := h
  clear h
  go_enter Try.func14, Try.ntmps14
  go_upto_region 1 with (fail)
  obtain ⟨K, hK⟩ : ∃ K, W.heap.size = K := ⟨_, rfl⟩
  obtain ⟨V, hV⟩ : ∃ V, W.alloc (.cells #[.int .i64 0, .int .i64 0, .int .i64 0, .int .i64 0, .int .i64 0] 23) = V := ⟨_, rfl⟩
  have HB : Hid (Below W.heap.size W V) := by rw [← hV]; exact (Below.refl _ W).alloc (Nat.le_refl _) _
  have hD := HD.out.next HB.out
  have HG : Hid (Gm V K 0 0 0 0 0) := by rw [← hV, ← hK]; exact Gm.new W 0 0 0 0 0 _
  have th : V.there K 0 5 := Bk.there HG.out .i64 (gfn r s b o d)
  have on : (#[.int .i64 r, .int .i64 s, .int .i64 b, .int .i64 o, .int .i64 d] : Array Value).all (·.oneCell') = true := ints_one .i64 5 (gfn r s b o d)
  have hg := hD.g
  have c0 := hD.c.cell (i := 0) rfl
  rw [hV, hK]
  clear hV hD HD
  go_wp2_with (first
    | refine wpList_load_mid rfl 23 _ rfl B 0 rfl [.int .i64 r, .int .i64 s, .int .i64 b, .int .i64 o, .int .i64 d] _ hg Try.underlying23 rfl infoGm ?_
    | refine wpList_store_mid rfl 23 _ _ rfl K 0 #[.int .i64 r, .int .i64 s, .int .i64 b, .int .i64 o, .int .i64 d] rfl rfl th infoGm on ?_)
  have hs2 : (World.setCells V K 0 [.int .i64 r, .int .i64 s, .int .i64 b, .int .i64 o, .int .i64 d]).rangeAt K 0 [.int .i64 r, .int .i64 s, .int .i64 b, .int .i64 o, .int .i64 d] := World.rangeAt_setCells_same V _ 0 _ (by simpa using th)
  have hld := run_loadVar_mid (P := Try.prog) (World.setCells V K 0 [.int .i64 r, .int .i64 s, .int .i64 b, .int .i64 o, .int .i64 d]) K 0 23 [.int .i64 r, .int .i64 s, .int .i64 b, .int .i64 o, .int .i64 d] _ hs2 Try.underlying23 rfl infoGm
  refine bodyPost_ret (v := .agg #[.int .i64 r, .int .i64 s, .int .i64 b, .int .i64 o, .int .i64 d]) ?_ rfl ⟨rfl, belows_put (by omega) _ 0 HB.out⟩
  simp [results, Try.f14, Act.put, asAddr, hld]
theorem dMode_any (h : Dm W lo B M r s b o d m n G vb l1 Y vc l2 Z) :
    Calls Try.prog 15 #[.pointer (some ⟨B, 0, none⟩)] W fun e w' => e = .returned (.int .i64 m) ∧ Below W.heap.size W w' := by
  have c0 := h.c.cell (i := 0) rfl
  have c5 := h.cm
  have HB : Hid (Below W.heap.size W W) := Below.refl _ W
  clear h
  go_enter Try.func15, Try.ntmps15
  go_wp2
  go_ret
  exact ⟨rfl, HB.out⟩
theorem dFaults_any (h : Dm W lo B M r s b o d m n G vb l1 Y vc l2 Z) :
    Calls Try.prog 12 #[.pointer (some ⟨B, 0, none⟩)] W fun e w' => ∃ a c, e = .returned (.slice a l1 c) ∧ Fs w' a l1 c Y ∧ Below W.heap.size W w' := by
  obtain ⟨a, c, e, hf⟩ := h.fs1
  have CC : Hid (Calls Try.prog 40 #[.slice a l1 c] W fun e w' => ∃ a' c', e = .returned (.slice a' l1 c') ∧ Fs w' a' l1 c' Y ∧ Below W.heap.size W w' ∧ (0 < l1 → ∃ g, a' = some ⟨g, 0, none⟩ ∧ W.heap.size ≤ g)) := fclone_any a l1 c Y (by have := h.le.1; omega) W hf
  have c0 := h.c.cell (i := 0) rfl
  have c7 := h.cb
  rw [← e] at CC
  clear h hf e
  go_enter Try.func12, Try.ntmps12
  go_wp2_with (go_at_call 40; refine CC.out.mono ?_; rintro e W1 ⟨a', c', rfl, hf, hb, _⟩; have HF : Hid (Fs W1 a' l1 c' Y ∧ Below W.heap.size W W1) := ⟨hf, hb⟩; clear hf hb CC c0 c7)
  go_ret
  exact ⟨a', c', rfl, HF.out.1, HF.out.2⟩
theorem dComing_any (h : Dm W lo B M r s b o d m n G vb l1 Y vc l2 Z) :
    Calls Try.prog 13 #[.pointer (some ⟨B, 0, none⟩)] W fun e w' => ∃ a c, e = .returned (.slice a l2 c) ∧ Fs w' a l2 c Z ∧ Below W.heap.size W w' := by
  obtain ⟨a, c, e, hf⟩ := h.fs2
  have CC : Hid (Calls Try.prog 40 #[.slice a l2 c] W fun e w' => ∃ a' c', e = .returned (.slice a' l2 c') ∧ Fs w' a' l2 c' Z ∧ Below W.heap.size W w' ∧ (0 < l2 → ∃ g, a' = some ⟨g, 0, none⟩ ∧ W.heap.size ≤ g)) := fclone_any a l2 c Z (by have := h.le.2; omega) W hf
  have c0 := h.c.cell (i := 0) rfl
  have c7 := h.cc
  rw [← e] at CC
  clear h hf e
  go_enter Try.func13, Try.ntmps13
  go_wp2_with (go_at_call 40; refine CC.out.mono ?_; rintro e W1 ⟨a', c', rfl, hf, hb, _⟩; have HF : Hid (Fs W1 a' l2 c' Z ∧ Below W.heap.size W W1) := ⟨hf, hb⟩; clear hf hb CC c0 c7)
  go_ret
  exact ⟨a', c', rfl, HF.out.1, HF.out.2⟩
end
end Go.Proofs.Ytcpjmfemgdgplaa
