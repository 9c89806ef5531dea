/-
  A play: any step; what stands behind all of them.
-/
import Derived.Test.YtcpjmfemgdgplaaDrP5m
import Derived.Test.YtcpjmfemgdgplaaDrP6m
import Derived.Test.YtcpjmfemgdgplaaDrP7m
import Derived.Test.YtcpjmfemgdgplaaDrP8m
namespace Go.Proofs.Ytcpjmfemgdgplaa
open Go.RowKit Go.Shelf
open Ge (pw rt hd ix)
attribute [local go_sem] Oper.semAt_some

section
variable {W W' w0 : World} {es ls : List (Nat × List Value)} {lo B M K : Nat} {r s b o d m : Int} {n : Nat} {G : Int → Nat → Int} {l1 l2 k1 k2 : Nat} {Y Z Y' Z' : Nat → Nat → Int} {E : List En} {LD : List Value} {k8 j8 : Int}
theorem dStep_any (h : Pq w0 es ls lo B M r s b o d m n LD W) (hm : Md m k8 j8) (hg : Ng r b o d) (Zo : Nat → Int) (hi : ∀ j, j < 11 → I64 (Zo j)) (hb : Byts 72 fun j => Zo (j + 11)) (hn : n < 800000) :
    Calls Try.prog 11 #[.pointer (some ⟨B, 0, none⟩), .agg LD.toArray, .agg (oc12 Zo).toArray] W fun e w' => ∃ LD', e = .returned (.tuple #[.agg LD'.toArray, .bool true]) ∧ Pq w0 es ls lo B M r s b o d m (n + 700) LD' w' := by
  have ho : Oc (oc12 Zo) (Zo 0) (Zo 1) (Zo 2) (Zo 3) (Zo 4) (Zo 5) (Zo 6) (Zo 7) (Zo 8) (Zo 9) (Zo 10) (ints .u8 72 fun j => Zo (j + 11)) := by
    rw [op12_is]
    exact Oc.mk' _ _ _ _ _ _ _ _ _ _ _ _
  have hf : ∀ j, j < 8 → (Lit.int .i64 (ffn (Zo 3) (Zo 4) (Zo 5) (Zo 6) (Zo 7) (Zo 8) (Zo 9) (Zo 10) j)).wf = true := by
    intro j hj
    have : j = 0 ∨ j = 1 ∨ j = 2 ∨ j = 3 ∨ j = 4 ∨ j = 5 ∨ j = 6 ∨ j = 7 := by omega
    rcases this with rfl | rfl | rfl | rfl | rfl | rfl | rfl | rfl
    · exact wf12 (hi 3 (by omega))
    · exact wf12 (hi 4 (by omega))
    · exact wf12 (hi 5 (by omega))
    · exact wf12 (hi 6 (by omega))
    · exact wf12 (hi 7 (by omega))
    · exact wf12 (hi 8 (by omega))
    · exact wf12 (hi 9 (by omega))
    · exact wf12 (hi 10 (by omega))
  obtain ⟨O, hO⟩ : ∃ O, oc12 Zo = O := ⟨_, rfl⟩
  obtain ⟨z0, hz0⟩ : ∃ z, Zo 0 = z := ⟨_, rfl⟩
  rw [hO] at ho ⊢
  rw [hz0] at ho
  by_cases e1 : z0 = 1
  · subst e1
    exact dStep1 h hm hg ho hf hn
  by_cases e2 : z0 = 2
  · subst e2
    cases hx9 : hx r s b o d (Zo 1) with
    | false => exact dStep2n h hm hg ho hf hn (hi 1 (by omega)) hb rfl hx9
    | true => exact dStep2 h hm hg ho hf hn (hi 1 (by omega)) hb rfl hx9
  by_cases e3 : z0 = 3
  · subst e3
    cases hx9 : hx r s b o d (Zo 1) with
    | false => exact dStep3n h hm hg ho hf hn (hi 1 (by omega)) hx9
    | true => exact dStep3 h hm hg ho hf hn (hi 1 (by omega)) hx9
  by_cases e4 : z0 = 4
  · subst e4
    exact dStep4 h hm hg ho hf hn (hi 2 (by omega))
  exact dStep0 h hm hg ho hf hn e1 e2 e3 e4
/-- new chips -/
theorem pqNew (h : Lw w0 es [] lo B M r s b o d m 0 (fun _ _ => 0) (.slice none 0 0) 0 (fun _ _ => 0) (.slice none 0 0) 0 (fun _ _ => 0) W) : Pq w0 es [] lo B M r s b o d m 0 (dl r s b o d m (.slice none 0 0) (.slice none 0 0) (.slice none 0 0)) W := by
  have hf : Fs W none 0 0 (fun _ _ => 0) := ⟨Nat.le_refl _, Nat.zero_le _, fun h => absurd h (by omega), fun i hi => absurd hi (by omega), fun _ => ⟨rfl, rfl⟩⟩
  exact ⟨0, _, 0, _, [], _, _, none, 0, 0, none, 0, none, 0, rfl, Nat.le_refl _, h, er_none W, hf, hf, fun h => absurd h (by omega), fun h => absurd h (by omega), fun h => absurd h (by omega)⟩
/-- the document's lists, and where they lie -/
theorem Pm.las (h : Pm w0 es ls lo B M r s b o d m n G l1 Y l2 Z E k1 Y' k2 Z' LD W) : ∃ a1 c1 a2 c2, LD[7]? = some (.slice a1 k1 c1) ∧ LD[8]? = some (.slice a2 k2 c2) ∧ Fs W a1 k1 c1 Y' ∧ Fs W a2 k2 c2 Z' := by
  obtain ⟨vb, vc, a, len, cap, a1, c1, a2, c2, rfl, h2, h3, h4⟩ := h
  exact ⟨a1, c1, a2, c2, rfl, rfl, h4.f, h4.g⟩
theorem Pm.geomB (h : Pm w0 es ls lo B M r s b o d m n G l1 Y l2 Z E k1 Y' k2 Z' LD W) : Calls Try.prog 14 #[.pointer (some ⟨B, 0, none⟩)] W fun e w' => e = .returned (.agg #[.int .i64 r, .int .i64 s, .int .i64 b, .int .i64 o, .int .i64 d]) ∧ Below W.heap.size W w' := by
  obtain ⟨vb, vc, a, len, cap, a1, c1, a2, c2, h1, h2, h3, h4⟩ := h
  exact dGeom_any h3.d
theorem Pm.modeB (h : Pm w0 es ls lo B M r s b o d m n G l1 Y l2 Z E k1 Y' k2 Z' LD W) : Calls Try.prog 15 #[.pointer (some ⟨B, 0, none⟩)] W fun e w' => e = .returned (.int .i64 m) ∧ Below W.heap.size W w' := by
  obtain ⟨vb, vc, a, len, cap, a1, c1, a2, c2, h1, h2, h3, h4⟩ := h
  exact dMode_any h3.d
theorem Pm.seesB (h : Pm w0 es ls lo B M r s b o d m n G l1 Y l2 Z E k1 Y' k2 Z' LD W) (hm : Md m k8 j8) (i : Int) (hi0 : 0 ≤ i) (hi : I64 i) :
    Calls Try.prog 19 #[.agg LD.toArray, .int .i64 i] W fun e w' => e = .returned (rawV (ovF k8 Y' (i / 1048576) (i / 65536 % 16) (i / 64 % 1024) (i % 64) (gE E i) k1)) ∧ Below W.heap.size W w' := by
  obtain ⟨vb, vc, a, len, cap, a1, c1, a2, c2, rfl, h2, h3, h4⟩ := h
  exact look12_any r s b o d m k8 (fun k p q u v c i x p' q' u' v' F hF w => refApply_any k p q u v c i x p' q' u' v' F hF m k8 j8 hm w) a len cap E a1 k1 c1 Y' _ i hi0 (by unfold I64 at hi; omega) W h4.e h4.f
/-- behind the steps: what both tell of themselves -/
structure Ly (w0 : World) (es : List (Nat × List Value)) (K lo B M : Nat) (r s b o d m : Int) (n l1 : Nat) (Y : Nat → Nat → Int) (l2 : Nat) (Z : Nat → Nat → Int) (E : List En) (LD : List Value) (fa : Option Addr) (fc : Nat) (ca : Option Addr) (cc : Nat) (a1 : Option Addr) (c1 : Nat) (a2 : Option Addr) (c2 : Nat) (W : World) : Prop where
  pm : Pm w0 es [(K, LD)] lo B M r s b o d m n (gE E) l1 Y l2 Z E l1 Y l2 Z LD W
  fa : Fs W fa l1 fc Y
  co : Fs W ca l2 cc Z
  la : Fs W a1 l1 c1 Y
  lc : Fs W a2 l2 c2 Z
  e7 : LD[7]? = some (.slice a1 l1 c1)
  e8 : LD[8]? = some (.slice a2 l2 c2)
variable {fa ca a1 a2 : Option Addr} {fc cc c1 c2 : Nat}
theorem Ly.next (h : Ly w0 es K lo B M r s b o d m n l1 Y l2 Z E LD fa fc ca cc a1 c1 a2 c2 W) (e : Below W.heap.size W W') : Ly w0 es K lo B M r s b o d m n l1 Y l2 Z E LD fa fc ca cc a1 c1 a2 c2 W' :=
  ⟨h.pm.next e, h.fa.below e, h.co.below e, h.la.below e, h.lc.below e, h.e7, h.e8⟩
theorem Ly.d7 (h : Ly w0 es K lo B M r s b o d m n l1 Y l2 Z E LD fa fc ca cc a1 c1 a2 c2 W) : W.cell? ⟨K, 7, none⟩ = some (.slice a1 l1 c1) := (h.pm.cl (K, LD) (by simp)).cell h.e7
theorem Ly.d8 (h : Ly w0 es K lo B M r s b o d m n l1 Y l2 Z E LD fa fc ca cc a1 c1 a2 c2 W) : W.cell? ⟨K, 8, none⟩ = some (.slice a2 l2 c2) := (h.pm.cl (K, LD) (by simp)).cell h.e8
theorem Pm.wfB (h : Pm w0 es ls lo B M r s b o d m n (gE E) l1 Y l2 Z E k1 Y' k2 Z' LD W) (p q u v i : Int) : Byts 72 (ovF k8 Y p q u v (gE E i) l1) := by
  obtain ⟨vb, vc, a, len, cap, a1, c1, a2, c2, h1, h2, h3, h4⟩ := h
  exact ovF_byt _ _ _ _ _ _ _ (h3.d.by_ i) _
theorem fs_rg {W : World} {b o len cap : Nat} {Z : Nat → Nat → Int} (h : Fs W (some ⟨b, o, none⟩) len cap Z) {s : Nat} (hs : s < len) : W.rangeAt b (o + s * 8) [.int .i64 (Z s 0), .int .i64 (Z s 1), .int .i64 (Z s 2), .int .i64 (Z s 3), .int .i64 (Z s 4), .int .i64 (Z s 5), .int .i64 (Z s 6), .int .i64 (Z s 7)] := by
  obtain ⟨b', o', e, _, hc⟩ := h.at_ (by omega)
  cases e
  exact fs_range hc s hs
theorem i64_wf {i : Int} (h : (Lit.int .i64 i).wf = true) : I64 i := by
  have := bounds_i64 h
  exact ⟨this.1, by omega⟩
theorem Pre.layA (h : Pre w0 es W) (L L0 : List Value) (t : TypeId) (hl : L.length = L0.length) : Pre w0 ((W.heap.size, L) :: es) ((W.alloc (.cells L0.toArray t)).setCells W.heap.size 0 L) ∧ (W.alloc (.cells L0.toArray t)).there W.heap.size 0 L.toArray.size := by
  have k := h.lay L0 t
  refine ⟨⟨belows_put h.n.size _ 0 k.n, fun x hx => ?_⟩, ?_⟩
  · rcases List.mem_cons.1 hx with rfl | hx
    · exact (k.e _ (List.mem_cons_self ..)).all hl
    · exact ((h.e x hx).alloc _).putOther (by have := (h.e x hx).lt; omega) 0 L
  · have := (Cb.new W L0 t).thereAt 0 L.length (by omega)
    simpa using this
end
theorem eqGm_in (t : Nat) (r s b o c : Int) (w : World) : (Op.equalIn (t + 1 + 1) 23 (.agg #[.int .i64 r, .int .i64 s, .int .i64 b, .int .i64 o, .int .i64 c]) (.agg #[.int .i64 r, .int .i64 s, .int .i64 b, .int .i64 o, .int .i64 c])).run Try.prog w = .ok true w := by
  have hS : Try.prog.underlying 23 = some (.struct (Try.prog.fieldsOf 23)) := by kernel_rfl
  have hp : Try.prog.stoodInHeld 23 = false := by kernel_rfl
  rw [run_equalIn_agg w (t + 1) 23 _ _ hS hp]
  simp only [Program.fieldsOf, Try.underlying23]
  go_simp
theorem eqGm_gd : Try.prog.eqGuardType Try.prog.depth 23 = false := by kernel_rfl
theorem eqGm_neq (r s b o c : Int) (w : World) : (binOp .neq 23 (.agg #[.int .i64 r, .int .i64 s, .int .i64 b, .int .i64 o, .int .i64 c]) (.agg #[.int .i64 r, .int .i64 s, .int .i64 b, .int .i64 o, .int .i64 c])).run Try.prog w = .ok (.bool false) w := by
  rw [run_neq_struct, eqGm_in 9998]; rfl
theorem built_d12 (r s b o d m : Int) : Try.prog.built 34 [(0, .agg #[.int .i64 r, .int .i64 s, .int .i64 b, .int .i64 o, .int .i64 d]), (1, .int .i64 m)] = some (dl r s b o d m (.slice none 0 0) (.slice none 0 0) (.slice none 0 0)).toArray := by kernel_rfl
theorem exec_d12 {op : Oper} {a : Act} (x y : Nat) (ho : op.op = .build 34 #[(0, .tmp x), (1, .tmp y)]) (r s b o d m : Int) (hx : a.eval (.tmp x) = .agg #[.int .i64 r, .int .i64 s, .int .i64 b, .int .i64 o, .int .i64 d]) (hy : a.eval (.tmp y) = .int .i64 m) (w : World) :
    (execOp a.eval op).run Try.prog w = .ok (.value (.agg (dl r s b o d m (.slice none 0 0) (.slice none 0 0) (.slice none 0 0)).toArray)) w := by
  have h := run_build (P := Try.prog) w 34 #[(0, .agg #[.int .i64 r, .int .i64 s, .int .i64 b, .int .i64 o, .int .i64 d]), (1, .int .i64 m)] _ (built_d12 r s b o d m)
  simp [execOp, ho, hx, hy, h]
end Go.Proofs.Ytcpjmfemgdgplaa
