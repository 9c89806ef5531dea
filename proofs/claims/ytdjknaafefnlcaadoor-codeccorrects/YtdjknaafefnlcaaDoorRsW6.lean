/-
  The iterator over an element's powers, the code as it lies, its roots.
-/
import Derived.Test.YtdjknaafefnlcaaDoorRsW5
import Derived.Test.YtdjknaafefnlcaaDoorPolyW7
import Derived.Test.YtdjknaafefnlcaaDoorQuiet
import Derived.Test.YtdjknaafefnlcaaDoorBoxes
import Derived.Shelf.Abstract
import Derived.Shelf.RegionOpen
import Derived.OwnWalkIn
import Derived.TacticsInMore
import Derived.LoopNIn
import Derived.LoopIn
namespace Go.Proofs.YtdjknaafefnlcaaDoor
open Go.RowKit Go.Shelf
open Gf (gI eI)
open Po (El mu pwr ev S cf toE cv Low rts)
open Rm (al sy)
attribute [local go_sem] Oper.semAt_some

theorem yields5 {e : Ending} {A B : Prop} (h : (e = .returned (.bool true) ∧ A) ∨ (e = .returned (.bool false) ∧ B)) : ∃ r : Bool, e = .returned (.bool r) ∧ Hid ((r = true ∧ A) ∨ (r = false ∧ B)) := by
  rcases h with ⟨rfl, h⟩ | ⟨rfl, h⟩
  · exact ⟨true, rfl, .inl ⟨rfl, h⟩⟩
  · exact ⟨false, rfl, .inr ⟨rfl, h⟩⟩
theorem FldAt.stay {B : Nat} {W W' : World} {b : Nat} (h : FldAt W b) (k : Stay B W W') : FldAt W' b :=
  ⟨fun n hn => k.cell (h.1 n hn), fun a ha => k.cell (h.2 a ha)⟩
theorem FldAt.keep {M : Nat → Prop} {W W' : World} {b : Nat} (h : FldAt W b) (k : Keep M W W') (hm : ¬ M b) : FldAt W' b :=
  h.of fun o => World.cell?_of_block (w := W) (a := ⟨b, o, none⟩) (k.2 b h.lt hm)

set_option maxHeartbeats 1000000 in
theorem powers_any (b : Nat) (a n : Int) (w : World) :
    Calls Tryd.prog 76 #[.pointer (some ⟨b, 0, none⟩), .int .u8 a, .int .i64 n] w fun e w' =>
      e = .returned (.func (.func 94) #[] #[.pointer (some ⟨w.heap.size + 1 + 1, 0, none⟩), .pointer (some ⟨w.heap.size, 0, none⟩), .pointer (some ⟨w.heap.size + 1, 0, none⟩)]) ∧
      w' = ((w.alloc (.cells #[.pointer (some ⟨b, 0, none⟩)] 58)).alloc (.cells #[.int .u8 a] 5)).alloc (.cells #[.int .i64 n] 3) := by
  go_enter Tryd.func76, Tryd.ntmps76
  go_wp2
  go_ret
  exact ⟨rfl, rfl⟩

set_option maxRecDepth 100000 in
set_option maxHeartbeats 2000000 in
theorem powers_seq (nb fb ab b n : Nat) (a : El) (hn : n ≤ 300) (w : World) (c0 : Box w nb (.int .i64 (n : Int))) (c1 : Box w fb (.pointer (some ⟨b, 0, none⟩))) (c2 : Box w ab (.int .u8 (oe a))) (hf : FldAt w b) :
    SeqC Tryd.prog 94 #[.pointer (some ⟨nb, 0, none⟩), .pointer (some ⟨fb, 0, none⟩), .pointer (some ⟨ab, 0, none⟩)] (fun x => #[.int .i64 (x : Int), .int .u8 (oe (pwr a x))]) n (fun _ => True) (fun x => x = fb ∨ x = ab ∨ x = b) w := by
  intro l M J Jx W hW hM hJ hJx hskip hY h0
  have d0 := (c0.below hW c0.lt).1
  have D1 : Hid (Box W fb (.pointer (some ⟨b, 0, none⟩))) := c1.below hW c1.lt
  have D2 : Hid (Box W ab (.int .u8 (oe a))) := c2.below hW c2.lt
  have DF : Hid (FldAt W b) := hf.below hW
  have HM : Hid (¬ M fb ∧ ¬ M ab ∧ ¬ M b) := ⟨fun h => (hM _ h).2 (.inl rfl), fun h => (hM _ h).2 (.inr (.inl rfl)), fun h => (hM _ h).2 (.inr (.inr rfl))⟩
  have HJ : Hid (∀ x W1 k, J x W1 → J x (W1.drewN k)) := fun x W1 k h => hJ x _ _ h (Stay.drewN _ W1 k)
  have HY : Hid (∀ (x : Nat) (W1 : World), x < n → J x W1 → YieldAt Fence.wide 8 Tryd.prog l #[.int .i64 (x : Int), .int .u8 (oe (pwr a x))] W1 fun e W' => (e = .returned (.bool true) ∧ J (x + 1) W' ∧ Keep M W1 W') ∨ (e = .returned (.bool false) ∧ Jx x W' ∧ Keep M W1 W')) := fun x W1 h1 h2 => hY x W1 h1 trivial h2
  clear hJ hJx hskip hY hM hW c0 c1 c2 hf
  refine callsIn_of_wp Tryd.func94 rfl trivial ?_ rfl
  simp only [Tryd.ntmps94, List.size_toArray, List.length_cons, List.length_nil, Nat.reduceAdd, Nat.reduceSub, Array.replicate_succ, Array.replicate_zero, List.push_toArray, List.append_toArray, List.nil_append, List.cons_append]
  gi_wp2
  gi_loopw [5, 8] (fun p i wr => ∃ (x : Nat) (y : El), x ≤ n ∧ Hid (y = pwr a x) ∧ i = .int .i64 (x : Int) ∧ p = .int .u8 (oe y) ∧ J x wr ∧ Hid (Box wr fb (.pointer (some ⟨b, 0, none⟩)) ∧ Box wr ab (.int .u8 (oe a)) ∧ FldAt wr b)) (fun _ i _ => (n - (intOf i).toNat))
  case atStart => exact ⟨0, 1, by omega, rfl, rfl, rfl, h0, D1.out, D2.out, DF.out⟩
  case round =>
    obtain ⟨x, y, hx, Hy, rfl, rfl, hJs, HB⟩ := hrel
    by_cases hlt : x < n
    · obtain ⟨fn, tmps, assign, body, hyl, hR⟩ := HY.out x wr hlt hJs
      rw [← Hy.out] at hyl
      have hyb := oe_bd y
      have hab := oe_bd a
      gi_wp2
      refine hR.mono ?_
      rintro e W3 (⟨rfl, hJ3, hk3⟩ | ⟨rfl, hJx3, _⟩)
      · obtain ⟨b1, b2, bf⟩ := HB.out
        have e1 := hk3.box b1 HM.out.1
        have e2 := hk3.box b2 HM.out.2.1
        have ef := bf.keep hk3 HM.out.2.2
        have q1 := e1.1
        have q2 := e2.1
        have E : Hid (Box W3 fb (.pointer (some ⟨b, 0, none⟩)) ∧ Box W3 ab (.int .u8 (oe a)) ∧ FldAt W3 b) := ⟨e1, e2, ef⟩
        have Hy' : Hid (mu y a = pwr a (x + 1)) := by show _ = _; rw [Hy.out]; rfl
        have HMul : Hid (Calls Tryd.prog 85 #[.pointer (some ⟨b, 0, none⟩), .int .u8 (oe y), .int .u8 (oe a)] W3 fun e w' => e = .returned (.int .u8 (oe (mu y a))) ∧ ∃ k, w' = W3.drewN k) := by
          rw [← oe_mu]; exact mul_any b _ _ hyb.1 hyb.2 hab.1 hab.2 W3 ef
        clear b1 b2 bf e1 e2 ef HB
        gi_wp2_with (refine ⟨trivial, ?_⟩; gi_at_call 85; refine (callsIn_wide.2 HMul.out).mono ?_; rintro e w' ⟨rfl, q, rfl⟩)
        go_roundw
        case rel => exact ⟨x + 1, mu y a, by omega, Hy', by go_num, rfl, HJ.out _ _ q hJ3, E.out.1.drewN q, E.out.2.1.drewN q, E.out.2.2.drewN q⟩
        case measure => simp [intOf]; omega
      · gi_wp2
        refine bodyPost_ret (results_none rfl _ _ _) rfl ?_
        exact ⟨⟨_, rfl⟩, .inr ⟨x, hlt, trivial, hJx3⟩⟩
    · obtain rfl : x = n := by omega
      gi_wp2
      go_end0
      exact ⟨⟨_, rfl⟩, .inl hJs⟩

/-! ### the code -/
/-- the generator's coefficients -/
def gen : Nat → El := rts [8, 4, 2, 1]
theorem gen_low : Low 5 gen := Po.rts_low [8, 4, 2, 1]
theorem gen_top : gen 4 = 1 := Po.rts_top [8, 4, 2, 1]
structure CdAt (w : World) (c b : Nat) : Prop where
  f : w.cell? ⟨c, 0, none⟩ = some (.pointer (some ⟨b, 0, none⟩))
  g : ∀ i : Nat, i < 5 → w.cell? ⟨c, 1 + i, none⟩ = some (.int .u8 (oe (gen i)))
  fld : FldAt w b
theorem CdAt.lt {w : World} {c b : Nat} (h : CdAt w c b) : c < w.heap.size := cell_lt h.f
theorem CdAt.of {w w' : World} {c b : Nat} (h : CdAt w c b) (k : w'.heap[c]? = w.heap[c]?) (k2 : w'.heap[b]? = w.heap[b]?) : CdAt w' c b :=
  ⟨(World.cell?_of_block (w := w) (a := ⟨c, 0, none⟩) k).trans h.f, fun i hi => (World.cell?_of_block (w := w) (a := ⟨c, 1 + i, none⟩) k).trans (h.g i hi), h.fld.of fun o => World.cell?_of_block (w := w) (a := ⟨b, o, none⟩) k2⟩
theorem CdAt.below {C : Nat} {w w' : World} {c b : Nat} (h : CdAt w c b) (k : Below C w w') (hC : c < C ∧ b < C) : CdAt w' c b := h.of (k.block c hC.1) (k.block b hC.2)
theorem CdAt.next {w w' : World} {c b : Nat} (h : CdAt w c b) (k : Below w.heap.size w w') : CdAt w' c b := h.below k ⟨h.lt, h.fld.lt⟩
theorem CdAt.stay {B : Nat} {w w' : World} {c b : Nat} (h : CdAt w c b) (k : Stay B w w') : CdAt w' c b := ⟨k.cell h.f, fun i hi => k.cell (h.g i hi), h.fld.stay k⟩
theorem CdAt.drewN {w : World} {c b : Nat} (h : CdAt w c b) (k : Nat) : CdAt (w.drewN k) c b := h.stay (Stay.drewN 0 w k)

theorem eI_1 : eI 1 = 2 := by decide +kernel
theorem Below.drew1 {B : Nat} {w w' : World} (h : Below B w w') : Below B w w'.drew := below_stay h (Stay.drewN B w' 1) (Nat.le_refl _)
/-- what the roots' iterator holds, and where it lies -/
structure RtO (b : Nat) (w w' : World) : Prop where
  size : w'.heap.size = w.heap.size + 3
  c0 : Box w' w.heap.size (.pointer (some ⟨b, 0, none⟩))
  c1 : Box w' (w.heap.size + 1) (.int .u8 2)
  c2 : Box w' (w.heap.size + 1 + 1) (.int .i64 4)
  stay : Stay w.heap.size w w'
theorem powers_out (b : Nat) (w : World) :
    Calls Tryd.prog 76 #[.pointer (some ⟨b, 0, none⟩), .int .u8 2, .int .i64 4] w fun e w' =>
      e = .returned (.func (.func 94) #[] #[.pointer (some ⟨w.heap.size + 1 + 1, 0, none⟩), .pointer (some ⟨w.heap.size, 0, none⟩), .pointer (some ⟨w.heap.size + 1, 0, none⟩)]) ∧ RtO b w w' := by
  refine (powers_any b 2 4 w).mono ?_
  rintro e w' ⟨rfl, rfl⟩
  obtain ⟨h1, h2, h3, h4, h5⟩ := box3 w _ _ _ _ _ _ _ rfl
  exact ⟨rfl, h1, h2, h3, h4, h5⟩
set_option maxHeartbeats 1000000 in
theorem roots_fn (c b : Nat) (w : World) (f : w.cell? ⟨c, 0, none⟩ = some (.pointer (some ⟨b, 0, none⟩))) (hf : FldAt w b) :
    Calls Tryd.prog 57 #[.pointer (some ⟨c, 0, none⟩)] w fun e w' =>
      e = .returned (.func (.func 94) #[] #[.pointer (some ⟨w.heap.size + 1 + 1, 0, none⟩), .pointer (some ⟨w.heap.size, 0, none⟩), .pointer (some ⟨w.heap.size + 1, 0, none⟩)]) ∧ RtO b w w' := by
  have hx : Hid (∀ W, FldAt W b → Calls Tryd.prog 77 #[.pointer (some ⟨b, 0, none⟩), .int .i64 1] W fun e w' => e = .returned (.int .u8 2) ∧ w' = W) := fun W h => by
    have := exp_any b 1 W h; rw [eI_1] at this; exact this
  have F : Hid (w.drew.cell? ⟨c, 0, none⟩ = some (.pointer (some ⟨b, 0, none⟩))) := f
  go_enter Tryd.func57, Tryd.ntmps57
  go_wp2
  go_region_held3 (fun w' => w'.cell? ⟨c, 0, none⟩ = some (.pointer (some ⟨b, 0, none⟩))) (go_keep)
    (first | (go_at_call 77; refine (hx.out _ (by exact hf.drewN _)).mono ?_; rintro e w' ⟨rfl, rfl⟩) | (go_at_call 76; refine (powers_out b _).mono ?_; rintro e w' ⟨rfl, hO⟩; have hc := hO.stay.cell F.out))
  go_wp2
  go_ret
  exact ⟨rfl, hO.size, hO.c0, hO.c1, hO.c2, (Stay.drewN _ w 1).trans hO.stay⟩
end Go.Proofs.YtdjknaafefnlcaaDoor
