/-
  A play: the document's calls, the program's chips beside.
-/
import Derived.Test.YtcpjmfemgdgplaaDrP2m
namespace Go.Proofs.Ytcpjmfemgdgplaa
open Go.RowKit Go.Shelf
open Ge (pw rt hd ix)
attribute [local go_sem] Oper.semAt_some

section
variable {W W' w0 : World} {es ls : List (Nat × List Value)} {lo B M : Nat} {r s b o d m : Int} {n : Nat} {G : Int → Nat → Int} {l1 l2 k1 k2 : Nat} {Y Z Y' Z' : Nat → Nat → Int} {E : List En} {LD : List Value} {k8 j8 : Int}
/-- the geometry's numbers are such -/
def Ng (r b o d : Int) : Prop := I64 r ∧ I64 b ∧ I64 o ∧ I64 d
theorem pmHas (h : Pm w0 es ls lo B M r s b o d m n G l1 Y l2 Z E k1 Y' k2 Z' LD W) (hg : Ng r b o d) (i : Int) (hi : I64 i) :
    Calls Try.prog 18 #[.agg LD.toArray, .int .i64 i] W fun e w' => e = .returned (.bool (hx r s b o d i)) ∧ Pm w0 es ls lo B M r s b o d m n G l1 Y l2 Z E k1 Y' k2 Z' LD w' := by
  have h0 := h
  obtain ⟨vb, vc, a, len, cap, a1, c1, a2, c2, rfl, h2, h3, h4⟩ := h
  refine (has12_any r s b o d m _ _ _ i hg.1 hg.2.1 hg.2.2.1 hg.2.2.2 (by unfold I64 at hi; omega) W).mono ?_
  rintro e w' ⟨rfl, hb⟩
  refine ⟨?_, h0.next hb⟩
  congr 2
  by_cases hx1 : hx r s b o d i = true
  · have := hx_low hx1
    rw [hx1, decide_eq_true (by omega)]
    rfl
  · rw [Bool.not_eq_true] at hx1
    rw [hx1, Bool.and_false]
theorem wI_nil (Z : Nat → Nat → Int) (i : Int) : wI 0 Z i = i := if_pos rfl
theorem wD_nil (Z : Nat → Nat → Int) : wD 0 Z = false := rfl
theorem wI_more (n : Nat) (Z : Nat → Nat → Int) (i : Int) : wI (n + 1) Z i = if Z 0 0 = 7 then i else ix (Z 0 1) (Z 0 2) (Z 0 3) (Z 0 4) := if_neg (Nat.succ_ne_zero n)
theorem wD_more (n : Nat) (Z : Nat → Nat → Int) : wD (n + 1) Z = decide (Z 0 0 = 7) := by
  unfold wD
  rw [decide_eq_decide]
  exact ⟨fun h => h.2, fun h => ⟨Nat.succ_ne_zero n, h⟩⟩
theorem pmWent (h : Pm w0 es ls lo B M r s b o d m n G l1 Y l2 Z E k1 Y' k2 Z' LD W) (hz : Okc r s b o d k2 Z') (i : Int) :
    Calls Try.prog 38 #[.agg LD.toArray, .int .i64 i] W fun e w' => ∃ LD', e = .returned (.tuple #[.agg LD'.toArray, .int .i64 (wI k2 Z' i), .bool (wD k2 Z')]) ∧ Pm w0 es ls lo B M r s b o d m n G l1 Y l2 Z E k1 Y' (k2 - 1) (tlZ Z') LD' w' := by
  obtain ⟨vb, vc, a, len, cap, a1, c1, a2, c2, rfl, h2, h3, h4⟩ := h
  cases k2 with
  | zero =>
    refine (went12_none r s b o d m c2 _ _ a2 rfl rfl i W).mono ?_
    rintro e w' ⟨rfl, hb⟩
    rw [wI_nil, wD_nil]
    have k4 := h4.next hb
    exact ⟨_, rfl, vb, vc, a, len, cap, a1, c1, a2, c2, rfl, h2, h3.next hb, k4.e, k4.f, k4.g.none, k4.pe, k4.pf, k4.pg⟩
  | succ n2 =>
    refine (went12_more r s b o d m a2 n2 c2 Z' _ _ rfl rfl i (fun _ => hd_bounds (hz 0 (by omega))) W h4.g).mono ?_
    rintro e w' ⟨a', c', rfl, hf, hb, hs⟩
    rw [wI_more, wD_more]
    have k4 := h4.next hb
    refine ⟨_, rfl, vb, vc, a, len, cap, a1, c1, a', c', rfl, h2, h3.next hb, k4.e, k4.f, hf, k4.pe, k4.pf, fun h0 g o9 e9 => ?_⟩
    obtain ⟨o', e'⟩ := hs g o9 e9
    exact k4.pg (by omega) g o' e'
theorem pmPut (h : Pm w0 es ls lo B M r s b o d m n G l1 Y l2 Z E k1 Y' k2 Z' LD W) (i : Int) (hi : I64 i) (F : Nat → Int) (hF : Byts 72 F) (hn : n < 1000000) :
    Calls Try.prog 39 #[.agg LD.toArray, .int .i64 i, rawV F] W fun e w' => ∃ LD', e = .returned (.agg LD'.toArray) ∧ Pm w0 es ls lo B M r s b o d m (n + 1) G l1 Y l2 Z (pE E i F) k1 Y' k2 Z' LD' w' := by
  obtain ⟨vb, vc, a, len, cap, a1, c1, a2, c2, rfl, h2, h3, h4⟩ := h
  refine (put12_any r s b o d m a len cap _ _ E i F hi hF (by omega) rfl rfl W h4.e).mono ?_
  rintro e w' ⟨a', c', rfl, he, hb, hnew⟩
  have k4 := h4.next hb
  have hl := pE_len E i F
  have hl2 := h4.e.ln
  refine ⟨_, rfl, vb, vc, a', _, c', a1, c1, a2, c2, rfl, by omega, (h3.next hb).mono (Nat.le_succ n), he, k4.f, k4.g, fun h0 g o9 e9 => ?_, k4.pf, k4.pg⟩
  have hg := hnew g o9 e9
  obtain ⟨b9, o8, e8, h8, _⟩ := he.at_ h0
  rw [e9] at e8
  cases e8
  exact ⟨h8, fun hm => by have := (h3.d.mine_lt _ hm).2; omega, fun x hx => by have := (h3.b x hx).2.lt; omega⟩
theorem pmSees (h : Pm w0 es ls lo B M r s b o d m n G l1 Y l2 Z E k1 Y' k2 Z' LD W) (hm : Md m k8 j8) (i : Int) (hi0 : 0 ≤ i) (hi : I64 i) :
    Calls Try.prog 19 #[.agg LD.toArray, .int .i64 i] W fun e w' => e = .returned (rawV (ovF k8 Y' (i / 1048576) (i / 65536 % 16) (i / 64 % 1024) (i % 64) (gE E i) k1)) ∧ Pm w0 es ls lo B M r s b o d m n G l1 Y l2 Z E k1 Y' k2 Z' LD w' := by
  have h0 := h
  obtain ⟨vb, vc, a, len, cap, a1, c1, a2, c2, rfl, h2, h3, h4⟩ := h
  refine (look12_any r s b o d m k8 (fun k p q u v c i x p' q' u' v' F hF w => refApply_any k p q u v c i x p' q' u' v' F hF m k8 j8 hm w) a len cap E a1 k1 c1 Y' _ i hi0 (by unfold I64 at hi; omega) W h4.e h4.f).mono ?_
  rintro e w' ⟨rfl, hb⟩
  exact ⟨rfl, h0.next hb⟩
end
end Go.Proofs.Ytcpjmfemgdgplaa
