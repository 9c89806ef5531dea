/-
  The chips in memory: their struct, their map, their lists.
-/
import Derived.Test.YtcpjmfemgdgplaaDrR2
import Derived.Test.YtcpjmfemgdgplaaFaW11
import Derived.Test.YtcpjmfemgdgplaaDrM1
namespace Go.Proofs.Ytcpjmfemgdgplaa
open Go.RowKit Go.Shelf
open Ge (pw rt hd ix)
attribute [local go_sem] Oper.semAt_some

/-- what lies in the own block of a value, if it has any -/
theorem own_kept {W W' : World} {lo l : Nat} {t : TypeId} {v : Value} {xs : List Value} (h : W.ownsRow lo t 8 v l xs) (e : ∀ g, v.ownBlock = some g → W'.heap[g]? = W.heap[g]?) : W'.ownsRow lo t 8 v l xs := by
  refine ⟨h.1, ?_⟩
  rcases h.2 with hn | ⟨g, cap, cur, rfl, hb, hg, r⟩
  · exact .inl hn
  · exact .inr ⟨g, cap, cur, rfl, hb, (e g rfl).trans hg, r⟩
theorem own_one {W : World} {lo l : Nat} {t : TypeId} {v : Value} {xs : List Value} (h : W.ownsRow lo t 8 v l xs) : v.oneCell' = true := by
  rcases h.2 with ⟨rfl, _⟩ | ⟨g, cap, cur, rfl, _⟩ <;> rfl
/-- the blocks of chips -/
def mine (B M : Nat) (vb vc : Value) (g : Nat) : Prop := g = B ∨ g = M ∨ vb.ownBlock = some g ∨ vc.ownBlock = some g
/-- faults that lie in a list, each right for a geometry -/
def Okc (r s b o d : Int) (len : Nat) (Z : Nat → Nat → Int) : Prop := ∀ i, i < len → hd r s b o d (Z i 1) (Z i 2) (Z i 3) (Z i 4) = true
def Wfz (len : Nat) (Z : Nat → Nat → Int) : Prop := ∀ i, i < len → ∀ j, j < 8 → (Lit.int .i64 (Z i j)).wf = true
/-- chips in memory: all their blocks from lo on; the struct in B, the map in M -/
structure Dm (W : World) (lo B M : Nat) (r s b o d m : Int) (n : Nat) (G : Int → Nat → Int) (vb : Value) (l1 : Nat) (Y : Nat → Nat → Int) (vc : Value) (l2 : Nat) (Z : Nat → Nat → Int) : Prop where
  c : Cb W B (dl r s b o d m (.map (some M)) vb vc)
  mp : MpAt W M n G
  f1 : W.ownsRow lo 38 8 vb l1 (fcells12 l1 Y)
  f2 : W.ownsRow lo 38 8 vc l2 (fcells12 l2 Z)
  w1 : Wfz l1 Y
  w2 : Wfz l2 Z
  ok : Okc r s b o d l2 Z
  by_ : ∀ i, Byts 72 (G i)
  lb : lo ≤ B
  lm : lo ≤ M
  a1 : B ≠ M
  a2 : vb.ownBlock ≠ some B ∧ vb.ownBlock ≠ some M
  a3 : vc.ownBlock ≠ some B ∧ vc.ownBlock ≠ some M
  a4 : ∀ g, vb.ownBlock = some g → vc.ownBlock ≠ some g
  le : l1 ≤ 256 ∧ l2 ≤ 256
section
variable {W W' : World} {lo B M : Nat} {r s b o d m : Int} {n : Nat} {G : Int → Nat → Int} {vb vc : Value} {l1 l2 : Nat} {Y Z : Nat → Nat → Int}
theorem Dm.of (h : Dm W lo B M r s b o d m n G vb l1 Y vc l2 Z) (k : ∀ g, mine B M vb vc g → W'.heap[g]? = W.heap[g]?) : Dm W' lo B M r s b o d m n G vb l1 Y vc l2 Z :=
  ⟨h.c.of (k B (.inl rfl)), h.mp.of (k M (.inr (.inl rfl))), own_kept h.f1 (fun g e => k g (.inr (.inr (.inl e)))), own_kept h.f2 (fun g e => k g (.inr (.inr (.inr e)))), h.w1, h.w2, h.ok, h.by_, h.lb, h.lm, h.a1, h.a2, h.a3, h.a4, h.le⟩
theorem Dm.mine_lt (h : Dm W lo B M r s b o d m n G vb l1 Y vc l2 Z) : ∀ g, mine B M vb vc g → lo ≤ g ∧ g < W.heap.size := by
  rintro g (rfl | rfl | e | e)
  · exact ⟨h.lb, h.c.lt⟩
  · exact ⟨h.lm, h.mp.lt⟩
  · exact h.f1.lt g e
  · exact h.f2.lt g e
theorem Dm.next (h : Dm W lo B M r s b o d m n G vb l1 Y vc l2 Z) (e : Below W.heap.size W W') : Dm W' lo B M r s b o d m n G vb l1 Y vc l2 Z := h.of fun g hg => e.block g (h.mine_lt g hg).2
theorem Dm.mono (h : Dm W lo B M r s b o d m n G vb l1 Y vc l2 Z) {k : Nat} (hk : n ≤ k) : Dm W lo B M r s b o d m k G vb l1 Y vc l2 Z :=
  ⟨h.c, h.mp.mono hk, h.f1, h.f2, h.w1, h.w2, h.ok, h.by_, h.lb, h.lm, h.a1, h.a2, h.a3, h.a4, h.le⟩
theorem Dm.lo_le (h : Dm W lo B M r s b o d m n G vb l1 Y vc l2 Z) : lo ≤ W.heap.size := by have := h.lb; have := h.c.lt; omega
theorem Dm.g (h : Dm W lo B M r s b o d m n G vb l1 Y vc l2 Z) : W.rangeAt B 0 [.int .i64 r, .int .i64 s, .int .i64 b, .int .i64 o, .int .i64 d] := h.c.rangeAt 0 _ rfl
theorem Dm.cm (h : Dm W lo B M r s b o d m n G vb l1 Y vc l2 Z) : W.cell? ⟨B, 5, none⟩ = some (.int .i64 m) := h.c.cell rfl
theorem Dm.ca (h : Dm W lo B M r s b o d m n G vb l1 Y vc l2 Z) : W.cell? ⟨B, 6, none⟩ = some (.map (some M)) := h.c.cell rfl
theorem Dm.cb (h : Dm W lo B M r s b o d m n G vb l1 Y vc l2 Z) : W.cell? ⟨B, 7, none⟩ = some vb := h.c.cell rfl
theorem Dm.cc (h : Dm W lo B M r s b o d m n G vb l1 Y vc l2 Z) : W.cell? ⟨B, 8, none⟩ = some vc := h.c.cell rfl
theorem Dm.fs1 (h : Dm W lo B M r s b o d m n G vb l1 Y vc l2 Z) : ∃ a c, vb = .slice a l1 c ∧ Fs W a l1 c Y := by
  obtain ⟨a, c, e, f, _⟩ := owned_fs h.w1 h.f1
  exact ⟨a, c, e, f⟩
theorem Dm.fs2 (h : Dm W lo B M r s b o d m n G vb l1 Y vc l2 Z) : ∃ a c, vc = .slice a l2 c ∧ Fs W a l2 c Z := by
  obtain ⟨a, c, e, f, _⟩ := owned_fs h.w2 h.f2
  exact ⟨a, c, e, f⟩
end
/-- what a call on chips leaves: all below lo, and all that is not theirs -/
structure Mv (lo : Nat) (T : Nat → Prop) (W W' : World) : Prop where
  n : Below lo W W'
  k : ∀ g, g < W.heap.size → ¬ T g → W'.heap[g]? = W.heap[g]?
section
variable {lo : Nat} {T T' : Nat → Prop} {W W' W'' : World}
theorem Mv.next (h : Below W.heap.size W W') (hl : lo ≤ W.heap.size) : Mv lo T W W' := ⟨h.mono hl, fun g hg _ => h.block g hg⟩
theorem Mv.trans (h : Mv lo T W W') (k : Mv lo T' W' W'') (e : ∀ g, T' g → T g ∨ W.heap.size ≤ g) : Mv lo T W W'' :=
  ⟨h.n.trans k.n, fun g hg ht => (k.k g (Nat.lt_of_lt_of_le hg h.n.size) fun t => (e g t).elim ht fun h => by omega).trans (h.k g hg ht)⟩
theorem Mv.mono (h : Mv lo T W W') (e : ∀ g, T g → T' g) : Mv lo T' W W' := ⟨h.n, fun g hg ht => h.k g hg fun t => ht (e g t)⟩
end
end Go.Proofs.Ytcpjmfemgdgplaa
