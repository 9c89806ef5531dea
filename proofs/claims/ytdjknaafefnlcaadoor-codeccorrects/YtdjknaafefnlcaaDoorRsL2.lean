/-
  RsCorrects.
-/
import Derived.Test.YtdjknaafefnlcaaDoorRsL1
namespace Go.Proofs.YtdjknaafefnlcaaDoor
open Go.RowKit Go.Shelf
open Gf (gI eI dI lI)
open Po (El mu pwr ev S cf toE cv Low rts)
open Rm (al sy At IsCode)
attribute [local go_sem] Oper.semAt_some

/-- a word with E added to its symbol n, and virtual symbols so -/
def adW (F : Nat → El) (n : Nat) (E : El) (i : Nat) : El := if i = n then F i ^^^ E else F i
def adV (G : Nat → El) (n : Nat) (E : El) (i : Nat) : El := if 36 + i = n then G i ^^^ E else G i
theorem wd_ad (F G : Nat → El) (n : Nat) (E : El) (i : Nat) (_ : i < 39) : wd (adW F n E) (adV G n E) i = wd F G i ^^^ Rm.one' n E i := by
  unfold wd adW adV Rm.one'
  by_cases h : i < 36
  · rw [if_pos h, if_pos h]
    by_cases e : i = n
    · rw [if_pos e, if_pos e]
    · rw [if_neg e, if_neg e, Po.x0]
  · rw [if_neg h, if_neg h, show 36 + (i - 36) = i from by omega]
    by_cases e : i = n
    · rw [if_pos e, if_pos e]
    · rw [if_neg e, if_neg e, Po.x0]
theorem sy_xor (W U : Nat → El) : sy (fun i => W i ^^^ U i) = fun j => sy W j ^^^ sy U j := by
  funext j; exact Po.ev_xor 39 W U (al j)
/-- the syndromes tell what was added to a code word -/
theorem nought_only {s u : Nat → El} (h : ∀ j, j < 4 → s j = u j) : (Nought s ↔ Nought u) ∧ (∀ i, At s i ↔ At u i) := by
  have h0 := h 0 (by omega); have h1 := h 1 (by omega); have h2 := h 2 (by omega); have h3 := h 3 (by omega)
  constructor
  · unfold Nought; rw [h0, h1, h2, h3]
  · intro i; unfold At; rw [h0, h1, h2, h3]
theorem plc_congr {s u : Nat → El} (h : ∀ j, j < 4 → s j = u j) : ∀ n i, plc s n i = plc u n i
  | 0, _ => rfl
  | n + 1, i => by
    show (if At s i then (i : Int) else plc s n (i + 1)) = if At u i then (i : Int) else plc u n (i + 1)
    by_cases ha : At s i
    · rw [if_pos ha, if_pos ((nought_only h).2 i |>.1 ha)]
    · rw [if_neg ha, if_neg (fun e => ha ((nought_only h).2 i |>.2 e)), plc_congr h n (i + 1)]
theorem v_congr {s u : Nat → El} (h : ∀ j, j < 4 → s j = u j) : vk s = vk u ∧ vp s = vp u ∧ vv s = vv u := by
  have hp := plc_congr h 39 0
  have hn := (nought_only h).1
  unfold vk vp vv
  rw [hp]
  by_cases hs : Nought s
  · have hu := hn.1 hs
    rw [if_pos hs, if_pos hs, if_pos hs, if_pos hu, if_pos hu, if_pos hu]; exact ⟨rfl, rfl, rfl⟩
  · have hu : ¬ Nought u := fun e => hs (hn.2 e)
    rw [if_neg hs, if_neg hs, if_neg hs, if_neg hu, if_neg hu, if_neg hu, h 0 (by omega)]; exact ⟨rfl, rfl, rfl⟩
theorem vd_congr {s u : Nat → El} (h : ∀ j, j < 4 → s j = u j) : vd s = vd u := by
  obtain ⟨h1, h2, h3⟩ := v_congr h
  unfold vd; rw [h1, h2, h3]
theorem mnd_congr {s u : Nat → El} (F : Nat → El) (h : ∀ j, j < 4 → s j = u j) (i : Nat) : mnd F s i = mnd F u i := by
  obtain ⟨h1, h2, h3⟩ := v_congr h
  unfold mnd; rw [h1, h2, h3]
/-- the syndromes of a code word with E added to symbol n -/
theorem sy_ad {F G : Nat → El} (hc : IsCode (wd F G)) (n : Nat) (E : El) : ∀ j, j < 4 → sy (wd (adW F n E) (adV G n E)) j = sy (Rm.one' n E) j := fun j hj => by
  rw [sy_congr (wd_ad F G n E), sy_xor]
  show sy (wd F G) j ^^^ _ = _
  rw [show sy (wd F G) j = 0 from hc j hj, Po.z0]
theorem one_zero (n : Nat) (i : Nat) : Rm.one' n 0 i = 0 := by unfold Rm.one'; split <;> rfl
/-- what is told of a code word with one symbol replaced -/
theorem told_one {K D G : Nat → El} (hc : IsCode (wd (ck K D) G)) (n : Nat) (hn : n < 39) (E : El) :
    (∀ i, i < 32 → mnd (adW (ck K D) n E) (sy (wd (adW (ck K D) n E) (adV G n E))) (4 + i) = D i) ∧
    vd (sy (wd (adW (ck K D) n E) (adV G n E))) = if E = 0 then #[.int .i64 0, .int .i64 (-1), .int .u8 0] else #[.int .i64 (if n < 36 then 1 else 2), .int .i64 (n : Int), .int .u8 (oe E)] := by
  have hs := sy_ad hc n E
  have hD : ∀ i, ck K D (4 + i) = D i := fun i => by unfold ck; rw [if_neg (by omega), show 4 + i - 4 = i from by omega]
  by_cases hE : E = 0
  · have hz : Nought (sy (Rm.one' n E)) := by
      rw [hE, sy_congr (U := fun _ => 0) fun i _ => one_zero n i]; exact sy_zero
    constructor
    · intro i _
      rw [mnd_congr _ hs]
      unfold mnd
      rw [vk_clean hz, if_neg (by omega)]
      unfold adW
      rw [hE, hD]
      split
      · exact Po.x0 _
      · rfl
    · rw [vd_congr hs, vd_clean hz, if_pos hE]
  · have hat := Rm.sy_one n E hn hE
    obtain ⟨h1, h2, h3⟩ := v_at hn hat
    rw [Rm.sy_one0 n E hn] at h3
    constructor
    · intro i hi
      rw [mnd_congr _ hs]
      unfold mnd
      rw [h1, h2, h3]
      by_cases h36 : n < 36
      · rw [if_pos h36]
        unfold adW
        by_cases e : 4 + i = n
        · rw [if_pos ⟨rfl, by rw [e]⟩, if_pos e, BitVec.xor_assoc, Po.xor_self', Po.x0, hD]
        · rw [if_neg (fun h => e (by omega)), if_neg e, hD]
      · rw [if_neg h36, if_neg (fun h => absurd h.1 (by decide))]
        unfold adW
        rw [if_neg (by omega), hD]
    · rw [vd_congr hs, if_neg hE]
      unfold vd
      rw [h1, h2, h3]

/-- while RsCorrects works: data, virtual symbols, the word in J, the verdict that is wanted in J + 1 -/
structure CoS (B J c b : Nat) (D G X : Nat → El) (x y z : Value) (w W : World) : Prop where
  d : Blk W B 32 D
  v : Blk W (B + 1) 3 G
  o : Blk W J 36 X
  t : VdAt W (J + 1) x y z
  code : CdAt W c b
  below : Below B w W
theorem CoS.next {B J c b : Nat} {D G X : Nat → El} {x y z : Value} {w W W' : World} (h : CoS B J c b D G X x y z w W) (k : Below W.heap.size W W') : CoS B J c b D G X x y z w W' :=
  ⟨h.d.next k, h.v.next k, h.o.next k, h.t.next k, h.code.next k, h.below.trans (k.mono (Nat.le_of_lt h.d.lt))⟩
theorem VdAt.set {W : World} {b : Nat} {x y z : Value} (h : VdAt W b x y z) (u : Value) : VdAt (W.setCell ⟨b, 0, none⟩ u) b u y z := by
  refine ⟨World.cell?_setCell_same' _ _ _ (by rw [h.c0]; rfl), ?_, ?_, fun i => by rw [World.frozen?_setCell]; exact h.f i⟩
  · rw [World.cell?_setCell_other _ _ _ _ (by simp)]; exact h.c1
  · rw [World.cell?_setCell_other _ _ _ _ (by simp)]; exact h.c2
theorem VdAt.put {W : World} {b : Nat} {x y z : Value} (h : VdAt W b x y z) (x' y' z' : Value) : VdAt (((W.setCell ⟨b, 0, none⟩ x').setCell ⟨b, 1, none⟩ y').setCell ⟨b, 2, none⟩ z') b x' y' z' := by
  have hr : (((W.setCell ⟨b, 0, none⟩ x').setCell ⟨b, 1, none⟩ y').setCell ⟨b, 2, none⟩ z').rangeAt b 0 [x', y', z'] := World.rangeAt_setCells_same W b 0 [x', y', z'] h.there
  exact ⟨by have := hr 0 x' rfl; simpa using this, by have := hr 1 y' rfl; simpa using this, by have := hr 2 z' rfl; simpa using this, fun i => by rw [World.frozen?_setCell, World.frozen?_setCell, World.frozen?_setCell]; exact h.f i⟩
theorem pair_range (W : World) (A R : List Value) (hA : (arr 32 fun _ => 0) = A) (hR : R.length = 32) (t t' : TypeId) (x y z : Value) (X : World) (hX : (((W.alloc (.cells A.toArray t)).alloc (.cells #[.int .i64 0, .int .i64 0, .int .u8 0] t')).setCells W.heap.size 0 R).setCells (W.heap.size + 1) 0 [x, y, z] = X) :
    X.rangeAt W.heap.size 0 R := by
  rw [← hX]
  exact World.rangeAt_setCells_apart (World.rangeAt_setCells_same _ _ 0 R (by have := pair_t1 hA hR W t (.cells #[.int .i64 0, .int .i64 0, .int .u8 0] t'); simpa using this)) _ 0 _ (.inl (by omega))

theorem new36 {A : List Value} (hA : (arr 36 fun _ => 0) = A) (W : World) (t : TypeId) (F : Nat → El) : (W.alloc (.cells A.toArray t)).there W.heap.size 0 (arr 36 F).toArray.size := by
  have h := Blk.new W 36 (fun _ => 0) t
  rw [hA] at h
  exact h.there
end Go.Proofs.YtdjknaafefnlcaaDoor
