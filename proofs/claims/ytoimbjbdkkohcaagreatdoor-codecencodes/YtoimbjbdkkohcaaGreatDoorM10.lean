/-
  Texts of one family, one behind another: Ary, LnW1, LnW2, Round2, LnW3, LnW4, LnW5, RoundM, LnW6, AryCp, LnW7, LnW8.
-/
import Derived.Test.YtoimbjbdkkohcaaGreatDoorM09
import Derived.Test.YtoimbjbdkkohcaaGreatDoorM01
import Derived.Deep.MidRow
import Derived.Deep.RegionHeld3
import Derived.Laws.CopyOwn
import Derived.Deep.OwnRows
import Derived.Stop.BytesEq
import Derived.Test.YtoimbjbdkkohcaaGreatDoorM03
import Derived.Test.YtoimbjbdkkohcaaGreatDoorM02
import Derived.Test.YtoimbjbdkkohcaaGreatDoorM07
import Derived.ArgAppend
import Derived.Laws.IdiomStrings
import Derived.Laws.Strings2
import Derived.Deep.DeepCutAuto

/-
  Arrays of integers by value: blocks that hold one, copies between them, arrays held against one another.
-/
namespace Go.Proofs.YtoimbjbdkkohcaaGreatDoor
open Go.RowKit
attribute [local go_sem] Oper.semAt_some

theorem ints_congr (k : IntKind) (n : Nat) (F G : Nat → Int) (h : ∀ i, i < n → F i = G i) : ints k n F = ints k n G := by
  unfold ints
  refine List.map_congr_left fun i hi => ?_
  rw [h i (List.mem_range.1 hi)]
theorem ints_inj (k : IntKind) (n : Nat) (F G : Nat → Int) (h : ints k n F = ints k n G) : ∀ i, i < n → F i = G i := by
  intro i hi
  have e := ints_at k n F i hi
  rw [h, ints_at k n G i hi] at e
  simp only [Option.some.injEq, Value.int.injEq, true_and] at e
  exact e.symm
theorem ints_one (k : IntKind) (n : Nat) (F : Nat → Int) : (ints k n F).toArray.all (·.oneCell') = true := by
  refine all_oneCell_toArray fun v hv => ?_
  obtain ⟨i, _, rfl⟩ := List.mem_map.1 hv
  rfl
theorem ints_one' (k : IntKind) (n : Nat) (F : Nat → Int) : ∀ v ∈ ints k n F, v.oneCell' = true := by
  intro v hv
  obtain ⟨i, _, rfl⟩ := List.mem_map.1 hv
  rfl

/-- block b is n integers of the kind k, no more -/
def Bk (k : IntKind) (W : World) (b n : Nat) (F : Nat → Int) : Prop := ∃ t, W.heap[b]? = some (.cells (ints k n F).toArray t (0, 0))
theorem rows_put {b : Nat} {t : TypeId} {m : Nat} : ∀ (vs : List Value) (o : Nat) (W : World) (f : Nat → Value), W.rowIs b t m f → (W.setCells b o vs).rowIs b t m (fun j => if o ≤ j ∧ j < o + vs.length then vs[j - o]?.getD default else f j)
  | [], o, W, f, h => h.congr (fun j _ => by rw [if_neg (by simp)])
  | v :: r, o, W, f, h => by
    refine (rows_put r (o + 1) _ _ (h.set o v)).congr (fun j _ => ?_)
    by_cases h1 : j = o
    · subst h1
      rw [if_neg (by omega), if_pos rfl, if_pos (by simp), Nat.sub_self]
      rfl
    · by_cases h2 : o + 1 ≤ j ∧ j < o + 1 + r.length
      · rw [if_pos h2, if_pos (by simp; omega), show j - o = (j - (o + 1)) + 1 by omega, List.getElem?_cons_succ]
      · rw [if_neg h2, if_neg h1, if_neg (by simp; omega)]
theorem heap_puts (c : Nat) : ∀ (vs : List Value) (o : Nat) (W : World) (k : Nat), k ≠ c → (W.setCells c o vs).heap[k]? = W.heap[k]?
  | [], _, _, _, _ => rfl
  | v :: vs, o, W, k, h => (heap_puts c vs (o + 1) _ k h).trans (Below.heap_setCell W ⟨c, o, none⟩ v k h)
theorem belows_put {B b : Nat} (hb : B ≤ b) : ∀ (vs : List Value) (o : Nat) {a w : World}, Below B a w → Below B a (w.setCells b o vs)
  | [], _, _, _, h => h
  | v :: vs, o, _, _, h => belows_put hb vs (o + 1) (h.setCell (p := ⟨b, o, none⟩) hb v)
section
variable {k : IntKind} {W W' : World} {b n : Nat} {F G : Nat → Int}
theorem Bk.new (k : IntKind) (W : World) (n : Nat) (F : Nat → Int) (t : TypeId) : Bk k (W.alloc (.cells (ints k n F).toArray t)) W.heap.size n F := ⟨t, World.alloc_heap_new W _⟩
theorem Bk.of (h : Bk k W b n F) (e : W'.heap[b]? = W.heap[b]?) : Bk k W' b n F := by
  obtain ⟨t, h⟩ := h
  exact ⟨t, e.trans h⟩
theorem Bk.lt (h : Bk k W b n F) : b < W.heap.size := by
  obtain ⟨t, h⟩ := h
  exact (Array.getElem?_eq_some_iff.1 h).1
theorem Bk.alloc (h : Bk k W b n F) (o : Obj) : Bk k (W.alloc o) b n F := h.of (Below.heap_alloc W o b h.lt)
theorem Bk.below {C : Nat} (h : Bk k W b n F) (e : Below C W W') (hb : b < C) : Bk k W' b n F := h.of (e.block b hb)
theorem Bk.next (h : Bk k W b n F) (e : Below W.heap.size W W') : Bk k W' b n F := h.below e h.lt
theorem Bk.stay {B : Nat} (h : Bk k W b n F) (e : Stay B W W') : Bk k W' b n F := by
  obtain ⟨t, h⟩ := h
  exact ⟨t, e.cells _ _ h rfl⟩
theorem Bk.keep {M : Nat → Prop} (h : Bk k W b n F) (e : Keep M W W') (hm : ¬ M b) : Bk k W' b n F := h.of (e.2 b h.lt hm)
theorem Bk.drewN (h : Bk k W b n F) (j : Nat) : Bk k (W.drewN j) b n F := h
theorem Bk.drew (h : Bk k W b n F) : Bk k W.drew b n F := h
theorem Bk.row (h : Bk k W b n F) : ∃ t, W.rowIs b t n (fun i => .int k (F i)) := by
  obtain ⟨t, h⟩ := h
  refine ⟨t, _, h, by simp [ints_len], fun i hi => ?_⟩
  simpa using ints_at k n F i hi
theorem Bk.ofRow {t : TypeId} (h : W.rowIs b t n (fun i => .int k (F i))) : Bk k W b n F := by
  obtain ⟨c, h1, h2, h3⟩ := h
  refine ⟨t, ?_⟩
  rw [h1]
  have : c = (ints k n F).toArray := by
    refine Array.ext_getElem? fun i => ?_
    by_cases hi : i < n
    · rw [h3 i hi]; simpa using (ints_at k n F i hi).symm
    · rw [Array.getElem?_eq_none (by omega), Array.getElem?_eq_none (by simp [ints_len]; omega)]
  rw [this]
theorem Bk.cell (h : Bk k W b n F) (i : Nat) (hi : i < n) : W.cell? ⟨b, i, none⟩ = some (.int k (F i)) := by
  obtain ⟨t, h⟩ := h
  rw [cell_of_row _ _ i _ _ (0, 0) h]
  simpa using ints_at k n F i hi
theorem Bk.free (h : Bk k W b n F) (i : Nat) : W.frozen? ⟨b, i, none⟩ = false := by
  obtain ⟨t, h⟩ := h.row
  exact h.frozen i
theorem Bk.range (h : Bk k W b n F) : W.rangeAt b 0 (ints k n F) := fun j v hv => by
  have hj : j < n := by have := (List.getElem?_eq_some_iff.1 hv).1; rw [ints_len] at this; exact this
  rw [ints_at k n F j hj] at hv
  cases hv
  rw [Nat.zero_add]; exact h.cell j hj
theorem Bk.there (h : Bk k W b n F) (k' : IntKind) (G : Nat → Int) : W.there b 0 (ints k' n G).toArray.size := by
  rw [show (ints k' n G).toArray.size = n from by simp [ints_len]]
  intro j hj
  rw [Nat.zero_add, h.cell j hj]; exact ⟨rfl, h.free j⟩
theorem Bk.set (h : Bk k W b n F) (i : Nat) (e : Int) : Bk k (W.setCell ⟨b, i, none⟩ (.int k e)) b n (fun j => if j = i then e else F j) := by
  obtain ⟨t, h⟩ := h.row
  refine Bk.ofRow (t := t) ((h.set i _).congr fun j _ => ?_)
  by_cases hj : j = i
  · simp [hj]
  · simp [hj]
theorem Bk.other (h : Bk k W b n F) {c : Nat} (hc : b ≠ c) (i : Nat) (v : Value) : Bk k (W.setCell ⟨c, i, none⟩ v) b n F := h.of (Below.heap_setCell W ⟨c, i, none⟩ v b hc)
theorem Bk.congr (h : Bk k W b n F) (e : ∀ i, i < n → F i = G i) : Bk k W b n G := by
  obtain ⟨t, h⟩ := h
  exact ⟨t, by rw [← ints_congr k n F G e]; exact h⟩
theorem Bk.put (h : Bk k W b n F) (G : Nat → Int) : Bk k (W.setCells b 0 (ints k n G)) b n G := by
  obtain ⟨t, h⟩ := h.row
  refine Bk.ofRow (t := t) ((rows_put _ 0 W _ h).congr fun j hj => ?_)
  rw [if_pos (by rw [ints_len]; omega), Nat.sub_zero, ints_at k n G j hj]
  rfl
theorem Bk.putAt (h : Bk k W b n F) (o m : Nat) (G : Nat → Int) : Bk k (W.setCells b o (ints k m G)) b n (fun j => if o ≤ j ∧ j < o + m then G (j - o) else F j) := by
  obtain ⟨t, h⟩ := h.row
  refine Bk.ofRow (t := t) ((rows_put _ o W _ h).congr fun j hj => ?_)
  rw [ints_len]
  by_cases h1 : o ≤ j ∧ j < o + m
  · rw [if_pos h1, if_pos h1, ints_at k m G _ (by omega)]; rfl
  · rw [if_neg h1, if_neg h1]
theorem Bk.putOther (h : Bk k W b n F) {c : Nat} (hc : b ≠ c) (o : Nat) (vs : List Value) : Bk k (W.setCells c o vs) b n F := h.of (heap_puts c vs o W b hc)
/-- a part of it -/
theorem Bk.part (h : Bk k W b n F) (o m : Nat) (hm : o + m ≤ n) : W.rangeAt b o (ints k m fun i => F (o + i)) := fun j v hv => by
  have hj : j < m := by have := (List.getElem?_eq_some_iff.1 hv).1; rw [ints_len] at this; exact this
  rw [ints_at k m _ j hj] at hv
  cases hv
  exact h.cell (o + j) (by omega)
theorem Bk.thereAt (h : Bk k W b n F) (o m : Nat) (hm : o + m ≤ n) : W.there b o m := fun j hj => by
  rw [h.cell (o + j) (by omega)]; exact ⟨rfl, h.free _⟩
end

/-- just block g was turned -/
structure Just (g : Nat) (W W' : World) : Prop where
  below : ∀ (B : Nat) (w0 : World), Below B w0 W → B ≤ g → Below B w0 W'
  block : ∀ k, k ≠ g → W'.heap[k]? = W.heap[k]?
/-- k integers of G laid into F from the place o on -/
def lay (F : Nat → Int) (o k : Nat) (G : Nat → Int) (i : Nat) : Int := if o ≤ i ∧ i < o + k then G (i - o) else F i
theorem splice_ints (d : IntKind) (n : Nat) (F : Nat → Int) (o k : Nat) (G : Nat → Int) (h : o + k ≤ n) : splice (ints d n F) o (ints d k G) = ints d n (lay F o k G) := by
  refine List.ext_getElem? fun i => ?_
  by_cases hi : i < n
  · rw [ints_at d n _ i hi]
    unfold splice lay
    by_cases h1 : i < o
    · rw [List.getElem?_append_left (by rw [List.length_take, ints_len]; omega), List.getElem?_take, if_pos h1, ints_at d n F i hi, if_neg (by omega)]
    · rw [List.getElem?_append_right (by rw [List.length_take, ints_len]; omega), List.length_take, ints_len d n, ints_len d k, Nat.min_eq_left (show o ≤ n by omega)]
      by_cases h2 : i < o + k
      · rw [List.getElem?_append_left (by simp [ints_len]; omega), ints_at d k G _ (by omega), if_pos (by omega)]
      · rw [List.getElem?_append_right (by simp [ints_len]; omega), ints_len, List.getElem?_drop, if_neg (by omega), show o + k + (i - o - k) = i from by omega, ints_at d n F i hi]
  · rw [List.getElem?_eq_none (by rw [length_splice _ _ _ (by simp [ints_len]; omega), ints_len]; omega), List.getElem?_eq_none (by rw [ints_len]; omega)]
theorem byte_size : (Tryz.prog.info? 5).map (·.size) = some 1 := by kernel_rfl

/-- a load of an array that a guard lets by -/
theorem wpList_load_g {P : Program} {ops : Array Oper} {rest : List Oper} {op : Oper} {a : Act} {w : World} {Q : Exit → Act → World → Prop} (hw : Region.wanted op (yielded ops a.tmps) = true) (ty : TypeId) (x : Operand) (ho : op.op = .load ty x)
    (b o : Nat) (hx : a.eval x = .pointer (some ⟨b, o, none⟩)) (cs : List Value) (d : TypeDesc) (hc : w.rangeAt b o cs)
    (hu : P.underlying ty = some d) (hd : d.isRow = true) (hi : (P.info? ty).map (·.size) = some cs.length)
    (h : wpList P ops Q rest (a.put op.dst (.agg cs.toArray)) w) : wpList P ops Q (op :: rest) a w :=
  wpList_step fun K hK => by rw [if_pos hw]; exact wp_load_mid ty x ho b o hx cs d hc hu hd hi (hK _ _ h)

def byts (n : Nat) (F : Nat → Int) : List UInt8 := (List.range n).map fun i => UInt8.ofNat (F i).toNat
theorem byts_len (n : Nat) (F : Nat → Int) : (byts n F).length = n := by simp [byts]
/-- bytes: each from 0 to 255 -/
def Byts (n : Nat) (F : Nat → Int) : Prop := ∀ i, i < n → 0 ≤ F i ∧ F i < 256
theorem byts_ints (n : Nat) (F : Nat → Int) (h : Byts n F) : (byts n F).map Extern.Stop.cell = ints .u8 n F := by
  unfold byts ints
  rw [List.map_map]
  refine List.map_congr_left fun i hi => ?_
  have := h i (List.mem_range.1 hi)
  show Value.int .u8 _ = Value.int .u8 _
  congr 1
  simp
  omega
theorem byts_inj (n : Nat) (F G : Nat → Int) (hF : Byts n F) (hG : Byts n G) (h : byts n F = byts n G) : ∀ i, i < n → F i = G i := by
  refine ints_inj .u8 n F G ?_
  rw [← byts_ints n F hF, ← byts_ints n G hG, h]
theorem byts_congr (n : Nat) (F G : Nat → Int) (h : ∀ i, i < n → F i = G i) : byts n F = byts n G := by
  unfold byts
  refine List.map_congr_left fun i hi => ?_
  rw [h i (List.mem_range.1 hi)]
theorem byts_beq (n : Nat) (F G : Nat → Int) (hF : Byts n F) (hG : Byts n G) (b : Bool) (hb : b = true ↔ ∀ i, i < n → F i = G i) : (byts n F == byts n G) = b := by
  rw [Bool.eq_iff_iff, beq_iff_eq, hb]
  exact ⟨byts_inj n F G hF hG, byts_congr n F G⟩
theorem byte_one (w : World) : (sizeOf 5).run Tryz.prog w = .ok 1 w := by kernel_rfl
theorem eql_ints (t : TypeId) (n : Nat) (ht : Tryz.prog.underlying t = some (.array n 5)) (F G : Nat → Int) (hF : Byts n F) (hG : Byts n G) (b : Bool) (hb : b = true ↔ ∀ i, i < n → F i = G i) (w : World) :
    (binOp .eql t (.agg (ints .u8 n F).toArray) (.agg (ints .u8 n G).toArray)).run Tryz.prog w = .ok (.bool b) w := by
  have h := run_eql_bytes (P := Tryz.prog) w t 5 n ht Tryz.underlying5 byte_one (byts n F) (byts n G) (byts_len n F) (byts_len n G)
  rw [byts_ints n F hF, byts_ints n G hG, byts_beq n F G hF hG b hb] at h
  exact h
theorem neq_ints (t : TypeId) (n : Nat) (ht : Tryz.prog.underlying t = some (.array n 5)) (F G : Nat → Int) (hF : Byts n F) (hG : Byts n G) (b : Bool) (hb : b = true ↔ ∀ i, i < n → F i = G i) (w : World) :
    (binOp .neq t (.agg (ints .u8 n F).toArray) (.agg (ints .u8 n G).toArray)).run Tryz.prog w = .ok (.bool (!b)) w := by
  have h := run_equalIn_bytes (P := Tryz.prog) w 9998 t 5 n ht Tryz.underlying5 byte_one (byts n F) (byts n G) (byts_len n F) (byts_len n G)
  rw [byts_ints n F hF, byts_ints n G hG, byts_beq n F G hF hG b hb] at h
  rw [run_neq_struct, h]; rfl
end Go.Proofs.YtoimbjbdkkohcaaGreatDoor

/-
  Fill, Full; two lines merged, by the document and by the program.
-/
namespace Go.Proofs.YtoimbjbdkkohcaaGreatDoor
open Go.RowKit Go.Shelf
open Ln (mrg mrgK)
attribute [local go_sem] Oper.semAt_some

theorem zeroL (w : World) : (zeroValue 23).run Tryz.prog w = .ok (.agg (ints .u8 64 fun _ => 0).toArray) w := by kernel_rfl
theorem infoL : (Tryz.prog.info? 23).map (·.size) = some 64 := by kernel_rfl

/-- a function works on the line X in the block E; its result's variable is the block D; nothing below B was turned -/
structure Wk (B D E : Nat) (X : Nat → Int) (w wr : World) : Prop where
  r : Bk .u8 wr D 64 (fun _ => 0)
  o : Bk .u8 wr E 64 X
  below : Below B w wr
section
variable {B D E : Nat} {X Y : Nat → Int} {w wr wr' : World}
theorem Wk.set (h : Wk B D E X w wr) (hD : D ≠ E) (hB : B ≤ E) (i : Nat) (e : Int) : Wk B D E (fun j => if j = i then e else X j) w (wr.setCell ⟨E, i, none⟩ (.int .u8 e)) :=
  ⟨h.r.other hD i _, h.o.set i e, h.below.setCell (p := ⟨E, i, none⟩) hB _⟩
theorem Wk.congr (h : Wk B D E X w wr) (k : ∀ i, i < 64 → X i = Y i) : Wk B D E Y w wr := ⟨h.r, h.o.congr k, h.below⟩
theorem Wk.stay {C : Nat} (h : Wk B D E X w wr) (k : Stay C wr wr') (hC : B ≤ C) : Wk B D E X w wr' := ⟨h.r.stay k, h.o.stay k, below_stay h.below k hC⟩
theorem Wk.next (h : Wk B D E X w wr) (hB : B ≤ wr.heap.size) (k : Below wr.heap.size wr wr') : Wk B D E X w wr' := ⟨h.r.next k, h.o.next k, h.below.trans (k.mono hB)⟩
end

end Go.Proofs.YtoimbjbdkkohcaaGreatDoor

/-
  Two lines merged, by the document and by the program.
-/
namespace Go.Proofs.YtoimbjbdkkohcaaGreatDoor
open Go.RowKit Go.Shelf
open Ln (mrg mrgK)
attribute [local go_sem] Oper.semAt_some

/-- the same beside another line, G, in the block C -/
structure Wk2 (B C D E : Nat) (G X : Nat → Int) (w wr : World) : Prop extends Wk B D E X w wr where
  g : Bk .u8 wr C 64 G
section
variable {B C D E : Nat} {G X Y : Nat → Int} {w wr wr' : World}
theorem Wk2.set (h : Wk2 B C D E G X w wr) (hD : D ≠ E) (hC : C ≠ E) (hB : B ≤ E) (i : Nat) (e : Int) : Wk2 B C D E G (fun j => if j = i then e else X j) w (wr.setCell ⟨E, i, none⟩ (.int .u8 e)) :=
  ⟨h.toWk.set hD hB i e, h.g.other hC i _⟩
theorem Wk2.congr (h : Wk2 B C D E G X w wr) (k : ∀ i, i < 64 → X i = Y i) : Wk2 B C D E G Y w wr := ⟨h.toWk.congr k, h.g⟩
theorem Wk2.stay {A : Nat} (h : Wk2 B C D E G X w wr) (k : Stay A wr wr') (hC : B ≤ A) : Wk2 B C D E G X w wr' := ⟨h.toWk.stay k hC, h.g.stay k⟩
end
/-- how a function with two lines begins: both laid, and its result's variable -/
theorem wk2_new (t : TypeId) (F G : Nat → Int) (w V : World) (A0 A1 A2 : Array Value) (h0 : (ints .u8 64 F).toArray = A0) (h1 : (ints .u8 64 G).toArray = A1) (h2 : (ints .u8 64 fun _ => 0).toArray = A2)
    (hV : ((w.alloc (.cells A0 t)).alloc (.cells A1 t)).alloc (.cells A2 t) = V) : Wk2 w.heap.size (w.heap.size + 1) (w.heap.size + 1 + 1) w.heap.size G F w V := by
  subst h0 h1 h2 hV
  have h0 := Bk.new .u8 w 64 F t
  have h1 := Bk.new .u8 (w.alloc (.cells (ints .u8 64 F).toArray t)) 64 G t
  have h2 := Bk.new .u8 ((w.alloc (.cells (ints .u8 64 F).toArray t)).alloc (.cells (ints .u8 64 G).toArray t)) 64 (fun _ => 0) t
  simp only [World.size_alloc] at h1 h2
  exact ⟨⟨h2, (h0.alloc _).alloc _, (((Below.refl _ w).alloc (Nat.le_refl _) _).alloc (by simp) _).alloc (by simp; omega) _⟩, h1.alloc _⟩


/-- between two rounds of Merge -/
def MgI (B C D : Nat) (F G : Nat → Int) (m : Nat) (w : World) (x : Nat) (W : World) : Prop := Wk2 B C D B G (mrgK F G m x) w W

end Go.Proofs.YtoimbjbdkkohcaaGreatDoor

/-
  More of Round: where two or three operations may come up; an array is laid.
-/
namespace Go.Proofs.YtoimbjbdkkohcaaGreatDoor
open Go.RowKit

theorem take_two {P : Program} {ops : Array Oper} {R : Act → World → Prop} {S : World → Prop} {oi oj : Oper} {fuel : Nat} {listed : Array Bool} {a : Act} {w : World} (i j : Nat) (hi : ops[i]? = some oi) (hj : ops[j]? = some oj) (gi : oi.guard = none) (gj : oj.guard = none)
    (hr : Region.ready .any ops listed = [i, j])
    (h1 : Oper.wp P oi a w (fun a' w' => S w' ∧ (S w' → wpAnyH P .any ops (Ends R) S fuel (listed.setIfInBounds i true) a' w')) (Ends R))
    (h2 : Oper.wp P oj a w (fun a' w' => S w' ∧ (S w' → wpAnyH P .any ops (Ends R) S fuel (listed.setIfInBounds j true) a' w')) (Ends R)) : wpAnyH P .any ops (Ends R) S (fuel + 1) listed a w := by
  have hw : ∀ (o : Oper), o.guard = none → Region.wanted o (yielded ops a.tmps) = true := fun o hg => by simp [Region.wanted, hg]
  refine wpAnyH_ready hr (by simp) (AllReadyH.cons hi (fun K hK => ?_) (AllReadyH.cons hj (fun K hK => ?_) AllReadyH.nil))
  · rw [if_pos (hw _ gi)]; exact Oper.wp_mono (fun a' w' h' => hK.out a' w' h'.1 h'.2) h1
  · rw [if_pos (hw _ gj)]; exact Oper.wp_mono (fun a' w' h' => hK.out a' w' h'.1 h'.2) h2
theorem take_three {P : Program} {ops : Array Oper} {R : Act → World → Prop} {S : World → Prop} {oi oj ok : Oper} {fuel : Nat} {listed : Array Bool} {a : Act} {w : World} (i j k : Nat) (hi : ops[i]? = some oi) (hj : ops[j]? = some oj) (hk : ops[k]? = some ok) (gi : oi.guard = none) (gj : oj.guard = none) (gk : ok.guard = none)
    (hr : Region.ready .any ops listed = [i, j, k])
    (h1 : Oper.wp P oi a w (fun a' w' => S w' ∧ (S w' → wpAnyH P .any ops (Ends R) S fuel (listed.setIfInBounds i true) a' w')) (Ends R))
    (h2 : Oper.wp P oj a w (fun a' w' => S w' ∧ (S w' → wpAnyH P .any ops (Ends R) S fuel (listed.setIfInBounds j true) a' w')) (Ends R))
    (h3 : Oper.wp P ok a w (fun a' w' => S w' ∧ (S w' → wpAnyH P .any ops (Ends R) S fuel (listed.setIfInBounds k true) a' w')) (Ends R)) : wpAnyH P .any ops (Ends R) S (fuel + 1) listed a w := by
  have hw : ∀ (o : Oper), o.guard = none → Region.wanted o (yielded ops a.tmps) = true := fun o hg => by simp [Region.wanted, hg]
  refine wpAnyH_ready hr (by simp) (AllReadyH.cons hi (fun K hK => ?_) (AllReadyH.cons hj (fun K hK => ?_) (AllReadyH.cons hk (fun K hK => ?_) AllReadyH.nil)))
  · rw [if_pos (hw _ gi)]; exact Oper.wp_mono (fun a' w' h' => hK.out a' w' h'.1 h'.2) h1
  · rw [if_pos (hw _ gj)]; exact Oper.wp_mono (fun a' w' h' => hK.out a' w' h'.1 h'.2) h2
  · rw [if_pos (hw _ gk)]; exact Oper.wp_mono (fun a' w' h' => hK.out a' w' h'.1 h'.2) h3
/-- an array is laid -/
theorem wp_alloc_agg {P : Program} {o : Oper} {a : Act} {w : World} {K : Act → World → Prop} {Q : Exit → Act → World → Prop} (t : TypeId) (ho : o.op = .alloc t) (A : Array Value) (hz : ∀ w, (zeroValue t).run P w = .ok (.agg A) w)
    (h : K (a.put o.dst (.pointer (some ⟨w.heap.size, 0, none⟩))) (w.alloc (.cells A t))) : Oper.wp P o a w K Q := by
  simp [Oper.wp, execOp, ho, go_sem, Oper.upon, hz]
  exact h
end Go.Proofs.YtoimbjbdkkohcaaGreatDoor

/-
  A line in digits, by the program and by the document.
-/
namespace Go.Proofs.YtoimbjbdkkohcaaGreatDoor
open Go.RowKit Go.Shelf
open Ln (hexd hxn hxl)
attribute [local go_sem] Oper.semAt_some

theorem byte_info : (Tryz.prog.info? 5).map (fun i => (i.zero, i.size, i.bytes)) = some (some (.int .u8 0), 1, 1) := by kernel_rfl
theorem run_make_hex (w : World) : (Instr.makeSlice 69 (.int .i64 0) (.int .i64 128)).run Tryz.prog w = .ok (.slice (some ⟨w.heap.size, 0, none⟩) 0 128) (w.alloc (.cells (ints .u8 128 fun _ => 0).toArray 5)) := by
  obtain ⟨i, hi, hz0, hz1, hz2⟩ := info_parts byte_info
  have h := run_make (P := Tryz.prog) w 69 5 i (.int .u8 0) Tryz.underlying69 hi hz0 .i64 .i64 0 128 (by omega) (by omega) (by rw [hz2]; omega) (by omega)
  rw [hz1] at h
  have e : madeCells (Value.int .u8 0).cells ((128 : Int).toNat * 1) = (ints .u8 128 fun _ => 0).toArray := by kernel_rfl
  rw [e] at h
  exact h
abbrev digs : ByteArray := ⟨#[48, 49, 50, 51, 52, 53, 54, 55, 56, 57, 97, 98, 99, 100, 101, 102]⟩
theorem run_indexL (F : Nat → Int) (x : Nat) (hx : x < 64) (w : World) : (Instr.index 23 (.agg (ints .u8 64 F).toArray) (.int .i64 (x : Int))).run Tryz.prog w = .ok (.int .u8 (F x)) w := by
  have hc := ints_at .u8 64 F x hx
  have hu := Tryz.underlying23
  simp [Instr.index, run_underlying hu, asIntOf, go_sem, hx]
  rw [hc]; rfl

theorem exec_index {P : Program} {o : Oper} {a : Act} (t : TypeId) (x i : Operand) (ho : o.op = .index t x i) (vx vi v : Value) (hx : a.eval x = vx) (hi : a.eval i = vi) (h : ∀ w, (Instr.index t vx vi).run P w = .ok v w) (w : World) :
    (execOp a.eval o).run P w = .ok (.value v) w := by
  simp [execOp, ho, hx, hi, h, Result.andThen]
/-- append within the room -/
theorem wp_app {o : Oper} {a : Act} {w : World} {K : Act → World → Prop} {Q : Exit → Act → World → Prop} (d s : Operand)
    (ho : o.op = .call { callee := .builtin .append, args := #[d, s], argTypes := #[69, 69] })
    (g len cap sb m c n : Nat) (F G : Nat → Int) (hd : a.eval d = .slice (some ⟨g, 0, none⟩) len cap) (hs : a.eval s = .slice (some ⟨sb, 0, none⟩) m c)
    (hg : Bk .u8 w g n F) (hsrc : Bk .u8 w sb m G) (hroom : len + m ≤ cap) (hfit : len + m ≤ n)
    (h : K (a.put o.dst (.slice (some ⟨g, 0, none⟩) (len + m) cap)) (w.setCells g len (ints .u8 m G))) : Oper.wp Tryz.prog o a w K Q := by
  obtain ⟨i, hi, hz0, hz1, hz2⟩ := info_parts byte_info
  have hr := run_append_room_cells (P := Tryz.prog) w 69 o.type 5 i Tryz.underlying69 hi g 0 len cap ⟨sb, 0, none⟩ m c (ints .u8 m G) (by rw [ints_len, hz1, Nat.mul_one])
    (fun j u hu => by rw [Addr.add_mid]; exact hsrc.range j u hu) (ints_one' .u8 m G) hroom
    (fun j hj => by rw [ints_len] at hj; rw [hz1, hg.cell _ (by omega)]; rfl) (fun j hj => hg.free _)
  rw [hz1, Nat.mul_one, Nat.zero_add] at hr
  unfold Oper.wp
  simp [execOp, ho, resolve, invoke, builtin, hd, hs, hr, Result.andThen]
  exact h

theorem hxn_lt (F : Nat → Int) (hF : Byts 64 F) (j : Nat) (hj : j < 128) : hxn F j < 256 := by
  have := hF (j / 2) (by omega)
  unfold hxn
  refine Ln.hexd_lt _ ?_
  split <;> omega
/-- between two rounds of Hex: the digits of k bytes lie in the block E -/
structure HxI (B E : Nat) (F : Nat → Int) (w : World) (k : Nat) (wr : World) : Prop where
  o : Bk .u8 wr E 128 (fun j => if j < 2 * k then (hxn F j : Int) else 0)
  below : Below B w wr

end Go.Proofs.YtoimbjbdkkohcaaGreatDoor

/-
  A line in digits, by the document.
-/
namespace Go.Proofs.YtoimbjbdkkohcaaGreatDoor
open Go.RowKit Go.Shelf
open Ln (hexd hxn hxl)
attribute [local go_sem] Oper.semAt_some

/-- a text of bytes -/
abbrev tx (l : List UInt8) : Value := .string ⟨l.toArray⟩
theorem exec_slice2 {P : Program} {o : Oper} {a : Act} (t : TypeId) (x i j : Operand) (ho : o.op = .slice t x (some i) (some j) none) (vx vi vj v : Value) (hx : a.eval x = vx) (hi : a.eval i = vi) (hj : a.eval j = vj)
    (h : ∀ w, (Instr.sliceAt t vx (some vi) (some vj) none).run P w = .ok v w) (w : World) : (execOp a.eval o).run P w = .ok (.value v) w := by
  simp [execOp, ho, hx, hi, hj, h]
theorem exec_add {P : Program} {o : Oper} {a : Act} (t : TypeId) (x y : Operand) (u : TypeId) (ho : o.op = .binOp .add t x y u) (vx vy v : Value) (hx : a.eval x = vx) (hy : a.eval y = vy)
    (h : ∀ w, (binOp .add t vx vy).run P w = .ok v w) (w : World) : (execOp a.eval o).run P w = .ok (.value v) w := by
  simp [execOp, ho, hx, hy, h, eqGuard]
end Go.Proofs.YtoimbjbdkkohcaaGreatDoor

/-
  The document's example.
-/
namespace Go.Proofs.YtoimbjbdkkohcaaGreatDoor
open Go.RowKit Go.Shelf
open Ln (mrg hexd hxn hxl)
attribute [local go_sem] Oper.semAt_some

theorem mrg_byts (n : Nat) (F G : Nat → Int) (m : Nat) (hF : Byts n F) (hG : Byts n G) : Byts n (mrg F G m) := fun i hi => by
  unfold mrg
  split
  · exact hG i hi
  · exact hF i hi
def exL : Nat → Int := mrg (fun _ => 0) (fun _ => 7) 5
theorem exL_byts : Byts 64 exL := mrg_byts 64 _ _ 5 (fun _ _ => ⟨by omega, by omega⟩) (fun _ _ => ⟨by omega, by omega⟩)
theorem exL_at : exL 0 = 7 ∧ exL 1 = 0 ∧ exL 2 = 7 ∧ exL 3 = 0 := by decide +kernel
theorem exL_hex : (hxl exL 128).take 6 = [48, 55, 48, 48, 48, 55] := by decide +kernel
theorem exL_cut (w : World) : (Instr.sliceAt 9 (tx (hxl exL 128)) none (some (.int .i64 6)) none).run Tryz.prog w = .ok (tx [48, 55, 48, 48, 48, 55]) w := by
  have hl := Ln.hxl_len exL 128
  have ht := exL_hex
  obtain ⟨l, h⟩ : ∃ l, hxl exL 128 = l := ⟨_, rfl⟩
  rw [h] at hl ht ⊢
  have e : l = [48, 55, 48, 48, 48, 55] ++ l.drop 6 := by rw [← ht, List.take_append_drop]
  simp [Instr.sliceAt, go_sem, hl]
  rw [e]
  apply ByteArray.ext
  simp

end Go.Proofs.YtoimbjbdkkohcaaGreatDoor

/-
  Loads and stores of whole arrays in a fenced walk: of an iterator, and of a round of a range over a function.
-/
namespace Go.Proofs.YtoimbjbdkkohcaaGreatDoor
open Go.RowKit

theorem Keep.setAt {M : Nat → Prop} {X Y : World} (h : Keep M X Y) {c : Nat} (hc : M c) (i : Nat) (u : Value) : Keep M X (Y.setCell ⟨c, i, none⟩ u) :=
  h.trans ⟨by simp, fun b _ hm => Below.heap_setCell Y _ u b (fun e => hm (by subst e; exact hc))⟩
theorem size_puts (c : Nat) : ∀ (vs : List Value) (o : Nat) (W : World), (W.setCells c o vs).heap.size = W.heap.size
  | [], _, _ => rfl
  | v :: vs, o, W => (size_puts c vs (o + 1) _).trans (by simp)
theorem Keep.puts {M : Nat → Prop} {X Y : World} (h : Keep M X Y) {c : Nat} (hc : M c) (i : Nat) (vs : List Value) : Keep M X (Y.setCells c i vs) :=
  h.trans ⟨by rw [size_puts]; exact Nat.le_refl _, fun b _ hm => heap_puts c vs i Y b (fun e => hm (by subst e; exact hc))⟩
/-- a block that was laid meanwhile may be written -/
theorem Keep.putsNew {M : Nat → Prop} {X Y : World} (h : Keep M X Y) {c : Nat} (hc : X.heap.size ≤ c) (i : Nat) (vs : List Value) : Keep M X (Y.setCells c i vs) :=
  ⟨by rw [size_puts]; exact h.1, fun b hb hm => (heap_puts c vs i Y b (by omega)).trans (h.2 b hb hm)⟩
section
variable {n l : Nat} {P : Program} {ops : Array Oper} {rest : List Oper} {op : Oper} {a : Act} {w : World} {Q : Exit → Act → World → Prop}
theorem oper_wide {K : Act → World → Prop} (h : op.wp P a w K Q) : op.wpIn Fence.wide n P a w K Q :=
  ⟨fun _ _ => trivial, by rw [show Fence.wide.round = none from rfl, Oper.semAt_none]; exact upon_wide h⟩
theorem load_wide (hgd : op.guard = none) (ty : TypeId) (x : Operand) (ho : op.op = .load ty x)
    (b o : Nat) (hx : a.eval x = .pointer (some ⟨b, o, none⟩)) (cs : List Value) (d : TypeDesc) (hc : w.rangeAt b o cs)
    (hu : P.underlying ty = some d) (hd : d.isRow = true) (hi : (P.info? ty).map (·.size) = some cs.length)
    (h : wpListIn Fence.wide n P ops Q rest (a.put op.dst (.agg cs.toArray)) w) : wpListIn Fence.wide n P ops Q (op :: rest) a w :=
  wpListIn_plain hgd fun _ hK => oper_wide (wp_load_mid ty x ho b o hx cs d hc hu hd hi (hK _ _ h))
theorem store_wide (hgd : op.guard = none) (ty : TypeId) (x y : Operand) (ho : op.op = .store ty x y)
    (b o : Nat) (cs : Array Value) (hx : a.eval x = .pointer (some ⟨b, o, none⟩)) (hy : a.eval y = .agg cs) (hc : w.there b o cs.size) (hi : (P.info? ty).map (·.size) = some cs.size) (h1 : cs.all (·.oneCell') = true)
    (h : wpListIn Fence.wide n P ops Q rest (a.put op.dst undef) (w.setCells b o cs.toList)) : wpListIn Fence.wide n P ops Q (op :: rest) a w :=
  wpListIn_plain hgd fun _ hK => oper_wide (wp_store_mid ty x y ho b o cs hx hy hc hi h1 (hK _ _ h))
theorem load_round (hgd : op.guard = none) (ty : TypeId) (x : Operand) (ho : op.op = .load ty x)
    (b o : Nat) (hx : a.eval x = .pointer (some ⟨b, o, none⟩)) (cs : List Value) (d : TypeDesc) (hc : w.rangeAt b o cs)
    (hu : P.underlying ty = some d) (hd : d.isRow = true) (hi : (P.info? ty).map (·.size) = some cs.length)
    (h : wpListIn (Fence.wide.inRound l) n P ops Q rest (a.put op.dst (.agg cs.toArray)) w) : wpListIn (Fence.wide.inRound l) n P ops Q (op :: rest) a w :=
  wpListIn_plain hgd fun _ hK => oper_round (fun c e => by rw [ho] at e; cases e) (fun _ _ h => h) (wp_load_mid ty x ho b o hx cs d hc hu hd hi (hK _ _ h))
theorem load_roundG (hw : Region.wanted op (yielded ops a.tmps) = true) (ty : TypeId) (x : Operand) (ho : op.op = .load ty x)
    (b o : Nat) (hx : a.eval x = .pointer (some ⟨b, o, none⟩)) (cs : List Value) (d : TypeDesc) (hc : w.rangeAt b o cs)
    (hu : P.underlying ty = some d) (hd : d.isRow = true) (hi : (P.info? ty).map (·.size) = some cs.length)
    (h : wpListIn (Fence.wide.inRound l) n P ops Q rest (a.put op.dst (.agg cs.toArray)) w) : wpListIn (Fence.wide.inRound l) n P ops Q (op :: rest) a w :=
  wpListIn_step fun K hK => by
    rw [if_pos hw]
    exact oper_round (fun c e => by rw [ho] at e; cases e) (fun _ _ h => h) (wp_load_mid ty x ho b o hx cs d hc hu hd hi (hK _ _ h))
theorem store_round (hgd : op.guard = none) (ty : TypeId) (x y : Operand) (ho : op.op = .store ty x y)
    (b o : Nat) (cs : Array Value) (hx : a.eval x = .pointer (some ⟨b, o, none⟩)) (hy : a.eval y = .agg cs) (hc : w.there b o cs.size) (hi : (P.info? ty).map (·.size) = some cs.size) (h1 : cs.all (·.oneCell') = true)
    (h : wpListIn (Fence.wide.inRound l) n P ops Q rest (a.put op.dst undef) (w.setCells b o cs.toList)) : wpListIn (Fence.wide.inRound l) n P ops Q (op :: rest) a w :=
  wpListIn_plain hgd fun _ hK => oper_round (fun c e => by rw [ho] at e; cases e) (fun _ _ h => h) (wp_store_mid ty x y ho b o cs hx hy hc hi h1 (hK _ _ h))
end
end Go.Proofs.YtoimbjbdkkohcaaGreatDoor

/-
  A line's words, by the document and by the program.
-/
namespace Go.Proofs.YtoimbjbdkkohcaaGreatDoor
open Go.RowKit Go.Shelf
open Ln (val wrd)
attribute [local go_sem] Oper.semAt_some

set_option maxRecDepth 100000 in
set_option maxHeartbeats 1000000 in
theorem refWord6_any (F : Nat → Int) (hF : Byts 64 F) (k : Nat) (hk : k < 8) (w : World) :
    Calls Tryz.prog 21 #[.agg (ints .u8 64 F).toArray, .int .i64 (k : Int)] w fun e w' => e = .returned (.int .u64 (wrd F k : Int)) ∧ Below w.heap.size w w' := by
  obtain ⟨A0, hA0⟩ : ∃ A, (ints .u8 64 F).toArray = A := ⟨_, rfl⟩
  rw [hA0]
  obtain ⟨u, Hu⟩ : ∃ u, Hid (wrd F k = u) := ⟨_, rfl⟩
  rw [Hu.out]
  go_enter Tryz.func21, Tryz.ntmps21
  go_wp2
  obtain ⟨V, hV⟩ : ∃ V, w.alloc (.cells A0 22) = V := ⟨_, rfl⟩
  have HI : Hid (Bk .u8 V w.heap.size 64 F ∧ Below w.heap.size w V) := by
    rw [← hV, ← hA0]
    exact ⟨Bk.new .u8 w 64 F _, (Below.refl _ w).alloc (Nat.le_refl _) _⟩
  obtain ⟨B, hB⟩ : ∃ B, w.heap.size = B := ⟨_, rfl⟩
  rw [hV]
  rw [hB] at HI ⊢
  clear hV hA0
  go_loop [5, 6] (fun x i => ∃ j y : Nat, j ≤ 8 ∧ y < 18446744073709551616 ∧ Hid (y = val (fun i => (F i).toNat) (8 - j) (8 * k + j)) ∧ x = .int .u64 (y : Int) ∧ i = .int .i64 ((j : Int) - 1)) (fun _ i => ((intOf i) + 1).toNat)
  case atStart => exact ⟨8, 0, by omega, by omega, rfl, rfl, rfl⟩
  case round =>
    obtain ⟨j, y, hj, hy, Hy, rfl, rfl⟩ := hrel
    by_cases hlt : 1 ≤ j
    · obtain ⟨i, rfl⟩ : ∃ i, j = i + 1 := ⟨j - 1, by omega⟩
      have c0 := HI.out.1.cell (8 * k + i) (by omega)
      have hb := hF (8 * k + i) (by omega)
      obtain ⟨b, hb', Hb⟩ : ∃ b : Nat, b < 256 ∧ Hid (F (8 * k + i) = (b : Int)) := ⟨(F (8 * k + i)).toNat, by omega, by show _ = _; omega⟩
      rw [Hb.out] at c0
      have hyl : y < 72057594037927936 := by
        rw [Hy.out]
        have := Ln.val_lt (fun i => (F i).toNat) (8 - (i + 1)) (8 * k + (i + 1)) (fun j _ h2 => by have := hF j (by omega); show (F j).toNat < 256; omega)
        exact Nat.lt_of_lt_of_le this (by rw [show 72057594037927936 = 256 ^ 7 from rfl]; exact Nat.pow_le_pow_right (by omega) (by omega))
      have HN : Hid (256 * y + b = val (fun i => (F i).toNat) (8 - i) (8 * k + i)) := by
        show _ = _
        rw [show 8 - i = (8 - (i + 1)) + 1 from by omega, Ln.val, Hy.out, Hb.out]
        show 256 * val (fun i => (F i).toNat) (8 - (i + 1)) (8 * k + (i + 1)) + b = ((b : Int)).toNat + 256 * val (fun i => (F i).toNat) (8 - (i + 1)) (8 * k + i + 1)
        rw [Nat.add_assoc]; omega
      have ei : ((i + 1 : Nat) : Int) - 1 = (i : Int) := by omega
      rw [ei]
      clear Hy hb
      go_wp2
      go_round
      case rel => exact ⟨i, 256 * y + b, by omega, by omega, HN, by first | rfl | go_num, by first | rfl | go_num⟩
      case measure => simp [intOf]
    · obtain rfl : j = 0 := by omega
      have He : Hid (y = u) := by show _ = _; rw [← Hu.out, Hy.out]; rfl
      clear Hy
      go_wp2
      go_ret
      exact ⟨by rw [← He.out]; rfl, HI.out.2⟩

theorem or_byte (y b j : Nat) (hy : y < 256 ^ j) (hb : b < 256) (hj : j < 8) : bits .or .u64 (y : Int) (IntKind.u64.wrap ((b : Int) * 2 ^ (8 * j))) = ((y + b * 256 ^ j : Nat) : Int) := by
  have e : (2 : Nat) ^ (8 * j) = 256 ^ j := by rw [Nat.pow_mul]
  have hp : 256 ^ j ≤ 72057594037927936 := by rw [show 72057594037927936 = 256 ^ 7 from rfl]; exact Nat.pow_le_pow_right (by omega) (by omega)
  have hl : b * 256 ^ j < 18446744073709551616 := Nat.lt_of_le_of_lt (Nat.mul_le_mul (show b ≤ 255 by omega) hp) (by decide)
  have e2 : (b : Int) * 2 ^ (8 * j) = ((b * 256 ^ j : Nat) : Int) := by rw [← e]; simp
  rw [e2, show IntKind.u64.wrap ((b * 256 ^ j : Nat) : Int) = ((b * 256 ^ j : Nat) : Int) from by rw [IntKind.wrap_u64]; omega, u64_or_nat y _ (by omega) hl, Ln.or_top y b j hy]
set_option maxRecDepth 100000 in
set_option maxHeartbeats 1000000 in
theorem word6_any (F : Nat → Int) (hF : Byts 64 F) (k : Nat) (hk : k < 8) (w : World) :
    Calls Tryz.prog 63 #[.agg (ints .u8 64 F).toArray, .int .i64 (k : Int)] w fun e w' => e = .returned (.int .u64 (wrd F k : Int)) ∧ Below w.heap.size w w' := by
  obtain ⟨A0, hA0⟩ : ∃ A, (ints .u8 64 F).toArray = A := ⟨_, rfl⟩
  rw [hA0]
  obtain ⟨u, Hu⟩ : ∃ u, Hid (wrd F k = u) := ⟨_, rfl⟩
  rw [Hu.out]
  go_enter Tryz.func63, Tryz.ntmps63
  go_wp2
  obtain ⟨V, hV⟩ : ∃ V, w.alloc (.cells A0 23) = V := ⟨_, rfl⟩
  have HI : Hid (Bk .u8 V w.heap.size 64 F ∧ Below w.heap.size w V) := by
    rw [← hV, ← hA0]
    exact ⟨Bk.new .u8 w 64 F _, (Below.refl _ w).alloc (Nat.le_refl _) _⟩
  obtain ⟨B, hB⟩ : ∃ B, w.heap.size = B := ⟨_, rfl⟩
  rw [hV]
  rw [hB] at HI ⊢
  clear hV hA0
  go_loop [5, 7] (fun x i => ∃ j y : Nat, j ≤ 8 ∧ y < 18446744073709551616 ∧ Hid (y = val (fun i => (F i).toNat) j (8 * k)) ∧ x = .int .u64 (y : Int) ∧ i = .int .i64 (j : Int)) (fun _ i => 8 - (intOf i).toNat)
  case atStart => exact ⟨0, 0, by omega, by omega, rfl, rfl, rfl⟩
  case round =>
    obtain ⟨j, y, hj, hy, Hy, rfl, rfl⟩ := hrel
    by_cases hlt : j < 8
    · have c0 := HI.out.1.cell (8 * k + j) (by omega)
      have hb := hF (8 * k + j) (by omega)
      obtain ⟨b, hb', Hb⟩ : ∃ b : Nat, b < 256 ∧ Hid (F (8 * k + j) = (b : Int)) := ⟨(F (8 * k + j)).toNat, by omega, by show _ = _; omega⟩
      rw [Hb.out] at c0
      have hyl : y < 256 ^ j := by
        rw [Hy.out]
        exact Ln.val_lt (fun i => (F i).toNat) j (8 * k) (fun j _ h2 => by have := hF j (by omega); show (F j).toNat < 256; omega)
      have Ho : Hid (bits .or .u64 (y : Int) (IntKind.u64.wrap ((b : Int) * 2 ^ (8 * j))) = ((y + b * 256 ^ j : Nat) : Int)) := or_byte y b j hyl hb' hlt
      have HN : Hid (y + b * 256 ^ j = val (fun i => (F i).toNat) (j + 1) (8 * k)) := by
        show _ = _
        rw [Ln.val_top, ← Hy.out]
        show y + b * 256 ^ j = y + (F (8 * k + j)).toNat * 256 ^ j
        rw [Hb.out]; rfl
      have HL : Hid (y + b * 256 ^ j < 18446744073709551616) := by
        show _ < _
        rw [HN.out]
        exact Nat.lt_of_lt_of_le (Ln.val_lt (fun i => (F i).toNat) (j + 1) (8 * k) (fun j _ h2 => by have := hF j (by omega); show (F j).toNat < 256; omega)) (by rw [show 18446744073709551616 = 256 ^ 8 from rfl]; exact Nat.pow_le_pow_right (by omega) (by omega))
      clear hb hyl Hy
      go_wp2
      go_round
      case rel => exact ⟨j + 1, y + b * 256 ^ j, by omega, HL.out, HN, by rw [Ho.out], by first | rfl | go_num⟩
      case measure => simp [intOf]; omega
    · obtain rfl : j = 8 := by omega
      have He : Hid (y = u) := by show _ = _; rw [← Hu.out, Hy.out]; rfl
      clear Hy
      go_wp2
      go_ret
      exact ⟨by rw [← He.out]; rfl, HI.out.2⟩
theorem stay_below {W W' : World} (k : Below W.heap.size W W') : Stay W.heap.size W W' :=
  ⟨k.os, k.tape, k.output, k.size, fun b _ hb _ => (k.block b (Array.getElem?_eq_some_iff.1 hb).1).trans hb, fun b hb => k.block b hb⟩
theorem words_any (F : Nat → Int) (w : World) :
    Calls Tryz.prog 32 #[.agg (ints .u8 64 F).toArray] w fun e w' => e = .returned (.func (.func 62) #[] #[.pointer (some ⟨w.heap.size, 0, none⟩)]) ∧ w' = w.alloc (.cells (ints .u8 64 F).toArray 23) := by
  obtain ⟨A0, hA0⟩ : ∃ A, (ints .u8 64 F).toArray = A := ⟨_, rfl⟩
  rw [hA0]
  go_enter Tryz.func32, Tryz.ntmps32
  go_wp2
  go_ret
  exact ⟨rfl, rfl⟩

set_option maxRecDepth 100000 in
set_option maxHeartbeats 2000000 in
theorem words_seq (xb : Nat) (F : Nat → Int) (hF : Byts 64 F) (w : World) (hb : Bk .u8 w xb 64 F) :
    SeqC Tryz.prog 62 #[.pointer (some ⟨xb, 0, none⟩)] (fun x => #[.int .i64 (x : Int), .int .u64 (wrd F x : Int)]) 8 (fun _ => True) (fun b => b = xb) w := by
  intro l M J Jx W hW hM hJ hJx hskip hY h0
  have hbW : Bk .u8 W xb 64 F := hb.below hW hb.lt
  have HM : Hid (¬ M xb) := fun h => (hM xb h).2 rfl
  have HJ : Hid (∀ (x : Nat) (A A' : World), W.heap.size ≤ A.heap.size → J x A → Below A.heap.size A A' → J x A') := fun x A A' hl h k => hJ x A A' h ((stay_below k).mono hl)
  have cW : Hid (∀ (k : Nat), k < 8 → ∀ W : World, Calls Tryz.prog 63 #[.agg (ints .u8 64 F).toArray, .int .i64 (k : Int)] W fun e w' => e = .returned (.int .u64 (wrd F k : Int)) ∧ Below W.heap.size W w') := fun k hk W => word6_any F hF k hk W
  have i0 : (Tryz.prog.info? 23).map (·.size) = some (ints .u8 64 F).length := by rw [ints_len]; exact infoL
  obtain ⟨L, hL⟩ : ∃ A, ints .u8 64 F = A := ⟨_, rfl⟩
  rw [hL] at cW i0
  have HL : Hid (ints .u8 64 F = L) := hL
  have HB : Hid (Bk .u8 W xb 64 F) := hbW
  have HY : Hid (∀ (x : Nat) (W1 : World), x < 8 → J x W1 → YieldAt Fence.wide 8 Tryz.prog l #[.int .i64 (x : Int), .int .u64 (wrd F x : Int)] W1 fun e W' => (e = .returned (.bool true) ∧ J (x + 1) W' ∧ Keep M W1 W') ∨ (e = .returned (.bool false) ∧ Jx x W' ∧ Keep M W1 W')) := fun x W1 h1 h2 => hY x W1 h1 trivial h2
  clear hJ hJx hskip hY hM hW hb hL hbW
  refine callsIn_of_wp Tryz.func62 rfl trivial ?_ rfl
  simp only [Tryz.ntmps62, List.size_toArray, List.length_cons, List.length_nil, Nat.reduceAdd, Nat.reduceSub, Array.replicate_succ, Array.replicate_zero, List.push_toArray, List.append_toArray, List.nil_append, List.cons_append]
  gi_wp2
  gi_loopw [4] (fun i wr => ∃ x : Nat, x ≤ 8 ∧ i = .int .i64 (x : Int) ∧ J x wr ∧ Keep M W wr) (fun i _ => (8 - (intOf i).toNat))
  case atStart => exact ⟨0, by omega, rfl, h0, Keep.refl _ _⟩
  case round =>
    obtain ⟨x, hx, rfl, hJs, hK⟩ := hrel
    by_cases hlt : x < 8
    · have hr := (HB.out.keep hK HM.out).range
      rw [HL.out] at hr
      have cX := cW.out x hlt
      obtain ⟨c, Hc⟩ : ∃ c, Hid (wrd F x = c) := ⟨_, rfl⟩
      rw [Hc.out] at cX
      have HX : Hid (∀ W : World, Calls Tryz.prog 63 #[.agg L.toArray, .int .i64 (x : Int)] W fun e w' => e = .returned (.int .u64 (c : Int)) ∧ Below W.heap.size W w') := cX
      clear cX cW
      have HYx : Hid (∀ W1 : World, J x W1 → YieldAt Fence.wide 8 Tryz.prog l #[.int .i64 (x : Int), .int .u64 (c : Int)] W1 fun e W' => (e = .returned (.bool true) ∧ J (x + 1) W' ∧ Keep M W1 W') ∨ (e = .returned (.bool false) ∧ Jx x W' ∧ Keep M W1 W')) := fun W1 h => by
        have := HY.out x W1 hlt h
        rw [Hc.out] at this
        exact this
      gi_wp2_with (first | (refine load_wide rfl 23 _ rfl xb 0 rfl L _ hr Tryz.underlying23 rfl i0 ?_) | (refine ⟨trivial, ?_⟩; gi_at_call 63; refine (callsIn_wide.2 (HX.out _)).mono ?_; rintro e W2 ⟨rfl, b2⟩; obtain ⟨fn, tmps, assign, body, hyl, hR⟩ := HYx.out W2 (HJ.out x wr W2 hK.1 hJs b2)) | (refine hR.mono ?_; rintro e W3 hE; obtain ⟨r, rfl, hE2⟩ := yields hE))
      · rcases hE2.out with ⟨rfl, _⟩ | ⟨_, hJx3⟩
        · rename_i hr; cases hr
        · refine bodyPost_ret (results_none rfl _ _ _) rfl ?_
          exact ⟨⟨_, rfl⟩, .inr ⟨x, hlt, trivial, hJx3.1⟩⟩
      · rcases hE2.out with ⟨_, hJ3, hK3⟩ | ⟨rfl, _⟩
        · refine ⟨⟨x + 1, by omega, by go_num, hJ3, hK.trans ((Keep.below b2 (Nat.le_refl _)).trans hK3)⟩, ?_⟩
          simp [intOf]; omega
        · rename_i hr; cases hr
    · obtain rfl : x = 8 := by omega
      gi_wp2
      go_end0
      exact ⟨⟨_, rfl⟩, .inl hJs⟩
end Go.Proofs.YtoimbjbdkkohcaaGreatDoor

/-
  copy between blocks of bytes.
-/
namespace Go.Proofs.YtoimbjbdkkohcaaGreatDoor
open Go.RowKit
attribute [local go_sem] Oper.semAt_some

/-- what the builtin does -/
theorem run_cpy (w : World) (rt : TypeId) (g off dLen dCap sb so sLen sCap n k : Nat) (F G : Nat → Int) (hg : Bk .u8 w g n F) (hk : k = Nat.min sLen dLen)
    (hsrc : ∀ j : Nat, j < k → w.cell? ⟨sb, so + j, none⟩ = some (.int .u8 (G j))) (hfit : off + k ≤ n) :
    ∃ w', (Builtin.copy_ #[69, 69] rt #[.slice (some ⟨g, off, none⟩) dLen dCap, .slice (some ⟨sb, so, none⟩) sLen sCap]).run Tryz.prog w = .ok (goInt k) w' ∧ Bk .u8 w' g n (lay F off k G) ∧ Just g w w' := by
  obtain ⟨t, hg⟩ := hg
  have hrun := run_copy_row (P := Tryz.prog) w 69 69 rt 5 g off dLen dCap ⟨sb, so, none⟩ sLen sCap (ints .u8 n F).toArray t (ints .u8 k G) Tryz.underlying69 byte_size hg (by rw [ints_len]; exact hk)
    (fun j v hv => by
      have hj : j < k := by have := (List.getElem?_eq_some_iff.1 hv).1; rw [ints_len] at this; exact this
      rw [ints_at .u8 k G j hj] at hv
      cases hv
      rw [Addr.add_mid]; exact hsrc j hj) (by simp [ints_len]; omega) (ints_one' .u8 k G)
  rw [ints_len] at hrun
  refine ⟨_, hrun, ⟨t, ?_⟩, ⟨fun B w0 hb hB => below_setRow hb hB _, fun k hk => setRow_other w g k _ hk⟩⟩
  rw [← splice_ints .u8 n F off k G hfit, setRow_heap w g _ _ t _ hg]
  simp [splice, ints_len]
/-- as an operation -/
theorem wp_cpy {o : Oper} {a : Act} {w : World} {K : Act → World → Prop} {Q : Exit → Act → World → Prop} (d s : Operand)
    (ho : o.op = .call { callee := .builtin .copy, args := #[d, s], argTypes := #[69, 69] })
    (g off dLen dCap sb so sLen sCap n k : Nat) (F G : Nat → Int) (hd : a.eval d = .slice (some ⟨g, off, none⟩) dLen dCap) (hs : a.eval s = .slice (some ⟨sb, so, none⟩) sLen sCap)
    (hg : Bk .u8 w g n F) (hk : k = Nat.min sLen dLen) (hsrc : ∀ j : Nat, j < k → w.cell? ⟨sb, so + j, none⟩ = some (.int .u8 (G j))) (hfit : off + k ≤ n)
    (h : ∀ w', Hid (Bk .u8 w' g n (lay F off k G)) → Hid (Just g w w') → K (a.put o.dst (goInt k)) w') : Oper.wp Tryz.prog o a w K Q := by
  obtain ⟨w', hrun, h1, h2⟩ := run_cpy w o.type g off dLen dCap sb so sLen sCap n k F G hg hk hsrc hfit
  unfold Oper.wp
  simp [execOp, ho, resolve, invoke, builtin, hd, hs, hrun, Result.andThen]
  exact h w' h1 h2
/-- in a region that draws its order (go_region_held3) -/
theorem step_cpys {ops : Array Oper} {o : Oper} {a : Act} {w : World} {K : Act → World → Prop} {Q : Exit → Act → World → Prop} {E : Prop} (hgd : o.guard = none) (d s : Operand)
    (ho : o.op = .call { callee := .builtin .copy, args := #[d, s], argTypes := #[69, 69] })
    (g off dLen dCap sb so sLen sCap n k : Nat) (F G : Nat → Int) (hd : a.eval d = .slice (some ⟨g, off, none⟩) dLen dCap) (hs : a.eval s = .slice (some ⟨sb, so, none⟩) sLen sCap)
    (hg : Bk .u8 w g n F) (hk : k = Nat.min sLen dLen) (hsrc : ∀ j : Nat, j < k → w.cell? ⟨sb, so + j, none⟩ = some (.int .u8 (G j))) (hfit : off + k ≤ n)
    (h : ∀ w', Hid (Bk .u8 w' g n (lay F off k G)) → Hid (Just g w w') → K (a.put o.dst (goInt k)) w') :
    if Region.wanted o (yielded ops a.tmps) = true then Oper.wp Tryz.prog o a w K Q else E := by
  have hw : Region.wanted o (yielded ops a.tmps) = true := by simp [Region.wanted, hgd]
  rw [if_pos hw]
  exact wp_cpy d s ho g off dLen dCap sb so sLen sCap n k F G hd hs hg hk hsrc hfit h
/-- in a plain region -/
theorem wpList_cpy {w : World} {ops : Array Oper} {rest : List Oper} {o : Oper} {a : Act} {Q : Exit → Act → World → Prop} (hgd : o.guard = none) (d s : Operand)
    (ho : o.op = .call { callee := .builtin .copy, args := #[d, s], argTypes := #[69, 69] })
    (g off dLen dCap sb so sLen sCap n k : Nat) (F G : Nat → Int) (hd : a.eval d = .slice (some ⟨g, off, none⟩) dLen dCap) (hs : a.eval s = .slice (some ⟨sb, so, none⟩) sLen sCap)
    (hg : Bk .u8 w g n F) (hk : k = Nat.min sLen dLen) (hsrc : ∀ j : Nat, j < k → w.cell? ⟨sb, so + j, none⟩ = some (.int .u8 (G j))) (hfit : off + k ≤ n)
    (h : ∀ w', Hid (Bk .u8 w' g n (lay F off k G)) → Hid (Just g w w') → wpList Tryz.prog ops Q rest (a.put o.dst (goInt k)) w') : wpList Tryz.prog ops Q (o :: rest) a w := by
  refine wpList_plain hgd fun K hK => ?_
  exact wp_cpy d s ho g off dLen dCap sb so sLen sCap n k F G hd hs hg hk hsrc hfit fun w' h1 h2 => hK _ _ (h w' h1 h2)
end Go.Proofs.YtoimbjbdkkohcaaGreatDoor

/-
  A line's halves; lines of words and of halves.
-/
namespace Go.Proofs.YtoimbjbdkkohcaaGreatDoor
open Go.RowKit Go.Shelf
open Ln (val wrd)
attribute [local go_sem] Oper.semAt_some

/-- the half k of a line -/
def hlf (F : Nat → Int) (k i : Nat) : Int := F (32 * k + i)
theorem hlf_byts (F : Nat → Int) (hF : Byts 64 F) (k : Nat) (hk : k < 2) : Byts 32 (hlf F k) := fun i hi => hF (32 * k + i) (by omega)
theorem zeroH (w : World) : (zeroValue 58).run Tryz.prog w = .ok (.agg (ints .u8 32 fun _ => 0).toArray) w := by kernel_rfl
theorem infoH : (Tryz.prog.info? 58).map (·.size) = some 32 := by kernel_rfl

theorem halves_any (F : Nat → Int) (w : World) :
    Calls Tryz.prog 38 #[.agg (ints .u8 64 F).toArray] w fun e w' => e = .returned (.func (.func 71) #[] #[.pointer (some ⟨w.heap.size, 0, none⟩)]) ∧ w' = w.alloc (.cells (ints .u8 64 F).toArray 23) := by
  obtain ⟨A0, hA0⟩ : ∃ A, (ints .u8 64 F).toArray = A := ⟨_, rfl⟩
  rw [hA0]
  go_enter Tryz.func38, Tryz.ntmps38
  go_wp2
  go_ret
  exact ⟨rfl, rfl⟩
theorem cut_half (b : Nat) (w : World) : (Instr.sliceAt 58 (.pointer (some ⟨b, 0, none⟩)) none none none).run Tryz.prog w = .ok (.slice (some ⟨b, 0, none⟩) 32 32) w := by
  simp [Instr.sliceAt, go_sem]
theorem cut_line (b x : Nat) (hx : x < 2) (w : World) : (Instr.sliceAt 23 (.pointer (some ⟨b, 0, none⟩)) (some (.int .i64 (32 * (x : Int)))) none none).run Tryz.prog w = .ok (.slice (some ⟨b, 32 * x, none⟩) (64 - 32 * x) (64 - 32 * x)) w := by
  obtain rfl | rfl : x = 0 ∨ x = 1 := by omega
  · simp [Instr.sliceAt, go_sem]
  · simp [Instr.sliceAt, go_sem]
theorem exec_slice0 {P : Program} {o : Oper} {a : Act} (t : TypeId) (x : Operand) (ho : o.op = .slice t x none none none) (vx v : Value) (hx : a.eval x = vx)
    (h : ∀ w, (Instr.sliceAt t vx none none none).run P w = .ok v w) (w : World) : (execOp a.eval o).run P w = .ok (.value v) w := by
  simp [execOp, ho, hx, h]
theorem exec_slice1 {P : Program} {o : Oper} {a : Act} (t : TypeId) (x i : Operand) (ho : o.op = .slice t x (some i) none none) (vx vi v : Value) (hx : a.eval x = vx) (hi : a.eval i = vi)
    (h : ∀ w, (Instr.sliceAt t vx (some vi) none none).run P w = .ok v w) (w : World) : (execOp a.eval o).run P w = .ok (.value v) w := by
  simp [execOp, ho, hx, hi, h]

set_option maxRecDepth 100000 in
set_option maxHeartbeats 2000000 in
theorem halves_seq (xb : Nat) (F : Nat → Int) (w : World) (hb : Bk .u8 w xb 64 F) :
    SeqC Tryz.prog 71 #[.pointer (some ⟨xb, 0, none⟩)] (fun x => #[.int .i64 (x : Int), .agg (ints .u8 32 (hlf F x)).toArray]) 2 (fun _ => True) (fun b => b = xb) w := by
  intro l M J Jx W hW hM hJ hJx hskip hY h0
  have hbW : Bk .u8 W xb 64 F := hb.below hW hb.lt
  have HM : Hid (¬ M xb) := fun h => (hM xb h).2 rfl
  have HJ : Hid (∀ (x : Nat) (A A' : World), W.heap.size ≤ A.heap.size → J x A → Below A.heap.size A A' → J x A') := fun x A A' hl h k => hJ x A A' h ((stay_below k).mono hl)
  have HB : Hid (Bk .u8 W xb 64 F) := hbW
  have HY : Hid (∀ (x : Nat) (W1 : World), x < 2 → J x W1 → YieldAt Fence.wide 8 Tryz.prog l #[.int .i64 (x : Int), .agg (ints .u8 32 (hlf F x)).toArray] W1 fun e W' => (e = .returned (.bool true) ∧ J (x + 1) W' ∧ Keep M W1 W') ∨ (e = .returned (.bool false) ∧ Jx x W' ∧ Keep M W1 W')) := fun x W1 h1 h2 => hY x W1 h1 trivial h2
  have hz := zeroH
  obtain ⟨Z, hZ⟩ : ∃ A, (ints .u8 32 fun _ => 0).toArray = A := ⟨_, rfl⟩
  rw [hZ] at hz
  have HZ : Hid ((ints .u8 32 fun _ => 0).toArray = Z) := hZ
  clear hJ hJx hskip hY hM hW hb hbW hZ
  refine callsIn_of_wp Tryz.func71 rfl trivial ?_ rfl
  simp only [Tryz.ntmps71, List.size_toArray, List.length_cons, List.length_nil, Nat.reduceAdd, Nat.reduceSub, Array.replicate_succ, Array.replicate_zero, List.push_toArray, List.append_toArray, List.nil_append, List.cons_append]
  gi_wp2
  gi_loopw [5] (fun i wr => ∃ x : Nat, x ≤ 2 ∧ i = .int .i64 (x : Int) ∧ J x wr ∧ Keep M W wr) (fun i _ => (2 - (intOf i).toNat))
  case atStart => exact ⟨0, by omega, rfl, h0, Keep.refl _ _⟩
  case round =>
    obtain ⟨x, hx, rfl, hJs, hK⟩ := hrel
    by_cases hlt : x < 2
    · have hbr := HB.out.keep hK HM.out
      have hbl := hbr.lt
      have h1 := cut_half
      have h2 := cut_line xb x hlt
      have wm : IntKind.i64.wrap (32 * (x : Int)) = 32 * (x : Int) := by rw [IntKind.wrap_i64]; omega
      have i0 : (Tryz.prog.info? 58).map (·.size) = some (ints .u8 32 (hlf F x)).length := by rw [ints_len]; exact infoH
      have HYx := HY.out x
      obtain ⟨L, hL⟩ : ∃ A, ints .u8 32 (hlf F x) = A := ⟨_, rfl⟩
      rw [hL] at HYx i0
      have HL : Hid (ints .u8 32 (hlf F x) = L) := hL
      have HYy : Hid (∀ W1 : World, J x W1 → YieldAt Fence.wide 8 Tryz.prog l #[.int .i64 (x : Int), .agg L.toArray] W1 fun e W' => (e = .returned (.bool true) ∧ J (x + 1) W' ∧ Keep M W1 W') ∨ (e = .returned (.bool false) ∧ Jx x W' ∧ Keep M W1 W')) := fun W1 h => HYx W1 hlt h
      clear HYx HY hL
      gi_wp2
      obtain ⟨V1, hV1⟩ : ∃ V, wr.alloc (.cells Z 58) = V := ⟨_, rfl⟩
      have hA : Bk .u8 V1 wr.heap.size 32 (fun _ => 0) ∧ Bk .u8 V1 xb 64 F ∧ Below wr.heap.size wr V1 := by
        have h0 := Bk.new .u8 wr 32 (fun _ => 0) 58
        rw [HZ.out] at h0
        rw [← hV1]
        exact ⟨h0, hbr.alloc _, (Below.refl _ wr).alloc (Nat.le_refl _) _⟩
      obtain ⟨E, hE⟩ : ∃ E, wr.heap.size = E := ⟨_, rfl⟩
      rw [hE] at hA hbl
      rw [hV1, hE]
      clear hV1 hbr
      refine wpIn_wide.2 (region_ends (by kernel_rfl) (fun w' => (∃ X, Bk .u8 w' E 32 X) ∧ Bk .u8 w' xb 64 F) (fun a' w' => a' = ({ tmps := #[.func (.yield l) #[] #[], .pointer (some ⟨xb, 0, none⟩), undef, .int .i64 (x : Int), .pointer (some ⟨E, 0, none⟩), .int .i64 (x : Int), .bool (decide ((x : Int) < 2)), .int .i64 (x : Int), .slice (some ⟨E, 0, none⟩) 32 32, .int .i64 (x : Int), .int .i64 (32 * (x : Int)), .slice (some ⟨xb, 32 * x, none⟩) (64 - 32 * x) (64 - 32 * x), goInt 32, u13, u14, u15, u16, u17, u18], defers := [] } : Act) ∧ Bk .u8 w' E 32 (hlf F x) ∧ Below E wr w') ⟨⟨_, hA.1.drew⟩, hA.2.1.drew⟩ (fun hH => ?_) ?_)
      · have hA1 : Hid (Bk .u8 V1.drew E 32 (fun _ => 0) ∧ Below E wr V1.drew) := ⟨hA.1.drew, below_drewN hA.2.2 1⟩
        refine take_pure 0 (v := .slice (some ⟨E, 0, none⟩) 32 32) rfl (by kernel_rfl) rfl (fun w' hw => exec_slice0 _ _ rfl _ _ rfl (h1 E) w') hH ?_
        show wpAnyH _ _ _ _ _ _ _ ({ tmps := #[.func (.yield l) #[] #[], .pointer (some ⟨xb, 0, none⟩), undef, .int .i64 (x : Int), .pointer (some ⟨E, 0, none⟩), .int .i64 (x : Int), .bool (decide ((x : Int) < 2)), .int .i64 (x : Int), .slice (some ⟨E, 0, none⟩) 32 32, u9, u10, u11, u12, u13, u14, u15, u16, u17, u18], defers := [] } : Act) _
        refine take_pure 1 (v := .int .i64 (x : Int)) rfl (by kernel_rfl) rfl (fun w' hw => by simp [execOp, go_sem]) hH ?_
        show wpAnyH _ _ _ _ _ _ _ ({ tmps := #[.func (.yield l) #[] #[], .pointer (some ⟨xb, 0, none⟩), undef, .int .i64 (x : Int), .pointer (some ⟨E, 0, none⟩), .int .i64 (x : Int), .bool (decide ((x : Int) < 2)), .int .i64 (x : Int), .slice (some ⟨E, 0, none⟩) 32 32, .int .i64 (x : Int), u10, u11, u12, u13, u14, u15, u16, u17, u18], defers := [] } : Act) _
        refine take_pure 2 (v := .int .i64 (32 * (x : Int))) rfl (by kernel_rfl) rfl (fun w' hw => by simp [execOp, go_sem, wm]) hH ?_
        show wpAnyH _ _ _ _ _ _ _ ({ tmps := #[.func (.yield l) #[] #[], .pointer (some ⟨xb, 0, none⟩), undef, .int .i64 (x : Int), .pointer (some ⟨E, 0, none⟩), .int .i64 (x : Int), .bool (decide ((x : Int) < 2)), .int .i64 (x : Int), .slice (some ⟨E, 0, none⟩) 32 32, .int .i64 (x : Int), .int .i64 (32 * (x : Int)), u11, u12, u13, u14, u15, u16, u17, u18], defers := [] } : Act) _
        refine take_pure 3 (v := .slice (some ⟨xb, 32 * x, none⟩) (64 - 32 * x) (64 - 32 * x)) rfl (by kernel_rfl) rfl (fun w' hw => exec_slice1 _ _ _ rfl _ _ _ rfl rfl h2 w') hH ?_
        show wpAnyH _ _ _ _ _ _ _ ({ tmps := #[.func (.yield l) #[] #[], .pointer (some ⟨xb, 0, none⟩), undef, .int .i64 (x : Int), .pointer (some ⟨E, 0, none⟩), .int .i64 (x : Int), .bool (decide ((x : Int) < 2)), .int .i64 (x : Int), .slice (some ⟨E, 0, none⟩) 32 32, .int .i64 (x : Int), .int .i64 (32 * (x : Int)), .slice (some ⟨xb, 32 * x, none⟩) (64 - 32 * x) (64 - 32 * x), u12, u13, u14, u15, u16, u17, u18], defers := [] } : Act) _
        refine take_one 4 rfl rfl (by kernel_rfl) ?_
        refine wp_cpy _ _ rfl E 0 32 32 xb (32 * x) (64 - 32 * x) (64 - 32 * x) 32 32 (fun _ => 0) (hlf F x) rfl rfl hA1.out.1 (by show 32 = min (64 - 32 * x) 32; omega) (fun j hj => hH.2.cell (32 * x + j) (by omega)) (by omega) ?_
        intro V2 g2 k2
        have hN : Bk .u8 V2 E 32 (hlf F x) ∧ Below E wr V2 := ⟨g2.out.congr fun i hi => by unfold lay; rw [if_pos (by omega), Nat.sub_zero], k2.out.below _ _ hA1.out.2 (Nat.le_refl _)⟩
        refine ⟨⟨⟨_, hN.1⟩, hH.2.of (k2.out.block xb (by omega))⟩, fun hH2 => ?_⟩
        show wpAnyH _ _ _ _ _ _ _ ({ tmps := #[.func (.yield l) #[] #[], .pointer (some ⟨xb, 0, none⟩), undef, .int .i64 (x : Int), .pointer (some ⟨E, 0, none⟩), .int .i64 (x : Int), .bool (decide ((x : Int) < 2)), .int .i64 (x : Int), .slice (some ⟨E, 0, none⟩) 32 32, .int .i64 (x : Int), .int .i64 (32 * (x : Int)), .slice (some ⟨xb, 32 * x, none⟩) (64 - 32 * x) (64 - 32 * x), goInt 32, u13, u14, u15, u16, u17, u18], defers := [] } : Act) _
        exact wpAnyH_done (by kernel_rfl) ⟨rfl, hN⟩ _
      rintro a' V2 ⟨rfl, hN⟩
      have hr := hN.1.range
      rw [HL.out] at hr
      have hB2 : Below wr.heap.size wr V2 := by rw [hE]; exact hN.2
      obtain ⟨fn, tmps, assign, body, hyl, hR⟩ := HYy.out V2 (HJ.out x wr V2 hK.1 hJs hB2)
      clear hA h1 h2
      gi_wp2_with (first | (refine load_wide rfl 58 _ rfl E 0 rfl L _ hr Tryz.underlying58 rfl i0 ?_) | (refine hR.mono ?_; rintro e W3 hE3; obtain ⟨r, rfl, hE2⟩ := yields hE3))
      · rcases hE2.out with ⟨rfl, _⟩ | ⟨_, hJx3⟩
        · rename_i hr; cases hr
        · refine bodyPost_ret (results_none rfl _ _ _) rfl ?_
          exact ⟨⟨_, rfl⟩, .inr ⟨x, hlt, trivial, hJx3.1⟩⟩
      · rcases hE2.out with ⟨_, hJ3, hK3⟩ | ⟨rfl, _⟩
        · refine ⟨⟨x + 1, by omega, by go_num, hJ3, hK.trans ((Keep.below hB2 (Nat.le_refl _)).trans hK3)⟩, ?_⟩
          simp [intOf]; omega
        · rename_i hr; cases hr
    · obtain rfl : x = 2 := by omega
      gi_wp2
      go_end0
      exact ⟨⟨_, rfl⟩, .inl hJs⟩
end Go.Proofs.YtoimbjbdkkohcaaGreatDoor

/-
  Lines of words.
-/
namespace Go.Proofs.YtoimbjbdkkohcaaGreatDoor
open Go.RowKit Go.Shelf
open Ln (val wrd)
attribute [local go_sem] Oper.semAt_some

/-- the bytes of words -/
def wby (G : Nat → Nat) (j : Nat) : Int := ((G (j / 8) / 256 ^ (j % 8) % 256 : Nat) : Int)
theorem wby_at (G : Nat → Nat) (k j : Nat) (hj : j < 8) : (G k : Int) / 2 ^ (8 * j) % 256 = wby G (8 * k + j) := by
  unfold wby
  rw [show (8 * k + j) / 8 = k by omega, show (8 * k + j) % 8 = j by omega, ← (show (2 : Nat) ^ (8 * j) = 256 ^ j by rw [Nat.pow_mul])]
  simp
/-- the words of a line make it again -/
theorem wby_wrd (F : Nat → Int) (hF : Byts 64 F) (j : Nat) (hj : j < 64) : wby (wrd F) j = F j := by
  unfold wby
  rw [Ln.wrd_byte F (j / 8) (j % 8) hF (by omega) (by omega), show 8 * (j / 8) + j % 8 = j by omega]
theorem infoW : (Tryz.prog.info? 83).map (·.size) = some 8 := by kernel_rfl
theorem run_indexW (F : Nat → Int) (x : Nat) (hx : x < 8) (w : World) : (Instr.index 83 (.agg (ints .u64 8 F).toArray) (.int .i64 (x : Int))).run Tryz.prog w = .ok (.int .u64 (F x)) w := by
  have hc := ints_at .u64 8 F x hx
  have hu := Tryz.underlying83
  simp [Instr.index, run_underlying hu, asIntOf, go_sem, hx]
  rw [hc]; rfl

set_option maxRecDepth 100000 in
set_option maxHeartbeats 1000000 in
theorem fromWords_any (G : Nat → Nat) (hG : ∀ k, k < 8 → G k < 18446744073709551616) (w : World) :
    Calls Tryz.prog 46 #[.agg (ints .u64 8 fun i => (G i : Int)).toArray] w fun e w' => e = .returned (.agg (ints .u8 64 (wby G)).toArray) ∧ Below w.heap.size w w' := by
  have hz := zeroL
  have hix := run_indexW (fun i => (G i : Int))
  have iw : (Tryz.prog.info? 83).map (·.size) = some (ints .u64 8 fun i => (G i : Int)).length := by rw [ints_len]; exact infoW
  obtain ⟨A0, hA0⟩ : ∃ A, (ints .u64 8 fun i => (G i : Int)) = A := ⟨_, rfl⟩
  obtain ⟨Z, hZ⟩ : ∃ A, (ints .u8 64 fun _ => 0).toArray = A := ⟨_, rfl⟩
  rw [hZ] at hz
  rw [hA0] at hix iw ⊢
  go_enter Tryz.func46, Tryz.ntmps46
  go_upto_region 2 with (fail)
  obtain ⟨V, hV⟩ : ∃ V, ((w.alloc (.cells A0.toArray 83)).alloc (.cells Z 23)).alloc (.cells Z 23) = V := ⟨_, rfl⟩
  have HI : Hid (Bk .u64 V w.heap.size 8 (fun i => (G i : Int)) ∧ Wk w.heap.size (w.heap.size + 1) (w.heap.size + 1 + 1) (fun _ => 0) w V) := by
    rw [← hV, ← hA0, ← hZ]
    have h0 := Bk.new .u64 w 8 (fun i => (G i : Int)) 83
    have h1 := Bk.new .u8 (w.alloc (.cells (ints .u64 8 fun i => (G i : Int)).toArray 83)) 64 (fun _ => 0) 23
    have h2 := Bk.new .u8 ((w.alloc (.cells (ints .u64 8 fun i => (G i : Int)).toArray 83)).alloc (.cells (ints .u8 64 fun _ => 0).toArray 23)) 64 (fun _ => 0) 23
    simp only [World.size_alloc] at h1 h2
    exact ⟨(h0.alloc _).alloc _, h1.alloc _, h2, (((Below.refl _ w).alloc (Nat.le_refl _) _).alloc (by simp) _).alloc (by simp; omega) _⟩
  obtain ⟨B, hB⟩ : ∃ B, w.heap.size = B := ⟨_, rfl⟩
  obtain ⟨D, hD⟩ : ∃ D, B + 1 = D := ⟨_, rfl⟩
  obtain ⟨E, hE⟩ : ∃ E, D + 1 = E := ⟨_, rfl⟩
  rw [hV]
  rw [hB, hD, hE] at HI ⊢
  have nD : D ≠ E := by omega
  have nB : B ≤ E := by omega
  have lD : B ≤ D := by omega
  have hr := HI.out.1.range
  rw [hA0] at hr
  have HW : Hid (Wk B D E (fun _ => 0) w V) := HI.out.2
  clear hV hA0 hZ hz hD hE HI
  go_wp2_with (refine wpList_load_mid rfl 83 _ rfl B 0 rfl A0 _ hr Tryz.underlying83 rfl iw ?_)
  clear hr
  go_loopw [8] (fun i wr => ∃ k : Nat, k ≤ 8 ∧ i = .int .i64 (k : Int) ∧ Hid (Wk B D E (fun j => if j < 8 * k then wby G j else 0) w wr)) (fun i _ => 8 - (intOf i).toNat)
  case atStart => exact ⟨0, by omega, rfl, HW.out.congr fun i _ => by rw [if_neg (by omega)]⟩
  case round =>
    obtain ⟨k, hk, rfl, HK⟩ := hrel
    by_cases hlt : k < 8
    · have hik := hix k hlt
      have hgk := hG k hlt
      clear HW
      go_wp2
      go_loopw [12] (fun i wr => ∃ j : Nat, j ≤ 8 ∧ i = .int .i64 (j : Int) ∧ Hid (Wk B D E (fun i => if i < 8 * k + j then wby G i else 0) w wr)) (fun i _ => 8 - (intOf i).toNat)
      case atStart => exact ⟨0, by omega, rfl, HK⟩
      case round =>
        obtain ⟨j, hj, rfl, HJ⟩ := hrel
        by_cases hjt : j < 8
        · have c1 := HJ.out.o.cell (8 * k + j) (by omega)
          have c2 := HJ.out.o.free (8 * k + j)
          have HN : Hid (Wk B D E (fun i => if i < 8 * k + (j + 1) then wby G i else 0) w (wr.setCell ⟨E, 8 * k + j, none⟩ (.int .u8 ((G k : Int) / 2 ^ (8 * j) % 256)))) := by
            rw [wby_at G k j hjt]
            exact (HJ.out.set nD nB (8 * k + j) (wby G (8 * k + j))).congr fun i _ => by
              by_cases h : i = 8 * k + j
              · rw [if_pos h, if_pos (by omega), h]
              · rw [if_neg h]
                by_cases h2 : i < 8 * k + j
                · rw [if_pos h2, if_pos (by omega)]
                · rw [if_neg h2, if_neg (by omega)]
          go_wp2
          go_roundw
          case rel => exact ⟨j + 1, by omega, by go_num, HN⟩
          case measure => simp [intOf]; omega
        · obtain rfl : j = 8 := by omega
          go_wp2
          go_roundw
          case rel => exact ⟨k + 1, by omega, by go_num, HJ.out.congr fun i _ => by rw [show 8 * k + 8 = 8 * (k + 1) from by omega]⟩
          case measure => simp [intOf]; omega
    · obtain rfl : k = 8 := by omega
      have HE : Wk B D E (wby G) w wr := HK.out.congr fun i hi => by rw [if_pos (by omega)]
      have hr := HE.o.range
      have ht := HE.r.there .u8 (wby G)
      have hi9 : (Tryz.prog.info? 23).map (·.size) = some (ints .u8 64 (wby G)).length := by rw [ints_len]; exact infoL
      have hone := ints_one .u8 64 (wby G)
      have HB : Hid (Below B w wr) := HE.below
      obtain ⟨L, hL⟩ : ∃ L, ints .u8 64 (wby G) = L := ⟨_, rfl⟩
      rw [hL] at hr ht hi9 hone
      have HL : Hid (ints .u8 64 (wby G) = L) := hL
      clear HK HE hL HW hix
      go_wp2_with (first | refine wpList_load_mid rfl 23 _ rfl _ 0 rfl L _ hr Tryz.underlying23 rfl hi9 ?_ | refine wpList_store_mid rfl 23 _ _ rfl _ 0 L.toArray rfl rfl ht hi9 hone ?_)
      have hs : (wr.setCells D 0 L).rangeAt D 0 L := World.rangeAt_setCells_same wr _ 0 L (by simpa using ht)
      have hld := run_loadVar_mid (P := Tryz.prog) (wr.setCells D 0 L) D 0 23 L _ hs Tryz.underlying23 rfl hi9
      refine bodyPost_ret (v := .agg L.toArray) ?_ rfl ⟨by rw [HL.out], by rw [hB]; exact belows_put lD L 0 HB.out⟩
      simp [results, Tryz.f46, Act.put, asAddr, hld]
end Go.Proofs.YtoimbjbdkkohcaaGreatDoor
