/-
  Arrays of integers by value: blocks that hold one, copies between them, arrays held against one another.
-/
import Derived.Test.YtcpjmfemgdgplaaArrArgs
import Derived.Test.YtcpjmfemgdgplaaRange
import Derived.Deep.MidRow
import Derived.Deep.RegionHeld3
import Derived.Laws.CopyOwn
import Derived.Deep.OwnRows
import Derived.Stop.BytesEq
namespace Go.Proofs.Ytcpjmfemgdgplaa
open Go.RowKit
attribute [local go_sem] Oper.semAt_some

theorem ints_congr (k : IntKind) (n : Nat) (F G : Nat → Int) (h : ∀ i, i < n → F i = G i) : ints k n F = ints k n G := by
  unfold ints
  refine List.map_congr_left fun i hi => ?_
  rw [h i (List.mem_range.1 hi)]
theorem ints_inj (k : IntKind) (n : Nat) (F G : Nat → Int) (h : ints k n F = ints k n G) : ∀ i, i < n → F i = G i := by
  intro i hi
  have e := ints_at k n F i hi
  rw [h, ints_at k n G i hi] at e
  simp only [Option.some.injEq, Value.int.injEq, true_and] at e
  exact e.symm
theorem ints_one (k : IntKind) (n : Nat) (F : Nat → Int) : (ints k n F).toArray.all (·.oneCell') = true := by
  refine all_oneCell_toArray fun v hv => ?_
  obtain ⟨i, _, rfl⟩ := List.mem_map.1 hv
  rfl
theorem ints_one' (k : IntKind) (n : Nat) (F : Nat → Int) : ∀ v ∈ ints k n F, v.oneCell' = true := by
  intro v hv
  obtain ⟨i, _, rfl⟩ := List.mem_map.1 hv
  rfl

/-- block b is n integers of the kind k, no more -/
def Bk (k : IntKind) (W : World) (b n : Nat) (F : Nat → Int) : Prop := ∃ t, W.heap[b]? = some (.cells (ints k n F).toArray t (0, 0))
theorem rows_put {b : Nat} {t : TypeId} {m : Nat} : ∀ (vs : List Value) (o : Nat) (W : World) (f : Nat → Value), W.rowIs b t m f → (W.setCells b o vs).rowIs b t m (fun j => if o ≤ j ∧ j < o + vs.length then vs[j - o]?.getD default else f j)
  | [], o, W, f, h => h.congr (fun j _ => by rw [if_neg (by simp)])
  | v :: r, o, W, f, h => by
    refine (rows_put r (o + 1) _ _ (h.set o v)).congr (fun j _ => ?_)
    by_cases h1 : j = o
    · subst h1
      rw [if_neg (by omega), if_pos rfl, if_pos (by simp), Nat.sub_self]
      rfl
    · by_cases h2 : o + 1 ≤ j ∧ j < o + 1 + r.length
      · rw [if_pos h2, if_pos (by simp; omega), show j - o = (j - (o + 1)) + 1 by omega, List.getElem?_cons_succ]
      · rw [if_neg h2, if_neg h1, if_neg (by simp; omega)]
theorem heap_puts (c : Nat) : ∀ (vs : List Value) (o : Nat) (W : World) (k : Nat), k ≠ c → (W.setCells c o vs).heap[k]? = W.heap[k]?
  | [], _, _, _, _ => rfl
  | v :: vs, o, W, k, h => (heap_puts c vs (o + 1) _ k h).trans (Below.heap_setCell W ⟨c, o, none⟩ v k h)
theorem belows_put {B b : Nat} (hb : B ≤ b) : ∀ (vs : List Value) (o : Nat) {a w : World}, Below B a w → Below B a (w.setCells b o vs)
  | [], _, _, _, h => h
  | v :: vs, o, _, _, h => belows_put hb vs (o + 1) (h.setCell (p := ⟨b, o, none⟩) hb v)
section
variable {k : IntKind} {W W' : World} {b n : Nat} {F G : Nat → Int}
theorem Bk.new (k : IntKind) (W : World) (n : Nat) (F : Nat → Int) (t : TypeId) : Bk k (W.alloc (.cells (ints k n F).toArray t)) W.heap.size n F := ⟨t, World.alloc_heap_new W _⟩
theorem Bk.of (h : Bk k W b n F) (e : W'.heap[b]? = W.heap[b]?) : Bk k W' b n F := by
  obtain ⟨t, h⟩ := h
  exact ⟨t, e.trans h⟩
theorem Bk.lt (h : Bk k W b n F) : b < W.heap.size := by
  obtain ⟨t, h⟩ := h
  exact (Array.getElem?_eq_some_iff.1 h).1
theorem Bk.alloc (h : Bk k W b n F) (o : Obj) : Bk k (W.alloc o) b n F := h.of (Below.heap_alloc W o b h.lt)
theorem Bk.below {C : Nat} (h : Bk k W b n F) (e : Below C W W') (hb : b < C) : Bk k W' b n F := h.of (e.block b hb)
theorem Bk.next (h : Bk k W b n F) (e : Below W.heap.size W W') : Bk k W' b n F := h.below e h.lt
theorem Bk.stay {B : Nat} (h : Bk k W b n F) (e : Stay B W W') : Bk k W' b n F := by
  obtain ⟨t, h⟩ := h
  exact ⟨t, e.cells _ _ h rfl⟩
theorem Bk.keep {M : Nat → Prop} (h : Bk k W b n F) (e : Keep M W W') (hm : ¬ M b) : Bk k W' b n F := h.of (e.2 b h.lt hm)
theorem Bk.drewN (h : Bk k W b n F) (j : Nat) : Bk k (W.drewN j) b n F := h
theorem Bk.drew (h : Bk k W b n F) : Bk k W.drew b n F := h
theorem Bk.row (h : Bk k W b n F) : ∃ t, W.rowIs b t n (fun i => .int k (F i)) := by
  obtain ⟨t, h⟩ := h
  refine ⟨t, _, h, by simp [ints_len], fun i hi => ?_⟩
  simpa using ints_at k n F i hi
theorem Bk.ofRow {t : TypeId} (h : W.rowIs b t n (fun i => .int k (F i))) : Bk k W b n F := by
  obtain ⟨c, h1, h2, h3⟩ := h
  refine ⟨t, ?_⟩
  rw [h1]
  have : c = (ints k n F).toArray := by
    refine Array.ext_getElem? fun i => ?_
    by_cases hi : i < n
    · rw [h3 i hi]; simpa using (ints_at k n F i hi).symm
    · rw [Array.getElem?_eq_none (by omega), Array.getElem?_eq_none (by simp [ints_len]; omega)]
  rw [this]
theorem Bk.cell (h : Bk k W b n F) (i : Nat) (hi : i < n) : W.cell? ⟨b, i, none⟩ = some (.int k (F i)) := by
  obtain ⟨t, h⟩ := h
  rw [cell_of_row _ _ i _ _ (0, 0) h]
  simpa using ints_at k n F i hi
theorem Bk.free (h : Bk k W b n F) (i : Nat) : W.frozen? ⟨b, i, none⟩ = false := by
  obtain ⟨t, h⟩ := h.row
  exact h.frozen i
theorem Bk.range (h : Bk k W b n F) : W.rangeAt b 0 (ints k n F) := fun j v hv => by
  have hj : j < n := by have := (List.getElem?_eq_some_iff.1 hv).1; rw [ints_len] at this; exact this
  rw [ints_at k n F j hj] at hv
  cases hv
  rw [Nat.zero_add]; exact h.cell j hj
theorem Bk.there (h : Bk k W b n F) (k' : IntKind) (G : Nat → Int) : W.there b 0 (ints k' n G).toArray.size := by
  rw [show (ints k' n G).toArray.size = n from by simp [ints_len]]
  intro j hj
  rw [Nat.zero_add, h.cell j hj]; exact ⟨rfl, h.free j⟩
theorem Bk.set (h : Bk k W b n F) (i : Nat) (e : Int) : Bk k (W.setCell ⟨b, i, none⟩ (.int k e)) b n (fun j => if j = i then e else F j) := by
  obtain ⟨t, h⟩ := h.row
  refine Bk.ofRow (t := t) ((h.set i _).congr fun j _ => ?_)
  by_cases hj : j = i
  · simp [hj]
  · simp [hj]
theorem Bk.other (h : Bk k W b n F) {c : Nat} (hc : b ≠ c) (i : Nat) (v : Value) : Bk k (W.setCell ⟨c, i, none⟩ v) b n F := h.of (Below.heap_setCell W ⟨c, i, none⟩ v b hc)
theorem Bk.congr (h : Bk k W b n F) (e : ∀ i, i < n → F i = G i) : Bk k W b n G := by
  obtain ⟨t, h⟩ := h
  exact ⟨t, by rw [← ints_congr k n F G e]; exact h⟩
theorem Bk.put (h : Bk k W b n F) (G : Nat → Int) : Bk k (W.setCells b 0 (ints k n G)) b n G := by
  obtain ⟨t, h⟩ := h.row
  refine Bk.ofRow (t := t) ((rows_put _ 0 W _ h).congr fun j hj => ?_)
  rw [if_pos (by rw [ints_len]; omega), Nat.sub_zero, ints_at k n G j hj]
  rfl
theorem Bk.putAt (h : Bk k W b n F) (o m : Nat) (G : Nat → Int) : Bk k (W.setCells b o (ints k m G)) b n (fun j => if o ≤ j ∧ j < o + m then G (j - o) else F j) := by
  obtain ⟨t, h⟩ := h.row
  refine Bk.ofRow (t := t) ((rows_put _ o W _ h).congr fun j hj => ?_)
  rw [ints_len]
  by_cases h1 : o ≤ j ∧ j < o + m
  · rw [if_pos h1, if_pos h1, ints_at k m G _ (by omega)]; rfl
  · rw [if_neg h1, if_neg h1]
theorem Bk.putOther (h : Bk k W b n F) {c : Nat} (hc : b ≠ c) (o : Nat) (vs : List Value) : Bk k (W.setCells c o vs) b n F := h.of (heap_puts c vs o W b hc)
/-- a part of it -/
theorem Bk.part (h : Bk k W b n F) (o m : Nat) (hm : o + m ≤ n) : W.rangeAt b o (ints k m fun i => F (o + i)) := fun j v hv => by
  have hj : j < m := by have := (List.getElem?_eq_some_iff.1 hv).1; rw [ints_len] at this; exact this
  rw [ints_at k m _ j hj] at hv
  cases hv
  exact h.cell (o + j) (by omega)
theorem Bk.thereAt (h : Bk k W b n F) (o m : Nat) (hm : o + m ≤ n) : W.there b o m := fun j hj => by
  rw [h.cell (o + j) (by omega)]; exact ⟨rfl, h.free _⟩
end

/-- just block g was turned -/
structure Just (g : Nat) (W W' : World) : Prop where
  below : ∀ (B : Nat) (w0 : World), Below B w0 W → B ≤ g → Below B w0 W'
  block : ∀ k, k ≠ g → W'.heap[k]? = W.heap[k]?
/-- k integers of G laid into F from the place o on -/
def lay (F : Nat → Int) (o k : Nat) (G : Nat → Int) (i : Nat) : Int := if o ≤ i ∧ i < o + k then G (i - o) else F i
theorem splice_ints (d : IntKind) (n : Nat) (F : Nat → Int) (o k : Nat) (G : Nat → Int) (h : o + k ≤ n) : splice (ints d n F) o (ints d k G) = ints d n (lay F o k G) := by
  refine List.ext_getElem? fun i => ?_
  by_cases hi : i < n
  · rw [ints_at d n _ i hi]
    unfold splice lay
    by_cases h1 : i < o
    · rw [List.getElem?_append_left (by rw [List.length_take, ints_len]; omega), List.getElem?_take, if_pos h1, ints_at d n F i hi, if_neg (by omega)]
    · rw [List.getElem?_append_right (by rw [List.length_take, ints_len]; omega), List.length_take, ints_len d n, ints_len d k, Nat.min_eq_left (show o ≤ n by omega)]
      by_cases h2 : i < o + k
      · rw [List.getElem?_append_left (by simp [ints_len]; omega), ints_at d k G _ (by omega), if_pos (by omega)]
      · rw [List.getElem?_append_right (by simp [ints_len]; omega), ints_len, List.getElem?_drop, if_neg (by omega), show o + k + (i - o - k) = i from by omega, ints_at d n F i hi]
  · rw [List.getElem?_eq_none (by rw [length_splice _ _ _ (by simp [ints_len]; omega), ints_len]; omega), List.getElem?_eq_none (by rw [ints_len]; omega)]
theorem byte_size : (Try.prog.info? 5).map (·.size) = some 1 := by kernel_rfl

/-- a load of an array that a guard lets by -/
theorem wpList_load_g {P : Program} {ops : Array Oper} {rest : List Oper} {op : Oper} {a : Act} {w : World} {Q : Exit → Act → World → Prop} (hw : Region.wanted op (yielded ops a.tmps) = true) (ty : TypeId) (x : Operand) (ho : op.op = .load ty x)
    (b o : Nat) (hx : a.eval x = .pointer (some ⟨b, o, none⟩)) (cs : List Value) (d : TypeDesc) (hc : w.rangeAt b o cs)
    (hu : P.underlying ty = some d) (hd : d.isRow = true) (hi : (P.info? ty).map (·.size) = some cs.length)
    (h : wpList P ops Q rest (a.put op.dst (.agg cs.toArray)) w) : wpList P ops Q (op :: rest) a w :=
  wpList_step fun K hK => by rw [if_pos hw]; exact wp_load_mid ty x ho b o hx cs d hc hu hd hi (hK _ _ h)

def byts (n : Nat) (F : Nat → Int) : List UInt8 := (List.range n).map fun i => UInt8.ofNat (F i).toNat
theorem byts_len (n : Nat) (F : Nat → Int) : (byts n F).length = n := by simp [byts]
/-- bytes: each from 0 to 255 -/
def Byts (n : Nat) (F : Nat → Int) : Prop := ∀ i, i < n → 0 ≤ F i ∧ F i < 256
theorem byts_ints (n : Nat) (F : Nat → Int) (h : Byts n F) : (byts n F).map Extern.Stop.cell = ints .u8 n F := by
  unfold byts ints
  rw [List.map_map]
  refine List.map_congr_left fun i hi => ?_
  have := h i (List.mem_range.1 hi)
  show Value.int .u8 _ = Value.int .u8 _
  congr 1
  simp
  omega
theorem byts_inj (n : Nat) (F G : Nat → Int) (hF : Byts n F) (hG : Byts n G) (h : byts n F = byts n G) : ∀ i, i < n → F i = G i := by
  refine ints_inj .u8 n F G ?_
  rw [← byts_ints n F hF, ← byts_ints n G hG, h]
theorem byts_congr (n : Nat) (F G : Nat → Int) (h : ∀ i, i < n → F i = G i) : byts n F = byts n G := by
  unfold byts
  refine List.map_congr_left fun i hi => ?_
  rw [h i (List.mem_range.1 hi)]
theorem byts_beq (n : Nat) (F G : Nat → Int) (hF : Byts n F) (hG : Byts n G) (b : Bool) (hb : b = true ↔ ∀ i, i < n → F i = G i) : (byts n F == byts n G) = b := by
  rw [Bool.eq_iff_iff, beq_iff_eq, hb]
  exact ⟨byts_inj n F G hF hG, byts_congr n F G⟩
theorem byte_one (w : World) : (sizeOf 5).run Try.prog w = .ok 1 w := by kernel_rfl
theorem eql_ints (t : TypeId) (n : Nat) (ht : Try.prog.underlying t = some (.array n 5)) (F G : Nat → Int) (hF : Byts n F) (hG : Byts n G) (b : Bool) (hb : b = true ↔ ∀ i, i < n → F i = G i) (w : World) :
    (binOp .eql t (.agg (ints .u8 n F).toArray) (.agg (ints .u8 n G).toArray)).run Try.prog w = .ok (.bool b) w := by
  have h := run_eql_bytes (P := Try.prog) w t 5 n ht Try.underlying5 byte_one (byts n F) (byts n G) (byts_len n F) (byts_len n G)
  rw [byts_ints n F hF, byts_ints n G hG, byts_beq n F G hF hG b hb] at h
  exact h
theorem neq_ints (t : TypeId) (n : Nat) (ht : Try.prog.underlying t = some (.array n 5)) (F G : Nat → Int) (hF : Byts n F) (hG : Byts n G) (b : Bool) (hb : b = true ↔ ∀ i, i < n → F i = G i) (w : World) :
    (binOp .neq t (.agg (ints .u8 n F).toArray) (.agg (ints .u8 n G).toArray)).run Try.prog w = .ok (.bool (!b)) w := by
  have h := run_equalIn_bytes (P := Try.prog) w 9998 t 5 n ht Try.underlying5 byte_one (byts n F) (byts n G) (byts_len n F) (byts_len n G)
  rw [byts_ints n F hF, byts_ints n G hG, byts_beq n F G hF hG b hb] at h
  rw [run_neq_struct, h]; rfl
end Go.Proofs.Ytcpjmfemgdgplaa
