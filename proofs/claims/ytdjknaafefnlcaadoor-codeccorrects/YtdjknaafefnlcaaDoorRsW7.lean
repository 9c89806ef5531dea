/-
  Blocks of bytes, copies between them; the word of stored and virtual symbols; the generator told.
-/
import Derived.Test.YtdjknaafefnlcaaDoorRsW6
import Derived.Laws.CopyOwn
import Derived.Deep.OwnRows
import Derived.Deep.RegionHeld3
namespace Go.Proofs.YtdjknaafefnlcaaDoor
open Go.RowKit Go.Shelf
open Gf (gI eI)
open Po (El mu pwr ev S cf toE cv Low rts)
open Rm (al sy)
attribute [local go_sem] Oper.semAt_some

/-- block b is n bytes, no more -/
def Blk (W : World) (b n : Nat) (F : Nat → El) : Prop := ∃ t, W.heap[b]? = some (.cells (arr n F).toArray t (0, 0))
section
variable {W W' : World} {b n : Nat} {F G : Nat → El}
theorem Blk.new (W : World) (n : Nat) (F : Nat → El) (t : TypeId) : Blk (W.alloc (.cells (arr n F).toArray t)) W.heap.size n F := ⟨t, World.alloc_heap_new W _⟩
theorem Blk.of (h : Blk W b n F) (k : W'.heap[b]? = W.heap[b]?) : Blk W' b n F := by
  obtain ⟨t, h⟩ := h
  exact ⟨t, k.trans h⟩
theorem Blk.lt (h : Blk W b n F) : b < W.heap.size := by
  obtain ⟨t, h⟩ := h
  exact (Array.getElem?_eq_some_iff.1 h).1
theorem Blk.alloc (h : Blk W b n F) (o : Obj) : Blk (W.alloc o) b n F := h.of (Below.heap_alloc W o b h.lt)
theorem Blk.below {C : Nat} (h : Blk W b n F) (k : Below C W W') (hb : b < C) : Blk W' b n F := h.of (k.block b hb)
theorem Blk.next (h : Blk W b n F) (k : Below W.heap.size W W') : Blk W' b n F := h.below k h.lt
theorem Blk.stay {B : Nat} (h : Blk W b n F) (k : Stay B W W') : Blk W' b n F := by
  obtain ⟨t, h⟩ := h
  exact ⟨t, k.cells _ _ h rfl⟩
theorem Blk.keep {M : Nat → Prop} (h : Blk W b n F) (k : Keep M W W') (hm : ¬ M b) : Blk W' b n F := h.of (k.2 b h.lt hm)
theorem Blk.drewN (h : Blk W b n F) (k : Nat) : Blk (W.drewN k) b n F := h
theorem Blk.drew (h : Blk W b n F) : Blk W.drew b n F := h
theorem Blk.arr (h : Blk W b n F) : Arr W b n F := by
  obtain ⟨t, h⟩ := h
  intro i hi
  rw [cell_of_row _ _ i _ _ (0, 0) h]
  simpa using arr_at n F i hi
theorem Blk.row (h : Blk W b n F) : ∃ t, W.rowIs b t n (fun i => .int .u8 (oe (F i))) := by
  obtain ⟨t, h⟩ := h
  refine ⟨t, _, h, by simp [arr_len], fun i hi => ?_⟩
  simpa using arr_at n F i hi
theorem Blk.ofRow {t : TypeId} (h : W.rowIs b t n (fun i => .int .u8 (oe (F i)))) : Blk W b n F := by
  obtain ⟨c, h1, h2, h3⟩ := h
  refine ⟨t, ?_⟩
  rw [h1]
  have : c = (Go.Proofs.YtdjknaafefnlcaaDoor.arr n F).toArray := by
    refine Array.ext_getElem? fun i => ?_
    by_cases hi : i < n
    · rw [h3 i hi]; simpa using (arr_at n F i hi).symm
    · rw [Array.getElem?_eq_none (by omega), Array.getElem?_eq_none (by simp [arr_len]; omega)]
  rw [this]
theorem Blk.free (h : Blk W b n F) (i : Nat) : W.frozen? ⟨b, i, none⟩ = false := by
  obtain ⟨t, h⟩ := h.row
  exact h.frozen i
theorem Blk.arrW (h : Blk W b n F) : ArrW W b n F := ⟨h.arr, fun i _ => h.free i⟩
theorem Blk.range (h : Blk W b n F) : W.rangeAt b 0 (Go.Proofs.YtdjknaafefnlcaaDoor.arr n F) := h.arr.range
theorem Blk.there (h : Blk W b n F) : W.there b 0 (Go.Proofs.YtdjknaafefnlcaaDoor.arr n G).toArray.size := by
  rw [show (Go.Proofs.YtdjknaafefnlcaaDoor.arr n G).toArray.size = n from by simp [arr_len]]
  exact h.arrW.there
theorem Blk.set (h : Blk W b n F) (i : Nat) (e : El) : Blk (W.setCell ⟨b, i, none⟩ (.int .u8 (oe e))) b n (fun k => if k = i then e else F k) := by
  obtain ⟨t, h⟩ := h.row
  refine Blk.ofRow (t := t) ((h.set i _).congr fun j _ => ?_)
  by_cases hj : j = i
  · simp [hj]
  · simp [hj]
theorem Blk.other (h : Blk W b n F) {c : Nat} (hc : b ≠ c) (i : Nat) (v : Value) : Blk (W.setCell ⟨c, i, none⟩ v) b n F := h.of (Below.heap_setCell W ⟨c, i, none⟩ v b hc)
theorem Blk.congr (h : Blk W b n F) (k : ∀ i, i < n → F i = G i) : Blk W b n G := by
  obtain ⟨t, h⟩ := h
  exact ⟨t, by rw [← arr_congr n F G k]; exact h⟩
theorem row_put {t : TypeId} {m : Nat} : ∀ (vs : List Value) (o : Nat) (W : World) (f : Nat → Value), W.rowIs b t m f → (W.setCells b o vs).rowIs b t m (fun j => if o ≤ j ∧ j < o + vs.length then vs[j - o]?.getD default else f j)
  | [], o, W, f, h => h.congr (fun j _ => by rw [if_neg (by simp)])
  | v :: r, o, W, f, h => by
    refine (row_put r (o + 1) _ _ (h.set o v)).congr (fun j _ => ?_)
    by_cases h1 : j = o
    · subst h1
      rw [if_neg (by omega), if_pos rfl, if_pos (by simp), Nat.sub_self]
      rfl
    · by_cases h2 : o + 1 ≤ j ∧ j < o + 1 + r.length
      · rw [if_pos h2, if_pos (by simp; omega), show j - o = (j - (o + 1)) + 1 by omega, List.getElem?_cons_succ]
      · rw [if_neg h2, if_neg h1, if_neg (by simp; omega)]
theorem Blk.put (h : Blk W b n F) (G : Nat → El) : Blk (W.setCells b 0 (Go.Proofs.YtdjknaafefnlcaaDoor.arr n G)) b n G := by
  obtain ⟨t, h⟩ := h.row
  refine Blk.ofRow (t := t) ((row_put _ 0 W _ h).congr fun j hj => ?_)
  rw [if_pos (by rw [arr_len]; omega), Nat.sub_zero, arr_at n G j hj]
  rfl
theorem heap_put (c : Nat) : ∀ (vs : List Value) (o : Nat) (W : World) (k : Nat), k ≠ c → (W.setCells c o vs).heap[k]? = W.heap[k]?
  | [], _, _, _, _ => rfl
  | v :: vs, o, W, k, h => (heap_put c vs (o + 1) _ k h).trans (Below.heap_setCell W ⟨c, o, none⟩ v k h)
theorem Blk.putOther (h : Blk W b n F) {c : Nat} (hc : b ≠ c) (o : Nat) (vs : List Value) : Blk (W.setCells c o vs) b n F := h.of (heap_put c vs o W b hc)
end
theorem below_puts {B b : Nat} {w W : World} (h : Below B w W) (hb : B ≤ b) (o : Nat) (vs : List Value) : Below B w (W.setCells b o vs) := below_put5 hb vs o h

/-- just block g was turned -/
structure Only (g : Nat) (W W' : World) : Prop where
  below : ∀ (B : Nat) (w0 : World), Below B w0 W → B ≤ g → Below B w0 W'
  block : ∀ k, k ≠ g → W'.heap[k]? = W.heap[k]?
/-- k bytes of G laid into F from the place o on -/
def cpy (F : Nat → El) (o k : Nat) (G : Nat → El) (i : Nat) : El := if o ≤ i ∧ i < o + k then G (i - o) else F i
theorem splice_arr (n : Nat) (F : Nat → El) (o k : Nat) (G : Nat → El) (h : o + k ≤ n) : splice (arr n F) o (arr k G) = arr n (cpy F o k G) := by
  refine List.ext_getElem? fun i => ?_
  by_cases hi : i < n
  · rw [arr_at n _ i hi]
    unfold splice cpy
    by_cases h1 : i < o
    · rw [List.getElem?_append_left (by rw [List.length_take, arr_len]; omega), List.getElem?_take, if_pos h1, arr_at n F i hi, if_neg (by omega)]
    · rw [List.getElem?_append_right (by rw [List.length_take, arr_len]; omega), List.length_take, arr_len n, arr_len k, Nat.min_eq_left (show o ≤ n by omega)]
      by_cases h2 : i < o + k
      · rw [List.getElem?_append_left (by simp [arr_len]; omega), arr_at k G _ (by omega), if_pos (by omega)]
      · rw [List.getElem?_append_right (by simp [arr_len]; omega), arr_len, List.getElem?_drop, if_neg (by omega), show o + k + (i - o - k) = i from by omega, arr_at n F i hi]
  · rw [List.getElem?_eq_none (by rw [length_splice _ _ _ (by simp [arr_len]; omega), arr_len]; omega), List.getElem?_eq_none (by rw [arr_len]; omega)]
theorem arr_one' (k : Nat) (G : Nat → El) : ∀ v ∈ arr k G, v.oneCell' = true := by
  intro v hv
  obtain ⟨i, _, rfl⟩ := List.mem_map.1 hv
  rfl
theorem size_byte : (Tryd.prog.info? 5).map (·.size) = some 1 := by kernel_rfl
/-- a copy between blocks of bytes, as one step of a region that draws its order -/
theorem step_cpy {ops : Array Oper} {o : Oper} {a : Act} {w : World} {K : Act → World → Prop} {Q : Exit → Act → World → Prop} {E : Prop} (hgd : o.guard = none) (d s : Operand)
    (ho : o.op = .call { callee := .builtin .copy, args := #[d, s], argTypes := #[52, 52] })
    (g off dLen dCap sb so sLen sCap n k : Nat) (F G : Nat → El) (hd : a.eval d = .slice (some ⟨g, off, none⟩) dLen dCap) (hs : a.eval s = .slice (some ⟨sb, so, none⟩) sLen sCap)
    (hg : Blk w g n F) (hk : k = Nat.min sLen dLen) (hsrc : ∀ j : Nat, j < k → w.cell? ⟨sb, so + j, none⟩ = some (.int .u8 (oe (G j)))) (hfit : off + k ≤ n)
    (h : ∀ w', Hid (Blk w' g n (cpy F off k G)) → Hid (Only g w w') → K (a.put o.dst (goInt k)) w') :
    if Region.wanted o (yielded ops a.tmps) = true then Oper.wp Tryd.prog o a w K Q else E := by
  obtain ⟨t, hg⟩ := hg
  have hw : Region.wanted o (yielded ops a.tmps) = true := by simp [Region.wanted, hgd]
  rw [if_pos hw]
  have hrun := run_copy_row (P := Tryd.prog) w 52 52 o.type 5 g off dLen dCap ⟨sb, so, none⟩ sLen sCap (arr n F).toArray t (arr k G) Tryd.underlying52 size_byte hg (by rw [arr_len]; exact hk)
    (fun j v hv => by
      have hj : j < k := by have := (List.getElem?_eq_some_iff.1 hv).1; rw [arr_len] at this; exact this
      rw [arr_at k G j hj] at hv
      cases hv
      rw [Addr.add_mid]; exact hsrc j hj) (by simp [arr_len]; omega) (arr_one' k G)
  unfold Oper.wp
  simp [execOp, ho, resolve, invoke, builtin, hd, hs, hrun, Result.andThen, arr_len]
  refine h _ ⟨t, ?_⟩ ⟨fun B w0 hb hB => below_setRow hb hB _, fun k hk => setRow_other w g k _ hk⟩
  rw [← splice_arr n F off k G hfit, setRow_heap w g _ _ t _ hg]
  simp [splice, arr_len]

theorem zero39' (w : World) : (zeroValue 123).run Tryd.prog w = .ok (.agg (arr 39 fun _ => 0).toArray) w := by kernel_rfl

set_option maxRecDepth 100000 in
set_option maxHeartbeats 1000000 in
theorem join_any (F G : Nat → El) (w : World) :
    Calls Tryd.prog 66 #[.agg (arr 36 F).toArray, .agg (arr 3 G).toArray] w fun e w' => e = .returned (.agg (arr 39 (wd F G)).toArray) ∧ Below w.heap.size w w' := by
  have hz := zero39
  obtain ⟨A0, hA0⟩ : ∃ A, (arr 36 F).toArray = A := ⟨_, rfl⟩
  obtain ⟨A1, hA1⟩ : ∃ A, (arr 3 G).toArray = A := ⟨_, rfl⟩
  obtain ⟨A2, hA2⟩ : ∃ A, (arr 39 fun _ => 0).toArray = A := ⟨_, rfl⟩
  rw [hA2] at hz
  rw [hA0, hA1]
  go_enter Tryd.func66, Tryd.ntmps66
  go_wp2
  obtain ⟨V, hV⟩ : ∃ V, (((w.alloc (.cells A0 93)).alloc (.cells A1 37)).alloc (.cells A2 123)).alloc (.cells A2 123) = V := ⟨_, rfl⟩
  have HI : Hid (Blk V w.heap.size 36 F ∧ Blk V (w.heap.size + 1) 3 G ∧ Blk V (w.heap.size + 1 + 1) 39 (fun _ => 0) ∧ Blk V (w.heap.size + 1 + 1 + 1) 39 (fun _ => 0) ∧ Below w.heap.size w V) := by
    rw [← hV, ← hA0, ← hA1, ← hA2]
    have h0 := Blk.new w 36 F 93
    have h1 := Blk.new (w.alloc (.cells (arr 36 F).toArray 93)) 3 G 37
    have h2 := Blk.new ((w.alloc (.cells (arr 36 F).toArray 93)).alloc (.cells (arr 3 G).toArray 37)) 39 (fun _ => 0) 123
    have h3 := Blk.new (((w.alloc (.cells (arr 36 F).toArray 93)).alloc (.cells (arr 3 G).toArray 37)).alloc (.cells (arr 39 fun _ => 0).toArray 123)) 39 (fun _ => 0) 123
    simp only [World.size_alloc] at h1 h2 h3
    exact ⟨((h0.alloc _).alloc _).alloc _, (h1.alloc _).alloc _, h2.alloc _, h3, ((((Below.refl _ w).alloc (Nat.le_refl _) _).alloc (by simp) _).alloc (by simp; omega) _).alloc (by simp; omega) _⟩
  obtain ⟨B, hB⟩ : ∃ B, w.heap.size = B := ⟨_, rfl⟩
  obtain ⟨C, hC⟩ : ∃ C, B + 1 = C := ⟨_, rfl⟩
  obtain ⟨D, hD⟩ : ∃ D, C + 1 = D := ⟨_, rfl⟩
  obtain ⟨E, hE⟩ : ∃ E, D + 1 = E := ⟨_, rfl⟩
  rw [hV]
  rw [hB, hC, hD, hE] at HI ⊢
  have nB : B ≠ E := by omega
  have nC : C ≠ E := by omega
  have nD : D ≠ E := by omega
  have nBD : B ≤ D := by omega
  have nBE : B ≤ E := by omega
  clear hV hA0 hA1 hA2 hz hC hD hE
  go_region_held3 (fun _ => True) (trivial)
    (first | (refine step_cpy rfl _ _ rfl E 0 36 39 B 0 36 36 39 36 (fun _ => 0) F rfl rfl HI.out.2.2.2.1.drew rfl (fun j hj => by rw [Nat.zero_add]; exact HI.out.1.arr j hj) (by omega) ?_; intro V1 g1 k1))
  have hb1 : Hid (Below B w V1) := k1.out.below _ _ (below_drewN HI.out.2.2.2.2 1) nBE
  have hc1 : Hid (Blk V1 C 3 G) := HI.out.2.1.of (k1.out.block C nC)
  have hd1 : Hid (Blk V1 D 39 fun _ => 0) := HI.out.2.2.1.of (k1.out.block D nD)
  clear HI k1 A2
  go_wp2
  go_region_held3 (fun _ => True) (trivial)
    (first | (refine step_cpy rfl _ _ rfl E 36 3 3 C 0 3 3 39 3 (cpy (fun _ => 0) 0 36 F) G rfl rfl g1.out.drew rfl (fun j hj => by rw [Nat.zero_add]; exact hc1.out.arr j hj) (by omega) ?_; intro V2 g2 k2))
  have ge : Blk V2 E 39 (wd F G) := g2.out.congr fun i hi => by
    unfold cpy wd
    by_cases h1 : i < 36
    · rw [if_neg (by omega), if_pos (by omega), if_pos h1, Nat.sub_zero]
    · rw [if_pos (by omega), if_neg h1]
  have gd : Blk V2 D 39 fun _ => 0 := hd1.out.of (k2.out.block D nD)
  have HB : Hid (Below B w V2) := k2.out.below _ _ (below_drewN hb1.out 1) nBE
  clear g1 g2 k2 hb1 hc1 hd1
  have hr := ge.range
  have ht : V2.there D 0 (arr 39 (wd F G)).toArray.size := gd.there
  have hi9 : (Tryd.prog.info? 123).map (·.size) = some (arr 39 (wd F G)).length := by rw [arr_len]; exact info39
  have hone := arr_one 39 (wd F G)
  obtain ⟨L, hL⟩ : ∃ L, arr 39 (wd F G) = L := ⟨_, rfl⟩
  rw [hL] at hr ht hi9 hone
  have HL : Hid (arr 39 (wd F G) = L) := hL
  clear hL ge gd
  go_wp2_with (first | refine wpList_load_mid rfl 123 _ rfl _ 0 rfl L _ hr Tryd.underlying123 rfl hi9 ?_ | refine wpList_store_mid rfl 123 _ _ rfl _ 0 L.toArray rfl rfl ht hi9 hone ?_)
  have hs : (V2.setCells D 0 L).rangeAt D 0 L := World.rangeAt_setCells_same V2 _ 0 L (by simpa using ht)
  have hld := run_loadVar_mid (P := Tryd.prog) (V2.setCells D 0 L) D 0 123 L _ hs Tryd.underlying123 rfl hi9
  refine bodyPost_ret (v := .agg L.toArray) ?_ rfl ⟨by rw [HL.out], by rw [hB]; exact below_put5 nBD L 0 HB.out⟩
  simp [results, Tryd.f66, Act.put, asAddr, hld]
end Go.Proofs.YtdjknaafefnlcaaDoor
