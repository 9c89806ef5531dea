/-
  Texts of one family, one behind another: RsW7, Round, RsW9, RsW10.
-/
import Derived.Test.YtoimbjbdkkohcaaGreatDoorM06
import Derived.Laws.CopyOwn
import Derived.Deep.OwnRows
import Derived.Deep.RegionHeld3
import Derived.Test.YtoimbjbdkkohcaaGreatDoorM01
import Derived.OrdersHeld
import Derived.Deep.RegionHeld
import Derived.Stop.BytesEq

/-
  Blocks of bytes, copies between them; the word of stored and virtual symbols; the generator told.
-/
namespace Go.Proofs.YtoimbjbdkkohcaaGreatDoor
open Go.RowKit Go.Shelf
open Gf (gI eI)
open Po (El mu pwr ev S cf toE cv Low rts)
open Rm (al sy)
attribute [local go_sem] Oper.semAt_some

/-- block b is n bytes, no more -/
def Blk (W : World) (b n : Nat) (F : Nat → El) : Prop := ∃ t, W.heap[b]? = some (.cells (arr n F).toArray t (0, 0))
section
variable {W W' : World} {b n : Nat} {F G : Nat → El}
theorem Blk.new (W : World) (n : Nat) (F : Nat → El) (t : TypeId) : Blk (W.alloc (.cells (arr n F).toArray t)) W.heap.size n F := ⟨t, World.alloc_heap_new W _⟩
theorem Blk.of (h : Blk W b n F) (k : W'.heap[b]? = W.heap[b]?) : Blk W' b n F := by
  obtain ⟨t, h⟩ := h
  exact ⟨t, k.trans h⟩
theorem Blk.lt (h : Blk W b n F) : b < W.heap.size := by
  obtain ⟨t, h⟩ := h
  exact (Array.getElem?_eq_some_iff.1 h).1
theorem Blk.alloc (h : Blk W b n F) (o : Obj) : Blk (W.alloc o) b n F := h.of (Below.heap_alloc W o b h.lt)
theorem Blk.below {C : Nat} (h : Blk W b n F) (k : Below C W W') (hb : b < C) : Blk W' b n F := h.of (k.block b hb)
theorem Blk.next (h : Blk W b n F) (k : Below W.heap.size W W') : Blk W' b n F := h.below k h.lt
theorem Blk.stay {B : Nat} (h : Blk W b n F) (k : Stay B W W') : Blk W' b n F := by
  obtain ⟨t, h⟩ := h
  exact ⟨t, k.cells _ _ h rfl⟩
theorem Blk.keep {M : Nat → Prop} (h : Blk W b n F) (k : Keep M W W') (hm : ¬ M b) : Blk W' b n F := h.of (k.2 b h.lt hm)
theorem Blk.drewN (h : Blk W b n F) (k : Nat) : Blk (W.drewN k) b n F := h
theorem Blk.drew (h : Blk W b n F) : Blk W.drew b n F := h
theorem Blk.arr (h : Blk W b n F) : Arr W b n F := by
  obtain ⟨t, h⟩ := h
  intro i hi
  rw [cell_of_row _ _ i _ _ (0, 0) h]
  simpa using arr_at n F i hi
theorem Blk.row (h : Blk W b n F) : ∃ t, W.rowIs b t n (fun i => .int .u8 (oe (F i))) := by
  obtain ⟨t, h⟩ := h
  refine ⟨t, _, h, by simp [arr_len], fun i hi => ?_⟩
  simpa using arr_at n F i hi
theorem Blk.ofRow {t : TypeId} (h : W.rowIs b t n (fun i => .int .u8 (oe (F i)))) : Blk W b n F := by
  obtain ⟨c, h1, h2, h3⟩ := h
  refine ⟨t, ?_⟩
  rw [h1]
  have : c = (Go.Proofs.YtoimbjbdkkohcaaGreatDoor.arr n F).toArray := by
    refine Array.ext_getElem? fun i => ?_
    by_cases hi : i < n
    · rw [h3 i hi]; simpa using (arr_at n F i hi).symm
    · rw [Array.getElem?_eq_none (by omega), Array.getElem?_eq_none (by simp [arr_len]; omega)]
  rw [this]
theorem Blk.free (h : Blk W b n F) (i : Nat) : W.frozen? ⟨b, i, none⟩ = false := by
  obtain ⟨t, h⟩ := h.row
  exact h.frozen i
theorem Blk.arrW (h : Blk W b n F) : ArrW W b n F := ⟨h.arr, fun i _ => h.free i⟩
theorem Blk.range (h : Blk W b n F) : W.rangeAt b 0 (Go.Proofs.YtoimbjbdkkohcaaGreatDoor.arr n F) := h.arr.range
theorem Blk.there (h : Blk W b n F) : W.there b 0 (Go.Proofs.YtoimbjbdkkohcaaGreatDoor.arr n G).toArray.size := by
  rw [show (Go.Proofs.YtoimbjbdkkohcaaGreatDoor.arr n G).toArray.size = n from by simp [arr_len]]
  exact h.arrW.there
theorem Blk.set (h : Blk W b n F) (i : Nat) (e : El) : Blk (W.setCell ⟨b, i, none⟩ (.int .u8 (oe e))) b n (fun k => if k = i then e else F k) := by
  obtain ⟨t, h⟩ := h.row
  refine Blk.ofRow (t := t) ((h.set i _).congr fun j _ => ?_)
  by_cases hj : j = i
  · simp [hj]
  · simp [hj]
theorem Blk.other (h : Blk W b n F) {c : Nat} (hc : b ≠ c) (i : Nat) (v : Value) : Blk (W.setCell ⟨c, i, none⟩ v) b n F := h.of (Below.heap_setCell W ⟨c, i, none⟩ v b hc)
theorem Blk.congr (h : Blk W b n F) (k : ∀ i, i < n → F i = G i) : Blk W b n G := by
  obtain ⟨t, h⟩ := h
  exact ⟨t, by rw [← arr_congr n F G k]; exact h⟩
theorem row_put {t : TypeId} {m : Nat} : ∀ (vs : List Value) (o : Nat) (W : World) (f : Nat → Value), W.rowIs b t m f → (W.setCells b o vs).rowIs b t m (fun j => if o ≤ j ∧ j < o + vs.length then vs[j - o]?.getD default else f j)
  | [], o, W, f, h => h.congr (fun j _ => by rw [if_neg (by simp)])
  | v :: r, o, W, f, h => by
    refine (row_put r (o + 1) _ _ (h.set o v)).congr (fun j _ => ?_)
    by_cases h1 : j = o
    · subst h1
      rw [if_neg (by omega), if_pos rfl, if_pos (by simp), Nat.sub_self]
      rfl
    · by_cases h2 : o + 1 ≤ j ∧ j < o + 1 + r.length
      · rw [if_pos h2, if_pos (by simp; omega), show j - o = (j - (o + 1)) + 1 by omega, List.getElem?_cons_succ]
      · rw [if_neg h2, if_neg h1, if_neg (by simp; omega)]
theorem Blk.put (h : Blk W b n F) (G : Nat → El) : Blk (W.setCells b 0 (Go.Proofs.YtoimbjbdkkohcaaGreatDoor.arr n G)) b n G := by
  obtain ⟨t, h⟩ := h.row
  refine Blk.ofRow (t := t) ((row_put _ 0 W _ h).congr fun j hj => ?_)
  rw [if_pos (by rw [arr_len]; omega), Nat.sub_zero, arr_at n G j hj]
  rfl
theorem heap_put (c : Nat) : ∀ (vs : List Value) (o : Nat) (W : World) (k : Nat), k ≠ c → (W.setCells c o vs).heap[k]? = W.heap[k]?
  | [], _, _, _, _ => rfl
  | v :: vs, o, W, k, h => (heap_put c vs (o + 1) _ k h).trans (Below.heap_setCell W ⟨c, o, none⟩ v k h)
theorem Blk.putOther (h : Blk W b n F) {c : Nat} (hc : b ≠ c) (o : Nat) (vs : List Value) : Blk (W.setCells c o vs) b n F := h.of (heap_put c vs o W b hc)
end
theorem below_puts {B b : Nat} {w W : World} (h : Below B w W) (hb : B ≤ b) (o : Nat) (vs : List Value) : Below B w (W.setCells b o vs) := below_put5 hb vs o h

/-- just block g was turned -/
structure Only (g : Nat) (W W' : World) : Prop where
  below : ∀ (B : Nat) (w0 : World), Below B w0 W → B ≤ g → Below B w0 W'
  block : ∀ k, k ≠ g → W'.heap[k]? = W.heap[k]?
/-- k bytes of G laid into F from the place o on -/
def cpy (F : Nat → El) (o k : Nat) (G : Nat → El) (i : Nat) : El := if o ≤ i ∧ i < o + k then G (i - o) else F i
theorem splice_arr (n : Nat) (F : Nat → El) (o k : Nat) (G : Nat → El) (h : o + k ≤ n) : splice (arr n F) o (arr k G) = arr n (cpy F o k G) := by
  refine List.ext_getElem? fun i => ?_
  by_cases hi : i < n
  · rw [arr_at n _ i hi]
    unfold splice cpy
    by_cases h1 : i < o
    · rw [List.getElem?_append_left (by rw [List.length_take, arr_len]; omega), List.getElem?_take, if_pos h1, arr_at n F i hi, if_neg (by omega)]
    · rw [List.getElem?_append_right (by rw [List.length_take, arr_len]; omega), List.length_take, arr_len n, arr_len k, Nat.min_eq_left (show o ≤ n by omega)]
      by_cases h2 : i < o + k
      · rw [List.getElem?_append_left (by simp [arr_len]; omega), arr_at k G _ (by omega), if_pos (by omega)]
      · rw [List.getElem?_append_right (by simp [arr_len]; omega), arr_len, List.getElem?_drop, if_neg (by omega), show o + k + (i - o - k) = i from by omega, arr_at n F i hi]
  · rw [List.getElem?_eq_none (by rw [length_splice _ _ _ (by simp [arr_len]; omega), arr_len]; omega), List.getElem?_eq_none (by rw [arr_len]; omega)]
theorem arr_one' (k : Nat) (G : Nat → El) : ∀ v ∈ arr k G, v.oneCell' = true := by
  intro v hv
  obtain ⟨i, _, rfl⟩ := List.mem_map.1 hv
  rfl
theorem size_byte : (Tryz.prog.info? 5).map (·.size) = some 1 := by kernel_rfl
/-- a copy between blocks of bytes, as one step of a region that draws its order -/
theorem step_cpy {ops : Array Oper} {o : Oper} {a : Act} {w : World} {K : Act → World → Prop} {Q : Exit → Act → World → Prop} {E : Prop} (hgd : o.guard = none) (d s : Operand)
    (ho : o.op = .call { callee := .builtin .copy, args := #[d, s], argTypes := #[69, 69] })
    (g off dLen dCap sb so sLen sCap n k : Nat) (F G : Nat → El) (hd : a.eval d = .slice (some ⟨g, off, none⟩) dLen dCap) (hs : a.eval s = .slice (some ⟨sb, so, none⟩) sLen sCap)
    (hg : Blk w g n F) (hk : k = Nat.min sLen dLen) (hsrc : ∀ j : Nat, j < k → w.cell? ⟨sb, so + j, none⟩ = some (.int .u8 (oe (G j)))) (hfit : off + k ≤ n)
    (h : ∀ w', Hid (Blk w' g n (cpy F off k G)) → Hid (Only g w w') → K (a.put o.dst (goInt k)) w') :
    if Region.wanted o (yielded ops a.tmps) = true then Oper.wp Tryz.prog o a w K Q else E := by
  obtain ⟨t, hg⟩ := hg
  have hw : Region.wanted o (yielded ops a.tmps) = true := by simp [Region.wanted, hgd]
  rw [if_pos hw]
  have hrun := run_copy_row (P := Tryz.prog) w 69 69 o.type 5 g off dLen dCap ⟨sb, so, none⟩ sLen sCap (arr n F).toArray t (arr k G) Tryz.underlying69 size_byte hg (by rw [arr_len]; exact hk)
    (fun j v hv => by
      have hj : j < k := by have := (List.getElem?_eq_some_iff.1 hv).1; rw [arr_len] at this; exact this
      rw [arr_at k G j hj] at hv
      cases hv
      rw [Addr.add_mid]; exact hsrc j hj) (by simp [arr_len]; omega) (arr_one' k G)
  unfold Oper.wp
  simp [execOp, ho, resolve, invoke, builtin, hd, hs, hrun, Result.andThen, arr_len]
  refine h _ ⟨t, ?_⟩ ⟨fun B w0 hb hB => below_setRow hb hB _, fun k hk => setRow_other w g k _ hk⟩
  rw [← splice_arr n F off k G hfit, setRow_heap w g _ _ t _ hg]
  simp [splice, arr_len]

theorem zero39' (w : World) : (zeroValue 52).run Tryz.prog w = .ok (.agg (arr 39 fun _ => 0).toArray) w := by kernel_rfl

set_option maxRecDepth 100000 in
set_option maxHeartbeats 1000000 in
theorem join_any (F G : Nat → El) (w : World) :
    Calls Tryz.prog 72 #[.agg (arr 36 F).toArray, .agg (arr 3 G).toArray] w fun e w' => e = .returned (.agg (arr 39 (wd F G)).toArray) ∧ Below w.heap.size w w' := by
  have hz := zero39
  obtain ⟨A0, hA0⟩ : ∃ A, (arr 36 F).toArray = A := ⟨_, rfl⟩
  obtain ⟨A1, hA1⟩ : ∃ A, (arr 3 G).toArray = A := ⟨_, rfl⟩
  obtain ⟨A2, hA2⟩ : ∃ A, (arr 39 fun _ => 0).toArray = A := ⟨_, rfl⟩
  rw [hA2] at hz
  rw [hA0, hA1]
  go_enter Tryz.func72, Tryz.ntmps72
  go_wp2
  obtain ⟨V, hV⟩ : ∃ V, (((w.alloc (.cells A0 49)).alloc (.cells A1 54)).alloc (.cells A2 52)).alloc (.cells A2 52) = V := ⟨_, rfl⟩
  have HI : Hid (Blk V w.heap.size 36 F ∧ Blk V (w.heap.size + 1) 3 G ∧ Blk V (w.heap.size + 1 + 1) 39 (fun _ => 0) ∧ Blk V (w.heap.size + 1 + 1 + 1) 39 (fun _ => 0) ∧ Below w.heap.size w V) := by
    rw [← hV, ← hA0, ← hA1, ← hA2]
    have h0 := Blk.new w 36 F 49
    have h1 := Blk.new (w.alloc (.cells (arr 36 F).toArray 49)) 3 G 54
    have h2 := Blk.new ((w.alloc (.cells (arr 36 F).toArray 49)).alloc (.cells (arr 3 G).toArray 54)) 39 (fun _ => 0) 52
    have h3 := Blk.new (((w.alloc (.cells (arr 36 F).toArray 49)).alloc (.cells (arr 3 G).toArray 54)).alloc (.cells (arr 39 fun _ => 0).toArray 52)) 39 (fun _ => 0) 52
    simp only [World.size_alloc] at h1 h2 h3
    exact ⟨((h0.alloc _).alloc _).alloc _, (h1.alloc _).alloc _, h2.alloc _, h3, ((((Below.refl _ w).alloc (Nat.le_refl _) _).alloc (by simp) _).alloc (by simp; omega) _).alloc (by simp; omega) _⟩
  obtain ⟨B, hB⟩ : ∃ B, w.heap.size = B := ⟨_, rfl⟩
  obtain ⟨C, hC⟩ : ∃ C, B + 1 = C := ⟨_, rfl⟩
  obtain ⟨D, hD⟩ : ∃ D, C + 1 = D := ⟨_, rfl⟩
  obtain ⟨E, hE⟩ : ∃ E, D + 1 = E := ⟨_, rfl⟩
  rw [hV]
  rw [hB, hC, hD, hE] at HI ⊢
  have nB : B ≠ E := by omega
  have nC : C ≠ E := by omega
  have nD : D ≠ E := by omega
  have nBD : B ≤ D := by omega
  have nBE : B ≤ E := by omega
  clear hV hA0 hA1 hA2 hz hC hD hE
  go_region_held3 (fun _ => True) (trivial)
    (first | (refine step_cpy rfl _ _ rfl E 0 36 39 B 0 36 36 39 36 (fun _ => 0) F rfl rfl HI.out.2.2.2.1.drew rfl (fun j hj => by rw [Nat.zero_add]; exact HI.out.1.arr j hj) (by omega) ?_; intro V1 g1 k1))
  have hb1 : Hid (Below B w V1) := k1.out.below _ _ (below_drewN HI.out.2.2.2.2 1) nBE
  have hc1 : Hid (Blk V1 C 3 G) := HI.out.2.1.of (k1.out.block C nC)
  have hd1 : Hid (Blk V1 D 39 fun _ => 0) := HI.out.2.2.1.of (k1.out.block D nD)
  clear HI k1 A2
  go_wp2
  go_region_held3 (fun _ => True) (trivial)
    (first | (refine step_cpy rfl _ _ rfl E 36 3 3 C 0 3 3 39 3 (cpy (fun _ => 0) 0 36 F) G rfl rfl g1.out.drew rfl (fun j hj => by rw [Nat.zero_add]; exact hc1.out.arr j hj) (by omega) ?_; intro V2 g2 k2))
  have ge : Blk V2 E 39 (wd F G) := g2.out.congr fun i hi => by
    unfold cpy wd
    by_cases h1 : i < 36
    · rw [if_neg (by omega), if_pos (by omega), if_pos h1, Nat.sub_zero]
    · rw [if_pos (by omega), if_neg h1]
  have gd : Blk V2 D 39 fun _ => 0 := hd1.out.of (k2.out.block D nD)
  have HB : Hid (Below B w V2) := k2.out.below _ _ (below_drewN hb1.out 1) nBE
  clear g1 g2 k2 hb1 hc1 hd1
  have hr := ge.range
  have ht : V2.there D 0 (arr 39 (wd F G)).toArray.size := gd.there
  have hi9 : (Tryz.prog.info? 52).map (·.size) = some (arr 39 (wd F G)).length := by rw [arr_len]; exact info39
  have hone := arr_one 39 (wd F G)
  obtain ⟨L, hL⟩ : ∃ L, arr 39 (wd F G) = L := ⟨_, rfl⟩
  rw [hL] at hr ht hi9 hone
  have HL : Hid (arr 39 (wd F G) = L) := hL
  clear hL ge gd
  go_wp2_with (first | refine wpList_load_mid rfl 52 _ rfl _ 0 rfl L _ hr Tryz.underlying52 rfl hi9 ?_ | refine wpList_store_mid rfl 52 _ _ rfl _ 0 L.toArray rfl rfl ht hi9 hone ?_)
  have hs : (V2.setCells D 0 L).rangeAt D 0 L := World.rangeAt_setCells_same V2 _ 0 L (by simpa using ht)
  have hld := run_loadVar_mid (P := Tryz.prog) (V2.setCells D 0 L) D 0 52 L _ hs Tryz.underlying52 rfl hi9
  refine bodyPost_ret (v := .agg L.toArray) ?_ rfl ⟨by rw [HL.out], by rw [hB]; exact below_put5 nBD L 0 HB.out⟩
  simp [results, Tryz.f72, Act.put, asAddr, hld]
end Go.Proofs.YtoimbjbdkkohcaaGreatDoor

/-
  A region that draws its order within a round of a range over a function, by the laws of a plain one: a condition S holds along it, and behind it R.
-/
namespace Go.Proofs.YtoimbjbdkkohcaaGreatDoor
open Go.RowKit

theorem upon_wide {n : Nat} {P : Program} {o : Oper} {a : Act} {K : Act → World → Prop} {Q : Exit → Act → World → Prop} {r : Result Next} (h : o.upon P a K Q r) : o.uponIn Fence.wide n P a K Q r := by
  cases r with
  | ok x w' =>
    cases x with
    | value v => exact h
    | skip => exact h
    | defer d => exact h
    | enter f args => exact ⟨(fun e => by cases e), callsIn_wide.2 h⟩
    | row row args => exact ⟨(fun e => by cases e), fun c cs _ => let ⟨v, w'', r, s⟩ := h c cs; ⟨v, w'', r, stepsIn_wide.2 s⟩⟩
    | _ => exact h.elim
  | halt c w' => cases c <;> exact h
theorem oper_round {n l : Nat} {P : Program} {o : Oper} {a : Act} {w : World} {K K' : Act → World → Prop} {Q : Exit → Act → World → Prop} (hd : ∀ c, o.op ≠ .defer c) (hK : ∀ a w, K a w → K' a w)
    (h : o.wp P a w K Q) : o.wpIn (Fence.wide.inRound l) n P a w K' Q :=
  operIn_round hd hK ⟨fun _ _ => trivial, by rw [show Fence.wide.round = none from rfl, Oper.semAt_none]; exact upon_wide h⟩
theorem any_round {n l : Nat} {P : Program} {md : Region.Mode} {ops : Array Oper} {Q : Exit → Act → World → Prop} (hd : ∀ o ∈ ops.toList, ∀ c, o.op ≠ .defer c) (hL : ¬ LetsOut Q) :
    ∀ (fuel : Nat) (listed : Array Bool) (a : Act) (w : World), wpAny P md ops Q fuel listed a w → wpAnyIn (Fence.wide.inRound l) n P md ops Q fuel listed a w
  | 0, _, _, _, h => h
  | fuel + 1, listed, a, w, h => by
    refine ⟨h.1, fun i hi => ?_⟩
    have hi' := h.2 i hi
    unfold wpOpIn
    unfold wpOp at hi'
    cases ho : ops[i]? with
    | none => rw [ho] at hi'; exact any_round hd hL fuel _ _ _ hi'
    | some o =>
      rw [ho] at hi'
      simp only at hi' ⊢
      split at hi'
      · rename_i hw
        rw [if_pos hw]
        rcases hi' with hi' | hi'
        · exact oper_round (hd o (by rw [Array.mem_toList_iff]; exact Array.mem_of_getElem? ho)) (fun a w => any_round hd hL fuel _ a w) hi'
        · exact absurd hi'.2 hL
      · rename_i hw
        rw [if_neg hw]
        exact ⟨fun _ _ => trivial, any_round hd hL fuel _ _ _ hi'⟩
/-- where a region ends: by no way but its end, and R holds there -/
def Ends (R : Act → World → Prop) : Exit → Act → World → Prop
  | .normal, a, w => R a w
  | _, _, _ => False
theorem ends_in {R : Act → World → Prop} : ¬ LetsOut (Ends R) := fun ⟨_, _, h⟩ => h
theorem ends_panic {R : Act → World → Prop} {d : Option Tmp} {v : Value} : ∀ c a w, Ends R (.panic c) (a.put d v) w → Ends R (.panic c) a w := fun _ _ _ h => h
theorem region_round {id n l : Nat} {P : Program} {Q : Exit → Act → World → Prop} {a : Act} {w : World} {ops : Array Oper} (hm : P.follows .mixedOrders = true) (hd : noDefer ops.toList = true) (S : World → Prop) (R : Act → World → Prop) (hS : S w.drew)
    (h : S w.drew → wpAnyH P .any ops (Ends R) S ops.size (Array.replicate ops.size false) a w.drew) (hR : ∀ a' w', R a' w' → Q .normal a' w') : (Code.region id ops true).wpIn (Fence.wide.inRound l) n P Q a w := by
  refine wpIn_mono (Q := Ends R) (wpIn_region_any hm (any_round (noDefer_spec hd) ends_in _ _ _ _ (wpAny_of_held _ _ _ _ (h hS)))) ?_
  intro e a' w' he
  cases e with
  | normal => exact hR a' w' he
  | _ => exact he.elim
theorem region_ends {id : Nat} {P : Program} {Q : Exit → Act → World → Prop} {a : Act} {w : World} {ops : Array Oper} (hm : P.follows .mixedOrders = true) (S : World → Prop) (R : Act → World → Prop) (hS : S w.drew)
    (h : S w.drew → wpAnyH P .any ops (Ends R) S ops.size (Array.replicate ops.size false) a w.drew) (hR : ∀ a' w', R a' w' → Q .normal a' w') : (Code.region id ops true).wp P Q a w := by
  refine Code.wp_mono (Q := Ends R) ?_ (wp_region_held_drew hm hS h)
  intro e a' w' he
  cases e with
  | normal => exact hR a' w' he
  | _ => exact he.elim
/-- what yields v in every world of S is taken at once -/
theorem take_pure {P : Program} {ops : Array Oper} {R : Act → World → Prop} {S : World → Prop} {oi : Oper} {v : Value} {fuel : Nat} {listed : Array Bool} {a : Act} {w : World} (i : Nat) (hi : ops[i]? = some oi)
    (hf : (Region.noSelect ops && Region.free .any ops listed i && (Region.ready .any ops listed).contains i) = true) (hg : oi.guard = none) (hy : ∀ w, S w → (execOp a.eval oi).run P w = .ok (.value v) w) (hS : S w)
    (h : wpAnyH P .any ops (Ends R) S fuel (listed.setIfInBounds i true) (a.put oi.dst v) w) : wpAnyH P .any ops (Ends R) S (fuel + 1) listed a w := by
  simp only [Bool.and_eq_true] at hf
  exact wpAnyH_take hi hf.1.1 hf.1.2 hf.2 ends_panic (.inl ⟨by simp [Region.wanted, hg], hy⟩) hS h
theorem take_if {P : Program} {ops : Array Oper} {R : Act → World → Prop} {S : World → Prop} {oi : Oper} {v : Value} {fuel : Nat} {listed : Array Bool} {a : Act} {w : World} (i : Nat) (hi : ops[i]? = some oi)
    (hf : (Region.noSelect ops && Region.free .any ops listed i && (Region.ready .any ops listed).contains i) = true) (hy : YieldsIf P ops S oi v a) (hS : S w)
    (h : wpAnyH P .any ops (Ends R) S fuel (listed.setIfInBounds i true) (a.put oi.dst v) w) : wpAnyH P .any ops (Ends R) S (fuel + 1) listed a w := by
  simp only [Bool.and_eq_true] at hf
  exact wpAnyH_take hi hf.1.1 hf.1.2 hf.2 ends_panic hy hS h
theorem take_one {P : Program} {ops : Array Oper} {R : Act → World → Prop} {S : World → Prop} {oi : Oper} {fuel : Nat} {listed : Array Bool} {a : Act} {w : World} (i : Nat) (hi : ops[i]? = some oi) (hg : oi.guard = none)
    (hr : Region.ready .any ops listed = [i])
    (h : Oper.wp P oi a w (fun a' w' => S w' ∧ (S w' → wpAnyH P .any ops (Ends R) S fuel (listed.setIfInBounds i true) a' w')) (Ends R)) : wpAnyH P .any ops (Ends R) S (fuel + 1) listed a w := by
  refine wpAnyH_ready hr (by simp) (AllReadyH.cons hi (fun K hK => ?_) AllReadyH.nil)
  have hw : Region.wanted oi (yielded ops a.tmps) = true := by simp [Region.wanted, hg]
  rw [if_pos hw]
  exact Oper.wp_mono (fun a' w' h' => hK.out a' w' h'.1 h'.2) h
theorem take_oneG {P : Program} {ops : Array Oper} {R : Act → World → Prop} {S : World → Prop} {oi : Oper} {fuel : Nat} {listed : Array Bool} {a : Act} {w : World} (i : Nat) (hi : ops[i]? = some oi) (hw : Region.wanted oi (yielded ops a.tmps) = true)
    (hr : Region.ready .any ops listed = [i])
    (h : Oper.wp P oi a w (fun a' w' => S w' ∧ (S w' → wpAnyH P .any ops (Ends R) S fuel (listed.setIfInBounds i true) a' w')) (Ends R)) : wpAnyH P .any ops (Ends R) S (fuel + 1) listed a w := by
  refine wpAnyH_ready hr (by simp) (AllReadyH.cons hi (fun K hK => ?_) AllReadyH.nil)
  rw [if_pos hw]
  exact Oper.wp_mono (fun a' w' h' => hK.out a' w' h'.1 h'.2) h
/-- a call of a Go function by its contract -/
theorem wp_contract {P : Program} {o : Oper} {a : Act} {w : World} {K : Act → World → Prop} {Q : Exit → Act → World → Prop} (f : FuncId) (xs : List Operand) (ts : Array TypeId)
    (ho : o.op = .call { callee := .value (.func f), args := xs.toArray, argTypes := ts }) (eg : ∀ args w, (callFunc f args).run P w = .ok (.enter f args) w) (vs : List Value) (hs : xs.map a.eval = vs)
    {R : Ending → World → Prop} (h : Calls P f vs.toArray w R) (hR : ∀ e w', R e w' → ∃ v, e = .returned v ∧ K (a.put o.dst v) w') : Oper.wp P o a w K Q := by
  have hf : a.eval (.func f) = .func (.func f) #[] #[] := rfl
  unfold Oper.wp
  simp only [execOp, ho, resolve, hf, List.map_toArray, hs]
  simp [invoke, eg, Oper.upon, go_sem]
  refine Calls.mono h ?_
  rintro e w' hr
  obtain ⟨v, rfl, hk⟩ := hR e w' hr
  exact hk
end Go.Proofs.YtoimbjbdkkohcaaGreatDoor

/-
  The syndromes, by a range over the roots.
-/
namespace Go.Proofs.YtoimbjbdkkohcaaGreatDoor
open Go.RowKit Go.Shelf
open Gf (gI eI)
open Po (El mu pwr ev S cf toE cv Low rts)
open Rm (al sy)
attribute [local go_sem] Oper.semAt_some

theorem pwr_two (x : Nat) : pwr 2 x = al x := rfl
theorem below_shut {B D : Nat} {w W : World} (hK : W.heap[D]? = some (.deferred (some []))) (hD : B ≤ D) (h : Below B w W) : Below B w (W.putObj D (.deferred none)) :=
  below_stay h (Stay.putObj (B := D) _ hK rfl (Nat.le_refl _)) hD
theorem size_sets (b : Nat) : ∀ (vs : List Value) (o : Nat) (W : World), (W.setCells b o vs).heap.size = W.heap.size
  | [], _, _ => rfl
  | v :: vs, o, W => (size_sets b vs (o + 1) _).trans (by simp)
/-- Eval of a block of bytes -/
theorem evalB_any (b g n c : Nat) (F : Nat → El) (x : El) (hn : n ≤ 4000) (w : World) (hf : FldAt w b) (hb : Blk w g n F) :
    Calls Tryz.prog 96 #[.pointer (some ⟨b, 0, none⟩), .slice (some ⟨g, 0, none⟩) n c, .int .u8 (oe x)] w fun e w' => e = .returned (.int .u8 (oe (ev n F x))) ∧ ∃ k, w' = w.drewN k := by
  have h := eval_any b (some ⟨g, 0, none⟩) c n (lst n F) (oe x) w hf (.inr ⟨g, 0, rfl, hb.lt, fun i hi => by
    rw [lst_len] at hi
    rw [Nat.zero_add, lst_get n F i hi]; exact hb.arr i hi⟩) (lst_byt n F) (by unfold maxLen; omega) (lst_len n F) (oe_bd x)
  have e1 : ev (lst n F).length (cf (lst n F)) (toE (oe x)) = ev n F x := by
    rw [lst_len, show toE (oe x) = x from toE_ofE x]
    unfold ev
    refine Po.S_congr _ _ _ fun i hi => ?_
    rw [lst_cf n F i hi]
  rw [e1] at h
  exact h

/-- between two rounds: B the first block of the call, J the word's, the syndromes' is J + 1 -/
structure SmI (B J c b : Nat) (X : Nat → El) (w : World) (x : Nat) (W : World) : Prop where
  pc : Box W B (.pointer (some ⟨c, 0, none⟩))
  code : CdAt W c b
  r : Blk W (B + 1 + 1 + 1) 4 (fun _ => 0)
  j : Blk W J 39 X
  s : Blk W (J + 1) 4 (fun i => if i < x then sy X i else 0)
  below : Below B w W

set_option maxRecDepth 100000 in
set_option maxHeartbeats 2000000 in
theorem syndromes_any (c b : Nat) (F G : Nat → El) (w : World) (hc : CdAt w c b) :
    Calls Tryz.prog 79 #[.pointer (some ⟨c, 0, none⟩), .agg (arr 36 F).toArray, .agg (arr 3 G).toArray] w fun e w' => e = .returned (.agg (arr 4 (sy (wd F G))).toArray) ∧ Below w.heap.size w w' := by
  have hz4 := zero4
  have hz39 := zero39
  have cJ : Hid (∀ w, Calls Tryz.prog 72 #[.agg (arr 36 F).toArray, .agg (arr 3 G).toArray] w fun e w' => e = .returned (.agg (arr 39 (wd F G)).toArray) ∧ Below w.heap.size w w') := fun w => join_any F G w
  obtain ⟨X, HX⟩ : ∃ X, Hid (wd F G = X) := ⟨_, rfl⟩
  rw [HX.out] at cJ ⊢
  obtain ⟨A0, hA0⟩ : ∃ A, arr 36 F = A := ⟨_, rfl⟩
  obtain ⟨A1, hA1⟩ : ∃ A, arr 3 G = A := ⟨_, rfl⟩
  obtain ⟨A2, hA2⟩ : ∃ A, (arr 4 fun _ => 0) = A := ⟨_, rfl⟩
  obtain ⟨A3, hA3⟩ : ∃ A, (arr 39 fun _ => 0) = A := ⟨_, rfl⟩
  obtain ⟨A4, hA4⟩ : ∃ A, arr 39 X = A := ⟨_, rfl⟩
  have i36 : (Tryz.prog.info? 49).map (·.size) = some A0.length := by rw [← hA0, arr_len]; kernel_rfl
  have i3 : (Tryz.prog.info? 54).map (·.size) = some A1.length := by rw [← hA1, arr_len]; kernel_rfl
  have i39 : (Tryz.prog.info? 52).map (·.size) = some A4.length := by rw [← hA4, arr_len]; kernel_rfl
  have o39 : A4.toArray.all (·.oneCell') = true := by rw [← hA4]; exact arr_one 39 X
  rw [hA2] at hz4
  rw [hA3] at hz39
  rw [hA0, hA1] at cJ ⊢
  rw [hA4] at cJ
  have HC : Hid (CdAt w c b) := hc
  have hcl := hc.lt
  clear hc
  refine (callsIn_wide (n := 10)).1 ?_
  refine callsIn_of_wp_marks Tryz.func79 rfl trivial ?_ rfl
  simp only [Tryz.ntmps79, List.size_toArray, List.length_cons, List.length_nil, Nat.reduceAdd, Nat.reduceSub, Array.replicate_succ, Array.replicate_zero, List.push_toArray, List.append_toArray, List.nil_append, List.cons_append]
  refine wpIn_wide.2 ?_
  go_upto_region 1 with (fail)
  obtain ⟨B, hB⟩ : ∃ B, w.heap.size = B := ⟨_, rfl⟩
  obtain ⟨V0, hV0⟩ : ∃ V, (((w.alloc (.cells #[.pointer (some ⟨c, 0, none⟩)] 63)).alloc (.cells A0.toArray 49)).alloc (.cells A1.toArray 54)).alloc (.cells A2.toArray 50) = V := ⟨_, rfl⟩
  have H0 : Hid (Box V0 B (.pointer (some ⟨c, 0, none⟩)) ∧ Blk V0 (B + 1 + 1 + 1) 4 (fun _ => 0) ∧ Below B w V0 ∧ CdAt V0 c b) := by
    have hb : Below B w V0 := by rw [← hV0, ← hB]; exact ((((Below.refl _ w).alloc (Nat.le_refl _) _).alloc (by simp) _).alloc (by simp; omega) _).alloc (by simp; omega) _
    refine ⟨?_, ?_, hb, HC.out.next (by rw [hB]; exact hb)⟩
    · rw [← hV0, ← hB]; exact (((Box.new w _ _).alloc _).alloc _).alloc _
    · have h3 := Blk.new (((w.alloc (.cells #[.pointer (some ⟨c, 0, none⟩)] 63)).alloc (.cells A0.toArray 49)).alloc (.cells A1.toArray 54)) 4 (fun _ => 0) 50
      simp only [World.size_alloc] at h3
      rw [hA2, hV0, hB] at h3; exact h3
  have r0 : V0.rangeAt (B + 1) 0 A0 := by
    have h := Blk.new (w.alloc (.cells #[.pointer (some ⟨c, 0, none⟩)] 63)) 36 F 49
    simp only [World.size_alloc] at h
    have h2 := (h.alloc (.cells A1.toArray 54)).alloc (.cells A2.toArray 50)
    rw [hA0, hV0, hB] at h2
    rw [← hA0]; exact h2.range
  have r1 : V0.rangeAt (B + 1 + 1) 0 A1 := by
    have h := Blk.new ((w.alloc (.cells #[.pointer (some ⟨c, 0, none⟩)] 63)).alloc (.cells A0.toArray 49)) 3 G 54
    simp only [World.size_alloc] at h
    have h2 := h.alloc (.cells A2.toArray 50)
    rw [hA1, hV0, hB] at h2
    rw [← hA1]; exact h2.range
  have n39 : Hid (∀ W : World, (W.alloc (.cells A3.toArray 52)).there W.heap.size 0 A4.toArray.size) := fun W => by
    have h := Blk.new W 39 (fun _ => 0) 52
    rw [hA3] at h
    rw [← hA4]; exact h.there
  have sV0 : B + 1 + 1 + 1 < V0.heap.size := by rw [← hV0, ← hB]; simp
  rw [hV0, hB]
  clear HC hV0
  go_upto_region 3 with (first | refine wpList_load_mid rfl 49 _ rfl _ 0 rfl A0 _ r0 Tryz.underlying49 rfl i36 ?_ | refine wpList_load_mid rfl 54 _ rfl _ 0 rfl A1 _ r1 Tryz.underlying54 rfl i3 ?_ | (go_at_call 72; refine (cJ.out _).mono ?_; rintro e V1 ⟨rfl, hB1⟩) | refine wpList_store_mid rfl 52 _ _ rfl _ 0 A4.toArray rfl rfl (n39.out _) i39 o39 ?_)
  rw [size_sets, World.size_alloc]
  obtain ⟨J, hJ⟩ : ∃ J, V1.heap.size = J := ⟨_, rfl⟩
  obtain ⟨V2, hV2⟩ : ∃ V, ((V1.alloc (.cells A3.toArray 52)).setCells V1.heap.size 0 A4).alloc (.cells A2.toArray 50) = V := ⟨_, rfl⟩
  have sJ : B + 1 + 1 + 1 < J := by have := hB1.size; omega
  have sV2 : Hid (V2.heap.size = J + 1 + 1) := by show _ = _; rw [← hV2, World.size_alloc, size_sets, World.size_alloc, hJ]
  have hB2 : Below V0.heap.size V0 V2 := by
    rw [← hV2]
    exact (below_puts (hB1.alloc hB1.size _) hB1.size 0 A4).alloc (by rw [size_sets]; have := hB1.size; simp; omega) _
  obtain ⟨p1, p2, p3, p4⟩ := H0.out
  have H2 : Hid (SmI B J c b X w 0 V2) := by
    refine ⟨p1.below hB2 p1.lt, p4.next hB2, p2.next hB2, ?_, ?_, p3.trans (hB2.mono (by omega))⟩
    · have h := Blk.new V1 39 (fun _ => 0) 52
      rw [hA3] at h
      have h2 := (h.put X).alloc (.cells A2.toArray 50)
      rw [hA4, hV2, hJ] at h2; exact h2
    · have h := Blk.new ((V1.alloc (.cells A3.toArray 52)).setCells V1.heap.size 0 A4) 4 (fun _ => 0) 50
      rw [hA2, hV2, size_sets, World.size_alloc, hJ] at h
      exact h.congr fun i _ => by rw [if_neg (by omega)]
  have hbl : b < J := Nat.lt_of_lt_of_le p4.fld.lt (by rw [← hJ]; exact hB1.size)
  have q0 := H2.out.pc.1
  rw [hV2, hJ]
  clear hV2 hB1 hB2 p1 p2 p3 p4 H0 r0 r1 n39 sV0 i36 i3 i39 o39 hz4 hz39 cJ hJ
  go_wp2_with (go_at_call 57; refine (roots_fn c b _ H2.out.code.f H2.out.code.fld).mono ?_; rintro e V3 ⟨rfl, hO⟩)
  obtain ⟨N, hN⟩ : ∃ N, V2.heap.size = N := ⟨_, rfl⟩
  have eN : N = J + 1 + 1 := by rw [← hN]; exact sV2.out
  have hS3 := hO.stay
  have s3 := hO.size
  have c0 := hO.c0
  have c1 := hO.c1
  have c2 := hO.c2
  rw [hN] at hS3 s3 c0 c1 c2 ⊢
  have hb3 : b ≠ N := by omega
  have hI3 : SmI B J c b X w 0 V3 := by
    obtain ⟨h1, h2, h3, h4, h5, h6⟩ := H2.out
    exact ⟨h1.stay hS3, h2.stay hS3, h3.stay hS3, h4.stay hS3, h5.stay hS3, below_stay h6 hS3 (by omega)⟩
  clear hO H2 q0 sV2
  refine (wpIn_wide (n := 10)).1 (rangeC rfl (enters_of Tryz.func101 (by kernel_rfl) rfl) (powers_seq (N + 1 + 1) N (N + 1) b 4 2 (by omega) V3 c2 c0 c1 hI3.code.fld) (fun _ => rfl)
    (fun x => x = J + 1) (by rintro x rfl; constructor <;> omega) (by rintro x (rfl | rfl | rfl) <;> omega)
    (SmI B J c b X w) (fun _ _ _ => False)
    (by rintro x A C ⟨h1, h2, h3, h4, h5, h6⟩ hs; exact ⟨h1.stay hs, h2.stay hs, h3.stay hs, h4.stay hs, h5.stay hs, below_stay h6 hs (by omega)⟩)
    (fun _ _ _ _ h _ => h.elim) hI3
    (fun x W _ hp _ => absurd trivial hp) ?round ?done (fun _ _ _ _ _ _ _ h => h.elim))
  case round =>
    rintro l x W W2 hx hp ⟨h1, h2, h3, h4, h5, h6⟩
    have cell := h5.arr x hx
    have free := h5.free x
    have q0 := h1.1
    have qf := h2.f
    have ce : Hid (∀ k, Calls Tryz.prog 96 #[.pointer (some ⟨b, 0, none⟩), .slice (some ⟨J, 0, none⟩) 39 39, .int .u8 (oe (pwr 2 x))] (W2.drewN k) fun e w' => e = .returned (.int .u8 (oe (sy X x))) ∧ ∃ q, w' = (W2.drewN k).drewN q) := fun k =>
      evalB_any b J 39 39 X (pwr 2 x) (by omega) _ (h2.fld.drewN k) h4
    obtain ⟨y, Hy⟩ : ∃ y, Hid (sy X x = y) := ⟨_, rfl⟩
    obtain ⟨p, Hp⟩ : ∃ p, Hid (pwr 2 x = p) := ⟨_, rfl⟩
    obtain ⟨z, Hz⟩ : ∃ z, Hid ((if x < x then sy X x else 0) = z) := ⟨_, rfl⟩
    rw [Hy.out, Hp.out] at ce
    rw [Hz.out] at cell
    have HR : Hid (SmI B J c b X w x W2) := ⟨h1, h2, h3, h4, h5, h6⟩
    have hbx : B ≠ J + 1 := by omega
    have hcx : c ≠ J + 1 := by omega
    clear h1 h2 h3 h4 h5 h6
    try simp only []
    rw [Hp.out]
    gi_wp2
    try (refine ⟨trivial, ?_⟩)
    try gi_wp2
    obtain ⟨fu, Hfu⟩ : ∃ fu, Hid (Value.func (.func 101) #[] #[.pointer (some ⟨J + 1 + 1 + 1 + 1, 0, none⟩), .pointer (some ⟨J + 1 + 1, 0, none⟩), .pointer (some ⟨J + 1 + 1 + 1, 0, none⟩)] = fu) := ⟨_, rfl⟩
    rw [Hfu.out]
    refine region_round (by kernel_rfl) (by kernel_rfl) (fun w' => w'.cell? ⟨B, 0, none⟩ = some (.pointer (some ⟨c, 0, none⟩)) ∧ w'.cell? ⟨c, 0, none⟩ = some (.pointer (some ⟨b, 0, none⟩))) (fun _ w' => Keep (fun x => x = J + 1) W2 w' ∧ SmI B J c b X w (x + 1) w') ⟨q0, qf⟩ (fun hH => ?reg) (fun a' w' hr => ?aft)
    case aft =>
      gi_wp2
      exact hr
    refine take_pure 0 (v := .int .i64 (x : Int)) rfl (by kernel_rfl) rfl (fun w' hw => by simp [execOp, go_sem]) hH ?_
    show wpAnyH _ _ _ _ _ _ _ ({ tmps := #[.pointer (some ⟨c, 0, none⟩), .agg A0.toArray, .agg A1.toArray, .pointer (some ⟨B, 0, none⟩), .pointer (some ⟨B + 1, 0, none⟩), .pointer (some ⟨B + 1 + 1, 0, none⟩), .pointer (some ⟨B + 1 + 1 + 1, 0, none⟩), .pointer (some ⟨J, 0, none⟩), .pointer (some ⟨J + 1, 0, none⟩), .int .i64 (x : Int), .int .u8 (oe p), .agg A0.toArray, .agg A1.toArray, .agg A4.toArray, .pointer (some ⟨c, 0, none⟩), fu, .int .i64 (x : Int), .int .u8 (oe p), .int .i64 (x : Int), undef, undef, undef, undef, undef, undef, undef, undef, undef], defers := [] } : Act) _
    refine take_pure 1 (v := .pointer (some ⟨c, 0, none⟩)) rfl (by kernel_rfl) rfl (fun w' hw => by simp [execOp, go_sem, hw.1]) hH ?_
    show wpAnyH _ _ _ _ _ _ _ ({ tmps := #[.pointer (some ⟨c, 0, none⟩), .agg A0.toArray, .agg A1.toArray, .pointer (some ⟨B, 0, none⟩), .pointer (some ⟨B + 1, 0, none⟩), .pointer (some ⟨B + 1 + 1, 0, none⟩), .pointer (some ⟨B + 1 + 1 + 1, 0, none⟩), .pointer (some ⟨J, 0, none⟩), .pointer (some ⟨J + 1, 0, none⟩), .int .i64 (x : Int), .int .u8 (oe p), .agg A0.toArray, .agg A1.toArray, .agg A4.toArray, .pointer (some ⟨c, 0, none⟩), fu, .int .i64 (x : Int), .int .u8 (oe p), .int .i64 (x : Int), .pointer (some ⟨c, 0, none⟩), undef, undef, undef, undef, undef, undef, undef, undef], defers := [] } : Act) _
    refine take_pure 2 (v := .pointer (some ⟨c, 0, none⟩)) rfl (by kernel_rfl) rfl (fun w' hw => by simp [execOp, go_sem]) hH ?_
    show wpAnyH _ _ _ _ _ _ _ ({ tmps := #[.pointer (some ⟨c, 0, none⟩), .agg A0.toArray, .agg A1.toArray, .pointer (some ⟨B, 0, none⟩), .pointer (some ⟨B + 1, 0, none⟩), .pointer (some ⟨B + 1 + 1, 0, none⟩), .pointer (some ⟨B + 1 + 1 + 1, 0, none⟩), .pointer (some ⟨J, 0, none⟩), .pointer (some ⟨J + 1, 0, none⟩), .int .i64 (x : Int), .int .u8 (oe p), .agg A0.toArray, .agg A1.toArray, .agg A4.toArray, .pointer (some ⟨c, 0, none⟩), fu, .int .i64 (x : Int), .int .u8 (oe p), .int .i64 (x : Int), .pointer (some ⟨c, 0, none⟩), .pointer (some ⟨c, 0, none⟩), undef, undef, undef, undef, undef, undef, undef], defers := [] } : Act) _
    refine take_pure 3 (v := .pointer (some ⟨c, 0, none⟩)) rfl (by kernel_rfl) rfl (fun w' hw => by simp [execOp, go_sem]) hH ?_
    show wpAnyH _ _ _ _ _ _ _ ({ tmps := #[.pointer (some ⟨c, 0, none⟩), .agg A0.toArray, .agg A1.toArray, .pointer (some ⟨B, 0, none⟩), .pointer (some ⟨B + 1, 0, none⟩), .pointer (some ⟨B + 1 + 1, 0, none⟩), .pointer (some ⟨B + 1 + 1 + 1, 0, none⟩), .pointer (some ⟨J, 0, none⟩), .pointer (some ⟨J + 1, 0, none⟩), .int .i64 (x : Int), .int .u8 (oe p), .agg A0.toArray, .agg A1.toArray, .agg A4.toArray, .pointer (some ⟨c, 0, none⟩), fu, .int .i64 (x : Int), .int .u8 (oe p), .int .i64 (x : Int), .pointer (some ⟨c, 0, none⟩), .pointer (some ⟨c, 0, none⟩), .pointer (some ⟨c, 0, none⟩), undef, undef, undef, undef, undef, undef], defers := [] } : Act) _
    refine take_pure 4 (v := .pointer (some ⟨b, 0, none⟩)) rfl (by kernel_rfl) rfl (fun w' hw => by simp [execOp, go_sem, hw.2]) hH ?_
    show wpAnyH _ _ _ _ _ _ _ ({ tmps := #[.pointer (some ⟨c, 0, none⟩), .agg A0.toArray, .agg A1.toArray, .pointer (some ⟨B, 0, none⟩), .pointer (some ⟨B + 1, 0, none⟩), .pointer (some ⟨B + 1 + 1, 0, none⟩), .pointer (some ⟨B + 1 + 1 + 1, 0, none⟩), .pointer (some ⟨J, 0, none⟩), .pointer (some ⟨J + 1, 0, none⟩), .int .i64 (x : Int), .int .u8 (oe p), .agg A0.toArray, .agg A1.toArray, .agg A4.toArray, .pointer (some ⟨c, 0, none⟩), fu, .int .i64 (x : Int), .int .u8 (oe p), .int .i64 (x : Int), .pointer (some ⟨c, 0, none⟩), .pointer (some ⟨c, 0, none⟩), .pointer (some ⟨c, 0, none⟩), .pointer (some ⟨b, 0, none⟩), undef, undef, undef, undef, undef], defers := [] } : Act) _
    refine take_pure 5 (v := .slice (some ⟨J, 0, none⟩) 39 39) rfl (by kernel_rfl) rfl (fun w' hw => by simp [execOp, go_sem]) hH ?_
    show wpAnyH _ _ _ _ _ _ _ ({ tmps := #[.pointer (some ⟨c, 0, none⟩), .agg A0.toArray, .agg A1.toArray, .pointer (some ⟨B, 0, none⟩), .pointer (some ⟨B + 1, 0, none⟩), .pointer (some ⟨B + 1 + 1, 0, none⟩), .pointer (some ⟨B + 1 + 1 + 1, 0, none⟩), .pointer (some ⟨J, 0, none⟩), .pointer (some ⟨J + 1, 0, none⟩), .int .i64 (x : Int), .int .u8 (oe p), .agg A0.toArray, .agg A1.toArray, .agg A4.toArray, .pointer (some ⟨c, 0, none⟩), fu, .int .i64 (x : Int), .int .u8 (oe p), .int .i64 (x : Int), .pointer (some ⟨c, 0, none⟩), .pointer (some ⟨c, 0, none⟩), .pointer (some ⟨c, 0, none⟩), .pointer (some ⟨b, 0, none⟩), .slice (some ⟨J, 0, none⟩) 39 39, undef, undef, undef, undef], defers := [] } : Act) _
    refine take_pure 6 (v := .int .u8 (oe p)) rfl (by kernel_rfl) rfl (fun w' hw => by simp [execOp, go_sem]) hH ?_
    show wpAnyH _ _ _ _ _ _ _ ({ tmps := #[.pointer (some ⟨c, 0, none⟩), .agg A0.toArray, .agg A1.toArray, .pointer (some ⟨B, 0, none⟩), .pointer (some ⟨B + 1, 0, none⟩), .pointer (some ⟨B + 1 + 1, 0, none⟩), .pointer (some ⟨B + 1 + 1 + 1, 0, none⟩), .pointer (some ⟨J, 0, none⟩), .pointer (some ⟨J + 1, 0, none⟩), .int .i64 (x : Int), .int .u8 (oe p), .agg A0.toArray, .agg A1.toArray, .agg A4.toArray, .pointer (some ⟨c, 0, none⟩), fu, .int .i64 (x : Int), .int .u8 (oe p), .int .i64 (x : Int), .pointer (some ⟨c, 0, none⟩), .pointer (some ⟨c, 0, none⟩), .pointer (some ⟨c, 0, none⟩), .pointer (some ⟨b, 0, none⟩), .slice (some ⟨J, 0, none⟩) 39 39, .int .u8 (oe p), undef, undef, undef], defers := [] } : Act) _
    refine take_one 7 rfl rfl (by kernel_rfl) ?_
    refine wp_contract 96 [.tmp 22, .tmp 23, .tmp 24] _ rfl (enters_of Tryz.func96 (by kernel_rfl) rfl) [.pointer (some ⟨b, 0, none⟩), .slice (some ⟨J, 0, none⟩) 39 39, .int .u8 (oe p)] rfl (ce.out 1) ?_
    rintro e W4 ⟨rfl, q, rfl⟩
    refine ⟨_, rfl, ⟨q0, qf⟩, fun hH => ?_⟩
    show wpAnyH _ _ _ _ _ _ _ ({ tmps := #[.pointer (some ⟨c, 0, none⟩), .agg A0.toArray, .agg A1.toArray, .pointer (some ⟨B, 0, none⟩), .pointer (some ⟨B + 1, 0, none⟩), .pointer (some ⟨B + 1 + 1, 0, none⟩), .pointer (some ⟨B + 1 + 1 + 1, 0, none⟩), .pointer (some ⟨J, 0, none⟩), .pointer (some ⟨J + 1, 0, none⟩), .int .i64 (x : Int), .int .u8 (oe p), .agg A0.toArray, .agg A1.toArray, .agg A4.toArray, .pointer (some ⟨c, 0, none⟩), fu, .int .i64 (x : Int), .int .u8 (oe p), .int .i64 (x : Int), .pointer (some ⟨c, 0, none⟩), .pointer (some ⟨c, 0, none⟩), .pointer (some ⟨c, 0, none⟩), .pointer (some ⟨b, 0, none⟩), .slice (some ⟨J, 0, none⟩) 39 39, .int .u8 (oe p), .int .u8 (oe y), undef, undef], defers := [] } : Act) _
    refine take_pure 8 (v := .pointer (some ⟨J + 1, x, none⟩)) rfl (by kernel_rfl) rfl (fun w' hw => by simp [execOp, go_sem]; intro h; omega) hH ?_
    show wpAnyH _ _ _ _ _ _ _ ({ tmps := #[.pointer (some ⟨c, 0, none⟩), .agg A0.toArray, .agg A1.toArray, .pointer (some ⟨B, 0, none⟩), .pointer (some ⟨B + 1, 0, none⟩), .pointer (some ⟨B + 1 + 1, 0, none⟩), .pointer (some ⟨B + 1 + 1 + 1, 0, none⟩), .pointer (some ⟨J, 0, none⟩), .pointer (some ⟨J + 1, 0, none⟩), .int .i64 (x : Int), .int .u8 (oe p), .agg A0.toArray, .agg A1.toArray, .agg A4.toArray, .pointer (some ⟨c, 0, none⟩), fu, .int .i64 (x : Int), .int .u8 (oe p), .int .i64 (x : Int), .pointer (some ⟨c, 0, none⟩), .pointer (some ⟨c, 0, none⟩), .pointer (some ⟨c, 0, none⟩), .pointer (some ⟨b, 0, none⟩), .slice (some ⟨J, 0, none⟩) 39 39, .int .u8 (oe p), .int .u8 (oe y), .pointer (some ⟨J + 1, x, none⟩), undef], defers := [] } : Act) _
    refine take_one 9 rfl rfl (by kernel_rfl) ?_
    have cell' : ((W2.drewN 1).drewN q).cell? ⟨J + 1, x, none⟩ = some (.int .u8 (oe z)) := cell
    have free' : ((W2.drewN 1).drewN q).frozen? ⟨J + 1, x, none⟩ = false := free
    obtain ⟨W5, hW5⟩ : ∃ W5, (W2.drewN 1).drewN q = W5 := ⟨_, rfl⟩
    rw [hW5] at cell' free' ⊢
    have fin : Keep (fun x => x = J + 1) W2 (W5.setCell ⟨J + 1, x, none⟩ (.int .u8 (oe y))) ∧ SmI B J c b X w (x + 1) (W5.setCell ⟨J + 1, x, none⟩ (.int .u8 (oe y))) := by
      obtain ⟨h1, h2, h3, h4, h5, h6⟩ := HR.out
      have k5 : Keep (fun x => x = J + 1) W2 W5 := by rw [← hW5]; exact ((Keep.refl _ W2).drewN 1).drewN q
      have s5 : Stay W2.heap.size W2 W5 := by rw [← hW5]; exact (Stay.drewN _ W2 1).trans (Stay.drewN _ _ q)
      have kk : Keep (fun x => x = J + 1) W5 (W5.setCell ⟨J + 1, x, none⟩ (.int .u8 (oe y))) := ⟨by simp, fun k _ hm => Below.heap_setCell W5 ⟨J + 1, x, none⟩ _ k hm⟩
      refine ⟨k5.trans kk, kk.box (h1.stay s5) (by omega), ?_, (h3.stay s5).other (by omega) _ _, (h4.stay s5).other (by omega) _ _, ?_, (below_stay h6 s5 (by have := h1.lt; omega)).setCell (p := ⟨J + 1, x, none⟩) (by simp; omega) _⟩
      · exact (h2.stay s5).of (Below.heap_setCell W5 ⟨J + 1, x, none⟩ _ c (by simp; omega)) (Below.heap_setCell W5 ⟨J + 1, x, none⟩ _ b (by simp; omega))
      · refine ((h5.stay s5).set x y).congr fun i hi => ?_
        by_cases e : i = x
        · rw [if_pos e, if_pos (by omega), e]; exact Hy.out.symm
        · rw [if_neg e]
          by_cases e2 : i < x
          · rw [if_pos e2, if_pos (by omega)]
          · rw [if_neg e2, if_neg (by omega)]
    have Fin : Hid _ := fin
    rw [hW5] at hH
    clear fin HR hW5
    simp [Oper.wp, execOp, go_sem, Oper.upon, cell', free']
    exact ⟨hH, fun _ _ => wpAnyH_done (by kernel_rfl) Fin.out _⟩
  case done =>
    rintro D W hD ⟨h1, h2, h3, h4, h5, h6⟩ hK
    have ge : Blk W (J + 1) 4 (sy X) := h5.congr fun i hi => if_pos hi
    have hr := ge.range
    have ht : W.there (B + 1 + 1 + 1) 0 (arr 4 (sy X)).toArray.size := h3.there
    have hi4 : (Tryz.prog.info? 50).map (·.size) = some (arr 4 (sy X)).length := by rw [arr_len]; exact info4
    have hone := arr_one 4 (sy X)
    obtain ⟨L, hL⟩ : ∃ L, arr 4 (sy X) = L := ⟨_, rfl⟩
    rw [hL] at hr ht hi4 hone
    have HL : Hid (arr 4 (sy X) = L) := hL
    have hs : (W.setCells (B + 1 + 1 + 1) 0 L).rangeAt (B + 1 + 1 + 1) 0 L := World.rangeAt_setCells_same W _ 0 L (by simpa using ht)
    have hK2 : (W.setCells (B + 1 + 1 + 1) 0 L).heap[D]? = some (.deferred (some [])) := (heap_put _ L 0 W D (by omega)).trans hK
    have fin : Hid ((W.setCells (B + 1 + 1 + 1) 0 L).heap[D]? = some (.deferred (some [])) ∧ ((W.setCells (B + 1 + 1 + 1) 0 L).putObj D (.deferred none)).rangeAt (B + 1 + 1 + 1) 0 L ∧ Below B w ((W.setCells (B + 1 + 1 + 1) 0 L).putObj D (.deferred none))) :=
      ⟨hK2, range_of hs (World.putObj_heap_other (by omega)), below_shut hK2 (by omega) (below_puts h6 (by omega) 0 L)⟩
    clear h1 h2 h3 h4 h5 h6 hK hK2 hL ge hs
    go_wp2_with (first | refine wpList_load_mid rfl 50 _ rfl _ 0 rfl L _ hr Tryz.underlying50 rfl hi4 ?_ | refine wpList_store_mid rfl 50 _ _ rfl _ 0 L.toArray rfl rfl ht hi4 hone ?_)
    refine ⟨by simp, .inl ⟨_, _, rfl, run_takeDeferred fin.out.1, ?_⟩⟩
    have hld := run_loadVar_mid (P := Tryz.prog) _ (B + 1 + 1 + 1) 0 50 L _ fin.out.2.1 Tryz.underlying50 rfl hi4
    refine ⟨.agg L.toArray, ?_, by rw [HL.out], by rw [hB]; exact fin.out.2.2⟩
    simp [results, Tryz.f79, Act.put, asAddr, hld]
end Go.Proofs.YtoimbjbdkkohcaaGreatDoor

/-
  Arrays of bytes held against one another; whose place four syndromes tell, by the logarithm of a quotient.
-/
namespace Go.Proofs.YtoimbjbdkkohcaaGreatDoor
open Go.RowKit Go.Shelf
open Gf (gI eI dI lI)
open Po (El mu pwr ev S cf toE cv Low rts)
open Rm (al sy At)
attribute [local go_sem] Oper.semAt_some

def bys (n : Nat) (F : Nat → El) : List UInt8 := (List.range n).map fun i => UInt8.ofNat (F i).toNat
theorem bys_len (n : Nat) (F : Nat → El) : (bys n F).length = n := by simp [bys]
theorem bys_arr (n : Nat) (F : Nat → El) : (bys n F).map Extern.Stop.cell = arr n F := by
  unfold bys arr
  rw [List.map_map]
  refine List.map_congr_left fun i _ => ?_
  have := (F i).isLt
  show Value.int .u8 _ = Value.int .u8 _
  unfold oe
  congr 1
  simp
theorem bys_inj (n : Nat) (F G : Nat → El) (h : bys n F = bys n G) : ∀ i, i < n → F i = G i := by
  refine arr_inj n F G ?_
  rw [← bys_arr, ← bys_arr, h]
theorem bys_congr (n : Nat) (F G : Nat → El) (h : ∀ i, i < n → F i = G i) : bys n F = bys n G := by
  unfold bys
  refine List.map_congr_left fun i hi => ?_
  rw [h i (List.mem_range.1 hi)]
theorem bys_beq (n : Nat) (F G : Nat → El) (b : Bool) (hb : b = true ↔ ∀ i, i < n → F i = G i) : (bys n F == bys n G) = b := by
  rw [Bool.eq_iff_iff, beq_iff_eq, hb]
  exact ⟨bys_inj n F G, bys_congr n F G⟩
theorem size_one (w : World) : (sizeOf 5).run Tryz.prog w = .ok 1 w := by kernel_rfl
theorem eql_arr (t : TypeId) (n : Nat) (ht : Tryz.prog.underlying t = some (.array n 5)) (F G : Nat → El) (b : Bool) (hb : b = true ↔ ∀ i, i < n → F i = G i) (w : World) :
    (binOp .eql t (.agg (arr n F).toArray) (.agg (arr n G).toArray)).run Tryz.prog w = .ok (.bool b) w := by
  have h := run_eql_bytes (P := Tryz.prog) w t 5 n ht Tryz.underlying5 size_one (bys n F) (bys n G) (bys_len n F) (bys_len n G)
  rw [bys_arr, bys_arr, bys_beq n F G b hb] at h
  exact h
theorem neq_arr (t : TypeId) (n : Nat) (ht : Tryz.prog.underlying t = some (.array n 5)) (F G : Nat → El) (b : Bool) (hb : b = true ↔ ∀ i, i < n → F i = G i) (w : World) :
    (binOp .neq t (.agg (arr n F).toArray) (.agg (arr n G).toArray)).run Tryz.prog w = .ok (.bool (!b)) w := by
  have h := run_equalIn_bytes (P := Tryz.prog) w 9998 t 5 n ht Tryz.underlying5 size_one (bys n F) (bys n G) (bys_len n F) (bys_len n G)
  rw [bys_arr, bys_arr, bys_beq n F G b hb] at h
  rw [run_neq_struct, h]; rfl

/-! ### the ways of a place -/
theorem al_log (E : El) (h : E ≠ 0) : ∃ n : Nat, n < 255 ∧ lI (oe E) = (n : Int) ∧ E = al n := by
  have hb := Gf.lI_bd (oe E)
  have hp : 0 < oe E := by
    have := oe_bd E
    have : oe E ≠ 0 := fun e => h (oe_inj (e.trans oe_zero.symm))
    omega
  refine ⟨(lI (oe E)).toNat, by omega, by omega, ?_⟩
  have h1 := Gf.eI_lI (oe E) hp (oe_bd E).2
  refine Po.el_ext ?_
  rw [Rm.al_toNat]
  have h2 := Gf.eI_toNat (lI (oe E))
  rw [h1, Int.emod_eq_of_lt hb.1 hb.2] at h2
  rw [← h2]; unfold oe; simp
theorem div_el (a b : El) (hb : b ≠ 0) : ∃ E : El, dI (oe a) (oe b) = oe E ∧ mu E b = a := by
  have hp : 0 < oe b := by
    have := oe_bd b
    have : oe b ≠ 0 := fun e => hb (oe_inj (e.trans oe_zero.symm))
    omega
  have hd := Gf.dI_bd (oe a) (oe b)
  refine ⟨toE (dI (oe a) (oe b)), (ofE_toE _ hd.1 hd.2).symm, ?_⟩
  have h := Gf.gI_dI (oe a) (oe b) (oe_bd a).1 (oe_bd a).2 hp (oe_bd b).2
  refine oe_inj ?_
  rw [← oe_mu, show oe (toE (dI (oe a) (oe b))) = dI (oe a) (oe b) from ofE_toE _ hd.1 hd.2]
  exact h
theorem mu_cancel {a b c : El} (hc : c ≠ 0) (h : mu a c = mu b c) : a = b := by
  have h2 : mu (a ^^^ b) c = 0 := by rw [Po.xor_mu, h, Po.xor_self']
  by_cases h0 : a ^^^ b = 0
  · exact Po.xor_eq_zero h0
  · exact absurd h2 (Po.mu_ne _ _ h0 hc)
/-- the ways of 'only' -/
theorem only_ways (s : Nat → El) : (s 0 = 0 ∧ plc s 39 0 = -1) ∨ (s 0 ≠ 0 ∧ dI (oe (s 1)) (oe (s 0)) = 0 ∧ plc s 39 0 = -1) ∨
    (s 0 ≠ 0 ∧ ∃ (E : El) (n : Nat), E ≠ 0 ∧ dI (oe (s 1)) (oe (s 0)) = oe E ∧ n < 255 ∧ lI (oe E) = (n : Int) ∧
      ((39 ≤ n ∧ plc s 39 0 = -1) ∨ (n < 39 ∧ (¬ ∀ j, j < 4 → mu (s 0) (pwr E j) = s j) ∧ plc s 39 0 = -1) ∨ (n < 39 ∧ (∀ j, j < 4 → mu (s 0) (pwr E j) = s j) ∧ plc s 39 0 = (n : Int)))) := by
  by_cases h0 : s 0 = 0
  · exact .inl ⟨h0, plc_none s 39 0 fun j _ _ hat => hat.1 h0⟩
  obtain ⟨E, hE, hm⟩ := div_el (s 1) (s 0) h0
  have key : ∀ i, At s i → E = al i := fun i hat => by
    refine mu_cancel h0 ?_
    rw [hm, hat.2.1, Po.mu_comm]
  by_cases hE0 : E = 0
  · refine .inr (.inl ⟨h0, by rw [hE, hE0]; rfl, plc_none s 39 0 fun j _ _ hat => ?_⟩)
    exact Rm.al_ne j (by rw [← key j hat]; exact hE0)
  obtain ⟨n, hn, hl, hal⟩ := al_log E hE0
  refine .inr (.inr ⟨h0, E, n, hE0, hE, hn, hl, ?_⟩)
  have same : ∀ i, i < 39 → At s i → i = n := fun i hi hat => Rm.al_inj (by omega) hn (by rw [← key i hat]; exact hal)
  by_cases h39 : n < 39
  · by_cases ha : ∀ j, j < 4 → mu (s 0) (pwr E j) = s j
    · have hat : At s n := (Rm.at_iff s n).2 ⟨h0, fun j hj => by rw [← hal]; exact (ha j hj).symm⟩
      exact .inr (.inr ⟨h39, ha, plc_some s 39 0 n (by omega) (by omega) hat fun l _ hl2 hat2 => by have := same l (by omega) hat2; omega⟩)
    · refine .inr (.inl ⟨h39, ha, plc_none s 39 0 fun j _ hj hat => ?_⟩)
      have e := same j (by omega) hat
      subst e
      exact ha fun i hi => by rw [hal]; exact (((Rm.at_iff s j).1 hat).2 i hi).symm
  · refine .inl ⟨by omega, plc_none s 39 0 fun j _ hj hat => ?_⟩
    have := same j (by omega) hat
    omega
end Go.Proofs.YtoimbjbdkkohcaaGreatDoor
