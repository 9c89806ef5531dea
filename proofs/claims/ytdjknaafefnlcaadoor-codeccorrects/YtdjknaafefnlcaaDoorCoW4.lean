/-
  A codec and its two codes; append beyond the room; a function leaves that ranged over another one.
-/
import Derived.Test.YtdjknaafefnlcaaDoorCoW3
import Derived.Test.YtdjknaafefnlcaaDoorHsL1
import Derived.Test.YtdjknaafefnlcaaDoorRangeA
namespace Go.Proofs.YtdjknaafefnlcaaDoor
open Go.RowKit Go.Shelf
open Bm (wt wtK)
open Po (El toE)
attribute [local go_sem] Oper.semAt_some

/-- a codec lies in c: hsiao's code in h, rs's in r, over the field in f -/
structure CcAt (W : World) (c h r f : Nat) : Prop where
  c0 : W.cell? ⟨c, 0, none⟩ = some (.pointer (some ⟨h, 0, none⟩))
  c1 : W.cell? ⟨c, 1, none⟩ = some (.pointer (some ⟨r, 0, none⟩))
  hs : CodeAt W h
  rs : CdAt W r f
section
variable {W W' : World} {c h r f : Nat}
theorem CcAt.of (H : CcAt W c h r f) (k1 : W'.heap[c]? = W.heap[c]?) (k2 : W'.heap[h]? = W.heap[h]?) (k3 : W'.heap[r]? = W.heap[r]?) (k4 : W'.heap[f]? = W.heap[f]?) : CcAt W' c h r f :=
  ⟨(World.cell?_of_block (w := W) (a := ⟨c, 0, none⟩) k1).trans H.c0, (World.cell?_of_block (w := W) (a := ⟨c, 1, none⟩) k1).trans H.c1, H.hs.of k2, H.rs.of k3 k4⟩
theorem CcAt.lt (H : CcAt W c h r f) : c < W.heap.size ∧ h < W.heap.size ∧ r < W.heap.size ∧ f < W.heap.size := ⟨cell_lt H.c0, H.hs.lt, H.rs.lt, H.rs.fld.lt⟩
theorem CcAt.next (H : CcAt W c h r f) (k : Below W.heap.size W W') : CcAt W' c h r f :=
  H.of (k.block _ H.lt.1) (k.block _ H.lt.2.1) (k.block _ H.lt.2.2.1) (k.block _ H.lt.2.2.2)
theorem CcAt.stay {B : Nat} (H : CcAt W c h r f) (k : Stay B W W') : CcAt W' c h r f := ⟨k.cell H.c0, k.cell H.c1, H.hs.stay k, H.rs.stay k⟩
end
theorem TabW.next {W W' : World} (h : TabW W) (k : Below W.heap.size W W') : TabW W' := h.below k h.lt
theorem TabW.stay {B : Nat} {W W' : World} (h : TabW W) (k : Stay B W W') : TabW W' := fun j hj => k.cell (h j hj)

set_option maxRecDepth 100000 in
set_option maxHeartbeats 1000000 in
theorem new10_any (w : World) :
    Calls Tryd.prog 17 #[] w fun e w' => ∃ c h r f, e = .returned (.pointer (some ⟨c, 0, none⟩)) ∧ CcAt w' c h r f ∧ Below w.heap.size w w' ∧ w.heap.size ≤ c ∧ w.heap.size ≤ h ∧ w.heap.size ≤ r ∧ w.heap.size ≤ f := by
  go_enter Tryd.func17, Tryd.ntmps17
  go_wp2_with fail
  refine (new4_any _).mono ?_
  rintro e V1 ⟨rfl, h1, b1⟩
  obtain ⟨h, hh⟩ : ∃ h, w.heap.size = h := ⟨_, rfl⟩
  have H1 : Hid (CodeAt V1 h ∧ Below w.heap.size w V1) := by rw [← hh]; exact ⟨h1, b1⟩
  rw [hh]
  have lh : w.heap.size ≤ h := by omega
  have ls : w.heap.size ≤ V1.heap.size := b1.size
  clear h1 b1 hh
  go_wp2_with fail
  refine (new_any _).mono ?_
  rintro e V2 ⟨rfl, hV2⟩
  obtain ⟨f, hf⟩ : ∃ f, V1.heap.size = f := ⟨_, rfl⟩
  have b2 : Below V1.heap.size V1 V2 := by rw [hV2]; exact (Below.refl _ V1).alloc (Nat.le_refl _) _
  have H2 : Hid (FldAt V2 f ∧ CodeAt V2 h ∧ Below w.heap.size w V2) := by
    have := fldAt_new V1 114
    rw [← hV2, hf] at this
    exact ⟨this, H1.out.1.below b2 H1.out.1.lt, H1.out.2.trans (b2.mono ls)⟩
  have ls2 : w.heap.size ≤ V2.heap.size := H2.out.2.2.size
  rw [hf]
  have lf : w.heap.size ≤ f := by omega
  clear H1 hV2 hf b2 ls
  go_wp2_with fail
  refine (rsnew_any f _ (by exact H2.out.1)).mono ?_
  rintro e V3 ⟨rfl, hC, b3⟩
  obtain ⟨r, hr⟩ : ∃ r, V2.heap.size = r := ⟨_, rfl⟩
  have H3 : Hid (CdAt V3 r f ∧ CodeAt V3 h ∧ Below w.heap.size w V3) := by
    rw [← hr]
    exact ⟨hC, H2.out.2.1.below b3 H2.out.2.1.lt, H2.out.2.2.trans (b3.mono ls2)⟩
  have ls3 : w.heap.size ≤ V3.heap.size := H3.out.2.2.size
  rw [hr]
  have lr : w.heap.size ≤ r := by omega
  clear H2 hC b3 hr ls2
  go_wp2
  have H4 : CcAt (V3.alloc (.cells #[.pointer (some ⟨h, 0, none⟩), .pointer (some ⟨r, 0, none⟩)] 61)) V3.heap.size h r f := by
    have st := Stay.alloc V3.heap.size V3 (.cells #[.pointer (some ⟨h, 0, none⟩), .pointer (some ⟨r, 0, none⟩)] 61) (Nat.le_refl _)
    exact ⟨by rw [World.cell?_alloc_new]; rfl, by rw [World.cell?_alloc_new]; rfl, H3.out.2.1.stay st, H3.out.1.stay st⟩
  have HB := H3.out.2.2.alloc ls3 (.cells #[.pointer (some ⟨h, 0, none⟩), .pointer (some ⟨r, 0, none⟩)] 61)
  go_ret
  exact ⟨_, h, r, f, rfl, H4, HB, ls3, lh, lr, lf⟩

/-- append beyond the room: all lies in a new block -/
theorem wp_appG {o : Oper} {a : Act} {w : World} {K : Act → World → Prop} {Q : Exit → Act → World → Prop} (d s : Operand)
    (ho : o.op = .call { callee := .builtin .append, args := #[d, s], argTypes := #[52, 52] })
    (g go len cap sb so m c : Nat) (F G : Nat → Int) (hd : a.eval d = .slice (some ⟨g, go, none⟩) len cap) (hs : a.eval s = .slice (some ⟨sb, so, none⟩) m c)
    (hF : ∀ j : Nat, j < len → w.cell? ⟨g, go + j, none⟩ = some (.int .u8 (F j))) (hG : ∀ j : Nat, j < m → w.cell? ⟨sb, so + j, none⟩ = some (.int .u8 (G j))) (hfull : cap < len + m) (hsm : len + m ≤ 1000)
    (h : ∀ (cp : Nat) (w' : World), Hid (∀ j : Nat, j < len + m → w'.cell? ⟨w.heap.size, j, none⟩ = some (.int .u8 (if j < len then F j else G (j - len)))) → Below w.heap.size w w' → K (a.put o.dst (.slice (some ⟨w.heap.size, 0, none⟩) (len + m) cp)) w') : Oper.wp Tryd.prog o a w K Q := by
  obtain ⟨i, hi, hz0, hz1, hz2⟩ := info_parts byte_info
  have src : ∀ (b o n : Nat) (X : Nat → Int), (∀ j : Nat, j < n → w.cell? ⟨b, o + j, none⟩ = some (.int .u8 (X j))) → ∀ j u, (ints .u8 n X)[j]? = some u → w.cell? ((⟨b, o, none⟩ : Addr).add j) = some u := fun b o n X hX j u hu => by
    have hj : j < n := by have := (List.getElem?_eq_some_iff.1 hu).1; rw [ints_len] at this; exact this
    rw [ints_at .u8 n X j hj] at hu
    cases hu
    rw [Addr.add_mid]; exact hX j hj
  have hr := run_append_grow (P := Tryd.prog) w 52 o.type 5 i (.int .u8 0) Tryd.underlying52 hi hz0 ⟨g, go, none⟩ len cap (ints .u8 len F) (by rw [ints_len, hz1, Nat.mul_one]) (src g go len F hF)
    ⟨sb, so, none⟩ m c (ints .u8 m G) (by rw [ints_len, hz1, Nat.mul_one]) (src sb so m G hG) hfull (by omega) (growslice_fits hfull (by rw [hz2]; omega))
  unfold Oper.wp
  simp [execOp, ho, resolve, invoke, builtin, hd, hs, hr, Result.andThen]
  refine h _ _ (fun j hj => ?_) (below_stay ((Below.refl _ w)) ((Stay.drewN _ w 1).trans (Stay.alloc _ _ _ (Nat.le_refl _))) (Nat.le_refl _))
  show (w.drew.alloc _).cell? ⟨w.drew.heap.size, j, none⟩ = _
  rw [World.cell?_alloc_new]
  rw [Array.getElem?_append_left (by simp [ints_len]; omega), List.getElem?_toArray]
  by_cases h1 : j < len
  · rw [if_pos h1, List.getElem?_append_left (by rw [ints_len]; exact h1)]
    exact ints_at .u8 len F j h1
  · rw [if_neg h1, List.getElem?_append_right (by rw [ints_len]; omega), ints_len]
    exact ints_at .u8 m G (j - len) (by omega)
/-- a slice of one byte is built -/
theorem wp_build1 {o : Oper} {a : Act} {w : World} {K : Act → World → Prop} {Q : Exit → Act → World → Prop} (v : Int) (n : Nat) (ho : o.op = .buildSlice 52 1 #[(0, .tmp n)]) (hx : a.tmps[n]?.getD undef = .int .u8 v)
    (h : K (a.put o.dst (.slice (some ⟨w.heap.size, 0, none⟩) 1 1)) (w.alloc (.cells #[.int .u8 v] 5))) : Oper.wp Tryd.prog o a w K Q := by
  simp [Oper.wp, execOp, ho, hx, go_sem, Oper.upon]
  exact h
/-- a function leaves: each block for deferred calls is shut; S holds, and what holds so tells the result -/
theorem ends_any {n : Nat} {fn : Func} {tmps : Array Value} {v : Value} {B : Nat} {S : World → Prop} {R : Ending → World → Prop} (hSt : ∀ W W', S W → Stay B W W' → S W') (hres : ∀ W, S W → (results fn tmps).run Tryd.prog W = .ok v W) (hR : ∀ W, S W → R (.returned v) W) :
    ∀ (ds : List Nat) (W : World), ds.Nodup → (∀ D ∈ ds, B ≤ D ∧ W.heap[D]? = some (.deferred (some []))) → S W →
      LeavesInM Fence.wide n Tryd.prog fn tmps R (ds.map fun D => { target := .collected D, args := #[] }) .returning W
  | [], W, _, _, h => ⟨_, hres W h, hR W h⟩
  | D :: ds, W, hnd, hd, h => by
    have h0 := hd D (by simp)
    have hnd' := List.nodup_cons.1 hnd
    refine ⟨by simp, .inl ⟨D, _, rfl, run_takeDeferred h0.2, ?_⟩⟩
    have s1 : Stay D W (W.putObj D (.deferred none)) := Stay.putObj _ h0.2 rfl (Nat.le_refl _)
    refine ends_any hSt hres hR ds _ hnd'.2 (fun E hE => ?_) (hSt _ _ h (s1.mono h0.1))
    have hE' := hd E (by simp [hE])
    exact ⟨hE'.1, (World.putObj_heap_other (fun e => hnd'.1 (by cases e; exact hE))).trans hE'.2⟩

/-- while a line is encoded: the codec's variable in B, the index's in B + 2, the poison's in B + 3, the result's in B + 4, what is laid already in P -/
structure EbI (B P c h r f : Nat) (ix : Int) (p : Bool) (X : Nat → Int) (w W : World) : Prop where
  pc : Box W B (.pointer (some ⟨c, 0, none⟩))
  pi : Box W (B + 1 + 1) (.int .i64 ix)
  pp : Box W (B + 1 + 1 + 1) (.bool p)
  o : Bk .u8 W (B + 1 + 1 + 1 + 1) 72 (fun _ => 0)
  x : Bk .u8 W P 72 X
  cc : CcAt W c h r f
  tab : TabW W
  lt : c < B ∧ h < B ∧ r < B ∧ f < B ∧ 0 < B ∧ B + 4 < P
  below : Below B w W
section
variable {B P c h r f : Nat} {ix : Int} {p : Bool} {X : Nat → Int} {w W W' : World}
theorem EbI.next (H : EbI B P c h r f ix p X w W) (k : Below W.heap.size W W') : EbI B P c h r f ix p X w W' :=
  ⟨H.pc.below k H.pc.lt, H.pi.below k H.pi.lt, H.pp.below k H.pp.lt, H.o.next k, H.x.next k, H.cc.next k, H.tab.next k, H.lt, H.below.trans (k.mono (Nat.le_of_lt H.pc.lt))⟩
theorem EbI.stay {C : Nat} (H : EbI B P c h r f ix p X w W) (k : Stay C W W') (hC : B ≤ C) : EbI B P c h r f ix p X w W' :=
  ⟨H.pc.stay k, H.pi.stay k, H.pp.stay k, H.o.stay k, H.x.stay k, H.cc.stay k, H.tab.stay k, H.lt, below_stay H.below k hC⟩
theorem EbI.put (H : EbI B P c h r f ix p X w W) (Y : Nat → Int) : EbI B P c h r f ix p Y w (W.setCells P 0 (ints .u8 72 Y)) := by
  have hl := H.lt
  have hk : ∀ b, b < P → (W.setCells P 0 (ints .u8 72 Y)).heap[b]? = W.heap[b]? := fun b hb => heap_puts P _ 0 W b (by omega)
  exact ⟨H.pc.of (hk _ (by omega)), H.pi.of (hk _ (by omega)), H.pp.of (hk _ (by omega)), H.o.of (hk _ (by omega)), H.x.put Y, H.cc.of (hk _ (by omega)) (hk _ (by omega)) (hk _ (by omega)) (hk _ (by omega)), H.tab.of (hk _ (by omega)), H.lt, belows_put (by omega) _ 0 H.below⟩
theorem ebI_new (t0 t1 t2 t3 t4 t5 : TypeId) {F : Nat → Int} (hc : CcAt w c h r f) (hT : TabW w) (hB : w.heap.size = B)
    (hV : (((((w.alloc (.cells #[.pointer (some ⟨c, 0, none⟩)] t0)).alloc (.cells (ints .u8 64 F).toArray t1)).alloc (.cells #[.int .i64 ix] t2)).alloc (.cells #[.bool p] t3)).alloc (.cells (ints .u8 72 fun _ => 0).toArray t4)).alloc (.cells (ints .u8 72 fun _ => 0).toArray t5) = W) :
    EbI B (B + 1 + 1 + 1 + 1 + 1) c h r f ix p (fun _ => 0) w W ∧ Bk .u8 W (B + 1) 64 F := by
  have h0 := Box.new w t0 (.pointer (some ⟨c, 0, none⟩))
  obtain ⟨W1, hW1⟩ : ∃ W1, w.alloc (.cells #[.pointer (some ⟨c, 0, none⟩)] t0) = W1 := ⟨_, rfl⟩
  have s1 : W1.heap.size = B + 1 := by rw [← hW1, World.size_alloc, hB]
  have h1 := Bk.new .u8 W1 64 F t1
  obtain ⟨W2, hW2⟩ : ∃ W2, W1.alloc (.cells (ints .u8 64 F).toArray t1) = W2 := ⟨_, rfl⟩
  have s2 : W2.heap.size = B + 1 + 1 := by rw [← hW2, World.size_alloc, s1]
  have h2 := Box.new W2 t2 (.int .i64 ix)
  obtain ⟨W3, hW3⟩ : ∃ W3, W2.alloc (.cells #[.int .i64 ix] t2) = W3 := ⟨_, rfl⟩
  have s3 : W3.heap.size = B + 1 + 1 + 1 := by rw [← hW3, World.size_alloc, s2]
  have h3 := Box.new W3 t3 (.bool p)
  obtain ⟨W4, hW4⟩ : ∃ W4, W3.alloc (.cells #[.bool p] t3) = W4 := ⟨_, rfl⟩
  have s4 : W4.heap.size = B + 1 + 1 + 1 + 1 := by rw [← hW4, World.size_alloc, s3]
  have h4 := Bk.new .u8 W4 72 (fun _ => 0) t4
  obtain ⟨W5, hW5⟩ : ∃ W5, W4.alloc (.cells (ints .u8 72 fun _ => 0).toArray t4) = W5 := ⟨_, rfl⟩
  have s5 : W5.heap.size = B + 1 + 1 + 1 + 1 + 1 := by rw [← hW5, World.size_alloc, s4]
  have h5 := Bk.new .u8 W5 72 (fun _ => 0) t5
  rw [hW1, hW2, hW3, hW4, hW5] at hV
  rw [hW1, hB] at h0
  rw [hW2, s1] at h1
  rw [hW3, s2] at h2
  rw [hW4, s3] at h3
  rw [hW5, s4] at h4
  rw [hV, s5] at h5
  have st : ∀ {X Y : World} {o : Obj}, X.alloc o = Y → Stay X.heap.size X Y := fun e => by rw [← e]; exact Stay.alloc _ _ _ (Nat.le_refl _)
  have k5 := st hV
  have k4 := (st hW5).trans (k5.mono (by omega))
  have k3 := (st hW4).trans (k4.mono (by omega))
  have k2 := (st hW3).trans (k3.mono (by omega))
  have k1 := (st hW2).trans (k2.mono (by omega))
  have k0 := (st hW1).trans (k1.mono (by omega))
  have hl := hc.lt
  have ht := hT.lt
  refine ⟨⟨h0.stay k1, h2.stay k3, h3.stay k4, h4.stay k5, h5, hc.stay k0, hT.stay k0, by omega, ?_⟩, h1.stay k2⟩
  have := below_stay (Below.refl w.heap.size w) k0 (Nat.le_refl _)
  rw [hB] at this
  exact this
theorem EbI.congr (H : EbI B P c h r f ix p X w W) {Y : Nat → Int} (e : ∀ i, i < 72 → X i = Y i) : EbI B P c h r f ix p Y w W := { H with x := H.x.congr e }
end
end Go.Proofs.YtdjknaafefnlcaaDoor
