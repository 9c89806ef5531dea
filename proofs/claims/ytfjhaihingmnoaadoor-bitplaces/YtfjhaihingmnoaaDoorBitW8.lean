/-
  Places: where two lists of bytes are unlike; the iterator that tells it, which itself ranges over another one.
-/
import Derived.Test.YtfjhaihingmnoaaDoorBitW7
import Derived.Deep.OwnRows
namespace Go.Proofs.YtfjhaihingmnoaaDoor
open Go.RowKit Go.Shelf
open Bm (wt wtK lef)
attribute [local go_sem] Oper.semAt_some

/-- what is unlike, byte by byte, as far as both go -/
def unl (lo : Nat) (F G : Nat → Nat) : Nat → Nat := cut lo fun j => F j ^^^ G j
theorem unl_byt (lo : Nat) (F G : Nat → Nat) (hF : ∀ j, F j < 256) (hG : ∀ j, G j < 256) (j : Nat) : unl lo F G j < 256 := by
  unfold unl cut
  split
  · exact Nat.xor_lt_two_pow (n := 8) (hF j) (hG j)
  · decide
theorem unl_past (lo : Nat) (F G : Nat → Nat) (j : Nat) (h : lo ≤ j) : unl lo F G j = 0 := by unfold unl cut; rw [if_neg (by omega)]
theorem unl_bit (lo : Nat) (F G : Nat → Nat) (x : Nat) (h : x < 8 * lo) : gb (unl lo F G) x = 1 ↔ ¬ gb F x = gb G x := by
  unfold gb unl cut
  rw [if_pos (by omega), xor_bit]
  split <;> simp [*]

/-- a row of bytes that is being filled -/
structure Fill (w W : World) (g n : Nat) (H : Nat → Nat) : Prop where
  cell : ∀ j, j < n → W.cell? ⟨g, j, none⟩ = some (.int .u8 (H j : Int))
  free : ∀ o, W.frozen? ⟨g, o, none⟩ = false
  below : Below w.heap.size w W

set_option maxRecDepth 100000 in
set_option maxHeartbeats 2000000 in
theorem places_any (a : Option Addr) (n c : Nat) (F : Nat → Nat) (b : Option Addr) (m d : Nat) (G : Nat → Nat) (hn : n ≤ 1000) (hm : m ≤ 1000) (w : World) (hs : Sl w a n c F) (ht : Sl w b m d G) :
    Calls Tryd.prog 20 #[.slice a n c, .slice b m d] w fun e w' =>
      e = .returned (.func (.func 28) #[] #[.pointer (some ⟨w.heap.size + 1, 0, none⟩)]) ∧ Below w.heap.size w w' ∧
      Box w' (w.heap.size + 1) (.slice (some ⟨w.heap.size, 0, none⟩) (min n m) (min n m)) ∧ Sl w' (some ⟨w.heap.size, 0, none⟩) (min n m) (min n m) (unl (min n m) F G) := by
  obtain ⟨lo, hlo, Hlo⟩ : ∃ lo, min n m = lo ∧ Hid (lo ≤ n ∧ lo ≤ m) := ⟨_, rfl, by show _ ∧ _; omega⟩
  have hlo1 : lo ≤ 1000 := by omega
  have rmin : ∀ (ts : Array TypeId) (t : TypeId) (w : World), (Builtin.min_ ts t #[.int .i64 (n : Int), .int .i64 (m : Int)]).run Tryd.prog w = .ok (.int .i64 (lo : Int)) w := fun ts t w => min_run _ _ _ (by omega) ts t w
  have hmk := run_make_row' (P := Tryd.prog) 35 5 (.int .u8 0) 1 Tryd.underlying35 u8_info rfl .i64 .i64 lo (by omega) (by omega)
  rw [hlo]
  have HS : Hid (Sl w a n c F) := hs
  have HT : Hid (Sl w b m d G) := ht
  clear hs ht hlo
  go_enter Tryd.func20, Tryd.ntmps20
  go_wp2
  obtain ⟨V, hV⟩ : ∃ V, (w.alloc (.cells (madeCells #[.int .u8 0] lo) 5)).alloc (.cells #[.slice (some ⟨w.heap.size, 0, none⟩) lo lo] 35) = V := ⟨_, rfl⟩
  have hbox : Box V (w.heap.size + 1) (.slice (some ⟨w.heap.size, 0, none⟩) lo lo) := by
    have := Box.new (w.alloc (.cells (madeCells #[.int .u8 0] lo) 5)) 35 (.slice (some ⟨w.heap.size, 0, none⟩) lo lo)
    rw [hV, World.size_alloc] at this; exact this
  have hfill : Fill w V w.heap.size lo (fun _ => 0) := by
    have hr := World.rowIs_made w (.int .u8 0) lo 5
    have hk : V.heap[w.heap.size]? = (w.alloc (.cells (madeCells #[.int .u8 0] lo) 5)).heap[w.heap.size]? := by rw [← hV]; exact Below.heap_alloc _ _ _ (by simp)
    refine ⟨fun j hj => (World.cell?_of_block (w := w.alloc _) (a := ⟨w.heap.size, j, none⟩) hk).trans (hr.cell hj), fun o => (World.frozen?_of_block (w := w.alloc _) (a := ⟨w.heap.size, o, none⟩) hk).trans (hr.frozen o), ?_⟩
    rw [← hV]; exact ((Below.refl _ w).alloc (Nat.le_refl _) _).alloc (by simp) _
  rw [hV]
  clear hV hmk rmin
  go_loopw [15] (fun iv wr => ∃ i : Nat, i ≤ lo ∧ iv = .int .i64 (i : Int) ∧ Box wr (w.heap.size + 1) (.slice (some ⟨w.heap.size, 0, none⟩) lo lo) ∧ Fill w wr w.heap.size lo (unl i F G)) (fun iv _ => lo - (intOf iv).toNat)
  case atStart => exact ⟨0, by omega, rfl, hbox, by have e : unl 0 F G = fun _ => 0 := by funext j; simp [unl, cut]
                                                    rw [e]; exact hfill⟩
  case round =>
    obtain ⟨i, hi, rfl, hb, hf⟩ := hrel
    by_cases hlt : i < lo
    · have h1 : i < n := by have := Hlo.out; omega
      have h2 : i < m := by have := Hlo.out; omega
      obtain ⟨ab, ao, ea, hca⟩ := (HS.out.below hf.below (Nat.le_refl _)).cells (by omega)
      obtain ⟨bb, bo, eb, hcb⟩ := (HT.out.below hf.below (Nat.le_refl _)).cells (by omega)
      have hA : wr.drew.cell? ⟨ab, ao + i, none⟩ = some (.int .u8 (F i : Int)) := hca i h1
      have hBc : wr.drew.cell? ⟨bb, bo + i, none⟩ = some (.int .u8 (G i : Int)) := hcb i h2
      have hC : wr.drew.cell? ⟨w.heap.size + 1, 0, none⟩ = some (.slice (some ⟨w.heap.size, 0, none⟩) lo lo) := hb.1
      have hD0 : wr.cell? ⟨w.heap.size, i, none⟩ = some (.int .u8 (unl i F G i : Int)) := hf.cell i hlt
      obtain ⟨d0, Hd0⟩ : ∃ d0 : Int, Hid ((unl i F G i : Int) = d0) := ⟨_, rfl⟩
      rw [Hd0.out] at hD0
      have hD : wr.drew.cell? ⟨w.heap.size, i, none⟩ = some (.int .u8 d0) := hD0
      have hE : wr.drew.frozen? ⟨w.heap.size, i, none⟩ = false := hf.free i
      have rx := HS.out.byt i
      have ry := HT.out.byt i
      obtain ⟨x, Hx⟩ : ∃ x, Hid (F i = x) := ⟨_, rfl⟩
      obtain ⟨y, Hy⟩ : ∃ y, Hid (G i = y) := ⟨_, rfl⟩
      rw [Hx.out] at hA rx
      rw [Hy.out] at hBc ry
      obtain ⟨z, hz, rz, Hz⟩ : ∃ z : Nat, bits .xor .u8 (x : Int) (y : Int) = (z : Int) ∧ z < 256 ∧ Hid (x ^^^ y = z) := ⟨_, u8_xor_nat x y rx ry, Nat.xor_lt_two_pow (n := 8) rx ry, rfl⟩
      have fin : Hid (Box (wr.drew.setCell ⟨w.heap.size, i, none⟩ (.int .u8 (z : Int))) (w.heap.size + 1) (.slice (some ⟨w.heap.size, 0, none⟩) lo lo) ∧ Fill w (wr.drew.setCell ⟨w.heap.size, i, none⟩ (.int .u8 (z : Int))) w.heap.size lo (unl (i + 1) F G)) := by
        refine ⟨(hb.drewN 1).of (Below.heap_setCell _ _ _ _ (by simp)), ⟨fun j hj => ?_, fun o => ?_, (hf.below.drew).setCell (p := ⟨w.heap.size, i, none⟩) (Nat.le_refl _) _⟩⟩
        · by_cases e : j = i
          · subst e
            rw [World.cell?_setCell_same' _ _ _ (by rw [hD]; rfl)]
            have : unl (j + 1) F G j = z := by unfold unl cut; rw [if_pos (by omega)]; show F j ^^^ G j = z; rw [Hx.out, Hy.out, Hz.out]
            rw [this]
          · have h0 : unl (i + 1) F G j = unl i F G j := by
              unfold unl cut
              by_cases hji : j < i
              · rw [if_pos (by omega), if_pos hji]
              · rw [if_neg (by omega), if_neg hji]
            rw [h0, ← hf.cell j hj]
            have hne : (⟨w.heap.size, i, none⟩ : Addr) ≠ ⟨w.heap.size, j, none⟩ := fun e' => e (by cases e'; rfl)
            change (World.setCell _ ⟨w.heap.size, i, none⟩ _).cell? ⟨w.heap.size, j, none⟩ = (wr.drew).cell? _
            first | exact World.cell?_setCell_other _ hne | exact World.cell?_setCell_other _ _ hne | exact World.cell?_setCell_other _ _ _ hne | exact World.cell?_setCell_other _ _ _ _ hne
        · rw [World.frozen?_setCell]; exact hf.free o
      clear hca hcb hb hf hD0
      subst ea eb
      go_wp2
      go_region
      all_goals
        go_wp2
        go_roundw
        case rel => exact ⟨i + 1, by omega, by go_num, fin.out⟩
        case measure => simp [intOf]; omega
    · obtain rfl : i = lo := by omega
      have Hb : Hid (Box wr (w.heap.size + 1) (.slice (some ⟨w.heap.size, 0, none⟩) i i)) := hb
      have Hf : Hid (Fill w wr w.heap.size i (unl i F G)) := hf
      clear hb hf
      go_wp2
      go_ret
      exact ⟨rfl, Hf.out.below, Hb.out, fun _ => ⟨w.heap.size, 0, rfl, fun j hj => by rw [Nat.zero_add]; exact Hf.out.cell j hj⟩, unl_byt i F G HS.out.byt HT.out.byt, unl_past i F G, Nat.le_refl _, fun e => by cases e⟩

theorem keep_stay {M : Nat → Prop} {C : Nat} {X Y Z : World} (h : Keep M X Y) (k : Stay C Y Z) (hC : X.heap.size ≤ C) : Keep M X Z :=
  ⟨Nat.le_trans h.1 k.size, fun b hb hm => (k.low b (by omega)).trans (h.2 b hb hm)⟩
theorem gb_at (U : Nat → Nat) (i q : Nat) (hq : q < 8) : gb U (8 * i + q) = U i / 2 ^ q % 2 := by
  unfold gb; rw [show (8 * i + q) / 8 = i from by omega, show (8 * i + q) % 8 = q from by omega]
/-- the marks of the ranges that are over -/
def marks (ds : List Nat) : List Deferred := ds.map fun D => { target := .collected D, args := #[] }
/-- between two bytes -/
structure Plc (J : Nat → World → Prop) (M : Nat → Prop) (W0 : World) (l yb m : Nat) (i : Nat) (ds : List Nat) (W : World) : Prop where
  le : i ≤ m
  j : J (8 * i) W
  keep : Keep M W0 W
  box : Box W yb (.func (.yield l) #[] #[])
  nd : ds.Nodup
  ds : ∀ D ∈ ds, W0.heap.size ≤ D ∧ W.heap[D]? = some (.deferred (some []))
/-- between two places of one byte -/
structure PlI (J : Nat → World → Prop) (M : Nat → Prop) (W0 : World) (l yb ib i : Nat) (ds : List Nat) (q : Nat) (W : World) : Prop where
  j : J (8 * i + q) W
  keep : Keep M W0 W
  box : Box W yb (.func (.yield l) #[] #[])
  ibox : Box W ib (.int .i64 (i : Int))
  ds : ∀ D ∈ ds, W0.heap.size ≤ D ∧ W.heap[D]? = some (.deferred (some []))
structure PlX (Jx : Nat → World → Prop) (W0 : World) (i : Nat) (ds : List Nat) (c : Code) (q : Nat) (W : World) : Prop where
  c : c = .ret
  j : Jx (8 * i + q) W
  ds : ∀ D ∈ ds, W0.heap.size ≤ D ∧ W.heap[D]? = some (.deferred (some []))

set_option maxRecDepth 100000 in
set_option maxHeartbeats 4000000 in
theorem places1_seq (ub g m c : Nat) (U : Nat → Nat) (hm : m ≤ 1000) (w : World) (hub : ub < w.heap.size) (hg : g < w.heap.size) (cu : w.cell? ⟨ub, 0, none⟩ = some (.slice (some ⟨g, 0, none⟩) m c)) (hs : Sl w (some ⟨g, 0, none⟩) m c U) (hT : TabW w) :
    SeqC Tryd.prog 28 #[.pointer (some ⟨ub, 0, none⟩)] (fun x => #[.int .i64 (x : Int)]) (8 * m) (fun x => gb U x = 1) (fun b => b = 0 ∨ b = g) w := by
  intro l M J Jx W hW hM hJ hJx hskip hY h0
  have cu' : W.cell? ⟨ub, 0, none⟩ = some (.slice (some ⟨g, 0, none⟩) m c) := (hW.cell (p := ⟨ub, 0, none⟩) hub).trans cu
  have hT0 := hT.lt
  have HT : Hid (TabW W) := hT.below hW hT0
  have HS : Hid (Sl W (some ⟨g, 0, none⟩) m c U) := hs.below hW (Nat.le_refl _)
  have hgW : g < W.heap.size := Nat.lt_of_lt_of_le hg hW.size
  have h0W : 0 < W.heap.size := Nat.lt_of_lt_of_le hT0 hW.size
  have hubW : ub < W.heap.size := Nat.lt_of_lt_of_le hub hW.size
  have hM0 : ¬ M 0 := fun h => (hM 0 h).2 (.inl rfl)
  have hMg : ¬ M g := fun h => (hM g h).2 (.inr rfl)
  have hMl : Hid (∀ b, M b → b < W.heap.size) := fun b h => (hM b h).1
  have HJ : Hid (Abide W.heap.size J) := hJ
  have HJx : Hid (Abide W.heap.size Jx) := hJx
  have HSk : Hid (∀ (x : Nat) (W1 : World), x < 8 * m → ¬ gb U x = 1 → J x W1 → J (x + 1) W1) := hskip
  have HY : Hid (∀ (x : Nat) (W1 : World), x < 8 * m → gb U x = 1 → J x W1 → YieldAt Fence.wide 8 Tryd.prog l #[.int .i64 (x : Int)] W1 fun e W' => (e = .returned (.bool true) ∧ J (x + 1) W' ∧ Keep M W1 W') ∨ (e = .returned (.bool false) ∧ Jx x W' ∧ Keep M W1 W')) := hY
  clear hW hM hJ hJx hskip hY cu hs hT
  have hEnd : ∀ Wa Wb : World, ((∃ v, Ending.returned (.tuple #[]) = .returned v) ∧ (J (8 * m) Wa ∨ ∃ x, x < 8 * m ∧ gb U x = 1 ∧ Jx x Wa)) → Stay W.heap.size Wa Wb → ((∃ v, Ending.returned (.tuple #[]) = .returned v) ∧ (J (8 * m) Wb ∨ ∃ x, x < 8 * m ∧ gb U x = 1 ∧ Jx x Wb)) :=
    fun _ _ h hs => ⟨⟨_, rfl⟩, h.2.imp (fun h => HJ.out _ _ _ h hs) (fun ⟨x, a, b, c⟩ => ⟨x, a, b, HJx.out _ _ _ c hs⟩)⟩
  refine callsIn_of_wp_marks Tryd.func28 rfl trivial ?_ rfl
  simp only [Tryd.ntmps28, List.size_toArray, List.length_cons, List.length_nil, Nat.reduceAdd, Nat.reduceSub, Array.replicate_succ, Array.replicate_zero, List.push_toArray, List.append_toArray, List.nil_append, List.cons_append]
  gi_wp2
  have hbox : Box (W.alloc (.cells #[.func (.yield l) #[] #[]] 46)) W.heap.size (.func (.yield l) #[] #[]) := Box.new W _ _
  have hplc : Plc J M W l W.heap.size m 0 [] (W.alloc (.cells #[.func (.yield l) #[] #[]] 46)) :=
    ⟨by omega, HJ.out _ _ _ h0 (Stay.alloc _ W _ (Nat.le_refl _)), (Keep.refl _ _).alloc _, hbox, List.nodup_nil, fun D hD => by cases hD⟩
  obtain ⟨V, hV⟩ : ∃ V, W.alloc (.cells #[.func (.yield l) #[] #[]] 46) = V := ⟨_, rfl⟩
  rw [hV] at hplc ⊢
  clear hbox hV h0 cu'
  refine wpIn_loop (fun act Wx => ∃ (i : Nat) (ds : List Nat) (u3 u4 u5 u9 u10 u11 u12 u13 u14 u15 u16 u17 u18 u19 u20 u21 u22 u23 : Value), act = { tmps := #[.func (.yield l) #[] #[], .pointer (some ⟨ub, 0, none⟩), .pointer (some ⟨W.heap.size, 0, none⟩), u3, u4, u5, .slice (some ⟨g, 0, none⟩) m c, .int .i64 (m : Int), .int .i64 (i : Int), u9, u10, u11, u12, u13, u14, u15, u16, u17, u18, u19, u20, u21, u22, u23], defers := marks ds } ∧ Plc J M W l W.heap.size m i ds Wx) (fun act _ => m - (intOf (act.tmps.getD 8 undef)).toNat) ⟨0, [], undef, undef, undef, undef, undef, undef, undef, undef, undef, undef, undef, undef, undef, undef, undef, undef, undef, undef, rfl, hplc⟩ ?_
  rintro act wr ⟨i, ds, u3, u4, u5, u9, u10, u11, u12, u13, u14, u15, u16, u17, u18, u19, u20, u21, u22, u23, rfl, hP⟩
  clear hplc
  by_cases hlt : i < m
  · have hv := HS.out.byt i
    obtain ⟨g', o', e, hc⟩ := HS.out.cells (by omega)
    cases e
    have hcell : wr.cell? ⟨g, i, none⟩ = some (.int .u8 (U i : Int)) := by
      have := hc i hlt
      rw [Nat.zero_add] at this
      exact (World.cell?_of_block (w := W) (a := ⟨g, i, none⟩) (hP.keep.2 g hgW hMg)).trans this
    obtain ⟨v, Hv⟩ : ∃ v, Hid (U i = v) := ⟨_, rfl⟩
    rw [Hv.out] at hcell hv
    have hTr : TabW wr := HT.out.keep hP.keep hM0
    have HP : Hid (Plc J M W l W.heap.size m i ds wr) := hP
    have hWr := hP.keep.1
    have hgr : g < wr.heap.size := by omega
    clear hP hc
    gi_wp2_with (first | (refine ⟨trivial, ?_⟩; gi_at_call 29; refine (callsIn_wide.2 (ones8_any _ _)).mono ?_; rintro e w' ⟨rfl, rfl⟩))
    obtain ⟨V2, hV2⟩ : ∃ V2, (wr.alloc (.cells #[.int .i64 (i : Int)] 3)).alloc (.cells #[.int .u8 (v : Int)] 5) = V2 := ⟨_, rfl⟩
    obtain ⟨sV2, a0, a1, hSV⟩ := box2 wr _ _ _ _ V2 hV2
    rw [hV2]
    clear hV2 hcell
    have hTV : TabW V2 := hTr.of (hSV.low 0 (by omega))
    have hds : ∀ D ∈ ds, D < wr.heap.size := fun D hD => (Array.getElem?_eq_some_iff.1 (HP.out.ds D hD).2).1
    have hyb := HP.out.box.lt
    refine rangeC rfl (enters_of Tryd.func33 (by kernel_rfl) rfl) (ones8_seq (wr.heap.size + 1) v hv V2 a1.lt a1.1 hTV) (fun _ => rfl)
      M (fun b hb => ⟨by have := hMl.out b hb; omega, fun e => hM0 (e ▸ hb)⟩) (by rintro b rfl; omega)
      (PlI J M W l W.heap.size wr.heap.size i ds) (PlX Jx W i ds)
      (fun q A B h hs => ⟨HJ.out _ _ _ h.j (hs.mono (by omega)), keep_stay h.keep hs (by omega), h.box.stay hs, h.ibox.stay hs, fun D hD => ⟨(h.ds D hD).1, (hs.low D (by have := hds D hD; omega)).trans (h.ds D hD).2⟩⟩)
      (fun cc q A B h hs => ⟨h.c, HJx.out _ _ _ h.j (hs.mono (by omega)), fun D hD => ⟨(h.ds D hD).1, (hs.low D (by have := hds D hD; omega)).trans (h.ds D hD).2⟩⟩)
      ⟨HJ.out _ _ _ HP.out.j (hSV.mono (by omega)), keep_stay HP.out.keep hSV (by omega), HP.out.box.stay hSV, a0, fun D hD => ⟨(HP.out.ds D hD).1, (hSV.low D (hds D hD)).trans (HP.out.ds D hD).2⟩⟩
      (fun q Wx hq hp h => ⟨HSk.out (8 * i + q) Wx (by omega) (by rw [gb_at U i q hq, Hv.out]; exact hp) h.j, h.keep, h.box, h.ibox, h.ds⟩) ?round ?done ?stop
    case round =>
      rintro l2 q Wz W2 hq hp hI
      have hx : ((8 * i + q : Nat) : Int) = 8 * (i : Int) + (q : Int) := by omega
      obtain ⟨fn, tmps, assign, body, hyl, hR⟩ := yieldAt_any (m' := 7) (HY.out (8 * i + q) W2 (by omega) (by rw [gb_at U i q hq, Hv.out]; exact hp) hI.j)
      rw [hx] at hyl
      have q0 := hI.box.1; have q1 := hI.ibox.1
      have HI : Hid (PlI J M W l W.heap.size wr.heap.size i ds q W2) := hI
      have hi3 : i ≤ 1000 := by omega
      clear hI hp
      gi_wp2
      try (refine ⟨trivial, ?_⟩; gi_wp2)
      refine RoundIn.mono (show RoundIn (Fence.wide.inRound l2) 7 _ _ _ _ _ _ _ _ from hR) ?_
      rintro e W3 hE
      obtain ⟨r, rfl, hE2⟩ := yields hE
      have hn1 : ¬ M W.heap.size := fun h => by have := hMl.out _ h; omega
      have hn2 : ¬ M wr.heap.size := fun h => by have := hMl.out _ h; omega
      have hdk : ∀ Wk, Keep M W2 Wk → ∀ D ∈ ds, W.heap.size ≤ D ∧ Wk.heap[D]? = some (.deferred (some [])) := fun Wk hk D hD => by
        have h1 := HI.out.ds D hD
        exact ⟨h1.1, (hk.2 D (Array.getElem?_eq_some_iff.1 h1.2).1 (fun h => by have := hMl.out _ h; omega)).trans h1.2⟩
      rcases hE2.out with ⟨rfl, hJ3, hK3⟩ | ⟨rfl, hJ3, hK3⟩
      · have HF : Hid (Keep M W2 W3 ∧ PlI J M W l W.heap.size wr.heap.size i ds (q + 1) W3) := ⟨hK3, hJ3, HI.out.keep.trans hK3, hK3.box HI.out.box hn1, hK3.box HI.out.ibox hn2, hdk _ hK3⟩
        clear hdk hE hE2
        gi_wp2
        exact HF.out
      · have HF : Hid (Keep M W2 W3 ∧ PlX Jx W i ds .ret q W3) := ⟨hK3, rfl, hJ3, hdk _ hK3⟩
        clear hdk hE hE2
        gi_wp2
        exact HF.out
    case done =>
      rintro D W3 hD hI hK
      have HI : Hid (PlI J M W l W.heap.size wr.heap.size i ds 8 W3) := hI
      clear hI
      gi_wp2
      refine ⟨⟨i + 1, D :: ds, _, _, _, _, _, _, _, _, _, _, _, _, _, _, _, _, _, _, rfl, by omega, ?_, HI.out.keep, HI.out.box, List.nodup_cons.2 ⟨fun h => by have := hds D h; omega, HP.out.nd⟩, ?_⟩, ?_⟩
      · have := HI.out.j
        rw [show 8 * (i + 1) = 8 * i + 8 from by omega]; exact this
      · intro E hE
        rcases List.mem_cons.1 hE with rfl | hE
        · exact ⟨by omega, hK⟩
        · exact HI.out.ds E hE
      · simp [intOf]; omega
    case stop =>
      rintro D cc q W3 hD hq hp hX hK
      obtain ⟨rfl, hj, hds3⟩ := hX
      gi_wp2
      show LeavesInM Fence.wide 9 Tryd.prog Tryd.f28 _ _ (marks (D :: ds)) .returning W3
      exact leaves_all (B := W.heap.size) rfl hEnd (D :: ds) W3 (List.nodup_cons.2 ⟨fun h => by have := hds D h; omega, HP.out.nd⟩)
        (fun E hE => by
          rcases List.mem_cons.1 hE with rfl | hE
          · exact ⟨by omega, hK⟩
          · exact hds3 E hE)
        ⟨⟨_, rfl⟩, .inr ⟨8 * i + q, by omega, by rw [gb_at U i q hq, Hv.out]; exact hp, hj⟩⟩
  · have hPle := hP.le
    obtain rfl : i = m := by omega
    have HP : Hid (Plc J M W l W.heap.size i i ds wr) := hP
    clear hP
    gi_wp2
    show LeavesInM Fence.wide 9 Tryd.prog Tryd.f28 _ _ (marks ds) .returning wr
    exact leaves_all (B := W.heap.size) rfl hEnd ds wr HP.out.nd HP.out.ds ⟨⟨_, rfl⟩, .inl HP.out.j⟩
end Go.Proofs.YtfjhaihingmnoaaDoor
