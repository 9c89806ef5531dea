/-
  The walk of the law GfLinear: two lists are made, filled, and summed.
-/
import Derived.Test.YtmjmjccfhnckiaaGfW5
import Derived.Deep.OwnRows
import Derived.Deep.DeepCutAuto
import Derived.BigRegion
import Derived.Deep.RegionWith
namespace Go.Proofs.Ytmjmjccfhnckiaa
open Go.RowKit Go.Deep
open Gf (eI lI gI dI pI)

theorem xor8_nat (P Q : Nat) (hP : P < 256) (hQ : Q < 256) : P ^^^ Q < 256 := by
  have : P ^^^ Q < 2 ^ 8 := Nat.xor_lt_two_pow (by simpa using hP) (by simpa using hQ)
  simpa using this
theorem xor8_swap (p q r t : Int) (hp : 0 ≤ p ∧ p < 256) (hq : 0 ≤ q ∧ q < 256) (hr : 0 ≤ r ∧ r < 256) (ht : 0 ≤ t ∧ t < 256) :
    bits .xor .u8 (bits .xor .u8 p q) (bits .xor .u8 r t) = bits .xor .u8 (bits .xor .u8 p r) (bits .xor .u8 q t) := by
  obtain ⟨P, rfl⟩ := Int.eq_ofNat_of_zero_le hp.1
  obtain ⟨Q, rfl⟩ := Int.eq_ofNat_of_zero_le hq.1
  obtain ⟨R, rfl⟩ := Int.eq_ofNat_of_zero_le hr.1
  obtain ⟨T, rfl⟩ := Int.eq_ofNat_of_zero_le ht.1
  have hP : P < 256 := by omega
  have hQ : Q < 256 := by omega
  have hR : R < 256 := by omega
  have hT : T < 256 := by omega
  rw [u8_xor_nat P Q hP hQ, u8_xor_nat R T hR hT, u8_xor_nat P R hP hR, u8_xor_nat Q T hQ hT, u8_xor_nat _ _ (xor8_nat P Q hP hQ) (xor8_nat R T hR hT), u8_xor_nat _ _ (xor8_nat P R hP hR) (xor8_nat Q T hQ hT), Gf.xor4]
def sumL (la lb : List Int) (N : Nat) : List Int := (List.range N).map fun j => bits .xor .u8 (la[j]?.getD 0) (lb[j]?.getD 0)
def timL (la : List Int) (x : Int) (N : Nat) : List Int := (List.range N).map fun j => gI (la[j]?.getD 0) x
theorem sumL_get (la lb : List Int) (N j : Nat) (h : j < N) : (sumL la lb N)[j]?.getD 0 = bits .xor .u8 (la[j]?.getD 0) (lb[j]?.getD 0) := by
  simp [sumL, h]
theorem timL_get (la : List Int) (x : Int) (N j : Nat) (h : j < N) : (timL la x N)[j]?.getD 0 = gI (la[j]?.getD 0) x := by
  simp [timL, h]
theorem dotN_sum (la lb lc : List Int) (N k : Nat) (hk : k ≤ N) (ha : ∀ j, j < N → 0 ≤ la[j]?.getD 0 ∧ la[j]?.getD 0 < 256) (hb : ∀ j, j < N → 0 ≤ lb[j]?.getD 0 ∧ lb[j]?.getD 0 < 256) (hc : ∀ j, j < N → 0 ≤ lc[j]?.getD 0 ∧ lc[j]?.getD 0 < 256) :
    dotN (sumL la lb N) lc k = bits .xor .u8 (dotN la lc k) (dotN lb lc k) := by
  induction k with
  | zero => simp only [dotN]; decide +kernel
  | succ k ih =>
    have h1 := ha k (by omega)
    have h2 := hb k (by omega)
    have h3 := hc k (by omega)
    have h4 := dotN_bd la lc k
    have h5 := dotN_bd lb lc k
    have h6 := Gf.gI_bd (la[k]?.getD 0) (lc[k]?.getD 0)
    have h7 := Gf.gI_bd (lb[k]?.getD 0) (lc[k]?.getD 0)
    simp only [dotN]
    rw [ih (by omega), sumL_get la lb N k (by omega), Gf.gI_comm _ (lc[k]?.getD 0), Gf.gI_xor _ _ _ h3.1 h3.2 h1.1 h1.2 h2.1 h2.2, Gf.gI_comm (lc[k]?.getD 0) (la[k]?.getD 0), Gf.gI_comm (lc[k]?.getD 0) (lb[k]?.getD 0)]
    exact xor8_swap _ _ _ _ h4 h5 h6 h7
theorem dotN_tim (la lc : List Int) (x : Int) (hx : 0 ≤ x ∧ x < 256) (N k : Nat) (hk : k ≤ N) (ha : ∀ j, j < N → 0 ≤ la[j]?.getD 0 ∧ la[j]?.getD 0 < 256) (hc : ∀ j, j < N → 0 ≤ lc[j]?.getD 0 ∧ lc[j]?.getD 0 < 256) :
    dotN (timL la x N) lc k = gI (dotN la lc k) x := by
  induction k with
  | zero => simp only [dotN]; rw [Gf.gI_zero_left]
  | succ k ih =>
    have h1 := ha k (by omega)
    have h3 := hc k (by omega)
    have h4 := dotN_bd la lc k
    have h6 := Gf.gI_bd (la[k]?.getD 0) (lc[k]?.getD 0)
    simp only [dotN]
    rw [ih (by omega), timL_get la x N k (by omega), Gf.gI_comm (bits .xor .u8 _ _) x, Gf.gI_xor _ _ _ hx.1 hx.2 h4.1 h4.2 h6.1 h6.2, Gf.gI_comm x (dotN la lc k)]
    congr 1
    rw [Gf.gI_assoc _ _ _ h1.1 h1.2 hx.1 hx.2 h3.1 h3.2, Gf.gI_comm x (lc[k]?.getD 0), ← Gf.gI_assoc _ _ _ h1.1 h1.2 h3.1 h3.2 hx.1 hx.2, Gf.gI_comm x]
theorem dotN_comm (la lb : List Int) (k : Nat) : dotN la lb k = dotN lb la k := by
  induction k with
  | zero => rfl
  | succ k ih => simp only [dotN]; rw [ih, Gf.gI_comm]
theorem dotN_take (la lb : List Int) (N k : Nat) (hk : k ≤ N) : dotN (la.take N) lb k = dotN la lb k := by
  induction k with
  | zero => rfl
  | succ k ih => simp only [dotN]; rw [ih (by omega), List.getElem?_take_of_lt (by omega)]

theorem dot_len (b : Nat) (aa ab : Option Addr) (na nb ca cb : Nat) (la lb : List Int) (w : World) (hf : FldAt w b)
    (sa : SlAt w aa la) (ba : Byt la) (ea : la.length = na) (ma : na ≤ maxLen) (sb : SlAt w ab lb) (bb : Byt lb) (eb : lb.length = nb) (mb : nb ≤ maxLen) :
    Calls Try.prog 21 #[.pointer (some ⟨b, 0, none⟩), .slice aa na ca, .slice ab nb cb] w fun e w' => e = .returned (.int .u8 (dotI la lb)) ∧ ∃ k, w' = w.drewN k := by
  subst ea; subst eb
  exact dot_any b aa ab ca cb la lb w hf sa ba ma sb bb mb

theorem SlAt.take {w : World} {a : Option Addr} {l : List Int} (h : SlAt w a l) (n : Nat) : SlAt w a (l.take n) := by
  rcases h with h | ⟨b, off, ha, hb, hl⟩
  · left; simp [h]
  · right
    refine ⟨b, off, ha, hb, fun i hi => ?_⟩
    have hi' : i < n ∧ i < l.length := by simp at hi; omega
    rw [List.getElem?_take_of_lt hi'.1]
    exact hl i hi'.2
theorem Byt.take {l : List Int} (h : Byt l) (n : Nat) : Byt (l.take n) := by
  intro i hi
  have hi' : i < n ∧ i < l.length := by simp at hi; omega
  rw [List.getElem?_take_of_lt hi'.1]
  exact h i hi'.2
theorem dotI_bd (la lb : List Int) : 0 ≤ dotI la lb ∧ dotI la lb < 256 := dotN_bd _ _ _
theorem info_u8 : (Try.prog.info? 5).map (fun i => (i.zero, i.size, i.bytes)) = some (some (.int .u8 0), 1, 1) := by kernel_rfl

theorem run_min4 {P : Program} (a b c N : Nat) (h : N = min (min (min a b) c) 200) (ts : Array TypeId) (t : TypeId) (w : World) :
    (Builtin.min_ ts t #[.int .i64 (a : Int), .int .i64 (b : Int), .int .i64 (c : Int), .int .i64 200]).run P w = .ok (.int .i64 (N : Int)) w := by
  have e : (if (200 : Int) < (if (c : Int) < (if (b : Int) < (a : Int) then (b : Int) else a) then (c : Int) else (if (b : Int) < (a : Int) then (b : Int) else a)) then (200 : Int) else (if (c : Int) < (if (b : Int) < (a : Int) then (b : Int) else a) then (c : Int) else (if (b : Int) < (a : Int) then (b : Int) else a))) = (N : Int) := by
    repeat' split
    all_goals omega
  rw [← e]
  simp [Builtin.min_, Builtin.min2]

theorem below_two (B : Nat) (w : World) (k : Nat) (o1 o2 : Obj) (h : B ≤ w.heap.size) : Below B w (((w.drewN k).alloc o1).alloc o2) := by
  have h0 : Below B w (w.drewN k) := ⟨rfl, rfl, rfl, Nat.le_refl _, fun _ _ => rfl⟩
  exact (h0.alloc h o1).alloc (by simp; omega) o2
theorem made_rows (w : World) (k n : Nat) (t : TypeId) (z : Value) (m : Nat) (hm : m = w.heap.size) :
    (((w.drewN k).alloc (.cells (madeCells #[z] n) t)).alloc (.cells (madeCells #[z] n) t)).rowIs m t n (fun _ => z) ∧
    (((w.drewN k).alloc (.cells (madeCells #[z] n) t)).alloc (.cells (madeCells #[z] n) t)).rowIs (m + 1) t n (fun _ => z) := by
  subst hm
  constructor
  · exact World.rowIs.alloc (World.rowIs_made (w.drewN k) z n t) _
  · have h := World.rowIs_made ((w.drewN k).alloc (.cells (madeCells #[z] n) t)) z n t
    have e : ((w.drewN k).alloc (.cells (madeCells #[z] n) t)).heap.size = w.heap.size + 1 := by simp
    rw [e] at h
    exact h
theorem below_drewN {B : Nat} {w w' : World} (h : Below B w w') (k : Nat) : Below B w (w'.drewN k) := ⟨h.os, h.tape, h.output, h.size, h.block⟩
theorem below_of_new {w wr : World} {o : Obj} (h : Below (w.heap.size + 1) (w.alloc o) wr) : Below w.heap.size w wr :=
  ((Below.refl _ w).alloc (Nat.le_refl _) o).trans (h.mono (by omega))
def fs (la lb : List Int) (k : Nat) : Nat → Value := fun j => .int .u8 (if j < k then bits .xor .u8 (la[j]?.getD 0) (lb[j]?.getD 0) else 0)
def ft (la : List Int) (x : Int) (k : Nat) : Nat → Value := fun j => .int .u8 (if j < k then gI (la[j]?.getD 0) x else 0)
theorem fs_step (la lb : List Int) (k N : Nat) (y z : Int) (Hy : Hid (y = la[k]?.getD 0)) (Hz : Hid (z = lb[k]?.getD 0)) (j : Nat) (_ : j < N) : (if j = k then Value.int .u8 (bits .xor .u8 y z) else fs la lb k j) = fs la lb (k + 1) j := by
  unfold fs
  by_cases e : j = k
  · subst e; rw [if_pos rfl, if_pos (by omega), ← Hy.out, ← Hz.out]
  · rw [if_neg e]
    by_cases h : j < k
    · rw [if_pos h, if_pos (by omega)]
    · rw [if_neg h, if_neg (by omega)]
theorem ft_step (la : List Int) (x : Int) (k N : Nat) (y : Int) (Hy : Hid (y = la[k]?.getD 0)) (j : Nat) (_ : j < N) : (if j = k then Value.int .u8 (gI y x) else ft la x k j) = ft la x (k + 1) j := by
  unfold ft
  by_cases e : j = k
  · subst e; rw [if_pos rfl, if_pos (by omega), ← Hy.out]
  · rw [if_neg e]
    by_cases h : j < k
    · rw [if_pos h, if_pos (by omega)]
    · rw [if_neg h, if_neg (by omega)]

set_option maxRecDepth 100000 in
set_option maxHeartbeats 1000000 in
theorem gfLinear_core (a0 : Option Addr) (cap0 : Nat) (la : List Int) (a1 : Option Addr) (cap1 : Nat) (lb : List Int) (a2 : Option Addr) (cap2 : Nat) (lc : List Int) (x : Int) (w : World)
    (sa : SlAt w a0 la) (ba : Byt la) (ca : la.length ≤ cap0) (ma : la.length ≤ maxLen)
    (sb : SlAt w a1 lb) (bb : Byt lb) (cb : lb.length ≤ cap1) (mb : lb.length ≤ maxLen)
    (sc : SlAt w a2 lc) (bc : Byt lc) (cc : lc.length ≤ cap2) (mc : lc.length ≤ maxLen) (hx : 0 ≤ x ∧ x ≤ 255) :
    Calls Try.prog 8 #[.slice a0 la.length cap0, .slice a1 lb.length cap1, .slice a2 lc.length cap2, .int .u8 x] w fun e w' => e = .returned (.bool true) ∧ Below w.heap.size w w' := by
  have hf := fldAt_new w 49
  obtain ⟨N, hN⟩ : ∃ N, N = min (min (min la.length lb.length) lc.length) 200 := ⟨_, rfl⟩
  have HN := hN
  unfold maxLen at ma mb mc
  have n1 : N ≤ la.length := by omega
  have n2 : N ≤ lb.length := by omega
  have n3 : N ≤ lc.length := by omega
  have n4 : N ≤ 200 := by omega
  have hmin := run_min4 (P := Try.prog) la.length lb.length lc.length N hN
  clear hN HN
  go_enter Try.func8, Try.ntmps8
  go_upto_region 5 with (first | (go_at_call 9; refine (new_any _).mono ?_; rintro e w' ⟨rfl, rfl⟩) | (go_at_call 10; refine (anchor_any _ _ hf).mono ?_; rintro e w' ⟨rfl, k1, rfl⟩))
  clear hmin
  have hmk := run_make_row' (P := Try.prog) 39 5 (.int .u8 0) 1 Try.underlying39 info_u8 rfl .i64 .i64 N (by omega) (by omega)
  go_cut [11, 12] (fun s t wx => ∃ bs bt, bs ≠ bt ∧ w.heap.size < bs ∧ w.heap.size < bt ∧ s = .slice (some ⟨bs, 0, none⟩) N N ∧ t = .slice (some ⟨bt, 0, none⟩) N N ∧ wx.rowIs bs 5 N (fun _ => .int .u8 0) ∧ wx.rowIs bt 5 N (fun _ => .int .u8 0) ∧ Below (w.heap.size + 1) (w.alloc (.cells fieldCells 49)) wx)
  case first =>
    go_region
    · go_wp2
      go_meet
      case rel =>
        obtain ⟨r1, r2⟩ := made_rows (w.alloc (.cells fieldCells 49)) (k1 + 1) N 5 (.int .u8 0) (w.heap.size + 1) (by simp)
        exact ⟨w.heap.size + 1, w.heap.size + 1 + 1, by omega, by omega, by omega, rfl, rfl, r1, r2, below_two _ _ _ _ _ (by simp)⟩
    · go_wp2
      go_meet
      case rel =>
        obtain ⟨r1, r2⟩ := made_rows (w.alloc (.cells fieldCells 49)) (k1 + 1) N 5 (.int .u8 0) (w.heap.size + 1) (by simp)
        exact ⟨w.heap.size + 1 + 1, w.heap.size + 1, by omega, by omega, by omega, rfl, rfl, r2, r1, below_two _ _ _ _ _ (by simp)⟩
  case rest =>
    clear hmk
    obtain ⟨bs, bt, hst, hbs, hbt, rfl, rfl, rs, rt, hB⟩ := hcut
    go_wp2
    go_loopw [30] (fun i wr => ∃ k : Nat, k ≤ N ∧ i = .int .i64 k ∧ wr.rowIs bs 5 N (fs la lb k) ∧ wr.rowIs bt 5 N (ft la x k) ∧ Below (w.heap.size + 1) (w.alloc (.cells fieldCells 49)) wr) (fun i _ => N - (intOf i).toNat)
    case atStart => exact ⟨0, by omega, rfl, rs.congr (fun i _ => by simp [fs]), rt.congr (fun i _ => by simp [ft]), hB⟩
    case round =>
      clear rs rt hB
      obtain ⟨k, hk, rfl, rs, rt, hB⟩ := hrel
      have hfr : FldAt wr w.heap.size := hf.of (fun o => hB.cell (p := ⟨_, o, none⟩) (by simp))
      by_cases hlt : k < N
      · obtain ⟨y, hy, Hy⟩ : ∃ y, (0 ≤ y ∧ y < 256) ∧ Hid (y = la[k]?.getD 0) := ⟨_, ba k (by omega), rfl⟩
        obtain ⟨z, hz, Hz⟩ : ∃ z, (0 ≤ z ∧ z < 256) ∧ Hid (z = lb[k]?.getD 0) := ⟨_, bb k (by omega), rfl⟩
        rcases sa with sa | ⟨b1, o1, rfl, hb1, hc1⟩
        · rw [sa] at n1; simp at n1; omega
        rcases sb with sb | ⟨b2, o2, rfl, hb2, hc2⟩
        · rw [sb] at n2; simp at n2; omega
        have c1 : wr.cell? ⟨b1, o1 + k, none⟩ = some (.int .u8 y) := by
          rw [Hy.out, hB.cell (p := ⟨b1, o1 + k, none⟩) (by simp; omega), World.cell?_alloc_lt _ _ _ hb1]; exact hc1 k (by omega)
        have c2 : wr.cell? ⟨b2, o2 + k, none⟩ = some (.int .u8 z) := by
          rw [Hz.out, hB.cell (p := ⟨b2, o2 + k, none⟩) (by simp; omega), World.cell?_alloc_lt _ _ _ hb2]; exact hc2 k (by omega)
        have c3 := rs.cell hlt
        have z3 := rs.frozen k
        go_upto_region 9 with fail
        go_cut [13] (fun v wx => v = .int .i64 k ∧ wx.rowIs bs 5 N (fs la lb (k + 1)) ∧ wx.rowIs bt 5 N (ft la x k) ∧ Below (w.heap.size + 1) (w.alloc (.cells fieldCells 49)) wx)
        case first =>
          go_region
          go_wp2
          go_meet
          case rel => exact ⟨rfl, (rs.set k _).congr (fs_step la lb k N y z Hy Hz), rt.setOther (a := ⟨bs, k, none⟩) hst.symm _, (hB.setCell (p := ⟨bs, k, none⟩) (by simp; omega) _).drew⟩
        case rest =>
          clear rs rt hB c1 c2 c3 z3 hfr
          obtain ⟨rfl, rs, rt, hB⟩ := hcut
          have hfr : FldAt wc w.heap.size := hf.of (fun o => hB.cell (p := ⟨_, o, none⟩) (by simp))
          have c1 : wc.cell? ⟨b1, o1 + k, none⟩ = some (.int .u8 y) := by
            rw [Hy.out, hB.cell (p := ⟨b1, o1 + k, none⟩) (by simp; omega), World.cell?_alloc_lt _ _ _ hb1]; exact hc1 k (by omega)
          have c3 := rt.cell hlt
          have z3 := rt.frozen k
          clear hc1 hc2
          go_wp2_with (go_at_call 13; refine (mul_any _ _ _ (by omega) (by omega) (by omega) (by omega) _ (by exact hfr.of fun _ => rfl)).mono ?_; rintro e w' ⟨rfl, q, rfl⟩)
          go_roundw
          case rel =>
            have rs' : (wc.drewN q).rowIs bs 5 N (fs la lb (k + 1)) := rs
            have rt' : (wc.drewN q).rowIs bt 5 N (ft la x k) := rt
            exact ⟨k + 1, by omega, by go_num, rs'.setOther (a := ⟨bt, k, none⟩) hst _, (rt'.set k _).congr (ft_step la x k N y Hy), (below_drewN hB q).setCell (p := ⟨bt, k, none⟩) (by simp; omega) _⟩
          case measure => simp [intOf]; omega
      · have hkN : k = N := by omega
        subst hkN
        clear hlt
        have sL : SlAt wr (some ⟨bs, 0, none⟩) (sumL la lb k) := .inr ⟨bs, 0, rfl, rs.lt, fun i hi => by
          have hi' : i < k := by simpa [sumL] using hi
          rw [Nat.zero_add, rs.cell hi', sumL_get la lb k i hi']; simp [fs, hi']⟩
        have tL : SlAt wr (some ⟨bt, 0, none⟩) (timL la x k) := .inr ⟨bt, 0, rfl, rt.lt, fun i hi => by
          have hi' : i < k := by simpa [timL] using hi
          rw [Nat.zero_add, rt.cell hi', timL_get la x k i hi']; simp [ft, hi']⟩
        have keep : ∀ {a : Option Addr} {l : List Int}, SlAt w a l → SlAt wr a l := fun h => (h.alloc (.cells fieldCells 49)).kept hB.size (fun b o hb => hB.cell (p := ⟨b, o, none⟩) (by simpa using hb))
        have sa' := keep sa
        have sb' := keep sb
        have sc' := keep sc
        clear keep
        have bL : Byt (sumL la lb k) := fun i hi => by
          have hi' : i < k := by simpa [sumL] using hi
          have h1 := ba i (by omega)
          have h2 := bb i (by omega)
          rw [sumL_get la lb k i hi']; exact Gf.xor8_bd _ _ h1.1 h1.2 h2.1 h2.2
        have bT : Byt (timL la x k) := fun i hi => by
          have hi' : i < k := by simpa [timL] using hi
          rw [timL_get la x k i hi']; exact Gf.gI_bd _ _
        have eL : (sumL la lb k).length = k := by simp [sumL]
        have eT : (timL la x k).length = k := by simp [timL]
        have ea : (la.take k).length = k := by simp; omega
        have eb : (lb.take k).length = k := by simp; omega
        have ec : (lc.take k).length = k := by simp; omega
        have ba' : ∀ j, j < k → 0 ≤ la[j]?.getD 0 ∧ la[j]?.getD 0 < 256 := fun j hj => ba j (by omega)
        have bb' : ∀ j, j < k → 0 ≤ lb[j]?.getD 0 ∧ lb[j]?.getD 0 < 256 := fun j hj => bb j (by omega)
        have bc' : ∀ j, j < k → 0 ≤ lc[j]?.getD 0 ∧ lc[j]?.getD 0 < 256 := fun j hj => bc j (by omega)
        have f1 : dotI (la.take k) lc = dotN la lc k := by unfold dotI; rw [ea, show min k lc.length = k from by omega, dotN_take _ _ _ _ (Nat.le_refl _)]
        have f2 : dotI (lb.take k) lc = dotN lb lc k := by unfold dotI; rw [eb, show min k lc.length = k from by omega, dotN_take _ _ _ _ (Nat.le_refl _)]
        have f3 : dotI (sumL la lb k) lc = dotN (sumL la lb k) lc k := by unfold dotI; rw [eL, show min k lc.length = k from by omega]
        have f4 : dotI (timL la x k) lc = dotN (timL la x k) lc k := by unfold dotI; rw [eT, show min k lc.length = k from by omega]
        have f5 : dotI (lc.take k) la = dotN la lc k := by unfold dotI; rw [ec, show min k la.length = k from by omega, dotN_take _ _ _ _ (Nat.le_refl _), dotN_comm]
        obtain ⟨D1, d1, F1⟩ : ∃ D, (0 ≤ D ∧ D < 256) ∧ Hid (dotI (sumL la lb k) lc = D) := ⟨_, dotI_bd _ _, rfl⟩
        obtain ⟨D2, d2, F2⟩ : ∃ D, (0 ≤ D ∧ D < 256) ∧ Hid (dotI (la.take k) lc = D) := ⟨_, dotI_bd _ _, rfl⟩
        obtain ⟨D3, d3, F3⟩ : ∃ D, (0 ≤ D ∧ D < 256) ∧ Hid (dotI (lb.take k) lc = D) := ⟨_, dotI_bd _ _, rfl⟩
        obtain ⟨D4, d4, F4⟩ : ∃ D, (0 ≤ D ∧ D < 256) ∧ Hid (dotI (timL la x k) lc = D) := ⟨_, dotI_bd _ _, rfl⟩
        obtain ⟨D5, d5, F5⟩ : ∃ D, (0 ≤ D ∧ D < 256) ∧ Hid (dotI (lc.take k) la = D) := ⟨_, dotI_bd _ _, rfl⟩
        have g1 : (D1 == bits .xor .u8 D2 D3) = true := by rw [beq_iff_eq, ← F1.out, ← F2.out, ← F3.out, f1, f2, f3]; exact dotN_sum la lb lc k k (Nat.le_refl _) ba' bb' bc'
        have g2 : (D4 == gI D2 x) = true := by rw [beq_iff_eq, ← F4.out, ← F2.out, f1, f4]; exact dotN_tim la lc x ⟨hx.1, by omega⟩ k k (Nat.le_refl _) ba' bc'
        have g3 : (D2 == D5) = true := by rw [beq_iff_eq, ← F2.out, ← F5.out, f1, f5]
        clear f1 f2 f3 f4 f5 ba' bb' bc'
        have K1 : Hid (∀ n, Calls Try.prog 21 #[.pointer (some ⟨w.heap.size, 0, none⟩), .slice (some ⟨bs, 0, none⟩) k k, .slice a2 lc.length cap2] (wr.drewN n) fun e w'' => e = .returned (.int .u8 D1) ∧ ∃ m, w'' = wr.drewN m) := fun n => Calls.quiet_of (by rw [← F1.out]; exact dot_len _ _ _ _ _ _ _ _ _ _ (hfr.drewN n) (sL.drewN n) bL eL (by unfold maxLen; omega) (sc'.drewN n) bc rfl (by unfold maxLen; omega))
        have K2 : Hid (∀ n, Calls Try.prog 21 #[.pointer (some ⟨w.heap.size, 0, none⟩), .slice a0 k cap0, .slice a2 lc.length cap2] (wr.drewN n) fun e w'' => e = .returned (.int .u8 D2) ∧ ∃ m, w'' = wr.drewN m) := fun n => Calls.quiet_of (by rw [← F2.out]; exact dot_len _ _ _ _ _ _ _ _ _ _ (hfr.drewN n) ((sa'.take k).drewN n) (ba.take k) ea (by unfold maxLen; omega) (sc'.drewN n) bc rfl (by unfold maxLen; omega))
        have K3 : Hid (∀ n, Calls Try.prog 21 #[.pointer (some ⟨w.heap.size, 0, none⟩), .slice a1 k cap1, .slice a2 lc.length cap2] (wr.drewN n) fun e w'' => e = .returned (.int .u8 D3) ∧ ∃ m, w'' = wr.drewN m) := fun n => Calls.quiet_of (by rw [← F3.out]; exact dot_len _ _ _ _ _ _ _ _ _ _ (hfr.drewN n) ((sb'.take k).drewN n) (bb.take k) eb (by unfold maxLen; omega) (sc'.drewN n) bc rfl (by unfold maxLen; omega))
        have K4 : Hid (∀ n, Calls Try.prog 21 #[.pointer (some ⟨w.heap.size, 0, none⟩), .slice (some ⟨bt, 0, none⟩) k k, .slice a2 lc.length cap2] (wr.drewN n) fun e w'' => e = .returned (.int .u8 D4) ∧ ∃ m, w'' = wr.drewN m) := fun n => Calls.quiet_of (by rw [← F4.out]; exact dot_len _ _ _ _ _ _ _ _ _ _ (hfr.drewN n) (tL.drewN n) bT eT (by unfold maxLen; omega) (sc'.drewN n) bc rfl (by unfold maxLen; omega))
        have K5 : Hid (∀ n, Calls Try.prog 21 #[.pointer (some ⟨w.heap.size, 0, none⟩), .slice a2 k cap2, .slice a0 la.length cap0] (wr.drewN n) fun e w'' => e = .returned (.int .u8 D5) ∧ ∃ m, w'' = wr.drewN m) := fun n => Calls.quiet_of (by rw [← F5.out]; exact dot_len _ _ _ _ _ _ _ _ _ _ (hfr.drewN n) ((sc'.take k).drewN n) (bc.take k) ec (by unfold maxLen; omega) (sa'.drewN n) ba rfl (by unfold maxLen; omega))
        clear F1 F2 F3 F4 F5 bL bT eL eT ea eb ec sL tL sa' sb' sc' ba bb bc
        go_wp2
        go_quiet ((first | (go_at_call_of 21 (Value.slice (some ⟨bs, 0, none⟩) k k); exact K1.out _) | (go_at_call_of 21 (Value.slice a0 k cap0); exact K2.out _) | (go_at_call_of 21 (Value.slice a1 k cap1); exact K3.out _) | (go_at_call_of 21 (Value.slice (some ⟨bt, 0, none⟩) k k); exact K4.out _) | (go_at_call_of 21 (Value.slice a2 k cap2); exact K5.out _) | (go_at_call 13; exact Calls.quiet_of (mul_any _ _ _ (by omega) (by omega) (by omega) (by omega) _ (by exact hfr.of (fun _ => rfl))))))
        go_wp2
        go_ret
        exact ⟨rfl, (below_of_new hB).trans ⟨rfl, rfl, rfl, Nat.le_refl _, fun _ _ => rfl⟩⟩

theorem gfLinear_walk (a0 : Option Addr) (len0 cap0 : Nat) (z0 : List Int) (a1 : Option Addr) (len1 cap1 : Nat) (z1 : List Int) (a2 : Option Addr) (len2 cap2 : Nat) (z2 : List Int) (a3 : Int) (w : World)
    (w0 : IsRow .u8 w a0 len0 cap0 z0) (w1 : IsRow .u8 w a1 len1 cap1 z1) (w2 : IsRow .u8 w a2 len2 cap2 z2) (w3 : (Lit.int .u8 a3).wf = true) :
    Calls Try.prog 8 #[.slice a0 len0 cap0, .slice a1 len1 cap1, .slice a2 len2 cap2, .int .u8 a3] w fun e w' => e = .returned (.bool true) ∧ Below w.heap.size w w' := by
  obtain ⟨sa, ba, ea, ca, ma⟩ := w0.slAt
  obtain ⟨sb, bb, eb, cb, mb⟩ := w1.slAt
  obtain ⟨sc, bc, ec, cc, mc⟩ := w2.slAt
  have h := gfLinear_core a0 cap0 (z0.take len0) a1 cap1 (z1.take len1) a2 cap2 (z2.take len2) a3 w sa ba (by omega) (by omega) sb bb (by omega) (by omega) sc bc (by omega) (by omega) (bounds_u8 w3)
  rw [ea, eb, ec] at h
  exact h

end Go.Proofs.Ytmjmjccfhnckiaa
