/-
  The leaves of package codec: a bit, a word's verdict, what is told of a line, a word's bytes and its number; whether there is a mode.
-/
import Derived.Test.YtdjknaafefnlcaaDoorCoM3
import Derived.Test.YtdjknaafefnlcaaDoorLnW9
import Derived.Test.YtdjknaafefnlcaaDoorRwW9
import Derived.Test.YtdjknaafefnlcaaDoorGeW4
namespace Go.Proofs.YtdjknaafefnlcaaDoor
open Go.RowKit Go.Shelf
open Bm (wt wtK)
open Ln (val wrd)
open Po (El toE)
attribute [local go_sem] Oper.semAt_some

theorem bitOf_any (p : Bool) (w : World) : Calls Tryd.prog 32 #[.bool p] w fun e w' => e = .returned (.int .i64 (if p then 1 else 0)) ∧ w' = w := by
  cases p
  · go_enter Tryd.func32, Tryd.ntmps32
    go_wp2
    go_ret
    exact ⟨rfl, rfl⟩
  · go_enter Tryd.func32, Tryd.ntmps32
    go_wp2
    go_ret
    exact ⟨rfl, rfl⟩
/-- a word's verdict in the mode 1 -/
def kB (s : Nat) : Int := if Hm.kd s = 0 then 0 else if Hm.kd s = 1 then 1 else if Hm.kd s = 2 then 2 else 3
theorem ofBits_any (s : Nat) (w : World) : Calls Tryd.prog 41 #[.int .i64 (Hm.kd s)] w fun e w' => e = .returned (.int .i64 (kB s)) ∧ w' = w := by
  unfold kB
  obtain ⟨k, hk⟩ : ∃ k, Hm.kd s = k := ⟨_, rfl⟩
  rw [hk]
  clear hk
  by_cases h0 : k = 0
  · subst h0
    go_enter Tryd.func41, Tryd.ntmps41
    go_wp2
    go_ret
    exact ⟨rfl, rfl⟩
  · have d0 : (k == 0) = false := by simpa using h0
    rw [if_neg h0]
    by_cases h1 : k = 1
    · subst h1
      go_enter Tryd.func41, Tryd.ntmps41
      go_wp2
      go_ret
      exact ⟨rfl, rfl⟩
    · have d1 : (k == 1) = false := by simpa using h1
      rw [if_neg h1]
      by_cases h2 : k = 2
      · subst h2
        go_enter Tryd.func41, Tryd.ntmps41
        go_wp2
        go_ret
        exact ⟨rfl, rfl⟩
      · have d2 : (k == 2) = false := by simpa using h2
        rw [if_neg h2]
        go_enter Tryd.func41, Tryd.ntmps41
        go_wp2
        go_ret
        exact ⟨rfl, rfl⟩
theorem mode10_any (m : Int) (w : World) : Calls Tryd.prog 10 #[.int .i64 m] w fun e w' => e = .returned (.bool (decide (m = 1 ∨ m = 2))) ∧ w' = w := by
  by_cases h1 : m = 1
  · subst h1
    go_enter Tryd.func10, Tryd.ntmps10
    go_wp2
    go_ret
    exact ⟨rfl, rfl⟩
  · have d1 : (m == 1) = false := by simpa using h1
    by_cases h2 : m = 2
    · subst h2
      go_enter Tryd.func10, Tryd.ntmps10
      go_wp2
      go_ret
      exact ⟨rfl, rfl⟩
    · have d2 : (m == 2) = false := by simpa using h2
      rw [show decide (m = 1 ∨ m = 2) = false by simp [h1, h2]]
      go_enter Tryd.func10, Tryd.ntmps10
      go_wp2
      go_ret
      exact ⟨rfl, rfl⟩

/-- append within the room, in a plain region -/
theorem wpList_app {w : World} {ops : Array Oper} {rest : List Oper} {o : Oper} {a : Act} {Q : Exit → Act → World → Prop} (hgd : o.guard = none) (d s : Operand)
    (ho : o.op = .call { callee := .builtin .append, args := #[d, s], argTypes := #[52, 52] })
    (g len cap sb m c n : Nat) (F G : Nat → Int) (hd : a.eval d = .slice (some ⟨g, 0, none⟩) len cap) (hs : a.eval s = .slice (some ⟨sb, 0, none⟩) m c)
    (hg : Bk .u8 w g n F) (hsrc : Bk .u8 w sb m G) (hroom : len + m ≤ cap) (hfit : len + m ≤ n)
    (h : wpList Tryd.prog ops Q rest (a.put o.dst (.slice (some ⟨g, 0, none⟩) (len + m) cap)) (w.setCells g len (ints .u8 m G))) : wpList Tryd.prog ops Q (o :: rest) a w := by
  refine wpList_plain hgd fun K hK => ?_
  exact wp_app d s ho g len cap sb m c n F G hd hs hg hsrc hroom hfit (hK _ _ h)
theorem run_make8 (w : World) : (Instr.makeSlice 52 (.int .i64 0) (.int .i64 8)).run Tryd.prog w = .ok (.slice (some ⟨w.heap.size, 0, none⟩) 0 8) (w.alloc (.cells (ints .u8 8 fun _ => 0).toArray 5)) := by
  obtain ⟨i, hi, hz0, hz1, hz2⟩ := info_parts byte_info
  have h := run_make (P := Tryd.prog) w 52 5 i (.int .u8 0) Tryd.underlying52 hi hz0 .i64 .i64 0 8 (by omega) (by omega) (by rw [hz2]; omega) (by omega)
  rw [hz1] at h
  have e : madeCells (Value.int .u8 0).cells ((8 : Int).toNat * 1) = (ints .u8 8 fun _ => 0).toArray := by kernel_rfl
  rw [e] at h
  exact h
/-- the byte j of a number -/
def nb (d j : Nat) : Int := ((d / 256 ^ j % 256 : Nat) : Int)
theorem nb_at (d j : Nat) : (d : Int) / 2 ^ (8 * j) % 256 = nb d j := by
  unfold nb
  rw [← (show (2 : Nat) ^ (8 * j) = 256 ^ j by rw [Nat.pow_mul])]
  simp
/-- between two rounds of bytesOf -/
structure ByI (E d : Nat) (w : World) (k : Nat) (wr : World) : Prop where
  o : Bk .u8 wr E 8 (fun j => if j < k then nb d j else 0)
  below : Below w.heap.size w wr
set_option maxRecDepth 100000 in
set_option maxHeartbeats 1000000 in
theorem bytesOf_any (d : Nat) (w : World) :
    Calls Tryd.prog 34 #[.int .u64 (d : Int)] w fun e w' => e = .returned (.slice (some ⟨w.heap.size, 0, none⟩) 8 8) ∧ Bk .u8 w' w.heap.size 8 (nb d) ∧ Below w.heap.size w w' := by
  have hmk := run_make8
  obtain ⟨A2, hA2⟩ : ∃ A, (ints .u8 8 fun _ => 0).toArray = A := ⟨_, rfl⟩
  rw [hA2] at hmk
  go_enter Tryd.func34, Tryd.ntmps34
  go_wp2
  obtain ⟨V, hV⟩ : ∃ V, w.alloc (.cells A2 5) = V := ⟨_, rfl⟩
  obtain ⟨E, hE⟩ : ∃ E, w.heap.size = E := ⟨_, rfl⟩
  have HI : Hid (ByI E d w 0 V) := by
    rw [← hV, ← hA2, ← hE]
    exact ⟨Bk.new .u8 w 8 (fun _ => 0) _, (Below.refl _ w).alloc (Nat.le_refl _) _⟩
  rw [hV, hE]
  clear hV hA2 hmk
  go_loopw [3, 6] (fun t i wr => ∃ k : Nat, k ≤ 8 ∧ t = .slice (some ⟨E, 0, none⟩) k 8 ∧ i = .int .i64 (k : Int) ∧ Hid (ByI E d w k wr)) (fun _ i _ => 8 - (intOf i).toNat)
  case atStart => exact ⟨0, by omega, rfl, rfl, HI⟩
  case round =>
    obtain ⟨k, hk, rfl, rfl, HK⟩ := hrel
    by_cases hlt : k < 8
    · have hnb := nb_at d k
      have hEr := HK.out.o.lt
      go_wp2_with (refine wpList_app rfl _ _ rfl E k 8 wr.heap.size 1 1 8 (fun j => if j < k then nb d j else 0) (fun _ => nb d k) rfl rfl (HK.out.o.alloc _) (by exact Bk.new .u8 wr 1 (fun _ => nb d k) 5) (by omega) (by omega) ?_)
      have HN : Hid (ByI E d w (k + 1) ((wr.alloc (.cells #[.int .u8 (nb d k)] 5)).setCells E k (ints .u8 1 fun _ => nb d k))) := by
        have hW : w.heap.size ≤ wr.heap.size := HK.out.below.size
        refine ⟨((HK.out.o.alloc _).putAt k 1 _).congr fun j hj => ?_, belows_put (by omega) _ _ (HK.out.below.alloc hW _)⟩
        show (if k ≤ j ∧ j < k + 1 then nb d k else if j < k then nb d j else 0) = if j < k + 1 then nb d j else 0
        by_cases h1 : j = k
        · rw [if_pos (by omega), if_pos (by omega), h1]
        · by_cases h2 : j < k
          · rw [if_neg (by omega), if_pos h2, if_pos (by omega)]
          · rw [if_neg (by omega), if_neg h2, if_neg (by omega)]
      go_roundw
      case rel => exact ⟨k + 1, by omega, rfl, by go_num, HN⟩
      case measure => simp [intOf]; omega
    · obtain rfl : k = 8 := by omega
      have HZ : Hid (Bk .u8 wr E 8 (nb d) ∧ Below w.heap.size w wr) := ⟨HK.out.o.congr fun i hi => by rw [if_pos hi], HK.out.below⟩
      clear HK HI
      go_wp2
      go_ret
      exact ⟨by rw [hE]; rfl, by rw [hE]; exact HZ.out.1, HZ.out.2⟩

/-- bytes' number -/
def dn (F : Nat → Int) (o : Nat) : Nat := val (fun i => (F i).toNat) 8 o
set_option maxRecDepth 100000 in
set_option maxHeartbeats 1000000 in
theorem dataOf_any (g c : Nat) (F : Nat → Int) (hF : ∀ j, j < 8 → 0 ≤ F j ∧ F j < 256) (w : World) (hc : ∀ j : Nat, j < 8 → w.cell? ⟨g, j, none⟩ = some (.int .u8 (F j))) :
    Calls Tryd.prog 40 #[.slice (some ⟨g, 0, none⟩) 8 c] w fun e w' => e = .returned (.int .u64 (dn F 0 : Int)) ∧ w' = w := by
  have HC : Hid (∀ j : Nat, j < 8 → w.cell? ⟨g, j, none⟩ = some (.int .u8 (F j))) := hc
  obtain ⟨u, Hu⟩ : ∃ u, Hid (dn F 0 = u) := ⟨_, rfl⟩
  rw [Hu.out]
  clear hc
  go_enter Tryd.func40, Tryd.ntmps40
  go_wp2
  go_loop [3, 8] (fun x i => ∃ j y : Nat, j ≤ 8 ∧ y < 18446744073709551616 ∧ Hid (y = val (fun i => (F i).toNat) j 0) ∧ x = .int .u64 (y : Int) ∧ i = .int .i64 (j : Int)) (fun _ i => 8 - (intOf i).toNat)
  case atStart => exact ⟨0, 0, by omega, by omega, rfl, rfl, rfl⟩
  case round =>
    obtain ⟨j, y, hj, hy, Hy, rfl, rfl⟩ := hrel
    by_cases hlt : j < 8
    · have c0 := HC.out j hlt
      have hb := hF j hlt
      obtain ⟨b, hb', Hb⟩ : ∃ b : Nat, b < 256 ∧ Hid (F j = (b : Int)) := ⟨(F j).toNat, by omega, by show _ = _; omega⟩
      rw [Hb.out] at c0
      have hyl : y < 256 ^ j := by
        rw [Hy.out]
        exact Ln.val_lt (fun i => (F i).toNat) j 0 (fun i _ h2 => by have := hF i (by omega); show (F i).toNat < 256; omega)
      have Ho : Hid (bits .or .u64 (y : Int) (IntKind.u64.wrap ((b : Int) * 2 ^ (8 * j))) = ((y + b * 256 ^ j : Nat) : Int)) := or_byte y b j hyl hb' hlt
      have HN : Hid (y + b * 256 ^ j = val (fun i => (F i).toNat) (j + 1) 0) := by
        show _ = _
        rw [Ln.val_top, ← Hy.out, Nat.zero_add, Hb.out, Int.toNat_natCast]
      have HL : Hid (y + b * 256 ^ j < 18446744073709551616) := by
        show _ < _
        rw [HN.out]
        exact Nat.lt_of_lt_of_le (Ln.val_lt (fun i => (F i).toNat) (j + 1) 0 (fun i _ h2 => by have := hF i (by omega); show (F i).toNat < 256; omega)) (by rw [show 18446744073709551616 = 256 ^ 8 from rfl]; exact Nat.pow_le_pow_right (by omega) (by omega))
      clear hb hyl Hy
      go_wp2
      go_round
      case rel => exact ⟨j + 1, y + b * 256 ^ j, by omega, HL.out, HN, by rw [Ho.out], by first | rfl | go_num⟩
      case measure => simp [intOf]; omega
    · obtain rfl : j = 8 := by omega
      have He : Hid (y = u) := by show _ = _; rw [← Hu.out, Hy.out]; rfl
      clear Hy
      go_wp2
      go_ret
      exact ⟨by rw [← He.out]; rfl, rfl⟩

/-- of the first k verdicts the greatest; how many are 1 -/
def top (K : Nat → Int) : Nat → Int
  | 0 => 0
  | k + 1 => max (top K k) (K k)
def cnt (K : Nat → Int) : Nat → Nat
  | 0 => 0
  | k + 1 => cnt K k + if K k = 1 then 1 else 0
theorem cnt_le (K : Nat → Int) (k : Nat) : cnt K k ≤ k := by
  induction k with
  | zero => exact Nat.le_refl _
  | succ k ih => rw [cnt]; split <;> omega
theorem top_bd (K : Nat → Int) (n : Nat) (h : ∀ j, j < n → 0 ≤ K j ∧ K j ≤ 3) : ∀ k, k ≤ n → 0 ≤ top K k ∧ top K k ≤ 3
  | 0, _ => ⟨Int.le_refl _, show (0 : Int) ≤ 3 by decide⟩
  | k + 1, hk => by
    have h1 := top_bd K n h k (by omega)
    have h2 := h k (by omega)
    rw [top]; omega
/-- two integers -/
def two (x y : Int) (i : Nat) : Int := if i = 0 then x else y
/-- a line's verdict -/
def vd2 (x y : Int) : List Value := ints .i64 2 (two x y)
theorem vd2_eq (x y : Int) : vd2 x y = [.int .i64 x, .int .i64 y] := rfl
theorem zero10 (w : World) : (zeroValue 32).run Tryd.prog w = .ok (.agg #[.int .i64 0, .int .i64 0]) w := by kernel_rfl
theorem info10 : (Tryd.prog.info? 32).map (·.size) = some 2 := by kernel_rfl
theorem Bk.new2 (W : World) (x y : Int) (t : TypeId) : Bk .i64 (W.alloc (.cells #[.int .i64 x, .int .i64 y] t)) W.heap.size 2 (two x y) := Bk.new .i64 W 2 (two x y) t
/-- between two rounds of together: the verdict lies in C, the result's block in B -/
structure TgI (B C : Nat) (x y : Int) (w W : World) : Prop where
  v : Bk .i64 W C 2 (two x y)
  r : Bk .i64 W B 2 (two 0 0)
  below : Below B w W
theorem TgI.set0 {B C : Nat} {x y : Int} {w W : World} (h : TgI B C x y w W) (hC : B < C) (z : Int) : TgI B C z y w (W.setCell ⟨C, 0, none⟩ (.int .i64 z)) :=
  ⟨(h.v.set 0 z).congr fun i hi => by unfold two; by_cases e : i = 0 <;> simp [e], h.r.other (by omega) 0 _, h.below.setCell (p := ⟨C, 0, none⟩) (by simp; omega) _⟩
theorem TgI.set1 {B C : Nat} {x y : Int} {w W : World} (h : TgI B C x y w W) (hC : B < C) (z : Int) : TgI B C x z w (W.setCell ⟨C, 1, none⟩ (.int .i64 z)) :=
  ⟨(h.v.set 1 z).congr fun i hi => by
    unfold two
    rcases (show i = 0 ∨ i = 1 by omega) with rfl | rfl <;> simp, h.r.other (by omega) 1 _, h.below.setCell (p := ⟨C, 1, none⟩) (by simp; omega) _⟩
set_option maxRecDepth 100000 in
set_option maxHeartbeats 1000000 in
theorem together_any (g c n : Nat) (hn : n ≤ 8) (K : Nat → Int) (hK : ∀ j, j < n → 0 ≤ K j ∧ K j ≤ 3) (w : World) (hc : Bk .i64 w g n K) :
    Calls Tryd.prog 44 #[.slice (some ⟨g, 0, none⟩) n c] w fun e w' => e = .returned (.agg (vd2 (top K n) (if top K n = 1 then (cnt K n : Int) else 0)).toArray) ∧ Below w.heap.size w w' := by
  have hz := zero10
  have HC : Hid (Bk .i64 w g n K) := hc
  have hgl := hc.lt
  have htop := top_bd K n hK
  have hcnt := cnt_le K
  obtain ⟨T, HT⟩ : ∃ T, Hid (top K = T) := ⟨_, rfl⟩
  obtain ⟨N, HN⟩ : ∃ N, Hid (cnt K = N) := ⟨_, rfl⟩
  have T0 : T 0 = 0 := by rw [← HT.out]; rfl
  have N0 : N 0 = 0 := by rw [← HN.out]; rfl
  have TS : Hid (∀ k, max (T k) (K k) = T (k + 1)) := fun k => by rw [← HT.out]; rfl
  have NS : Hid (∀ k, N (k + 1) = N k + if K k = 1 then 1 else 0) := fun k => by rw [← HN.out]; rfl
  rw [HT.out] at htop ⊢
  rw [HN.out] at hcnt ⊢
  clear HT HN
  obtain ⟨Y, HY⟩ : ∃ Y, Hid ((if T n = 1 then (N n : Int) else 0) = Y) := ⟨_, rfl⟩
  rw [HY.out]
  clear hc
  go_enter Tryd.func44, Tryd.ntmps44
  go_wp2
  obtain ⟨B, hB⟩ : ∃ B, w.heap.size = B := ⟨_, rfl⟩
  obtain ⟨C, hC⟩ : ∃ C, B + 1 = C := ⟨_, rfl⟩
  obtain ⟨V, hV⟩ : ∃ V, (w.alloc (.cells #[.int .i64 0, .int .i64 0] 32)).alloc (.cells #[.int .i64 0, .int .i64 0] 32) = V := ⟨_, rfl⟩
  have HI : Hid (TgI B C 0 0 w V) := by
    rw [← hV, ← hC, ← hB]
    have h1 := Bk.new2 (w.alloc (.cells #[.int .i64 0, .int .i64 0] 32)) 0 0 32
    simp only [World.size_alloc] at h1
    exact ⟨h1, (Bk.new2 w 0 0 _).alloc _, ((Below.refl _ w).alloc (Nat.le_refl _) _).alloc (by simp) _⟩
  have hBC : B < C := by omega
  have hgB : g < B := by omega
  rw [hV, hB, hC]
  clear hV hC
  go_loopw [8] (fun i wr => ∃ k : Nat, k ≤ n ∧ i = .int .i64 (k : Int) ∧ Hid (TgI B C (T k) (N k) w wr)) (fun i _ => n - (intOf i).toNat)
  case atStart => exact ⟨0, by omega, rfl, by rw [T0, N0]; exact HI⟩
  case round =>
    obtain ⟨k, hk, rfl, HK⟩ := hrel
    by_cases hlt : k < n
    · have c0 := (HC.out.below HK.out.below (by omega)).cell k hlt
      have c1 : wr.cell? ⟨C, 0, none⟩ = some (.int .i64 (T k)) := HK.out.v.cell 0 (by omega)
      have c2 : wr.cell? ⟨C, 1, none⟩ = some (.int .i64 (N k)) := HK.out.v.cell 1 (by omega)
      have f1 := HK.out.v.free 0
      have f2 := HK.out.v.free 1
      have hm : ∀ ts t w, (Builtin.max_ ts t #[.int .i64 (T k), .int .i64 (K k)]).run Tryd.prog w = .ok (.int .i64 (T (k + 1))) w := fun ts t w => max_run _ _ _ (TS.out k) ts t w
      have HS := HK.out.set0 hBC (T (k + 1))
      have hNk := NS.out k
      have hNl : (N k : Int) ≤ 8 := by have := hcnt k; omega
      have hkn : (k : Int) < (n : Int) := by omega
      obtain ⟨x, hx⟩ : ∃ x, K k = x := ⟨_, rfl⟩
      rw [hx] at c0 hm hNk
      by_cases h1 : x = 1
      · have HS2 : Hid (TgI B C (T (k + 1)) (N (k + 1)) w ((wr.setCell ⟨C, 0, none⟩ (.int .i64 (T (k + 1)))).setCell ⟨C, 1, none⟩ (.int .i64 ((N k : Int) + 1)))) := by
          have := HS.set1 hBC ((N k : Int) + 1)
          rw [hNk, if_pos h1]
          exact this
        subst h1
        clear hx HS hNk
        go_wp2
        go_roundw
        case rel => exact ⟨k + 1, by omega, by go_num, HS2⟩
        case measure => simp [intOf]; omega
      · have d1 : (x == 1) = false := by simpa using h1
        have HS2 : Hid (TgI B C (T (k + 1)) (N (k + 1)) w (wr.setCell ⟨C, 0, none⟩ (.int .i64 (T (k + 1))))) := by
          rw [hNk, if_neg h1]
          exact HS
        clear hx HS hNk h1
        go_wp2
        go_roundw
        case rel => exact ⟨k + 1, by omega, by go_num, HS2⟩
        case measure => simp [intOf]; omega
    · obtain rfl : k = n := by omega
      have c1 : wr.cell? ⟨C, 0, none⟩ = some (.int .i64 (T k)) := HK.out.v.cell 0 (by omega)
      have f2 := HK.out.v.free 1
      have c2 : wr.cell? ⟨C, 1, none⟩ = some (.int .i64 (N k)) := HK.out.v.cell 1 (by omega)
      obtain ⟨t, ht⟩ : ∃ t, T k = t := ⟨_, rfl⟩
      have HK2 := HK.out
      have HT : Hid (T k = t) := ht
      rw [ht] at c1 HK2
      clear ht htop hK HC HI TS NS T0 N0 hz HK hlt hk hcnt
      by_cases h1 : t = 1
      · have hr : wr.rangeAt C 0 (vd2 t (N k)) := HK2.v.range
        have ht : wr.there B 0 (vd2 t (N k)).toArray.size := HK2.r.there .i64 _
        have hone : (vd2 t (N k)).toArray.all (·.oneCell') = true := ints_one .i64 2 _
        have hi9 : (Tryd.prog.info? 32).map (·.size) = some (vd2 t (N k)).length := by rw [vd2_eq]; exact info10
        have HB : Hid (Below B w wr) := HK2.below
        have HL : Hid (vd2 t (N k) = vd2 (T k) Y) := by show _ = _; rw [← HY.out, HT.out, if_pos h1]
        obtain ⟨L, hL⟩ : ∃ L, vd2 t (N k) = L := ⟨_, rfl⟩
        rw [hL] at hr ht hone hi9 HL
        subst h1
        clear HK2 HT HY
        go_wp2_with (first | refine wpList_load_mid rfl 32 _ rfl _ 0 rfl L _ hr Tryd.underlying32 rfl hi9 ?_ | refine wpList_store_mid rfl 32 _ _ rfl _ 0 L.toArray rfl rfl ht hi9 hone ?_)
        have hs : (wr.setCells B 0 L).rangeAt B 0 L := World.rangeAt_setCells_same wr _ 0 L (by simpa using ht)
        have hld := run_loadVar_mid (P := Tryd.prog) (wr.setCells B 0 L) B 0 32 L _ hs Tryd.underlying32 rfl hi9
        refine bodyPost_ret (v := .agg L.toArray) ?_ rfl ⟨by rw [HL.out], by first | exact belows_put (Nat.le_refl _) L 0 HB.out | (rw [hB]; exact belows_put (Nat.le_refl _) L 0 HB.out)⟩
        simp [results, Tryd.f44, Act.put, asAddr, hld]
      · have d1 : (t != 1) = true := by simpa using h1
        have HK3 := HK2.set1 hBC 0
        obtain ⟨W3, hW3⟩ : ∃ W3, wr.setCell ⟨C, 1, none⟩ (.int .i64 0) = W3 := ⟨_, rfl⟩
        rw [hW3] at HK3
        have hr : W3.rangeAt C 0 (vd2 t 0) := HK3.v.range
        have ht : W3.there B 0 (vd2 t 0).toArray.size := HK3.r.there .i64 _
        have hone : (vd2 t 0).toArray.all (·.oneCell') = true := ints_one .i64 2 _
        have hi9 : (Tryd.prog.info? 32).map (·.size) = some (vd2 t 0).length := by rw [vd2_eq]; exact info10
        have HB : Hid (Below B w W3) := HK3.below
        have HL : Hid (vd2 t 0 = vd2 (T k) Y) := by show _ = _; rw [← HY.out, HT.out, if_neg h1]
        obtain ⟨L, hL⟩ : ∃ L, vd2 t 0 = L := ⟨_, rfl⟩
        rw [hL] at hr ht hone hi9 HL
        have hrW : Hid ((wr.setCell ⟨C, 1, none⟩ (.int .i64 0)).rangeAt C 0 L) := by rw [hW3]; exact hr
        have htW : Hid ((wr.setCell ⟨C, 1, none⟩ (.int .i64 0)).there B 0 L.toArray.size) := by rw [hW3]; exact ht
        have HBW : Hid (Below B w (wr.setCell ⟨C, 1, none⟩ (.int .i64 0))) := by rw [hW3]; exact HB
        clear HK2 HK3 HT h1 hr ht HB hW3 HY
        go_wp2_with (first | refine wpList_load_mid rfl 32 _ rfl _ 0 rfl L _ hrW.out Tryd.underlying32 rfl hi9 ?_ | refine wpList_store_mid rfl 32 _ _ rfl _ 0 L.toArray rfl rfl htW.out hi9 hone ?_)
        obtain ⟨W4, hW4⟩ : ∃ W4, wr.setCell ⟨C, 1, none⟩ (.int .i64 0) = W4 := ⟨_, rfl⟩
        rw [hW4] at htW HBW ⊢
        have hs : (W4.setCells B 0 L).rangeAt B 0 L := World.rangeAt_setCells_same W4 _ 0 L (by simpa using htW.out)
        have hld := run_loadVar_mid (P := Tryd.prog) (W4.setCells B 0 L) B 0 32 L _ hs Tryd.underlying32 rfl hi9
        refine bodyPost_ret (v := .agg L.toArray) ?_ rfl ⟨by rw [HL.out], by first | exact belows_put (Nat.le_refl _) L 0 HBW.out | (rw [hB]; exact belows_put (Nat.le_refl _) L 0 HBW.out)⟩
        simp [results, Tryd.f44, Act.put, asAddr, hld]
end Go.Proofs.YtdjknaafefnlcaaDoor
