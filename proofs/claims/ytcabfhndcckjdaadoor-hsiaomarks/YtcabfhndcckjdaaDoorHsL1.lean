/-
  The law HsiaoDetects.
-/
import Derived.Test.YtcabfhndcckjdaaDoorHsW8
namespace Go.Proofs.YtcabfhndcckjdaaDoor
open Go.RowKit Go.Shelf
open Bm (wt wtK cntW)
open Hm (col onesOf nOf idx kd pl xs ap syn)
attribute [local go_sem] Oper.semAt_some

/-- behind some calls of a law that began at w: the code lies in the first block -/
structure St (w V : World) : Prop where
  code : CodeAt V w.heap.size
  tab : TabW V
  below : Below w.heap.size w V
theorem St.next {w V V' : World} (h : St w V) (k : Below V.heap.size V V') : St w V' :=
  ⟨h.code.below k h.code.lt, h.tab.below k h.tab.lt, h.below.trans (k.mono h.below.size)⟩
theorem St.first {w V : World} (hT : TabW w) (hc : CodeAt V w.heap.size) (hb : Below w.heap.size w V) : St w V := ⟨hc, hT.below hb hT.lt, hb⟩
theorem low_bit (a : Int) : ∃ b, bits .and .i64 a 1 = b ∧ (b = 0 ∨ b = 1) := ⟨a % 2, i64_and1 a, by omega⟩

set_option maxRecDepth 100000 in
set_option maxHeartbeats 4000000 in
theorem hsiaoDetects_walk (d a p i j l : Int) (w0 : (Lit.int .u64 d).wf = true) (_w1 : (Lit.int .i64 a).wf = true) (_w2 : (Lit.int .i64 p).wf = true) (_w3 : (Lit.int .i64 i).wf = true) (_w4 : (Lit.int .i64 j).wf = true) (_w5 : (Lit.int .i64 l).wf = true) (w : World) (hT : TabW w) :
    Calls Tryd.prog 6 #[.int .u64 d, .int .i64 a, .int .i64 p, .int .i64 i, .int .i64 j, .int .i64 l] w fun e w' => e = .returned (.bool true) ∧ Below w.heap.size w w' := by
  have rd := bounds_u64 w0
  obtain ⟨v, rfl⟩ := Int.eq_ofNat_of_zero_le rd.1
  have hv : v < 18446744073709551616 := by omega
  clear w0 rd _w1 _w2 _w3 _w4 _w5
  have HT : Hid (TabW w) := hT
  clear hT
  go_enter Tryd.func6, Tryd.ntmps6
  go_wp2_with fail
  refine (new_any _).mono ?_
  rintro e V1 ⟨rfl, hC, hB⟩
  have S1 := St.first HT.out hC hB
  clear hC hB HT
  go_wp2_with fail
  refine (anchor4_any _ _ S1.code S1.tab).mono ?_
  rintro e V2 ⟨rfl, hB⟩
  replace S1 := S1.next hB
  clear hB
  rcases (show i < 0 ∨ (0 ≤ i ∧ 73 < i) ∨ (0 ≤ i ∧ i ≤ 73 ∧ j < 0) ∨ (0 ≤ i ∧ i ≤ 73 ∧ 0 ≤ j ∧ 73 < j) ∨ (0 ≤ i ∧ i ≤ 73 ∧ 0 ≤ j ∧ j ≤ 73 ∧ i = j) ∨ (0 ≤ i ∧ i ≤ 73 ∧ 0 ≤ j ∧ j ≤ 73 ∧ i ≠ j) by omega) with
    h | ⟨h1, h2⟩ | ⟨h1, h2, h3⟩ | ⟨h1, h2, h3, h4⟩ | ⟨h1, h2, h3, h4, h5⟩ | ⟨h1, h2, h3, h4, h5⟩
  · go_wp2
    go_ret
    exact ⟨rfl, S1.below⟩
  · go_wp2
    go_ret
    exact ⟨rfl, S1.below⟩
  · go_wp2
    go_ret
    exact ⟨rfl, S1.below⟩
  · go_wp2
    go_ret
    exact ⟨rfl, S1.below⟩
  · subst h5
    go_wp2
    go_ret
    exact ⟨rfl, S1.below⟩
  obtain ⟨i, rfl⟩ := Int.eq_ofNat_of_zero_le h1
  obtain ⟨j, rfl⟩ := Int.eq_ofNat_of_zero_le h3
  have hij : i ≠ j := fun e => h5 (by rw [e])
  have hi : i < 74 := by omega
  have hj : j < 74 := by omega
  have dij : ((i : Int) == (j : Int)) = false := by simp; omega
  clear h1 h3 h5
  obtain ⟨a1, ea, ha⟩ := low_bit a
  obtain ⟨p1, ep, hp⟩ := low_bit p
  have HA : Hid (a1 = 0 ∨ a1 = 1) := ha
  have HP : Hid (p1 = 0 ∨ p1 = 1) := hp
  clear ha hp
  go_wp2_with fail
  refine (check_any _ v a1 p1 hv _ S1.code S1.tab).mono ?_
  rintro e V3 ⟨rfl, hB⟩
  replace S1 := S1.next hB
  clear hB
  have hk := Hm.syn_lt v 0 a1 p1 (by decide)
  have e0 := Hm.syn_code v a1 p1
  obtain ⟨K, hK⟩ : ∃ K, syn v 0 a1 p1 = K := ⟨_, rfl⟩
  rw [hK] at hk e0 ⊢
  obtain ⟨d1, k1, b1, q1, hd1, hk1, hb1, hq1, e1, t1⟩ := turned_any v K i a1 p1 hv hk HA.out HP.out hi
  rw [e0, Nat.zero_xor] at e1
  obtain ⟨d2, k2, b2, q2, hd2, hk2, hb2, hq2, e2, t2⟩ := turned_any d1 k1 j b1 q1 hd1 hk1 hb1 hq1 hj
  rw [e1] at e2
  have T1 : Hid (∀ w, Calls Tryd.prog 22 #[.int .u64 (v : Int), .int .u8 (K : Int), .int .i64 a1, .int .i64 p1, .int .i64 (i : Int)] w fun e w' => e = .returned (.tuple #[.int .u64 (d1 : Int), .int .u8 (k1 : Int), .int .i64 b1, .int .i64 q1]) ∧ w' = w) := t1
  have T2 : Hid (∀ w, Calls Tryd.prog 22 #[.int .u64 (d1 : Int), .int .u8 (k1 : Int), .int .i64 b1, .int .i64 q1, .int .i64 (j : Int)] w fun e w' => e = .returned (.tuple #[.int .u64 (d2 : Int), .int .u8 (k2 : Int), .int .i64 b2, .int .i64 q2]) ∧ w' = w) := t2
  have kt := Hm.kd_two i hi j hj hij
  have k3 : Hid (∀ l, l < 74 → kd ((col i ^^^ col j) ^^^ col l) ≠ 0) := fun l hl => Hm.kd_three i j l hi hj hl hij
  have hs2 := Hm.syn_lt d2 k2 b2 q2 hk2
  obtain ⟨s2, es2⟩ : ∃ s2, col i ^^^ col j = s2 := ⟨_, rfl⟩
  rw [es2] at e2 kt k3
  rw [e2] at hs2
  have HB : Hid (b2 = 0 ∨ b2 = 1) := hb2
  have HQ : Hid (q2 = 0 ∨ q2 = 1) := hq2
  clear t1 t2 hb1 hq1 e0 e1 hK hb2 hq2 es2
  go_wp2_with fail
  refine (T1.out _).mono ?_
  rintro e V4 ⟨rfl, rfl⟩
  go_wp2_with fail
  refine (T2.out _).mono ?_
  rintro e V5 ⟨rfl, rfl⟩
  go_wp2_with fail
  refine (syndrome_any _ d2 k2 b2 q2 hd2 hk2 _ S1.code S1.tab).mono ?_
  rintro e V6 ⟨rfl, hB⟩
  replace S1 := S1.next hB
  clear hB T1 T2
  rw [e2]
  go_wp2_with fail
  refine (classify_any _ s2 hs2 _ S1.code).mono ?_
  rintro e V7 ⟨rfl, rfl⟩
  rw [kt]
  rcases (show l < 0 ∨ (0 ≤ l ∧ 73 < l) ∨ (0 ≤ l ∧ l ≤ 73 ∧ l = (i : Int)) ∨ (0 ≤ l ∧ l ≤ 73 ∧ l ≠ (i : Int) ∧ l = (j : Int)) ∨ (0 ≤ l ∧ l ≤ 73 ∧ l ≠ (i : Int) ∧ l ≠ (j : Int)) by omega) with
    g1 | ⟨g1, g2⟩ | ⟨g1, g3, rfl⟩ | ⟨g1, g3, g5, rfl⟩ | ⟨g1, g3, g5, g6⟩
  · go_wp2
    go_ret
    exact ⟨rfl, S1.below⟩
  · go_wp2
    go_ret
    exact ⟨rfl, S1.below⟩
  · go_wp2
    go_ret
    exact ⟨rfl, S1.below⟩
  · have dji : ((j : Int) == (i : Int)) = false := by simp; omega
    clear g5
    go_wp2
    go_ret
    exact ⟨rfl, S1.below⟩
  obtain ⟨m, rfl⟩ := Int.eq_ofNat_of_zero_le g1
  have dli : ((m : Int) == (i : Int)) = false := by simp; omega
  have dlj : ((m : Int) == (j : Int)) = false := by simp; omega
  have hm : m < 74 := by omega
  have kne := k3.out m hm
  obtain ⟨d3, k4, b3, q3, hd3, hk3, hb3, hq3, e3, t3⟩ := turned_any d2 k2 m b2 q2 hd2 hk2 HB.out HQ.out hm
  rw [e2] at e3
  have T3 : Hid (∀ w, Calls Tryd.prog 22 #[.int .u64 (d2 : Int), .int .u8 (k2 : Int), .int .i64 b2, .int .i64 q2, .int .i64 (m : Int)] w fun e w' => e = .returned (.tuple #[.int .u64 (d3 : Int), .int .u8 (k4 : Int), .int .i64 b3, .int .i64 q3]) ∧ w' = w) := t3
  have hs3 := Hm.syn_lt d3 k4 b3 q3 hk3
  obtain ⟨s3, es3⟩ : ∃ s3, s2 ^^^ col m = s3 := ⟨_, rfl⟩
  rw [es3] at e3 kne
  rw [e3] at hs3
  obtain ⟨k5, ek5⟩ : ∃ k5, kd s3 = k5 := ⟨_, rfl⟩
  rw [ek5] at kne
  have dk : (k5 != 0) = true := by simpa using kne
  clear t3 hb3 hq3 es3 k3 g5 g6 kne kt e2
  go_wp2_with fail
  refine (T3.out _).mono ?_
  rintro e V8 ⟨rfl, rfl⟩
  go_wp2_with fail
  refine (syndrome_any _ d3 k4 b3 q3 hd3 hk3 _ S1.code S1.tab).mono ?_
  rintro e V9 ⟨rfl, hB⟩
  replace S1 := S1.next hB
  clear hB T3
  rw [e3]
  go_wp2_with fail
  refine (classify_any _ s3 hs3 _ S1.code).mono ?_
  rintro e V10 ⟨rfl, rfl⟩
  rw [ek5]
  go_wp2
  go_ret
  exact ⟨rfl, S1.below⟩
end Go.Proofs.YtcabfhndcckjdaaDoor
