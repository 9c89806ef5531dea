/-
  The law HsiaoWeights.
-/
import Derived.Test.YtcabfhndcckjdaaDoorHsL1
namespace Go.Proofs.YtcabfhndcckjdaaDoor
open Go.RowKit Go.Shelf
open Bm (wt wtK cntW)
open Hm (col onesOf nOf idx kd pl xs ap syn)
attribute [local go_sem] Oper.semAt_some

theorem idx_col (s n i : Nat) (h : idx s n i ≠ -1) : ∃ l, l < i + n ∧ col l = s := by
  induction n generalizing i with
  | zero => exact absurd rfl h
  | succ n ih =>
    unfold idx at h
    by_cases e : col i = s
    · exact ⟨i, by omega, e⟩
    · rw [if_neg e] at h
      obtain ⟨l, h1, h2⟩ := ih (i + 1) h
      exact ⟨l, by omega, h2⟩
/-- what is told of a syndrome but 0, held against whether it is a column -/
theorem told_col (s : Nat) (h0 : s ≠ 0) (b : Bool) (hb : b = true ↔ ∃ l, l < 74 ∧ col l = s) : ((kd s == 4) = !b) ∧ ((wt s % 2 = 1) ∨ kd s = 4) ∧ ((kd s == 1) = decide (0 ≤ pl s)) := by
  have hno : (idx s 74 0 = -1) → b = false := fun h => by
    cases hbb : b with
    | false => rfl
    | true =>
      obtain ⟨l, hl, hc⟩ := hb.1 hbb
      have := idx_lt s 74 0
      exfalso
      have key : ∀ n i, i ≤ l → l < i + n → idx s n i ≠ -1 := by
        intro n
        induction n with
        | zero => intro i h1 h2; omega
        | succ n ih =>
          intro i h1 h2
          unfold idx
          by_cases e : col i = s
          · rw [if_pos e]; omega
          · rw [if_neg e]
            exact ih (i + 1) (by rcases Nat.lt_or_ge i l with g | g; omega; exact absurd (by rw [show i = l from by omega]; exact hc) e) (by omega)
      exact key 74 0 (by omega) (by omega) h
  have hyes : (idx s 74 0 ≠ -1) → b = true ∧ wt s % 2 = 1 := fun h => by
    obtain ⟨l, hl, hc⟩ := idx_col s 74 0 h
    exact ⟨hb.2 ⟨l, by omega, hc⟩, by rw [← hc]; exact Hm.col_odd l (by omega)⟩
  rcases told s with ⟨h, _⟩ | ⟨_, h1, h2, h3⟩ | ⟨_, h1, h2, h3⟩ | ⟨_, h1, h2, h3⟩ | ⟨_, h1, h4, h2, h3⟩
  · exact absurd h h0
  · rw [h2, h3, hno h1]; exact ⟨rfl, .inr rfl, rfl⟩
  · obtain ⟨g1, g2⟩ := hyes (by omega)
    rw [h2, h3, g1]; exact ⟨rfl, .inl g2, rfl⟩
  · obtain ⟨g1, g2⟩ := hyes (by omega)
    rw [h2, h3, g1]; exact ⟨rfl, .inl g2, rfl⟩
  · obtain ⟨g1, g2⟩ := hyes (by omega)
    rw [h2, h3, g1]; exact ⟨rfl, .inl g2, by simp [h1]⟩

set_option maxRecDepth 100000 in
set_option maxHeartbeats 4000000 in
theorem hsiaoWeights_walk (s : Int) (w0 : (Lit.int .u8 s).wf = true) (w : World) (hT : TabW w) :
    Calls Tryd.prog 9 #[.int .u8 s] w fun e w' => e = .returned (.bool true) ∧ Below w.heap.size w w' := by
  have rs := bounds_u8 w0
  obtain ⟨v, rfl⟩ := Int.eq_ofNat_of_zero_le rs.1
  have hv : v < 256 := by omega
  clear w0 rs
  have HT : Hid (TabW w) := hT
  clear hT
  have HW : Hid (∀ w, Calls Tryd.prog 14 #[.int .u64 (v : Int)] w fun e w' => e = .returned (.int .i64 (wt v : Int)) ∧ w' = w) := fun w => refWeight_any v (by omega) w
  have HK : Hid (∀ b w, CodeAt w b → Calls Tryd.prog 18 #[.pointer (some ⟨b, 0, none⟩), .int .u8 (v : Int)] w fun e w' => e = .returned (.tuple #[.int .i64 (kd v), .int .i64 (pl v)]) ∧ w' = w) := fun b w h => classify_any b v hv w h
  have hz : Hid (v = 0 → kd v = 0 ∧ pl v = -1) := fun h => by rw [h]; exact ⟨rfl, rfl⟩
  have ht : Hid (∀ b : Bool, v ≠ 0 → (b = true ↔ ∃ l, l < 74 ∧ col l = v) → ((kd v == 4) = !b) ∧ ((wt v % 2 = 1) ∨ kd v = 4) ∧ ((kd v == 1) = decide (0 ≤ pl v))) := fun b h0 hb => told_col v h0 b hb
  obtain ⟨n, hn, Hn⟩ : ∃ n, n ≤ 64 ∧ wt v = n := ⟨_, Bm.wt_le v, rfl⟩
  obtain ⟨K, hK⟩ : ∃ K, kd v = K := ⟨_, rfl⟩
  obtain ⟨L, hL⟩ : ∃ L, pl v = L := ⟨_, rfl⟩
  rw [hK, hL] at HK hz ht
  rw [Hn] at HW ht
  clear hK hL Hn
  go_enter Tryd.func9, Tryd.ntmps9
  go_wp2_with fail
  refine (new_any _).mono ?_
  rintro e V1 ⟨rfl, hC, hB⟩
  have S1 := St.first HT.out hC hB
  clear hC hB HT
  go_wp2_with fail
  refine (anchor4_any _ _ S1.code S1.tab).mono ?_
  rintro e V2 ⟨rfl, hB⟩
  replace S1 := S1.next hB
  clear hB
  go_wp2_with fail
  refine (HK.out _ _ S1.code).mono ?_
  rintro e V3 ⟨rfl, rfl⟩
  go_wp2_with fail
  refine (HW.out _).mono ?_
  rintro e V4 ⟨rfl, rfl⟩
  have HB : Hid (Below w.heap.size w V4) := S1.below
  clear S1 HW HK
  go_wp2
  go_loop [7, 22] (fun o i => ∃ (k : Nat) (b : Bool), k ≤ 74 ∧ Hid (b = true ↔ ∃ l, l < k ∧ col l = v) ∧ o = .bool b ∧ i = .int .i64 (k : Int)) (fun _ i => 74 - (intOf i).toNat)
  case atStart => exact ⟨0, false, by omega, by show _ ↔ _; simp, rfl, rfl⟩
  case round =>
    obtain ⟨k, b, hk, Hb, rfl, rfl⟩ := hrel
    by_cases hlt : k < 74
    · cases b with
      | true =>
        have Hb' : Hid (true = true ↔ ∃ l, l < k + 1 ∧ col l = v) := ⟨fun _ => by obtain ⟨l, h1, h2⟩ := Hb.out.1 rfl; exact ⟨l, by omega, h2⟩, fun _ => rfl⟩
        go_wp2
        go_round
        case rel => exact ⟨k + 1, true, by omega, Hb', rfl, by go_num⟩
        case measure => simp [intOf]; omega
      | false =>
        have hc : Hid (∀ w, Calls Tryd.prog 13 #[.int .i64 (k : Int)] w fun e w' => e = .returned (.int .u8 (col k : Int)) ∧ w' = w) := fun w => refColumn_in k hlt w
        obtain ⟨c, Hc⟩ : ∃ c, Hid (col k = c) := ⟨_, rfl⟩
        rw [Hc.out] at hc
        obtain ⟨r, er, Hr⟩ : ∃ r : Bool, ((c : Int) == (v : Int)) = r ∧ Hid (r = true ↔ ∃ l, l < k + 1 ∧ col l = v) := by
          refine ⟨_, rfl, ?_⟩
          show _ ↔ _
          constructor
          · intro h
            exact ⟨k, by omega, by rw [Hc.out]; have := eq_of_beq h; omega⟩
          · rintro ⟨l, h1, h2⟩
            by_cases e : l = k
            · rw [e, Hc.out] at h2; simp [h2]
            · exact absurd (Hb.out.2 ⟨l, by omega, h2⟩) (by simp)
        go_wp2_with (go_at_call 13; refine (hc.out _).mono ?_; rintro e w' ⟨rfl, rfl⟩)
        go_round
        case rel => exact ⟨k + 1, r, by omega, Hr, rfl, by go_num⟩
        case measure => simp [intOf]; omega
    · obtain rfl : k = 74 := by omega
      by_cases h0 : v = 0
      · obtain ⟨rfl, rfl⟩ := hz.out h0
        subst h0
        clear ht hz Hb
        go_wp2
        go_ret
        exact ⟨rfl, HB.out⟩
      · obtain ⟨t1, t2, t3⟩ := ht.out b h0 Hb.out
        have d0 : ((v : Int) == 0) = false := by simp; omega
        clear ht hz Hb h0
        by_cases hodd : n % 2 = 1
        · have d1 : ((n : Int).tmod 2 == 1) = true := by rw [Int.tmod_eq_emod_of_nonneg (by omega)]; simp; omega
          clear t2
          go_wp2
          go_ret
          exact ⟨rfl, HB.out⟩
        · have d1 : ((n : Int).tmod 2 == 1) = false := by rw [Int.tmod_eq_emod_of_nonneg (by omega)]; simp; omega
          have hK4 : K = 4 := t2.resolve_left hodd
          subst hK4
          cases b with
          | true => exact absurd t1 (by decide)
          | false =>
            clear t1 t2
            go_wp2
            go_ret
            exact ⟨rfl, HB.out⟩
end Go.Proofs.YtcabfhndcckjdaaDoor
