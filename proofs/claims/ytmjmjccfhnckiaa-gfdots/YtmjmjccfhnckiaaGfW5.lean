/-
  The walks of Dot, and of the document's sum of products.
-/
import Derived.Test.YtmjmjccfhnckiaaGfW4
import Derived.Test.YtmjmjccfhnckiaaBytes
namespace Go.Proofs.Ytmjmjccfhnckiaa
open Go.RowKit
open Gf (eI lI gI dI pI)

/-- the sum of the first k products -/
def dotN (la lb : List Int) : Nat → Int
  | 0 => 0
  | k + 1 => bits .xor .u8 (dotN la lb k) (gI (la[k]?.getD 0) (lb[k]?.getD 0))
theorem dotN_bd (la lb : List Int) (k : Nat) : 0 ≤ dotN la lb k ∧ dotN la lb k < 256 := by
  induction k with
  | zero => simp [dotN]
  | succ k ih =>
    have h := Gf.gI_bd (la[k]?.getD 0) (lb[k]?.getD 0)
    exact Gf.xor8_bd _ _ ih.1 ih.2 h.1 h.2
def dotI (la lb : List Int) : Int := dotN la lb (min la.length lb.length)

set_option maxRecDepth 100000 in
set_option maxHeartbeats 400000 in
theorem dot_any (b : Nat) (aa ab : Option Addr) (ca cb : Nat) (la lb : List Int) (w : World) (hf : FldAt w b)
    (sa : SlAt w aa la) (ba : Byt la) (ma : la.length ≤ maxLen) (sb : SlAt w ab lb) (bb : Byt lb) (mb : lb.length ≤ maxLen) :
    Calls Try.prog 21 #[.pointer (some ⟨b, 0, none⟩), .slice aa la.length ca, .slice ab lb.length cb] w fun e w' => e = .returned (.int .u8 (dotI la lb)) ∧ ∃ k, w' = w.drewN k := by
  unfold maxLen at ma mb
  by_cases hmin : lb.length < la.length
  · go_enter Try.func21, Try.ntmps21
    go_wp2
    go_loopw [7, 14] (fun s i wr => ∃ k : Nat, k ≤ la.length ∧ k ≤ lb.length ∧ i = .int .i64 k ∧ s = .int .u8 (dotN la lb k) ∧ Hid (∃ q, wr = w.drewN q)) (fun _ i _ => la.length - (intOf i).toNat)
    case atStart => exact ⟨0, by omega, by omega, rfl, rfl, ⟨0, rfl⟩⟩
    case round =>
      obtain ⟨k, hka, hkb, rfl, rfl, HQ⟩ := hrel
      by_cases hlt : k < la.length ∧ k < lb.length
      · obtain ⟨hla, hlb⟩ := hlt
        obtain ⟨x, h1, Hx⟩ : ∃ x, (0 ≤ x ∧ x < 256) ∧ Hid (x = la[k]?.getD 0) := ⟨_, ba k hla, rfl⟩
        obtain ⟨y, h2, Hy⟩ : ∃ y, (0 ≤ y ∧ y < 256) ∧ Hid (y = lb[k]?.getD 0) := ⟨_, bb k hlb, rfl⟩
        have h3 := dotN_bd la lb k
        rcases sa with sa | ⟨b1, o1, rfl, hb1, hc1⟩
        · rw [sa] at hla; simp at hla
        rcases sb with sb | ⟨b2, o2, rfl, hb2, hc2⟩
        · rw [sb] at hlb; simp at hlb
        have c1 : wr.cell? ⟨b1, o1 + k, none⟩ = some (.int .u8 x) := by rw [Hx.out]; obtain ⟨q, e⟩ := HQ.out; rw [e]; exact hc1 k hla
        have c2 : wr.cell? ⟨b2, o2 + k, none⟩ = some (.int .u8 y) := by rw [Hy.out]; obtain ⟨q, e⟩ := HQ.out; rw [e]; exact hc2 k hlb
        clear hc1 hc2
        have hfr : FldAt wr b := by obtain ⟨q, e⟩ := HQ.out; rw [e]; exact hf.drewN q
        go_wp2
        go_quiet ((go_at_call 13; exact Calls.quiet_of (mul_any _ _ _ (by omega) (by omega) (by omega) (by omega) _ (by exact hfr.of (fun _ => rfl)))))
        go_wp2
        go_roundw
        case rel => exact ⟨k + 1, by omega, by omega, by go_num, by rw [dotN, ← Hx.out, ← Hy.out], by obtain ⟨q, e⟩ := HQ.out; rw [e]; exact ⟨_, World.drewN_drewN _ _ _⟩⟩
        case measure => simp [intOf]; omega
      · go_wp2
        go_ret
        refine ⟨ret_int ?_, HQ.out⟩
        unfold dotI
        congr 1; omega
  · go_enter Try.func21, Try.ntmps21
    go_wp2
    go_loopw [7, 14] (fun s i wr => ∃ k : Nat, k ≤ la.length ∧ k ≤ lb.length ∧ i = .int .i64 k ∧ s = .int .u8 (dotN la lb k) ∧ Hid (∃ q, wr = w.drewN q)) (fun _ i _ => la.length - (intOf i).toNat)
    case atStart => exact ⟨0, by omega, by omega, rfl, rfl, ⟨0, rfl⟩⟩
    case round =>
      obtain ⟨k, hka, hkb, rfl, rfl, HQ⟩ := hrel
      by_cases hlt : k < la.length ∧ k < lb.length
      · obtain ⟨hla, hlb⟩ := hlt
        obtain ⟨x, h1, Hx⟩ : ∃ x, (0 ≤ x ∧ x < 256) ∧ Hid (x = la[k]?.getD 0) := ⟨_, ba k hla, rfl⟩
        obtain ⟨y, h2, Hy⟩ : ∃ y, (0 ≤ y ∧ y < 256) ∧ Hid (y = lb[k]?.getD 0) := ⟨_, bb k hlb, rfl⟩
        have h3 := dotN_bd la lb k
        rcases sa with sa | ⟨b1, o1, rfl, hb1, hc1⟩
        · rw [sa] at hla; simp at hla
        rcases sb with sb | ⟨b2, o2, rfl, hb2, hc2⟩
        · rw [sb] at hlb; simp at hlb
        have c1 : wr.cell? ⟨b1, o1 + k, none⟩ = some (.int .u8 x) := by rw [Hx.out]; obtain ⟨q, e⟩ := HQ.out; rw [e]; exact hc1 k hla
        have c2 : wr.cell? ⟨b2, o2 + k, none⟩ = some (.int .u8 y) := by rw [Hy.out]; obtain ⟨q, e⟩ := HQ.out; rw [e]; exact hc2 k hlb
        clear hc1 hc2
        have hfr : FldAt wr b := by obtain ⟨q, e⟩ := HQ.out; rw [e]; exact hf.drewN q
        go_wp2
        go_quiet ((go_at_call 13; exact Calls.quiet_of (mul_any _ _ _ (by omega) (by omega) (by omega) (by omega) _ (by exact hfr.of (fun _ => rfl)))))
        go_wp2
        go_roundw
        case rel => exact ⟨k + 1, by omega, by omega, by go_num, by rw [dotN, ← Hx.out, ← Hy.out], by obtain ⟨q, e⟩ := HQ.out; rw [e]; exact ⟨_, World.drewN_drewN _ _ _⟩⟩
        case measure => simp [intOf]; omega
      · go_wp2
        go_ret
        refine ⟨ret_int ?_, HQ.out⟩
        unfold dotI
        congr 1; omega

set_option maxRecDepth 100000 in
set_option maxHeartbeats 400000 in
theorem refDot_any (aa ab : Option Addr) (ca cb : Nat) (la lb : List Int) (w : World)
    (sa : SlAt w aa la) (ba : Byt la) (ma : la.length ≤ maxLen) (sb : SlAt w ab lb) (bb : Byt lb) (mb : lb.length ≤ maxLen) :
    Calls Try.prog 22 #[.slice aa la.length ca, .slice ab lb.length cb] w fun e w' => e = .returned (.int .u8 (dotI la lb)) ∧ ∃ k, w' = w.drewN k := by
  unfold maxLen at ma mb
  go_enter Try.func22, Try.ntmps22
  go_wp2
  go_loopw [5, 6] (fun s i wr => ∃ k : Nat, k ≤ la.length ∧ k ≤ lb.length ∧ i = .int .i64 k ∧ s = .int .u8 (dotN la lb k) ∧ Hid (∃ q, wr = w.drewN q)) (fun _ i _ => la.length - (intOf i).toNat)
  case atStart => exact ⟨0, by omega, by omega, rfl, rfl, ⟨0, rfl⟩⟩
  case round =>
    obtain ⟨k, hka, hkb, rfl, rfl, HQ⟩ := hrel
    by_cases hla : k < la.length
    · by_cases hlb : k < lb.length
      · obtain ⟨x, h1, Hx⟩ : ∃ x, (0 ≤ x ∧ x < 256) ∧ Hid (x = la[k]?.getD 0) := ⟨_, ba k hla, rfl⟩
        obtain ⟨y, h2, Hy⟩ : ∃ y, (0 ≤ y ∧ y < 256) ∧ Hid (y = lb[k]?.getD 0) := ⟨_, bb k hlb, rfl⟩
        have h3 := dotN_bd la lb k
        rcases sa with sa | ⟨b1, o1, rfl, hb1, hc1⟩
        · rw [sa] at hla; simp at hla
        rcases sb with sb | ⟨b2, o2, rfl, hb2, hc2⟩
        · rw [sb] at hlb; simp at hlb
        have c1 : wr.cell? ⟨b1, o1 + k, none⟩ = some (.int .u8 x) := by rw [Hx.out]; obtain ⟨q, e⟩ := HQ.out; rw [e]; exact hc1 k hla
        have c2 : wr.cell? ⟨b2, o2 + k, none⟩ = some (.int .u8 y) := by rw [Hy.out]; obtain ⟨q, e⟩ := HQ.out; rw [e]; exact hc2 k hlb
        clear hc1 hc2
        go_wp2
        go_quiet ((go_at_call 15; exact Calls.quiet_of_same (refMul_any _ _ (by omega) (by omega) (by omega) (by omega) _)))
        go_wp2
        go_roundw
        case rel => exact ⟨k + 1, by omega, by omega, by go_num, by rw [dotN, ← Hx.out, ← Hy.out], by obtain ⟨q, e⟩ := HQ.out; rw [e]; exact ⟨_, World.drewN_drewN _ _ _⟩⟩
        case measure => simp [intOf]; omega
      · go_wp2
        go_ret
        refine ⟨ret_int ?_, HQ.out⟩
        unfold dotI
        congr 1; omega
    · go_wp2
      go_ret
      refine ⟨ret_int ?_, HQ.out⟩
      unfold dotI
      congr 1; omega

end Go.Proofs.Ytmjmjccfhnckiaa
