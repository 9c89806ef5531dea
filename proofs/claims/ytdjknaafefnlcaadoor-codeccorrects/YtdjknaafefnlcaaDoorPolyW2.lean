/-
  The walks of Eval and of the document's Product and Eval: values as elements.
-/
import Derived.Test.YtdjknaafefnlcaaDoorPolyW1
namespace Go.Proofs.YtdjknaafefnlcaaDoor
open Go.RowKit
open Gf (eI lI gI dI pI)
open Po (toE cf mu S pwr ev cv Low)

/-- an element as the program's byte -/
def ofE (e : Po.El) : Int := ((e.toNat : Nat) : Int)
theorem ofE_bd (e : Po.El) : 0 ≤ ofE e ∧ ofE e < 256 := by
  have := e.isLt; unfold ofE; omega
theorem toE_ofE (e : Po.El) : toE (ofE e) = e := Po.el_ext (Po.toE_nat _ (by have := e.isLt; omega))
theorem ofE_toE (a : Int) (h0 : 0 ≤ a) (h1 : a < 256) : ofE (toE a) = a := Po.toE_toNat a h0 h1
theorem ofE_inj {a b : Po.El} (h : ofE a = ofE b) : a = b := by rw [← toE_ofE a, ← toE_ofE b, h]
theorem gI_ofE (a b : Po.El) : gI (ofE a) (ofE b) = ofE (mu a b) := by
  have h1 := ofE_bd a
  have h2 := ofE_bd b
  have h3 := Gf.gI_bd (ofE a) (ofE b)
  rw [← ofE_toE _ h3.1 h3.2, Po.toE_gI _ _ h1.1 h1.2 h2.1 h2.2, toE_ofE, toE_ofE]
theorem xor_ofE (a b : Po.El) : bits .xor .u8 (ofE a) (ofE b) = ofE (a ^^^ b) := by
  have h1 := ofE_bd a
  have h2 := ofE_bd b
  have h3 := Gf.xor8_bd _ _ h1.1 h1.2 h2.1 h2.2
  rw [← ofE_toE _ h3.1 h3.2, Po.toE_xor _ _ h1.1 h1.2 h2.1 h2.2, toE_ofE, toE_ofE]
theorem ofE_cf (l : List Int) (hb : Byt l) (i : Nat) : ofE (cf l i) = l[i]?.getD 0 := by
  by_cases h : i < l.length
  · exact ofE_toE _ (hb i h).1 (hb i h).2
  · unfold cf; rw [List.getElem?_eq_none (by omega)]; rfl
theorem ofE_zero : ofE 0 = 0 := rfl
theorem ofE_eq_zero (e : Po.El) : ofE e = 0 ↔ e = 0 := ⟨fun h => ofE_inj (h.trans ofE_zero.symm), fun h => by rw [h]; rfl⟩



/-- what the value is, when all from k on was taken in -/
def hor (l : List Int) (X : Po.El) (k : Nat) : Po.El := S (l.length - k) (fun i => mu (cf l (k + i)) (pwr X i))
theorem hor_end (l : List Int) (X : Po.El) : hor l X l.length = 0 := by unfold hor; rw [Nat.sub_self]; rfl
theorem hor_zero (l : List Int) (X : Po.El) : hor l X 0 = ev l.length (cf l) X := by
  unfold hor ev; simp
theorem hor_step (l : List Int) (X : Po.El) (k : Nat) (h : k < l.length) : mu (hor l X (k + 1)) X ^^^ cf l k = hor l X k := by
  unfold hor
  obtain ⟨m, hm⟩ : ∃ m, l.length - k = m + 1 := ⟨l.length - k - 1, by omega⟩
  rw [hm, Po.S_first, show l.length - (k + 1) = m from by omega, Po.S_mu, BitVec.xor_comm]
  congr 1
  · show _ = mu (cf l k) 1; rw [Po.mu_one]
  · refine Po.S_congr _ _ _ (fun i _ => ?_)
    rw [Po.mu_assoc, show k + 1 + i = k + (i + 1) from by omega]; rfl

set_option maxRecDepth 100000 in
set_option maxHeartbeats 400000 in
theorem eval_any (b : Nat) (a : Option Addr) (c n : Nat) (l : List Int) (x : Int) (w : World) (hf : FldAt w b) (sa : SlAt w a l) (ba : Byt l) (ma : n ≤ maxLen) (en : l.length = n) (hx : 0 ≤ x ∧ x < 256) :
    Calls Tryd.prog 89 #[.pointer (some ⟨b, 0, none⟩), .slice a n c, .int .u8 x] w fun e w' => e = .returned (.int .u8 (ofE (ev l.length (cf l) (toE x)))) ∧ ∃ k, w' = w.drewN k := by
  subst en
  unfold maxLen at ma
  go_enter Tryd.func89, Tryd.ntmps89
  go_wp2
  go_loopw [7, 8] (fun v i wr => ∃ k : Nat, k ≤ l.length ∧ i = .int .i64 ((k : Int) - 1) ∧ v = .int .u8 (ofE (hor l (toE x) k)) ∧ Hid (∃ q, wr = w.drewN q)) (fun _ i _ => (intOf i + 1).toNat)
  case atStart => exact ⟨l.length, by omega, rfl, by rw [hor_end]; rfl, ⟨0, rfl⟩⟩
  case round =>
    obtain ⟨k, hk, rfl, rfl, HQ⟩ := hrel
    cases k with
    | zero =>
      go_wp2
      go_ret
      exact ⟨ret_int (by rw [hor_zero]), HQ.out⟩
    | succ k =>
      obtain ⟨y, h1, Hy⟩ : ∃ y, (0 ≤ y ∧ y < 256) ∧ Hid (y = l[k]?.getD 0) := ⟨_, ba k (by omega), rfl⟩
      obtain ⟨v, h2, Hv⟩ : ∃ v, (0 ≤ v ∧ v < 256) ∧ Hid (ofE (hor l (toE x) (k + 1)) = v) := ⟨_, ofE_bd _, rfl⟩
      rcases sa with sa | ⟨b1, o1, rfl, hb1, hc1⟩
      · rw [sa] at hk; simp at hk
      have c1 : wr.cell? ⟨b1, o1 + k, none⟩ = some (.int .u8 y) := by rw [Hy.out]; obtain ⟨q, e⟩ := HQ.out; rw [e]; exact hc1 k (by omega)
      have hfr : FldAt wr b := by obtain ⟨q, e⟩ := HQ.out; rw [e]; exact hf.drewN q
      clear hc1
      have e1 : (((k + 1 : Nat) : Int) - 1) = (k : Int) := by omega
      rw [e1, Hv.out]
      clear e1
      go_wp2
      go_quiet ((go_at_call 85; exact Calls.quiet_of (mul_any _ _ _ (by omega) (by omega) (by omega) (by omega) _ (by exact hfr.of (fun _ => rfl)))))
      go_wp2
      go_roundw
      case rel =>
        refine ⟨k, by omega, by go_num, ?_, by obtain ⟨q, e⟩ := HQ.out; rw [e]; exact ⟨_, World.drewN_drewN _ _ _⟩⟩
        rw [← Hv.out, ← ofE_toE x hx.1 hx.2, gI_ofE, Hy.out, ← ofE_cf l ba k, xor_ofE, ofE_toE x hx.1 hx.2, hor_step l (toE x) k (by omega)]
      case measure => simp [intOf]


/-- the first k products of the coefficient at n -/
def prN (p q : List Int) (n k : Nat) : Po.El := S k (fun i => mu (cf p i) (cf q (n - i)))
theorem prN_end (p q : List Int) (n k : Nat) (h1 : k ≤ n + 1) (h : k = n + 1 ∨ p.length ≤ k) : prN p q n k = cv (cf p) (cf q) n := by
  rcases h with rfl | h
  · rfl
  · exact (Po.S_more k (n + 1) _ (fun i hi => by show mu (cf p i) _ = 0; rw [Po.cf_low p i (by omega), Po.zero_mu]) h1).symm


end Go.Proofs.YtdjknaafefnlcaaDoor
