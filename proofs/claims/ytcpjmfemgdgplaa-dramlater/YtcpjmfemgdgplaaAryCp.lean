/-
  copy between blocks of bytes.
-/
import Derived.Test.YtcpjmfemgdgplaaAry
namespace Go.Proofs.Ytcpjmfemgdgplaa
open Go.RowKit
attribute [local go_sem] Oper.semAt_some

/-- what the builtin does -/
theorem run_cpy (w : World) (rt : TypeId) (g off dLen dCap sb so sLen sCap n k : Nat) (F G : Nat → Int) (hg : Bk .u8 w g n F) (hk : k = Nat.min sLen dLen)
    (hsrc : ∀ j : Nat, j < k → w.cell? ⟨sb, so + j, none⟩ = some (.int .u8 (G j))) (hfit : off + k ≤ n) :
    ∃ w', (Builtin.copy_ #[105, 105] rt #[.slice (some ⟨g, off, none⟩) dLen dCap, .slice (some ⟨sb, so, none⟩) sLen sCap]).run Try.prog w = .ok (goInt k) w' ∧ Bk .u8 w' g n (lay F off k G) ∧ Just g w w' := by
  obtain ⟨t, hg⟩ := hg
  have hrun := run_copy_row (P := Try.prog) w 105 105 rt 5 g off dLen dCap ⟨sb, so, none⟩ sLen sCap (ints .u8 n F).toArray t (ints .u8 k G) Try.underlying105 byte_size hg (by rw [ints_len]; exact hk)
    (fun j v hv => by
      have hj : j < k := by have := (List.getElem?_eq_some_iff.1 hv).1; rw [ints_len] at this; exact this
      rw [ints_at .u8 k G j hj] at hv
      cases hv
      rw [Addr.add_mid]; exact hsrc j hj) (by simp [ints_len]; omega) (ints_one' .u8 k G)
  rw [ints_len] at hrun
  refine ⟨_, hrun, ⟨t, ?_⟩, ⟨fun B w0 hb hB => below_setRow hb hB _, fun k hk => setRow_other w g k _ hk⟩⟩
  rw [← splice_ints .u8 n F off k G hfit, setRow_heap w g _ _ t _ hg]
  simp [splice, ints_len]
/-- as an operation -/
theorem wp_cpy {o : Oper} {a : Act} {w : World} {K : Act → World → Prop} {Q : Exit → Act → World → Prop} (d s : Operand)
    (ho : o.op = .call { callee := .builtin .copy, args := #[d, s], argTypes := #[105, 105] })
    (g off dLen dCap sb so sLen sCap n k : Nat) (F G : Nat → Int) (hd : a.eval d = .slice (some ⟨g, off, none⟩) dLen dCap) (hs : a.eval s = .slice (some ⟨sb, so, none⟩) sLen sCap)
    (hg : Bk .u8 w g n F) (hk : k = Nat.min sLen dLen) (hsrc : ∀ j : Nat, j < k → w.cell? ⟨sb, so + j, none⟩ = some (.int .u8 (G j))) (hfit : off + k ≤ n)
    (h : ∀ w', Hid (Bk .u8 w' g n (lay F off k G)) → Hid (Just g w w') → K (a.put o.dst (goInt k)) w') : Oper.wp Try.prog o a w K Q := by
  obtain ⟨w', hrun, h1, h2⟩ := run_cpy w o.type g off dLen dCap sb so sLen sCap n k F G hg hk hsrc hfit
  unfold Oper.wp
  simp [execOp, ho, resolve, invoke, builtin, hd, hs, hrun, Result.andThen]
  exact h w' h1 h2
/-- in a region that draws its order (go_region_held3) -/
theorem step_cpys {ops : Array Oper} {o : Oper} {a : Act} {w : World} {K : Act → World → Prop} {Q : Exit → Act → World → Prop} {E : Prop} (hgd : o.guard = none) (d s : Operand)
    (ho : o.op = .call { callee := .builtin .copy, args := #[d, s], argTypes := #[105, 105] })
    (g off dLen dCap sb so sLen sCap n k : Nat) (F G : Nat → Int) (hd : a.eval d = .slice (some ⟨g, off, none⟩) dLen dCap) (hs : a.eval s = .slice (some ⟨sb, so, none⟩) sLen sCap)
    (hg : Bk .u8 w g n F) (hk : k = Nat.min sLen dLen) (hsrc : ∀ j : Nat, j < k → w.cell? ⟨sb, so + j, none⟩ = some (.int .u8 (G j))) (hfit : off + k ≤ n)
    (h : ∀ w', Hid (Bk .u8 w' g n (lay F off k G)) → Hid (Just g w w') → K (a.put o.dst (goInt k)) w') :
    if Region.wanted o (yielded ops a.tmps) = true then Oper.wp Try.prog o a w K Q else E := by
  have hw : Region.wanted o (yielded ops a.tmps) = true := by simp [Region.wanted, hgd]
  rw [if_pos hw]
  exact wp_cpy d s ho g off dLen dCap sb so sLen sCap n k F G hd hs hg hk hsrc hfit h
/-- in a plain region -/
theorem wpList_cpy {w : World} {ops : Array Oper} {rest : List Oper} {o : Oper} {a : Act} {Q : Exit → Act → World → Prop} (hgd : o.guard = none) (d s : Operand)
    (ho : o.op = .call { callee := .builtin .copy, args := #[d, s], argTypes := #[105, 105] })
    (g off dLen dCap sb so sLen sCap n k : Nat) (F G : Nat → Int) (hd : a.eval d = .slice (some ⟨g, off, none⟩) dLen dCap) (hs : a.eval s = .slice (some ⟨sb, so, none⟩) sLen sCap)
    (hg : Bk .u8 w g n F) (hk : k = Nat.min sLen dLen) (hsrc : ∀ j : Nat, j < k → w.cell? ⟨sb, so + j, none⟩ = some (.int .u8 (G j))) (hfit : off + k ≤ n)
    (h : ∀ w', Hid (Bk .u8 w' g n (lay F off k G)) → Hid (Just g w w') → wpList Try.prog ops Q rest (a.put o.dst (goInt k)) w') : wpList Try.prog ops Q (o :: rest) a w := by
  refine wpList_plain hgd fun K hK => ?_
  exact wp_cpy d s ho g off dLen dCap sb so sLen sCap n k F G hd hs hg hk hsrc hfit fun w' h1 h2 => hK _ _ (h w' h1 h2)
end Go.Proofs.Ytcpjmfemgdgplaa
