/-
  A region that draws its order: a chain of calls, two variables laid at whatever time, then the rest: 'x, y := f(..), g(..)' of arrays.
-/
import Derived.Test.YtmkjdpokcfeieaaRsW7
import Derived.Test.YtmkjdpokcfeieaaRound2
namespace Go.Proofs.Ytmkjdpokcfeieaa
open Go.RowKit
open Po (El)

theorem anyH_eq {P : Program} {ops : Array Oper} {Q : Exit → Act → World → Prop} {S : World → Prop} {f f' : Nat} {l l' : Array Bool} {a a' : Act} {w : World} (hf : f = f') (hl : l = l') (ha : a = a') (h : wpAnyH P .any ops Q S f' l' a' w) : wpAnyH P .any ops Q S f l a w := by
  subst hf hl ha; exact h

section
variable {P : Program} {ops : Array Oper} {R : Act → World → Prop} {S : World → Prop}
/-- what the law is told of the region -/
structure PairR (P : Program) (ops : Array Oper) (R : Act → World → Prop) (S : World → Prop) (t : TypeId) (n m : Nat) (c : Nat → Nat) (ip iq : Nat) (Lst : Nat → Bool → Bool → Array Bool) (act : (Nat → Value) → Value → Value → Act)
    (C : Nat → (Nat → Value) → World → Prop) (Low : Nat → Prop) (f0 : Nat) : Prop where
  hz : ∀ w, (zeroValue t).run P w = .ok (.agg (arr n fun _ => 0).toArray) w
  hc : ∀ k, k < m → ∃ o, ops[c k]? = some o ∧ o.guard = none ∧ ∀ r x y w, C k r w → S w → Oper.wp P o (act r x y) w (fun a' w' => ∃ r', a' = act r' x y ∧ C (k + 1) r' w' ∧ Below w.heap.size w w') (Ends R)
  hp : ∃ o, ops[ip]? = some o ∧ o.guard = none ∧ o.op = .alloc t ∧ ∀ r x y v, (act r x y).put o.dst v = act r v y
  hq : ∃ o, ops[iq]? = some o ∧ o.guard = none ∧ o.op = .alloc t ∧ ∀ r x y v, (act r x y).put o.dst v = act r x v
  r3 : ∀ k, k < m → Region.ready .any ops (Lst k false false) = [c k, ip, iq]
  r2 : ∀ k, k < m → Region.ready .any ops (Lst k true false) = [c k, iq]
  r2' : ∀ k, k < m → Region.ready .any ops (Lst k false true) = [c k, ip]
  r1 : ∀ k, k < m → Region.ready .any ops (Lst k true true) = [c k]
  e2 : Region.ready .any ops (Lst m false false) = [ip, iq]
  e1 : Region.ready .any ops (Lst m true false) = [iq]
  e1' : Region.ready .any ops (Lst m false true) = [ip]
  l : ∀ k x y, k < m → (Lst k x y).setIfInBounds (c k) true = Lst (k + 1) x y
  lp : ∀ k y, k ≤ m → (Lst k false y).setIfInBounds ip true = Lst k true y
  lq : ∀ k x, k ≤ m → (Lst k x false).setIfInBounds iq true = Lst k x true
  Cn : ∀ k r w w', C k r w → Below w.heap.size w w' → C k r w'
  Sn : ∀ w w', S w → Below w.heap.size w w' → S w'
  low : ∀ w, S w → Low w.heap.size
  fin : ∀ r p q w, C m r w → S w → Blk w p n (fun _ => 0) → Blk w q n (fun _ => 0) → p ≠ q → Low p → Low q → wpAnyH P .any ops (Ends R) S f0 (Lst m true true) (act r (.pointer (some ⟨p, 0, none⟩)) (.pointer (some ⟨q, 0, none⟩))) w
variable {t : TypeId} {n m : Nat} {c : Nat → Nat} {ip iq : Nat} {Lst : Nat → Bool → Bool → Array Bool} {act : (Nat → Value) → Value → Value → Act} {C : Nat → (Nat → Value) → World → Prop} {Low : Nat → Prop} {f0 : Nat}

theorem pr_alloc (W : World) (n : Nat) (t : TypeId) : Below W.heap.size W (W.alloc (.cells (arr n fun _ => 0).toArray t)) := (Below.refl _ _).alloc (Nat.le_refl _) _
theorem PairR.call (h : PairR P ops R S t n m c ip iq Lst act C Low f0) {k : Nat} (hk : k < m) {x y : Bool} {f : Nat} {r : Nat → Value} {vx vy : Value} {w : World} (hC : C k r w) (hS : S w) {o : Oper} (ho : ops[c k]? = some o)
    (hn : ∀ r' w', C (k + 1) r' w' → S w' → Below w.heap.size w w' → wpAnyH P .any ops (Ends R) S f (Lst (k + 1) x y) (act r' vx vy) w') :
    Oper.wp P o (act r vx vy) w (fun a' w' => S w' ∧ (S w' → wpAnyH P .any ops (Ends R) S f ((Lst k x y).setIfInBounds (c k) true) a' w')) (Ends R) := by
  obtain ⟨o', ho', _, hs⟩ := h.hc k hk
  rw [ho] at ho'
  cases ho'
  refine Oper.wp_mono ?_ (hs r vx vy w hC hS)
  rintro a' w' ⟨r', rfl, hC', hB⟩
  rw [h.l k x y hk]
  exact ⟨h.Sn _ _ hS hB, fun hS' => hn r' w' hC' hS' hB⟩
theorem PairR.tt (h : PairR P ops R S t n m c ip iq Lst act C Low f0) : ∀ d k, k + d = m → ∀ r p q w, C k r w → S w → Blk w p n (fun _ => 0) → Blk w q n (fun _ => 0) → p ≠ q → Low p → Low q →
    wpAnyH P .any ops (Ends R) S (f0 + d) (Lst k true true) (act r (.pointer (some ⟨p, 0, none⟩)) (.pointer (some ⟨q, 0, none⟩))) w
  | 0, k, hk, r, p, q, w, hC, hS, hp, hq, hne, lp, lq => by
    obtain rfl : k = m := by omega
    exact h.fin r p q w hC hS hp hq hne lp lq
  | d + 1, k, hk, r, p, q, w, hC, hS, hp, hq, hne, lp, lq => by
    obtain ⟨o, ho, hg, _⟩ := h.hc k (by omega)
    refine take_one (c k) ho hg (h.r1 k (by omega)) (h.call (by omega) hC hS ho fun r' w' hC' hS' hB => ?_)
    exact PairR.tt h d (k + 1) (by omega) r' p q w' hC' hS' (hp.next hB) (hq.next hB) hne lp lq
theorem PairR.tf (h : PairR P ops R S t n m c ip iq Lst act C Low f0) : ∀ d k, k + d = m → ∀ r p y w, C k r w → S w → Blk w p n (fun _ => 0) → Low p →
    wpAnyH P .any ops (Ends R) S (f0 + d + 1) (Lst k true false) (act r (.pointer (some ⟨p, 0, none⟩)) y) w := by
  intro d
  have last : ∀ k, k + d = m → ∀ r p y w, C k r w → S w → Blk w p n (fun _ => 0) → Low p → ∀ o, ops[iq]? = some o → Oper.wp P o (act r (.pointer (some ⟨p, 0, none⟩)) y) w (fun a' w' => S w' ∧ (S w' → wpAnyH P .any ops (Ends R) S (f0 + d) ((Lst k true false).setIfInBounds iq true) a' w')) (Ends R) := by
    intro k hk r p y w hC hS hp lp o ho
    obtain ⟨o', ho', _, ha, hput⟩ := h.hq
    rw [ho] at ho'
    cases ho'
    refine wp_alloc_agg t ha _ h.hz ?_
    rw [hput, h.lq k true (by omega)]
    have hB := pr_alloc w n t
    exact ⟨h.Sn _ _ hS hB, fun hS' => h.tt d k hk r p _ _ (h.Cn _ _ _ _ hC hB) hS' (hp.next hB) (Blk.new w n _ t) (Nat.ne_of_lt hp.lt) lp (h.low w hS)⟩
  induction d with
  | zero =>
    intro k hk r p y w hC hS hp lp
    obtain ⟨o, ho, hg, _⟩ := h.hq
    obtain rfl : k = m := by omega
    exact take_one iq ho hg h.e1 (last k hk r p y w hC hS hp lp o ho)
  | succ d ih =>
    intro k hk r p y w hC hS hp lp
    obtain ⟨o, ho, hg, _⟩ := h.hq
    obtain ⟨o', ho', hg', _⟩ := h.hc k (by omega)
    refine take_two (c k) iq ho' ho hg' hg (h.r2 k (by omega)) (h.call (by omega) hC hS ho' fun r' w' hC' hS' hB => ?_) (last k hk r p y w hC hS hp lp o ho)
    refine ih ?_ (k + 1) (by omega) r' p y w' hC' hS' (hp.next hB) lp
    intro k hk r p y w hC hS hp lp o ho
    obtain ⟨o', ho', _, ha, hput⟩ := h.hq
    rw [ho] at ho'
    cases ho'
    refine wp_alloc_agg t ha _ h.hz ?_
    rw [hput, h.lq k true (by omega)]
    have hB := pr_alloc w n t
    exact ⟨h.Sn _ _ hS hB, fun hS' => h.tt d k hk r p _ _ (h.Cn _ _ _ _ hC hB) hS' (hp.next hB) (Blk.new w n _ t) (Nat.ne_of_lt hp.lt) lp (h.low w hS)⟩
theorem PairR.ft (h : PairR P ops R S t n m c ip iq Lst act C Low f0) : ∀ d k, k + d = m → ∀ r x q w, C k r w → S w → Blk w q n (fun _ => 0) → Low q →
    wpAnyH P .any ops (Ends R) S (f0 + d + 1) (Lst k false true) (act r x (.pointer (some ⟨q, 0, none⟩))) w := by
  have last : ∀ d k, k + d = m → ∀ r x q w, C k r w → S w → Blk w q n (fun _ => 0) → Low q → ∀ o, ops[ip]? = some o → Oper.wp P o (act r x (.pointer (some ⟨q, 0, none⟩))) w (fun a' w' => S w' ∧ (S w' → wpAnyH P .any ops (Ends R) S (f0 + d) ((Lst k false true).setIfInBounds ip true) a' w')) (Ends R) := by
    intro d k hk r x q w hC hS hq lq o ho
    obtain ⟨o', ho', _, ha, hput⟩ := h.hp
    rw [ho] at ho'
    cases ho'
    refine wp_alloc_agg t ha _ h.hz ?_
    rw [hput, h.lp k true (by omega)]
    have hB := pr_alloc w n t
    exact ⟨h.Sn _ _ hS hB, fun hS' => h.tt d k hk r _ q _ (h.Cn _ _ _ _ hC hB) hS' (Blk.new w n _ t) (hq.next hB) (Nat.ne_of_gt hq.lt) (h.low w hS) lq⟩
  intro d
  induction d with
  | zero =>
    intro k hk r x q w hC hS hq lq
    obtain ⟨o, ho, hg, _⟩ := h.hp
    obtain rfl : k = m := by omega
    exact take_one ip ho hg h.e1' (last 0 k hk r x q w hC hS hq lq o ho)
  | succ d ih =>
    intro k hk r x q w hC hS hq lq
    obtain ⟨o, ho, hg, _⟩ := h.hp
    obtain ⟨o', ho', hg', _⟩ := h.hc k (by omega)
    exact take_two (c k) ip ho' ho hg' hg (h.r2' k (by omega)) (h.call (by omega) hC hS ho' fun r' w' hC' hS' hB => ih (k + 1) (by omega) r' x q w' hC' hS' (hq.next hB) lq) (last (d + 1) k hk r x q w hC hS hq lq o ho)
theorem PairR.ff (h : PairR P ops R S t n m c ip iq Lst act C Low f0) : ∀ d k, k + d = m → ∀ r x y w, C k r w → S w →
    wpAnyH P .any ops (Ends R) S (f0 + d + 1 + 1) (Lst k false false) (act r x y) w := by
  have hP : ∀ d k, k + d = m → ∀ r x y w, C k r w → S w → ∀ o, ops[ip]? = some o → Oper.wp P o (act r x y) w (fun a' w' => S w' ∧ (S w' → wpAnyH P .any ops (Ends R) S (f0 + d + 1) ((Lst k false false).setIfInBounds ip true) a' w')) (Ends R) := by
    intro d k hk r x y w hC hS o ho
    obtain ⟨o', ho', _, ha, hput⟩ := h.hp
    rw [ho] at ho'
    cases ho'
    refine wp_alloc_agg t ha _ h.hz ?_
    rw [hput, h.lp k false (by omega)]
    have hB := pr_alloc w n t
    exact ⟨h.Sn _ _ hS hB, fun hS' => h.tf d k hk r _ y _ (h.Cn _ _ _ _ hC hB) hS' (Blk.new w n _ t) (h.low w hS)⟩
  have hQ : ∀ d k, k + d = m → ∀ r x y w, C k r w → S w → ∀ o, ops[iq]? = some o → Oper.wp P o (act r x y) w (fun a' w' => S w' ∧ (S w' → wpAnyH P .any ops (Ends R) S (f0 + d + 1) ((Lst k false false).setIfInBounds iq true) a' w')) (Ends R) := by
    intro d k hk r x y w hC hS o ho
    obtain ⟨o', ho', _, ha, hput⟩ := h.hq
    rw [ho] at ho'
    cases ho'
    refine wp_alloc_agg t ha _ h.hz ?_
    rw [hput, h.lq k false (by omega)]
    have hB := pr_alloc w n t
    exact ⟨h.Sn _ _ hS hB, fun hS' => h.ft d k hk r x _ _ (h.Cn _ _ _ _ hC hB) hS' (Blk.new w n _ t) (h.low w hS)⟩
  intro d
  induction d with
  | zero =>
    intro k hk r x y w hC hS
    obtain ⟨op, hop, gp, _⟩ := h.hp
    obtain ⟨oq, hoq, gq, _⟩ := h.hq
    obtain rfl : k = m := by omega
    exact take_two ip iq hop hoq gp gq h.e2 (hP 0 k hk r x y w hC hS op hop) (hQ 0 k hk r x y w hC hS oq hoq)
  | succ d ih =>
    intro k hk r x y w hC hS
    obtain ⟨op, hop, gp, _⟩ := h.hp
    obtain ⟨oq, hoq, gq, _⟩ := h.hq
    obtain ⟨o', ho', hg', _⟩ := h.hc k (by omega)
    exact take_three (c k) ip iq ho' hop hoq hg' gp gq (h.r3 k (by omega)) (h.call (by omega) hC hS ho' fun r' w' hC' hS' _ => ih (k + 1) (by omega) r' x y w' hC' hS') (hP (d + 1) k hk r x y w hC hS op hop) (hQ (d + 1) k hk r x y w hC hS oq hoq)
end
end Go.Proofs.Ytmkjdpokcfeieaa
