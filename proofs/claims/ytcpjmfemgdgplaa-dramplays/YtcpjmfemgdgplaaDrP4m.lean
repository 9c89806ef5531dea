/-
  A play: both inject.
-/
import Derived.Test.YtcpjmfemgdgplaaDrP3m
namespace Go.Proofs.Ytcpjmfemgdgplaa
open Go.RowKit Go.Shelf
open Ge (pw rt hd ix)
attribute [local go_sem] Oper.semAt_some

section
variable {W W' w0 : World} {es ls : List (Nat × List Value)} {lo B M : Nat} {r s b o d m : Int} {n : Nat} {G : Int → Nat → Int} {l1 l2 k1 k2 : Nat} {Y Z Y' Z' : Nat → Nat → Int} {E : List En} {LD : List Value} {k8 j8 : Int}
/-- the program's Inject answered a, and the document's will: whatever lies behind the chips -/
def Pj (w0 : World) (es ls : List (Nat × List Value)) (lo B M : Nat) (r s b o d m : Int) (n : Nat) (a : Int) (fa : Value) (LD : List Value) (W : World) : Prop :=
  ∃ G l1 Y l2 Z E k1 Y' k2 Z', Pm w0 es ls lo B M r s b o d m n G l1 Y l2 Z E k1 Y' k2 Z' LD W ∧ ∀ ls' U, Pm w0 es ls' lo B M r s b o d m n G l1 Y l2 Z E k1 Y' k2 Z' LD U → Calls Try.prog 37 #[.agg LD.toArray, fa] U fun e U' => ∃ LD', e = .returned (.tuple #[.agg LD'.toArray, .int .i64 a]) ∧ Pq w0 es ls' lo B M r s b o d m (n + 1) LD' U'
theorem Pj.next {a : Int} {fa : Value} (h : Pj w0 es ls lo B M r s b o d m n a fa LD W) (e : Below W.heap.size W W') : Pj w0 es ls lo B M r s b o d m n a fa LD W' := by
  obtain ⟨G, l1, Y, l2, Z, E, k1, Y', k2, Z', h1, h2⟩ := h
  exact ⟨G, l1, Y, l2, Z, E, k1, Y', k2, Z', h1.next e, h2⟩
theorem Pj.sub {a : Int} {fa : Value} (h : Pj w0 es ls lo B M r s b o d m n a fa LD W) {ls' : List (Nat × List Value)} (hs : ∀ x ∈ ls', x ∈ ls) : Pj w0 es ls' lo B M r s b o d m n a fa LD W := by
  obtain ⟨G, l1, Y, l2, Z, E, k1, Y', k2, Z', h1, h2⟩ := h
  exact ⟨G, l1, Y, l2, Z, E, k1, Y', k2, Z', h1.sub hs, h2⟩
theorem Pj.lay {a : Int} {fa : Value} (h : Pj w0 es ls lo B M r s b o d m n a fa LD W) (L : List Value) (t : TypeId) : Pj w0 es ((W.heap.size, L) :: ls) lo B M r s b o d m n a fa LD (W.alloc (.cells L.toArray t)) := by
  obtain ⟨G, l1, Y, l2, Z, E, k1, Y', k2, Z', h1, h2⟩ := h
  exact ⟨G, l1, Y, l2, Z, E, k1, Y', k2, Z', h1.lay L t, h2⟩
theorem Pj.bel {a : Int} {fa : Value} (h : Pj w0 es ls lo B M r s b o d m n a fa LD W) : Below w0.heap.size w0 W := by
  obtain ⟨G, l1, Y, l2, Z, E, k1, Y', k2, Z', h1, h2⟩ := h
  exact h1.bel
theorem Pj.lo_le {a : Int} {fa : Value} (h : Pj w0 es ls lo B M r s b o d m n a fa LD W) : lo ≤ W.heap.size ∧ w0.heap.size ≤ lo := by
  obtain ⟨G, l1, Y, l2, Z, E, k1, Y', k2, Z', h1, h2⟩ := h
  exact h1.lo_le
theorem Pj.ce {a : Int} {fa : Value} (h : Pj w0 es ls lo B M r s b o d m n a fa LD W) (x : Nat × List Value) (hx : x ∈ es) : Cb W x.1 x.2 := by
  obtain ⟨G, l1, Y, l2, Z, E, k1, Y', k2, Z', h1, h2⟩ := h
  exact h1.ce x hx
theorem Pj.cl {a : Int} {fa : Value} (h : Pj w0 es ls lo B M r s b o d m n a fa LD W) (x : Nat × List Value) (hx : x ∈ ls) : Cb W x.1 x.2 := by
  obtain ⟨G, l1, Y, l2, Z, E, k1, Y', k2, Z', h1, h2⟩ := h
  exact h1.cl x hx
theorem Pj.put {a : Int} {fa : Value} {K : Nat} {X L : List Value} (h : Pj w0 es ((K, X) :: ls) lo B M r s b o d m n a fa LD W) (hK : lo ≤ K) (hne : ∀ x ∈ ls, x.1 ≠ K) (hl : L.length = X.length) : Pj w0 es ((K, L) :: ls) lo B M r s b o d m n a fa LD (W.setCells K 0 L) ∧ W.there K 0 L.toArray.size := by
  obtain ⟨G, l1, Y, l2, Z, E, k1, Y', k2, Z', h1, h2⟩ := h
  obtain ⟨g1, g2⟩ := h1.put hK hne hl
  exact ⟨⟨G, l1, Y, l2, Z, E, k1, Y', k2, Z', g1, h2⟩, g2⟩
theorem Pj.call {a : Int} {fa : Value} (h : Pj w0 es ls lo B M r s b o d m n a fa LD W) : Calls Try.prog 37 #[.agg LD.toArray, fa] W fun e U' => ∃ LD', e = .returned (.tuple #[.agg LD'.toArray, .int .i64 a]) ∧ Pq w0 es ls lo B M r s b o d m (n + 1) LD' U' := by
  obtain ⟨G, l1, Y, l2, Z, E, k1, Y', k2, Z', h1, h2⟩ := h
  exact h2 ls W h1
theorem fo12 (n : Nat) (hn : n < 576) : Fo12 n := fun F hF v hv w => refForce_yes F hF n hn v v (by
  obtain rfl | rfl : v = 0 ∨ v = 1 := by omega
  · rfl
  · rfl) hv w
theorem ri12 (hm : Md m k8 j8) (hg : Ng r b o d) {k p q u v c x y : Int} {z : Bool} (hz : rtF k8 (hd r s b o d p q u v) k p q u v c x y = z) : Ri12 r s b o d m k p q u v c x y z := fun w => hz ▸ refRF_any k p q u v c x y r s b o d m k8 j8 hm hg.1 hg.2.1 hg.2.2.1 hg.2.2.2 w
/-- the document's Inject, as the program's was -/
theorem pmInj_bad (h : Pm w0 es ls lo B M r s b o d m n G l1 Y l2 Z E k1 Y' k2 Z' LD W) (hm : Md m k8 j8) (hg : Ng r b o d) {k p q u v c x y : Int} (hz : rtF k8 (hd r s b o d p q u v) k p q u v c x y = false) :
    Calls Try.prog 37 #[.agg LD.toArray, .agg #[.int .i64 k, .int .i64 p, .int .i64 q, .int .i64 u, .int .i64 v, .int .i64 c, .int .i64 x, .int .i64 y]] W fun e w' => e = .returned (.tuple #[.agg LD.toArray, .int .i64 10]) ∧ Pm w0 es ls lo B M r s b o d m n G l1 Y l2 Z E k1 Y' k2 Z' LD w' := by
  have h0 := h
  obtain ⟨vb, vc, a, len, cap, a1, c1, a2, c2, rfl, h2, h3, h4⟩ := h
  refine (inj12_bad r s b o d m k p q u v c x y _ _ _ W rfl rfl rfl (ri12 hm hg hz)).mono ?_
  rintro e w' ⟨rfl, hb⟩
  exact ⟨rfl, h0.next hb⟩
theorem pmInj_last (h : Pm w0 es ls lo B M r s b o d m n G l1 Y l2 Z E k1 Y' k2 Z' LD W) (hm : Md m k8 j8) (hg : Ng r b o d) {k p q u v c x y : Int} (hf : ∀ j, j < 8 → (Lit.int .i64 (ffn k p q u v c x y j)).wf = true) (hz : rtF k8 (hd r s b o d p q u v) k p q u v c x y = true) (hk : k ≠ 1) (hl : Go.Proofs.Ytcpjmfemgdgplaa.ls k = true) (h1 : k1 < 256) :
    Calls Try.prog 37 #[.agg LD.toArray, .agg #[.int .i64 k, .int .i64 p, .int .i64 q, .int .i64 u, .int .i64 v, .int .i64 c, .int .i64 x, .int .i64 y]] W fun e w' => ∃ LD', e = .returned (.tuple #[.agg LD'.toArray, .int .i64 0]) ∧ Pm w0 es ls lo B M r s b o d m n G l1 Y l2 Z E (k1 + 1) (snZ Y' k1 (ffn k p q u v c x y)) k2 Z' LD' w' := by
  obtain ⟨vb, vc, a, len, cap, a1, c1, a2, c2, rfl, h2, h3, h4⟩ := h
  have hk5 : 2 ≤ k ∧ k ≤ 5 := of_decide_eq_true hl
  refine (inj12_lastL r s b o d m k p q u v c x y a1 k1 c1 Y' _ _ h1 hf W rfl rfl hk hk5.2 (ri12 hm hg hz) h4.f).mono ?_
  rintro e w' ⟨a', c', rfl, he, hb, hnew⟩
  have k4 := h4.next hb
  refine ⟨_, rfl, vb, vc, a, len, cap, a', c', a2, c2, rfl, h2, h3.next hb, k4.e, he, k4.g, k4.pe, fun h0 g o9 e9 => ?_, k4.pg⟩
  have hg9 := hnew g o9 e9
  obtain ⟨b9, o8, e8, h8, _⟩ := he.at_ h0
  rw [e9] at e8
  cases e8
  exact ⟨h8, fun hm => by have := (h3.d.mine_lt _ hm).2; omega, fun x hx => by have := (h3.b x hx).2.lt; omega⟩
theorem pmInj_last_full (h : Pm w0 es ls lo B M r s b o d m n G l1 Y l2 Z E k1 Y' k2 Z' LD W) (hm : Md m k8 j8) (hg : Ng r b o d) {k p q u v c x y : Int} (hz : rtF k8 (hd r s b o d p q u v) k p q u v c x y = true) (hk : k ≠ 1) (hl : Go.Proofs.Ytcpjmfemgdgplaa.ls k = true) (h1 : 256 ≤ k1) :
    Calls Try.prog 37 #[.agg LD.toArray, .agg #[.int .i64 k, .int .i64 p, .int .i64 q, .int .i64 u, .int .i64 v, .int .i64 c, .int .i64 x, .int .i64 y]] W fun e w' => e = .returned (.tuple #[.agg LD.toArray, .int .i64 14]) ∧ Pm w0 es ls lo B M r s b o d m n G l1 Y l2 Z E k1 Y' k2 Z' LD w' := by
  have h0 := h
  obtain ⟨vb, vc, a, len, cap, a1, c1, a2, c2, rfl, h2, h3, h4⟩ := h
  have hk5 : 2 ≤ k ∧ k ≤ 5 := of_decide_eq_true hl
  have hle := h4.f.le
  have hcm := h4.f.cm
  refine (inj12_last_full r s b o d m k p q u v c x y a1 k1 c1 _ _ h1 (by unfold maxLen at hcm; omega) W rfl rfl hk hk5.2 (ri12 hm hg hz)).mono ?_
  rintro e w' ⟨rfl, hb⟩
  exact ⟨rfl, h0.next hb⟩
theorem rtP_k {n0 : Int} {h0 : Bool} {k p q u v c x y : Int} (e : rtF n0 h0 k p q u v c x y = true) : h0 = true ∧ rtP n0 k p q u v c x y := by
  unfold rtF at e
  rw [Bool.and_eq_true] at e
  exact ⟨e.1, of_decide_eq_true e.2⟩
theorem not_five {n0 : Int} {h0 : Bool} {k p q u v c x y : Int} (e : rtF n0 h0 k p q u v c x y = true) (hk : k ≠ 1) (hl : Go.Proofs.Ytcpjmfemgdgplaa.ls k = false) : ¬ k ≤ 5 := by
  have h1 : ¬ (2 ≤ k ∧ k ≤ 5) := of_decide_eq_false hl
  obtain ⟨_, h2, _⟩ := rtP_k e
  omega
theorem pmInj_come (h : Pm w0 es ls lo B M r s b o d m n G l1 Y l2 Z E k1 Y' k2 Z' LD W) (hm : Md m k8 j8) (hg : Ng r b o d) {k p q u v c x y : Int} (hf : ∀ j, j < 8 → (Lit.int .i64 (ffn k p q u v c x y j)).wf = true) (hz : rtF k8 (hd r s b o d p q u v) k p q u v c x y = true) (hk : k ≠ 1) (hl : Go.Proofs.Ytcpjmfemgdgplaa.ls k = false) (h1 : k2 < 256) :
    Calls Try.prog 37 #[.agg LD.toArray, .agg #[.int .i64 k, .int .i64 p, .int .i64 q, .int .i64 u, .int .i64 v, .int .i64 c, .int .i64 x, .int .i64 y]] W fun e w' => ∃ LD', e = .returned (.tuple #[.agg LD'.toArray, .int .i64 0]) ∧ Pm w0 es ls lo B M r s b o d m n G l1 Y l2 Z E k1 Y' (k2 + 1) (snZ Z' k2 (ffn k p q u v c x y)) LD' w' := by
  obtain ⟨vb, vc, a, len, cap, a1, c1, a2, c2, rfl, h2, h3, h4⟩ := h
  refine (inj12_comeL r s b o d m k p q u v c x y a2 k2 c2 Z' _ _ h1 hf W rfl rfl (not_five hz hk hl) (ri12 hm hg hz) h4.g).mono ?_
  rintro e w' ⟨a', c', rfl, he, hb, hnew⟩
  have k4 := h4.next hb
  refine ⟨_, rfl, vb, vc, a, len, cap, a1, c1, a', c', rfl, h2, h3.next hb, k4.e, k4.f, he, k4.pe, k4.pf, fun h0 g o9 e9 => ?_⟩
  have hg9 := hnew g o9 e9
  obtain ⟨b9, o8, e8, h8, _⟩ := he.at_ h0
  rw [e9] at e8
  cases e8
  exact ⟨h8, fun hm => by have := (h3.d.mine_lt _ hm).2; omega, fun x hx => by have := (h3.b x hx).2.lt; omega⟩
theorem pmInj_come_full (h : Pm w0 es ls lo B M r s b o d m n G l1 Y l2 Z E k1 Y' k2 Z' LD W) (hm : Md m k8 j8) (hg : Ng r b o d) {k p q u v c x y : Int} (hz : rtF k8 (hd r s b o d p q u v) k p q u v c x y = true) (hk : k ≠ 1) (hl : Go.Proofs.Ytcpjmfemgdgplaa.ls k = false) (h1 : 256 ≤ k2) :
    Calls Try.prog 37 #[.agg LD.toArray, .agg #[.int .i64 k, .int .i64 p, .int .i64 q, .int .i64 u, .int .i64 v, .int .i64 c, .int .i64 x, .int .i64 y]] W fun e w' => e = .returned (.tuple #[.agg LD.toArray, .int .i64 14]) ∧ Pm w0 es ls lo B M r s b o d m n G l1 Y l2 Z E k1 Y' k2 Z' LD w' := by
  have h0 := h
  obtain ⟨vb, vc, a, len, cap, a1, c1, a2, c2, rfl, h2, h3, h4⟩ := h
  have hle := h4.g.le
  have hcm := h4.g.cm
  refine (inj12_come_full r s b o d m k p q u v c x y a2 k2 c2 _ _ h1 (by unfold maxLen at hcm; omega) W rfl rfl (not_five hz hk hl) (ri12 hm hg hz)).mono ?_
  rintro e w' ⟨rfl, hb⟩
  exact ⟨rfl, h0.next hb⟩
theorem pmInj_turn (h : Pm w0 es ls lo B M r s b o d m n G l1 Y l2 Z E k1 Y' k2 Z' LD W) (hm : Md m k8 j8) (hg : Ng r b o d) {p q u v c y : Int} (x : Nat) (hz : rtF k8 (hd r s b o d p q u v) 1 p q u v c (x : Int) y = true) (hn : n < 1000000) :
    Calls Try.prog 37 #[.agg LD.toArray, .agg #[.int .i64 1, .int .i64 p, .int .i64 q, .int .i64 u, .int .i64 v, .int .i64 c, .int .i64 (x : Int), .int .i64 y]] W fun e w' => ∃ LD', e = .returned (.tuple #[.agg LD'.toArray, .int .i64 0]) ∧ Pm w0 es ls lo B M r s b o d m (n + 1) G l1 Y l2 Z (pE E (ix p q u v) (tR (gE E (ix p q u v)) x)) k1 Y' k2 Z' LD' w' := by
  obtain ⟨vb, vc, a, len, cap, a1, c1, a2, c2, rfl, h2, h3, h4⟩ := h
  obtain ⟨hh, _, _, _, _, _, hx, _⟩ := rtP_k hz
  have hx : x < 576 := by omega
  obtain ⟨hp, hq, hu, hv⟩ := hd_bounds hh
  refine (inj12_turnL r s b o d m p q u v c y x hx hp hq hu hv (fo12 x hx) a len cap E _ _ (by omega) rfl rfl (ri12 hm hg hz) W h4.e).mono ?_
  rintro e w' ⟨a', c', rfl, he, hb, hnew⟩
  have k4 := h4.next hb
  have hl := pE_len E (ix p q u v) (tR (gE E (ix p q u v)) x)
  have hl2 := h4.e.ln
  refine ⟨_, rfl, vb, vc, a', _, c', a1, c1, a2, c2, rfl, by omega, (h3.next hb).mono (Nat.le_succ n), he, k4.f, k4.g, fun h0 g o9 e9 => ?_, k4.pf, k4.pg⟩
  have hg9 := hnew g o9 e9
  obtain ⟨b9, o8, e8, h8, _⟩ := he.at_ h0
  rw [e9] at e8
  cases e8
  exact ⟨h8, fun hm => by have := (h3.d.mine_lt _ hm).2; omega, fun x hx => by have := (h3.b x hx).2.lt; omega⟩
/-- what is stored, told alike -/
theorem Pm.gcongr {G' : Int → Nat → Int} (h : Pm w0 es ls lo B M r s b o d m n G l1 Y l2 Z E k1 Y' k2 Z' LD W) (e : ∀ i, I64 i → ∀ j, j < 72 → G i j = G' i j) (hb : ∀ i, Byts 72 (G' i)) : Pm w0 es ls lo B M r s b o d m n G' l1 Y l2 Z E k1 Y' k2 Z' LD W := by
  obtain ⟨vb, vc, a, len, cap, a1, c1, a2, c2, rfl, h2, h3, h4⟩ := h
  exact ⟨vb, vc, a, len, cap, a1, c1, a2, c2, rfl, h2, h3.gcongr e hb, h4⟩
theorem Pm.wfE (h : Pm w0 es ls lo B M r s b o d m n G l1 Y l2 Z E k1 Y' k2 Z' LD W) : ∀ e ∈ E, I64 e.1 ∧ Byts 72 e.2 := by
  obtain ⟨vb, vc, a, len, cap, a1, c1, a2, c2, rfl, h2, h3, h4⟩ := h
  exact h4.e.wf
/-- both inject -/
theorem pqInject (h : Pq w0 es ls lo B M r s b o d m n LD W) (hm : Md m k8 j8) (hg : Ng r b o d) {k p q u v c x y : Int} (hf : ∀ j, j < 8 → (Lit.int .i64 (ffn k p q u v c x y j)).wf = true) (hn : n < 900000) :
    Calls Try.prog 23 #[.pointer (some ⟨B, 0, none⟩), .agg #[.int .i64 k, .int .i64 p, .int .i64 q, .int .i64 u, .int .i64 v, .int .i64 c, .int .i64 x, .int .i64 y]] W fun e w' => ∃ a, e = .returned (.int .i64 a) ∧ Pj w0 es ls lo B M r s b o d m (n + 1) a (.agg #[.int .i64 k, .int .i64 p, .int .i64 q, .int .i64 u, .int .i64 v, .int .i64 c, .int .i64 x, .int .i64 y]) LD w' := by
  obtain ⟨l1, Y, l2, Z, E, h⟩ := h
  have h0 := h
  obtain ⟨vb, vc, a, len, cap, a1, c1, a2, c2, hLD, h2, h3, h4⟩ := h
  refine (dInject_any h3.d hm k p q u v c x y hf (by omega)).mono ?_
  rintro e w' ⟨a, rfl, hij⟩
  refine ⟨a, rfl, ?_⟩
  rcases hij with ⟨hz, rfl, hb⟩ | ⟨hz, rfl, rfl, hd', hmo⟩ | ⟨hz, hk, hl, h256, rfl, hb⟩ | ⟨hz, hk, hl, h256, rfl, vb', hd', hmo⟩ | ⟨hz, hk, hl, h256, rfl, hb⟩ | ⟨hz, hk, hl, h256, rfl, vc', hd', hmo⟩
  · refine ⟨gE E, l1, Y, l2, Z, E, l1, Y, l2, Z, (h0.next hb).up (Nat.le_succ n), fun ls' U hU => ?_⟩
    refine (pmInj_bad hU hm hg hz).mono ?_
    rintro e U' ⟨rfl, hq⟩
    exact ⟨_, rfl, l1, Y, l2, Z, E, hq.up (Nat.le_succ _)⟩
  · obtain ⟨x', rfl⟩ : ∃ x' : Nat, x = x' := ⟨x.toNat, by obtain ⟨_, _, _, _, _, h9, _⟩ := rtP_k hz; omega⟩
    rw [Int.toNat_natCast] at hd'
    have hx : x' < 576 := by obtain ⟨_, _, _, _, _, _, h9, _⟩ := rtP_k hz; omega
    have hE := h0.wfE
    refine ⟨_, l1, Y, l2, Z, E, l1, Y, l2, Z, ⟨vb, vc, _, _, _, _, _, _, _, hLD, by omega, h3.mo hd' hmo, h4.mo hmo⟩, fun ls' U hU => ?_⟩
    refine (pmInj_turn hU hm hg x' hz (by omega)).mono ?_
    rintro e U' ⟨LD', rfl, hq⟩
    refine ⟨_, rfl, l1, Y, l2, Z, _, hq.gcongr (fun i hi j hj => ?_) (gE_byt _ fun e he => (hq.wfE e he).2)⟩
    rw [gE_pE]
    have hB : Byts 72 (gE E (ix p q u v)) := gE_byt E (fun e he => (hE e he).2) _
    by_cases hi9 : ix p q u v = i
    · subst hi9
      rw [gput_same, if_pos rfl]
      exact frR_flip _ hB x' hx j hj
    · rw [gput_other _ _ _ _ (fun h => hi9 h.symm), if_neg hi9]
  · refine ⟨gE E, l1, Y, l2, Z, E, l1, Y, l2, Z, (h0.next hb).up (Nat.le_succ n), fun ls' U hU => ?_⟩
    refine (pmInj_last_full hU hm hg hz hk hl h256).mono ?_
    rintro e U' ⟨rfl, hq⟩
    exact ⟨_, rfl, l1, Y, l2, Z, E, hq.up (Nat.le_succ _)⟩
  · refine ⟨gE E, _, _, l2, Z, E, l1, Y, l2, Z, ⟨vb', vc, _, _, _, _, _, _, _, hLD, by omega, h3.mo (hd'.mono (Nat.le_succ n)) hmo, h4.mo hmo⟩, fun ls' U hU => ?_⟩
    refine (pmInj_last hU hm hg hf hz hk hl h256).mono ?_
    rintro e U' ⟨LD', rfl, hq⟩
    exact ⟨_, rfl, _, _, l2, Z, E, hq.up (Nat.le_succ _)⟩
  · refine ⟨gE E, l1, Y, l2, Z, E, l1, Y, l2, Z, (h0.next hb).up (Nat.le_succ n), fun ls' U hU => ?_⟩
    refine (pmInj_come_full hU hm hg hz hk hl h256).mono ?_
    rintro e U' ⟨rfl, hq⟩
    exact ⟨_, rfl, l1, Y, l2, Z, E, hq.up (Nat.le_succ _)⟩
  · refine ⟨gE E, l1, Y, _, _, E, l1, Y, l2, Z, ⟨vb, vc', _, _, _, _, _, _, _, hLD, by omega, h3.mo (hd'.mono (Nat.le_succ n)) hmo, h4.mo hmo⟩, fun ls' U hU => ?_⟩
    refine (pmInj_come hU hm hg hf hz hk hl h256).mono ?_
    rintro e U' ⟨LD', rfl, hq⟩
    exact ⟨_, rfl, l1, Y, _, _, E, hq.up (Nat.le_succ _)⟩
end
end Go.Proofs.Ytcpjmfemgdgplaa
