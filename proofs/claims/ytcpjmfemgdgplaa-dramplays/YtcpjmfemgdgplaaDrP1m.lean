/-
  A play: the chips, and the document's chips beside them.
-/
import Derived.Test.YtcpjmfemgdgplaaDrQ1m
import Derived.Test.YtcpjmfemgdgplaaDrQ2m
import Derived.Test.YtcpjmfemgdgplaaDrQ3m
namespace Go.Proofs.Ytcpjmfemgdgplaa
open Go.RowKit Go.Shelf
open Ge (pw rt hd ix)
attribute [local go_sem] Oper.semAt_some

/-- where a list of the document's lies: in a block of P -/
def Ali (P : Nat → Prop) (W : World) (a : Option Addr) (len : Nat) : Prop := 0 < len → ∀ g o, a = some ⟨g, o, none⟩ → g < W.heap.size ∧ P g
/-- far from the chips, and from what the law laid behind them -/
def Far (B M : Nat) (vb vc : Value) (ls : List (Nat × List Value)) (g : Nat) : Prop := ¬ mine B M vb vc g ∧ ∀ x ∈ ls, x.1 ≠ g
/-- the document's lists -/
structure Dl12 (P : Nat → Prop) (E : List En) (a : Option Addr) (len cap : Nat) (l1 : Nat) (Y : Nat → Nat → Int) (a1 : Option Addr) (c1 : Nat) (l2 : Nat) (Z : Nat → Nat → Int) (a2 : Option Addr) (c2 : Nat) (W : World) : Prop where
  e : Er W a len cap E
  f : Fs W a1 l1 c1 Y
  g : Fs W a2 l2 c2 Z
  pe : Ali P W a len
  pf : Ali P W a1 l1
  pg : Ali P W a2 l2
theorem Er.ofP {w W : World} {a : Option Addr} {len cap : Nat} {E : List En} (h : Er w a len cap E) (k : 0 < len → ∀ g o, a = some ⟨g, o, none⟩ → W.heap[g]? = w.heap[g]?) : Er W a len cap E := by
  by_cases h0 : 0 < len
  · exact h.of (k h0)
  · exact ⟨h.ln, h.le, h.cm, fun h1 => absurd h1 h0, h.wf, h.nil⟩
theorem Fs.ofP {w W : World} {a : Option Addr} {len cap : Nat} {Z : Nat → Nat → Int} (h : Fs w a len cap Z) (k : 0 < len → ∀ g o, a = some ⟨g, o, none⟩ → W.heap[g]? = w.heap[g]?) : Fs W a len cap Z := by
  by_cases h0 : 0 < len
  · exact fs_of12 h (k h0)
  · exact ⟨h.le, h.cm, fun h1 => absurd h1 h0, h.wf, h.nil⟩
theorem Fs.none {W : World} {a : Option Addr} {cap : Nat} {Z Z' : Nat → Nat → Int} (h : Fs W a 0 cap Z) : Fs W a 0 cap Z' := ⟨h.le, h.cm, fun h0 => absurd h0 (by omega), fun i hi => absurd hi (by omega), h.nil⟩
section
variable {P P' : Nat → Prop} {W W' w0 : World} {E : List En} {a a1 a2 : Option Addr} {len cap l1 l2 k1 k2 c1 c2 : Nat} {Y Z Y' Z' : Nat → Nat → Int}
theorem Ali.of (h : Ali P W a len) (hs : W.heap.size ≤ W'.heap.size) (hP : ∀ g, g < W.heap.size → P g → P' g) : Ali P' W' a len := fun h0 g o e => by
  obtain ⟨h1, h2⟩ := h h0 g o e
  exact ⟨Nat.lt_of_lt_of_le h1 hs, hP g h1 h2⟩
theorem Dl12.of (h : Dl12 P E a len cap l1 Y a1 c1 l2 Z a2 c2 W) (hs : W.heap.size ≤ W'.heap.size) (hP : ∀ g, g < W.heap.size → P g → P' g) (hk : ∀ g, g < W.heap.size → P g → W'.heap[g]? = W.heap[g]?) : Dl12 P' E a len cap l1 Y a1 c1 l2 Z a2 c2 W' :=
  ⟨h.e.ofP fun h0 g o e => hk g (h.pe h0 g o e).1 (h.pe h0 g o e).2, h.f.ofP fun h0 g o e => hk g (h.pf h0 g o e).1 (h.pf h0 g o e).2, h.g.ofP fun h0 g o e => hk g (h.pg h0 g o e).1 (h.pg h0 g o e).2, h.pe.of hs hP, h.pf.of hs hP, h.pg.of hs hP⟩
theorem Dl12.next (h : Dl12 P E a len cap l1 Y a1 c1 l2 Z a2 c2 W) (e : Below W.heap.size W W') : Dl12 P E a len cap l1 Y a1 c1 l2 Z a2 c2 W' := h.of e.size (fun _ _ h => h) fun g hg _ => e.block g hg
variable {es ls ls' : List (Nat × List Value)} {lo B M : Nat} {r s b o d m : Int} {n : Nat} {G G' : Int → Nat → Int} {vb vc vb' vc' : Value} {LD : List Value}
theorem Dl12.mo (h : Dl12 (Far B M vb vc ls) E a len cap l1 Y a1 c1 l2 Z a2 c2 W) (k : Mo lo B M vb vc vb' vc' W W') : Dl12 (Far B M vb' vc' ls) E a len cap l1 Y a1 c1 l2 Z a2 c2 W' :=
  h.of k.2.n.size (fun g hg hp => ⟨fun hm => (k.1 g hm).elim hp.1 fun h2 => by omega, hp.2⟩) fun g hg hp => k.2.k g hg hp.1
/-- the chips, and the document's beside them: LD its cells -/
def Pm (w0 : World) (es ls : List (Nat × List Value)) (lo B M : Nat) (r s b o d m : Int) (n : Nat) (G : Int → Nat → Int) (l1 : Nat) (Y : Nat → Nat → Int) (l2 : Nat) (Z : Nat → Nat → Int) (E : List En) (k1 : Nat) (Y' : Nat → Nat → Int) (k2 : Nat) (Z' : Nat → Nat → Int) (LD : List Value) (W : World) : Prop :=
  ∃ vb vc a len cap a1 c1 a2 c2, LD = dl r s b o d m (.slice a len cap) (.slice a1 k1 c1) (.slice a2 k2 c2) ∧ len ≤ n ∧ Lw w0 es ls lo B M r s b o d m n G vb l1 Y vc l2 Z W ∧ Dl12 (Far B M vb vc ls) E a len cap k1 Y' a1 c1 k2 Z' a2 c2 W
theorem Lw.grow (h : Lw w0 es ls lo B M r s b o d m n G vb l1 Y vc l2 Z W) (e : Below W.heap.size W W') (hn : ∀ x ∈ ls', W.heap.size ≤ x.1 ∧ Cb W' x.1 x.2) : Lw w0 es (ls' ++ ls) lo B M r s b o d m n G vb l1 Y vc l2 Z W' := by
  have k := h.next e
  refine ⟨k.d, k.n, k.l, k.e, fun x hx => ?_⟩
  rcases List.mem_append.1 hx with hx | hx
  · exact ⟨fun hm => by have := (h.d.mine_lt _ hm).2; have := (hn x hx).1; omega, (hn x hx).2⟩
  · exact k.b x hx
theorem Pm.ll (h : Pm w0 es ls lo B M r s b o d m n G l1 Y l2 Z E k1 Y' k2 Z' LD W) : LD.length = 9 := by
  obtain ⟨vb, vc, a, len, cap, a1, c1, a2, c2, rfl, _⟩ := h
  rfl
theorem Pm.one (h : Pm w0 es ls lo B M r s b o d m n G l1 Y l2 Z E k1 Y' k2 Z' LD W) : LD.toArray.all (·.oneCell') = true := by
  obtain ⟨vb, vc, a, len, cap, a1, c1, a2, c2, rfl, _⟩ := h
  exact dl_one r s b o d m _ _ _ rfl rfl rfl
theorem Pm.grow (h : Pm w0 es ls lo B M r s b o d m n G l1 Y l2 Z E k1 Y' k2 Z' LD W) (e : Below W.heap.size W W') (hn : ∀ x ∈ ls', W.heap.size ≤ x.1 ∧ Cb W' x.1 x.2) : Pm w0 es (ls' ++ ls) lo B M r s b o d m n G l1 Y l2 Z E k1 Y' k2 Z' LD W' := by
  obtain ⟨vb, vc, a, len, cap, a1, c1, a2, c2, h1, h2, h3, h4⟩ := h
  refine ⟨vb, vc, a, len, cap, a1, c1, a2, c2, h1, h2, h3.grow e hn, h4.of e.size (fun g hg hp => ⟨hp.1, fun x hx => ?_⟩) fun g hg _ => e.block g hg⟩
  rcases List.mem_append.1 hx with hx | hx
  · have := (hn x hx).1; omega
  · exact hp.2 x hx
theorem Pm.next (h : Pm w0 es ls lo B M r s b o d m n G l1 Y l2 Z E k1 Y' k2 Z' LD W) (e : Below W.heap.size W W') : Pm w0 es ls lo B M r s b o d m n G l1 Y l2 Z E k1 Y' k2 Z' LD W' := h.grow (ls' := []) e fun x hx => by simp at hx
theorem Pm.sub (h : Pm w0 es ls lo B M r s b o d m n G l1 Y l2 Z E k1 Y' k2 Z' LD W) (hs : ∀ x ∈ ls', x ∈ ls) : Pm w0 es ls' lo B M r s b o d m n G l1 Y l2 Z E k1 Y' k2 Z' LD W := by
  obtain ⟨vb, vc, a, len, cap, a1, c1, a2, c2, h1, h2, h3, h4⟩ := h
  exact ⟨vb, vc, a, len, cap, a1, c1, a2, c2, h1, h2, ⟨h3.d, h3.n, h3.l, h3.e, fun x hx => h3.b x (hs x hx)⟩, h4.of (Nat.le_refl _) (fun g _ hp => ⟨hp.1, fun x hx => hp.2 x (hs x hx)⟩) fun _ _ _ => rfl⟩
theorem Pm.bel (h : Pm w0 es ls lo B M r s b o d m n G l1 Y l2 Z E k1 Y' k2 Z' LD W) : Below w0.heap.size w0 W := by
  obtain ⟨vb, vc, a, len, cap, a1, c1, a2, c2, h1, h2, h3, h4⟩ := h
  exact h3.n
theorem Pm.ce (h : Pm w0 es ls lo B M r s b o d m n G l1 Y l2 Z E k1 Y' k2 Z' LD W) (x : Nat × List Value) (hx : x ∈ es) : Cb W x.1 x.2 := by
  obtain ⟨vb, vc, a, len, cap, a1, c1, a2, c2, h1, h2, h3, h4⟩ := h
  exact (h3.e x hx).2
theorem Pm.cl (h : Pm w0 es ls lo B M r s b o d m n G l1 Y l2 Z E k1 Y' k2 Z' LD W) (x : Nat × List Value) (hx : x ∈ ls) : Cb W x.1 x.2 := by
  obtain ⟨vb, vc, a, len, cap, a1, c1, a2, c2, h1, h2, h3, h4⟩ := h
  exact (h3.b x hx).2
theorem Pm.lo_le (h : Pm w0 es ls lo B M r s b o d m n G l1 Y l2 Z E k1 Y' k2 Z' LD W) : lo ≤ W.heap.size ∧ w0.heap.size ≤ lo := by
  obtain ⟨vb, vc, a, len, cap, a1, c1, a2, c2, h1, h2, h3, h4⟩ := h
  exact ⟨h3.d.lo_le, h3.l⟩
/-- a box behind the chips has other cells -/
theorem Pm.put {K : Nat} {X L : List Value} (h : Pm w0 es ((K, X) :: ls) lo B M r s b o d m n G l1 Y l2 Z E k1 Y' k2 Z' LD W) (hK : lo ≤ K) (hne : ∀ x ∈ ls, x.1 ≠ K) (hl : L.length = X.length) : Pm w0 es ((K, L) :: ls) lo B M r s b o d m n G l1 Y l2 Z E k1 Y' k2 Z' LD (W.setCells K 0 L) ∧ W.there K 0 L.toArray.size := by
  obtain ⟨vb, vc, a, len, cap, a1, c1, a2, c2, h1, h2, h3, h4⟩ := h
  obtain ⟨hm, hc⟩ := h3.b (K, X) (by simp)
  have hsz : W.heap.size ≤ (W.setCells K 0 L).heap.size := (belows_put (Nat.zero_le K) L 0 (Below.refl 0 W)).size
  refine ⟨⟨vb, vc, a, len, cap, a1, c1, a2, c2, h1, h2, ⟨h3.d.of fun g hg => heap_puts K L 0 W g (fun e => hm (e ▸ hg)), belows_put (by have := h3.l; omega) _ 0 h3.n, h3.l, fun x hx => ⟨(h3.e x hx).1, (h3.e x hx).2.putOther (by have := (h3.e x hx).1; omega) 0 L⟩, fun x hx => ?_⟩, h4.of hsz (fun g _ hp => ⟨hp.1, fun x hx => ?_⟩) fun g _ hp => heap_puts K L 0 W g fun e => hp.2 (K, X) (by simp) e.symm⟩, ?_⟩
  · rcases List.mem_cons.1 hx with rfl | hx
    · exact ⟨hm, hc.all hl⟩
    · have := h3.b x (by simp [hx])
      exact ⟨this.1, this.2.putOther (hne x hx) 0 L⟩
  · rcases List.mem_cons.1 hx with rfl | hx
    · exact hp.2 (K, X) (by simp)
    · exact hp.2 x (by simp [hx])
  · have := hc.thereAt 0 L.length (by simp only [hl]; omega)
    simpa using this
/-- chips whose cells are told otherwise -/
theorem MpAt.gcongr {D : Nat} (h : MpAt W D n G) (e : ∀ i, I64 i → ∀ j, j < 72 → G i j = G' i j) : MpAt W D n G' := by
  obtain ⟨D', h1, h2⟩ := h
  refine ⟨D', h1, fun i hi => ?_⟩
  rw [h2 i hi]
  unfold rawV
  rw [ints_congr .u8 72 (G i) (G' i) (e i hi)]
theorem Lw.gcongr (h : Lw w0 es ls lo B M r s b o d m n G vb l1 Y vc l2 Z W) (e : ∀ i, I64 i → ∀ j, j < 72 → G i j = G' i j) (hb : ∀ i, Byts 72 (G' i)) : Lw w0 es ls lo B M r s b o d m n G' vb l1 Y vc l2 Z W :=
  ⟨{ h.d with mp := h.d.mp.gcongr e, by_ := hb }, h.n, h.l, h.e, h.b⟩
theorem Lw.mono {n' : Nat} (h : Lw w0 es ls lo B M r s b o d m n G vb l1 Y vc l2 Z W) (hn : n ≤ n') : Lw w0 es ls lo B M r s b o d m n' G vb l1 Y vc l2 Z W := ⟨h.d.mono hn, h.n, h.l, h.e, h.b⟩
/-- both have the same -/
def Pq (w0 : World) (es ls : List (Nat × List Value)) (lo B M : Nat) (r s b o d m : Int) (n : Nat) (LD : List Value) (W : World) : Prop := ∃ l1 Y l2 Z E, Pm w0 es ls lo B M r s b o d m n (gE E) l1 Y l2 Z E l1 Y l2 Z LD W
theorem Pq.ll (h : Pq w0 es ls lo B M r s b o d m n LD W) : LD.length = 9 := let ⟨_, _, _, _, _, h⟩ := h; h.ll
theorem Pq.one (h : Pq w0 es ls lo B M r s b o d m n LD W) : LD.toArray.all (·.oneCell') = true := let ⟨_, _, _, _, _, h⟩ := h; h.one
theorem Pq.bel (h : Pq w0 es ls lo B M r s b o d m n LD W) : Below w0.heap.size w0 W := let ⟨_, _, _, _, _, h⟩ := h; h.bel
theorem Pq.ce (h : Pq w0 es ls lo B M r s b o d m n LD W) (x : Nat × List Value) (hx : x ∈ es) : Cb W x.1 x.2 := let ⟨_, _, _, _, _, h⟩ := h; h.ce x hx
theorem Pq.cl (h : Pq w0 es ls lo B M r s b o d m n LD W) (x : Nat × List Value) (hx : x ∈ ls) : Cb W x.1 x.2 := let ⟨_, _, _, _, _, h⟩ := h; h.cl x hx
theorem Pq.lo_le (h : Pq w0 es ls lo B M r s b o d m n LD W) : lo ≤ W.heap.size ∧ w0.heap.size ≤ lo := let ⟨_, _, _, _, _, h⟩ := h; h.lo_le
theorem Pq.next (h : Pq w0 es ls lo B M r s b o d m n LD W) (e : Below W.heap.size W W') : Pq w0 es ls lo B M r s b o d m n LD W' := let ⟨_, _, _, _, _, h⟩ := h; ⟨_, _, _, _, _, h.next e⟩
theorem Pq.sub (h : Pq w0 es ls lo B M r s b o d m n LD W) (hs : ∀ x ∈ ls', x ∈ ls) : Pq w0 es ls' lo B M r s b o d m n LD W := let ⟨_, _, _, _, _, h⟩ := h; ⟨_, _, _, _, _, h.sub hs⟩
theorem Pq.grow (h : Pq w0 es ls lo B M r s b o d m n LD W) (e : Below W.heap.size W W') (hn : ∀ x ∈ ls', W.heap.size ≤ x.1 ∧ Cb W' x.1 x.2) : Pq w0 es (ls' ++ ls) lo B M r s b o d m n LD W' := let ⟨_, _, _, _, _, h⟩ := h; ⟨_, _, _, _, _, h.grow e hn⟩
theorem Pq.put {K : Nat} {X L : List Value} (h : Pq w0 es ((K, X) :: ls) lo B M r s b o d m n LD W) (hK : lo ≤ K) (hne : ∀ x ∈ ls, x.1 ≠ K) (hl : L.length = X.length) : Pq w0 es ((K, L) :: ls) lo B M r s b o d m n LD (W.setCells K 0 L) ∧ W.there K 0 L.toArray.size := by
  obtain ⟨_, _, _, _, _, h⟩ := h
  obtain ⟨h1, h2⟩ := h.put hK hne hl
  exact ⟨⟨_, _, _, _, _, h1⟩, h2⟩
theorem Pq.mono {n' : Nat} (h : Pq w0 es ls lo B M r s b o d m n LD W) (hn : n ≤ n') : Pq w0 es ls lo B M r s b o d m n' LD W := by
  obtain ⟨l1, Y, l2, Z, E, vb, vc, a, len, cap, a1, c1, a2, c2, h1, h2, h3, h4⟩ := h
  exact ⟨l1, Y, l2, Z, E, vb, vc, a, len, cap, a1, c1, a2, c2, h1, Nat.le_trans h2 hn, h3.mono hn, h4⟩
/-- a box laid -/
theorem Pm.lay (h : Pm w0 es ls lo B M r s b o d m n G l1 Y l2 Z E k1 Y' k2 Z' LD W) (L : List Value) (t : TypeId) : Pm w0 es ((W.heap.size, L) :: ls) lo B M r s b o d m n G l1 Y l2 Z E k1 Y' k2 Z' LD (W.alloc (.cells L.toArray t)) :=
  h.grow (ls' := [(W.heap.size, L)]) ((Below.refl _ W).alloc (Nat.le_refl _) _) fun x hx => by
    obtain rfl := List.mem_singleton.1 hx
    exact ⟨Nat.le_refl _, Cb.new W L t⟩
theorem Pq.lay (h : Pq w0 es ls lo B M r s b o d m n LD W) (L : List Value) (t : TypeId) : Pq w0 es ((W.heap.size, L) :: ls) lo B M r s b o d m n LD (W.alloc (.cells L.toArray t)) := let ⟨_, _, _, _, _, h⟩ := h; ⟨_, _, _, _, _, h.lay L t⟩
end
end Go.Proofs.Ytcpjmfemgdgplaa
