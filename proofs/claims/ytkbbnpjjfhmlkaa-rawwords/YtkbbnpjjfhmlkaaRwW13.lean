/-
  Functions that leave with marks, their result in a box; an array of integers by its index; the bytes of the first chips and words.
-/
import Derived.Test.YtkbbnpjjfhmlkaaRwL2
namespace Go.Proofs.Ytkbbnpjjfhmlkaa
open Go.RowKit Go.Shelf
attribute [local go_sem] Oper.semAt_some

/-- the function leaves: its result stands in a box; each block for deferred calls is shut -/
theorem ends9 {n : Nat} {w : World} {fn : Func} {tmps : Array Value} {B T : Nat} (hB : w.heap.size = B) (hres : ∀ W1 : World, W1.cell? ⟨T, 0, none⟩ = some (.bool true) → (results fn tmps).run Try.prog W1 = .ok (.bool true) W1) :
    ∀ (ds : List Nat) (W : World), ds.Nodup → (∀ D ∈ ds, B ≤ D ∧ W.heap[D]? = some (.deferred (some []))) → Box W T (.bool true) → Below B w W →
      LeavesInM Fence.wide n Try.prog fn tmps (fun e w' => e = .returned (.bool true) ∧ Below w.heap.size w w') (ds.map fun D => { target := .collected D, args := #[] }) .returning W
  | [], W, _, _, hb, h => ⟨_, hres W hb.1, rfl, by rw [hB]; exact h⟩
  | D :: ds, W, hnd, hd, hb, h => by
    have h0 := hd D (by simp)
    have hnd' := List.nodup_cons.1 hnd
    refine ⟨by simp, .inl ⟨D, _, rfl, run_takeDeferred h0.2, ?_⟩⟩
    have s1 : Stay D W (W.putObj D (.deferred none)) := Stay.putObj _ h0.2 rfl (Nat.le_refl _)
    refine ends9 hB hres ds _ hnd'.2 (fun E hE => ?_) (hb.stay s1) (below_stay h s1 h0.1)
    have hE' := hd E (by simp [hE])
    exact ⟨hE'.1, (World.putObj_heap_other (fun e => hnd'.1 (by cases e; exact hE))).trans hE'.2⟩

/-- which bytes were met: those of the first c chips, and of the chip c in the first x words -/
def sn (n c x j : Nat) : Int := if j % n < c ∨ (j % n = c ∧ j / n < x) then 1 else 0
theorem sn_zero (n j : Nat) : sn n 0 0 j = 0 := by
  unfold sn
  rw [if_neg]
  rintro (h | h)
  · exact Nat.not_lt_zero _ h
  · exact Nat.not_lt_zero _ h.2
theorem sn_at (n c x : Nat) (hc : c < n) : sn n c x (x * n + c) = 0 := by
  have h1 : (x * n + c) % n = c := by rw [Nat.mul_comm, Nat.mul_add_mod, Nat.mod_eq_of_lt hc]
  have h2 : (x * n + c) / n = x := by rw [Nat.mul_comm, Nat.mul_add_div (by omega), Nat.div_eq_of_lt hc]; rfl
  unfold sn
  rw [if_neg]
  omega
theorem sn_step (n c x j : Nat) (hc : c < n) : (if j = x * n + c then 1 else sn n c x j) = sn n c (x + 1) j := by
  unfold sn
  by_cases e : j = x * n + c
  · subst e
    have h1 : (x * n + c) % n = c := by rw [Nat.mul_comm, Nat.mul_add_mod, Nat.mod_eq_of_lt hc]
    have h2 : (x * n + c) / n = x := by rw [Nat.mul_comm, Nat.mul_add_div (by omega), Nat.div_eq_of_lt hc]; rfl
    rw [if_pos rfl, if_pos (by omega)]
  · rw [if_neg e]
    by_cases h : j % n < c ∨ (j % n = c ∧ j / n < x)
    · rw [if_pos h, if_pos (by omega)]
    · rw [if_neg h, if_neg]
      rintro (h1 | ⟨h1, h2⟩)
      · exact h (.inl h1)
      · have h3 : j / n = x := by
          by_cases h4 : j / n < x
          · exact absurd (.inr ⟨h1, h4⟩) h
          · omega
        exact e (by rw [← Nat.div_add_mod j n, h3, h1, Nat.mul_comm])
theorem sn_next (n c k j : Nat) (hj : j < n * k) : sn n c k j = sn n (c + 1) 0 j := by
  have := Nat.div_lt_of_lt_mul hj
  unfold sn
  by_cases h : j % n < c + 1
  · rw [if_pos (by omega), if_pos (.inl h)]
  · rw [if_neg (by omega), if_neg (by rintro (h1 | h1); · exact h h1
                                      · exact Nat.not_lt_zero _ h1.2)]
theorem sn_all (n j : Nat) (hn : 0 < n) : sn n n 0 j = 1 := by
  unfold sn
  rw [if_pos (.inl (Nat.mod_lt _ hn))]
theorem infoS : (Try.prog.info? 48).map (·.size) = some 72 := by kernel_rfl
theorem zeroS (w : World) : (zeroValue 48).run Try.prog w = .ok (.agg (ints .i64 72 fun _ => 0).toArray) w := by kernel_rfl
theorem run_indexS (F : Nat → Int) (x : Nat) (hx : x < 72) (w : World) : (Instr.index 48 (.agg (ints .i64 72 F).toArray) (.int .i64 (x : Int))).run Try.prog w = .ok (.int .i64 (F x)) w := by
  have hc := ints_at .i64 72 F x hx
  have hu := Try.underlying48
  simp [Instr.index, run_underlying hu, asIntOf, go_sem, hx]
  rw [hc]; rfl

/-- what RawWhole holds: what it was given in B, its result in B + 1, the words that were put in P -/
structure Wx (B P : Nat) (F X : Nat → Int) (w W : World) : Prop where
  r : Bk .u8 W B 72 F
  t : Box W (B + 1) (.bool false)
  x : Bk .u8 W P 72 X
  below : Below B w W
section
variable {B P C : Nat} {F X : Nat → Int} {w W W' : World}
theorem Wx.stay (h : Wx B P F X w W) (k : Stay C W W') (hC : B ≤ C) : Wx B P F X w W' := ⟨h.r.stay k, h.t.stay k, h.x.stay k, below_stay h.below k hC⟩
theorem Wx.next (h : Wx B P F X w W) (k : Below W.heap.size W W') : Wx B P F X w W' := h.stay (stay_below9 k) (Nat.le_of_lt h.r.lt)
end
/-- the same, with what was counted in S, and the marks of the ranges that are over -/
structure Ws (B P S : Nat) (F : Nat → Int) (T : Nat → Int) (w : World) (ds : List Nat) (W : World) : Prop where
  x : Wx B P F F w W
  s : Bk .i64 W S 72 T
  o : B + 1 < P ∧ P < S
  nd : ds.Nodup
  dm : ∀ D ∈ ds, S < D ∧ W.heap[D]? = some (.deferred (some []))
section
variable {B P S C : Nat} {F T : Nat → Int} {ds : List Nat} {w W W' : World}
theorem Ws.ds_lt (h : Ws B P S F T w ds W) : ∀ D ∈ ds, D < W.heap.size := fun D hD => (Array.getElem?_eq_some_iff.1 (h.dm D hD).2).1
theorem Ws.stay (h : Ws B P S F T w ds W) (k : Stay C W W') (hC : B ≤ C) (hd : ∀ D ∈ ds, D < C) : Ws B P S F T w ds W' :=
  ⟨h.x.stay k hC, h.s.stay k, h.o, h.nd, fun D hD => ⟨(h.dm D hD).1, (k.low D (hd D hD)).trans (h.dm D hD).2⟩⟩
theorem Ws.next (h : Ws B P S F T w ds W) (k : Below W.heap.size W W') : Ws B P S F T w ds W' := h.stay (stay_below9 k) (Nat.le_of_lt h.x.r.lt) h.ds_lt
theorem Ws.mark (h : Ws B P S F T w ds W) {D : Nat} (hS : S < D) (hn : ∀ E ∈ ds, E < D) (hD : W.heap[D]? = some (.deferred (some []))) : Ws B P S F T w (D :: ds) W :=
  { h with nd := List.nodup_cons.2 ⟨fun e => by have := hn D e; omega, h.nd⟩, dm := fun E hE => (List.mem_cons.1 hE).elim (fun e => by subst e; exact ⟨hS, hD⟩) (h.dm E) }
/-- one more is counted -/
theorem Ws.put (h : Ws B P S F T w ds W) (i : Nat) (e : Int) : Ws B P S F (fun j => if j = i then e else T j) w ds (W.setCell ⟨S, i, none⟩ (.int .i64 e)) := by
  have ho := h.o
  refine ⟨⟨h.x.r.other (by omega) _ _, h.x.t.of (Below.heap_setCell W ⟨S, i, none⟩ _ _ (by simp; omega)), h.x.x.other (by omega) _ _, h.x.below.setCell (p := ⟨S, i, none⟩) (by simp; omega) _⟩, h.s.set i e, h.o, h.nd, fun D hD => ⟨(h.dm D hD).1, ?_⟩⟩
  have := (h.dm D hD).1
  exact (Below.heap_setCell W ⟨S, i, none⟩ _ D (by simp; omega)).trans (h.dm D hD).2
theorem Ws.congr {T' : Nat → Int} (h : Ws B P S F T w ds W) (e : ∀ j, j < 72 → T j = T' j) : Ws B P S F T' w ds W := { h with s := h.s.congr e }
end
end Go.Proofs.Ytkbbnpjjfhmlkaa
