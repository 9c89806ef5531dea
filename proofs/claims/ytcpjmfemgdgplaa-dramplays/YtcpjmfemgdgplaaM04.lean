/-
  Texts of one family, one behind another: RwW5, RwW6, RwW7, FaW1, FaW2.
-/
import Derived.Test.YtcpjmfemgdgplaaM03
import Derived.Test.YtcpjmfemgdgplaaM02
import Derived.Deep.DeepCutAuto
import Derived.Laws.StructEq

/-
  Where a chip's bytes stand: what Of tells, and the iterator.
-/
namespace Go.Proofs.Ytcpjmfemgdgplaa
open Go.RowKit Go.Shelf
attribute [local go_sem] Oper.semAt_some

theorem stay_below9 {W W' : World} (k : Below W.heap.size W W') : Stay W.heap.size W W' :=
  ⟨k.os, k.tape, k.output, k.size, fun b _ hb _ => (k.block b (Array.getElem?_eq_some_iff.1 hb).1).trans hb, fun b hb => k.block b hb⟩
theorem of9_yes {m n k : Int} (h : Md m n k) (c : Int) (hc : 0 ≤ c ∧ c < n) (w : World) :
    Calls Try.prog 78 #[.int .i64 m, .int .i64 c] w fun e w' =>
      e = .returned (.func (.func 84) #[] #[.pointer (some ⟨w.heap.size, 0, none⟩), .pointer (some ⟨w.heap.size + 1, 0, none⟩)]) ∧
      ∃ q, w' = ((w.alloc (.cells #[.int .i64 m] 3)).alloc (.cells #[.int .i64 c] 3)).drewN q := by
  have hC : Hid (∀ w : World, Calls Try.prog 57 #[.int .i64 m] w fun e w' => e = .returned (.int .i64 n) ∧ w' = w) := countChips_any h
  have hL : Hid (∀ w : World, Calls Try.prog 76 #[.int .i64 c, .int .i64 n] w fun e w' => e = .returned (.bool true) ∧ w' = w) := below9_yes c n hc
  clear h hc
  go_enter Try.func78, Try.ntmps78
  go_wp2
  go_quiet (first | (go_at_call 57; exact Calls.quiet_of_same (hC.out _)) | (go_at_call 76; exact Calls.quiet_of_same (hL.out _)))
  go_wp2
  go_ret
  exact ⟨rfl, ⟨_, rfl⟩⟩
theorem of9_no {m n k : Int} (h : Md m n k) (c : Int) (hc : ¬ (0 ≤ c ∧ c < n)) (w : World) :
    Calls Try.prog 78 #[.int .i64 m, .int .i64 c] w fun e w' =>
      e = .returned (.func (.func 83) #[] #[]) ∧ Below w.heap.size w w' := by
  have hC : Hid (∀ w : World, Calls Try.prog 57 #[.int .i64 m] w fun e w' => e = .returned (.int .i64 n) ∧ w' = w) := countChips_any h
  have hL : Hid (∀ w : World, Calls Try.prog 76 #[.int .i64 c, .int .i64 n] w fun e w' => e = .returned (.bool false) ∧ w' = w) := below9_no c n hc
  clear h hc
  go_enter Try.func78, Try.ntmps78
  go_wp2
  go_quiet (first | (go_at_call 57; exact Calls.quiet_of_same (hC.out _)) | (go_at_call 76; exact Calls.quiet_of_same (hL.out _)))
  go_wp2
  go_ret
  exact ⟨rfl, below_stay (((Below.refl _ w).alloc (Nat.le_refl _) _).alloc (by simp) _) (Stay.drewN _ _ _) (Nat.le_refl _)⟩
/-- none come -/
theorem of1_seq (enc : Nat → Array Value) (p T : Nat → Prop) (w : World) : SeqC Try.prog 83 #[] enc 0 p T w := by
  intro l M J Jx W hW hM hJ hJx hskip hY h0
  clear hskip hY
  refine callsIn_of_wp Try.func83 rfl trivial ?_ rfl
  simp only [Try.ntmps83, List.size_toArray, List.length_cons, List.length_nil, Nat.reduceAdd, Nat.reduceSub, Array.replicate_succ, Array.replicate_zero, List.push_toArray, List.append_toArray, List.nil_append, List.cons_append, Array.append_empty]
  gi_wp2
  go_end0
  exact ⟨⟨_, rfl⟩, .inl h0⟩

set_option maxRecDepth 100000 in
set_option maxHeartbeats 1000000 in
theorem of2_seq1 (c : Int) (hc0 : 0 ≤ c) (hc1 : c < 9) (ab bb : Nat) (w : World) (ha : Box w ab (.int .i64 1)) (hb : Box w bb (.int .i64 c)) :
    SeqC Try.prog 84 #[.pointer (some ⟨ab, 0, none⟩), .pointer (some ⟨bb, 0, none⟩)] (fun x => #[.int .i64 ((x : Int) * 9 + c)]) 8 (fun _ => True) (fun x => x = ab ∨ x = bb) w := by
  intro l M J Jx W hW hM hJ hJx hskip hY h0
  have haW : Hid (Box W ab (.int .i64 1)) := ha.below hW ha.lt
  have hbW : Hid (Box W bb (.int .i64 c)) := hb.below hW hb.lt
  have d0 := haW.out.1
  have HM : Hid (¬ M ab ∧ ¬ M bb) := ⟨fun h => (hM ab h).2 (.inl rfl), fun h => (hM bb h).2 (.inr rfl)⟩
  have cW : Hid (∀ W : World, Calls Try.prog 85 #[.int .i64 1] W fun e w' => e = .returned (.int .i64 8) ∧ w' = W) := countWords_any .bits
  have cP : Hid (∀ (x : Nat), x < 8 → ∀ W : World, Calls Try.prog 86 #[.int .i64 1, .int .i64 (x : Int), .int .i64 c] W fun e w' => e = .returned (.int .i64 ((x : Int) * 9 + c)) ∧ w' = W) := fun x hx W => placeOf9_any .bits x c ⟨by omega, by omega⟩ ⟨by omega, by omega⟩ W
  have HY : Hid (∀ (x : Nat) (W1 : World), x < 8 → J x W1 → YieldAt Fence.wide 8 Try.prog l #[.int .i64 ((x : Int) * 9 + c)] W1 fun e W' => (e = .returned (.bool true) ∧ J (x + 1) W' ∧ Keep M W1 W') ∨ (e = .returned (.bool false) ∧ Jx x W' ∧ Keep M W1 W')) := fun x W1 h1 h2 => hY x W1 h1 trivial h2
  clear hJ hJx hskip hY hM hW ha hb
  refine callsIn_of_wp Try.func84 rfl trivial ?_ rfl
  simp only [Try.ntmps84, List.size_toArray, List.length_cons, List.length_nil, Nat.reduceAdd, Nat.reduceSub, Array.replicate_succ, Array.replicate_zero, List.push_toArray, List.append_toArray, List.nil_append, List.cons_append]
  gi_wp2_with (refine ⟨trivial, ?_⟩; gi_at_call 85; refine (callsIn_wide.2 (cW.out _)).mono ?_; rintro e W2 ⟨rfl, hw2⟩; rw [hw2]; clear hw2 W2)
  gi_loopw [7] (fun i wr => ∃ x : Nat, x ≤ 8 ∧ i = .int .i64 (x : Int) ∧ J x wr ∧ Keep M W wr) (fun i _ => (8 - (intOf i).toNat))
  case atStart => exact ⟨0, by omega, rfl, h0, Keep.refl _ _⟩
  case round =>
    obtain ⟨x, hx, rfl, hJs, hK⟩ := hrel
    by_cases hlt : x < 8
    · have e0 := (hK.box haW.out HM.out.1).1
      have e1 := (hK.box hbW.out HM.out.2).1
      have cX : Hid (∀ W : World, Calls Try.prog 86 #[.int .i64 1, .int .i64 (x : Int), .int .i64 c] W fun e w' => e = .returned (.int .i64 ((x : Int) * 9 + c)) ∧ w' = W) := cP.out x hlt
      obtain ⟨fn, tmps, assign, body, hyl, hR⟩ := HY.out x wr hlt hJs
      clear cP cW HY d0
      gi_wp2_with (first | (refine ⟨trivial, ?_⟩; gi_at_call 86; refine (callsIn_wide.2 (cX.out _)).mono ?_; rintro e W2 ⟨rfl, hw2⟩; subst hw2) | (refine hR.mono ?_; rintro e W3 hE; obtain ⟨r, rfl, hE2⟩ := yields hE))
      · rcases hE2.out with ⟨rfl, _⟩ | ⟨_, hJx3⟩
        · rename_i hr; cases hr
        · refine bodyPost_ret (results_none rfl _ _ _) rfl ?_
          exact ⟨⟨_, rfl⟩, .inr ⟨x, hlt, trivial, hJx3.1⟩⟩
      · rcases hE2.out with ⟨_, hJ3, hK3⟩ | ⟨rfl, _⟩
        · refine ⟨⟨x + 1, by omega, by go_num, hJ3, hK.trans hK3⟩, ?_⟩
          simp [intOf]; omega
        · rename_i hr; cases hr
    · obtain rfl : x = 8 := by omega
      gi_wp2
      go_end0
      exact ⟨⟨_, rfl⟩, .inl hJs⟩

set_option maxRecDepth 100000 in
set_option maxHeartbeats 1000000 in
theorem of2_seq2 (c : Int) (hc0 : 0 ≤ c) (hc1 : c < 36) (ab bb : Nat) (w : World) (ha : Box w ab (.int .i64 2)) (hb : Box w bb (.int .i64 c)) :
    SeqC Try.prog 84 #[.pointer (some ⟨ab, 0, none⟩), .pointer (some ⟨bb, 0, none⟩)] (fun x => #[.int .i64 ((x : Int) * 36 + c)]) 2 (fun _ => True) (fun x => x = ab ∨ x = bb) w := by
  intro l M J Jx W hW hM hJ hJx hskip hY h0
  have haW : Hid (Box W ab (.int .i64 2)) := ha.below hW ha.lt
  have hbW : Hid (Box W bb (.int .i64 c)) := hb.below hW hb.lt
  have d0 := haW.out.1
  have HM : Hid (¬ M ab ∧ ¬ M bb) := ⟨fun h => (hM ab h).2 (.inl rfl), fun h => (hM bb h).2 (.inr rfl)⟩
  have cW : Hid (∀ W : World, Calls Try.prog 85 #[.int .i64 2] W fun e w' => e = .returned (.int .i64 2) ∧ w' = W) := countWords_any .chips
  have cP : Hid (∀ (x : Nat), x < 2 → ∀ W : World, Calls Try.prog 86 #[.int .i64 2, .int .i64 (x : Int), .int .i64 c] W fun e w' => e = .returned (.int .i64 ((x : Int) * 36 + c)) ∧ w' = W) := fun x hx W => placeOf9_any .chips x c ⟨by omega, by omega⟩ ⟨by omega, by omega⟩ W
  have HY : Hid (∀ (x : Nat) (W1 : World), x < 2 → J x W1 → YieldAt Fence.wide 8 Try.prog l #[.int .i64 ((x : Int) * 36 + c)] W1 fun e W' => (e = .returned (.bool true) ∧ J (x + 1) W' ∧ Keep M W1 W') ∨ (e = .returned (.bool false) ∧ Jx x W' ∧ Keep M W1 W')) := fun x W1 h1 h2 => hY x W1 h1 trivial h2
  clear hJ hJx hskip hY hM hW ha hb
  refine callsIn_of_wp Try.func84 rfl trivial ?_ rfl
  simp only [Try.ntmps84, List.size_toArray, List.length_cons, List.length_nil, Nat.reduceAdd, Nat.reduceSub, Array.replicate_succ, Array.replicate_zero, List.push_toArray, List.append_toArray, List.nil_append, List.cons_append]
  gi_wp2_with (refine ⟨trivial, ?_⟩; gi_at_call 85; refine (callsIn_wide.2 (cW.out _)).mono ?_; rintro e W2 ⟨rfl, hw2⟩; rw [hw2]; clear hw2 W2)
  gi_loopw [7] (fun i wr => ∃ x : Nat, x ≤ 2 ∧ i = .int .i64 (x : Int) ∧ J x wr ∧ Keep M W wr) (fun i _ => (2 - (intOf i).toNat))
  case atStart => exact ⟨0, by omega, rfl, h0, Keep.refl _ _⟩
  case round =>
    obtain ⟨x, hx, rfl, hJs, hK⟩ := hrel
    by_cases hlt : x < 2
    · have e0 := (hK.box haW.out HM.out.1).1
      have e1 := (hK.box hbW.out HM.out.2).1
      have cX : Hid (∀ W : World, Calls Try.prog 86 #[.int .i64 2, .int .i64 (x : Int), .int .i64 c] W fun e w' => e = .returned (.int .i64 ((x : Int) * 36 + c)) ∧ w' = W) := cP.out x hlt
      obtain ⟨fn, tmps, assign, body, hyl, hR⟩ := HY.out x wr hlt hJs
      clear cP cW HY d0
      gi_wp2_with (first | (refine ⟨trivial, ?_⟩; gi_at_call 86; refine (callsIn_wide.2 (cX.out _)).mono ?_; rintro e W2 ⟨rfl, hw2⟩; subst hw2) | (refine hR.mono ?_; rintro e W3 hE; obtain ⟨r, rfl, hE2⟩ := yields hE))
      · rcases hE2.out with ⟨rfl, _⟩ | ⟨_, hJx3⟩
        · rename_i hr; cases hr
        · refine bodyPost_ret (results_none rfl _ _ _) rfl ?_
          exact ⟨⟨_, rfl⟩, .inr ⟨x, hlt, trivial, hJx3.1⟩⟩
      · rcases hE2.out with ⟨_, hJ3, hK3⟩ | ⟨rfl, _⟩
        · refine ⟨⟨x + 1, by omega, by go_num, hJ3, hK.trans hK3⟩, ?_⟩
          simp [intOf]; omega
        · rename_i hr; cases hr
    · obtain rfl : x = 2 := by omega
      gi_wp2
      go_end0
      exact ⟨⟨_, rfl⟩, .inl hJs⟩
end Go.Proofs.Ytcpjmfemgdgplaa

/-
  The document's example, which every statement of layer 9 holds the program against first.
-/
namespace Go.Proofs.Ytcpjmfemgdgplaa
open Go.RowKit Go.Shelf
attribute [local go_sem] Oper.semAt_some

/-- between two rounds of the example's range -/
structure An (B : Nat) (w : World) (x : Nat) (W : World) : Prop where
  n : Box W (B + 1) (.int .i64 (x : Int))
  r : Box W B (.bool false)
  below : Below B w W
theorem An.stay {B C x : Nat} {w W W' : World} (h : An B w x W) (k : Stay C W W') (hC : B ≤ C) : An B w x W' := ⟨h.n.stay k, h.r.stay k, below_stay h.below k hC⟩
theorem An.step {B x : Nat} {w W : World} (h : An B w x W) : An B w (x + 1) (W.setCell ⟨B + 1, 0, none⟩ (.int .i64 ((x : Int) + 1))) :=
  ⟨h.n.set _, h.r.other (by omega) _, h.below.setCell (p := ⟨B + 1, 0, none⟩) (by simp) _⟩

end Go.Proofs.Ytcpjmfemgdgplaa

/-
  What the statements of layer 9 share: arrays of 72 bytes that lie, are loaded in regions of every kind, and are held against one another.
-/
namespace Go.Proofs.Ytcpjmfemgdgplaa
open Go.RowKit Go.Shelf
attribute [local go_sem] Oper.semAt_some

theorem args_byts (n : Nat) (F : Nat → Int) (h : ∀ i, i < n → (Lit.int .u8 (F i)).wf = true) : Byts n F := fun i hi => by
  have := bounds_u8 (h i hi); omega
theorem gdR : Try.prog.eqGuardType Try.prog.depth 40 = false := by kernel_rfl
theorem infoR : (Try.prog.info? 40).map (·.size) = some 72 := by kernel_rfl
theorem infoA9 : (Try.prog.info? 39).map (·.size) = some 72 := by kernel_rfl
theorem zeroR (w : World) : (zeroValue 40).run Try.prog w = .ok (.agg (ints .u8 72 fun _ => 0).toArray) w := by kernel_rfl
theorem zeroA9 (w : World) : (zeroValue 39).run Try.prog w = .ok (.agg (ints .u8 72 fun _ => 0).toArray) w := by kernel_rfl
theorem eqlR (F G : Nat → Int) (hF : Byts 72 F) (hG : Byts 72 G) (b : Bool) (hb : b = true ↔ ∀ i, i < 72 → F i = G i) (w : World) : (binOp .eql 40 (.agg (ints .u8 72 F).toArray) (.agg (ints .u8 72 G).toArray)).run Try.prog w = .ok (.bool b) w :=
  eql_ints 40 72 Try.underlying40 F G hF hG b hb w
theorem neqR (F G : Nat → Int) (hF : Byts 72 F) (hG : Byts 72 G) (b : Bool) (hb : b = true ↔ ∀ i, i < 72 → F i = G i) (w : World) : (binOp .neq 40 (.agg (ints .u8 72 F).toArray) (.agg (ints .u8 72 G).toArray)).run Try.prog w = .ok (.bool (!b)) w :=
  neq_ints 40 72 Try.underlying40 F G hF hG b hb w
theorem exec_eqlA {P : Program} {o : Oper} {a : Act} (t : TypeId) (x y : Operand) (u : TypeId) (ho : o.op = .binOp .eql t x y u) (A B : Array Value) (v : Value) (hx : a.eval x = .agg A) (hy : a.eval y = .agg B) (hg : P.eqGuardType P.depth t = false)
    (h : ∀ w, (binOp .eql t (.agg A) (.agg B)).run P w = .ok v w) (w : World) : (execOp a.eval o).run P w = .ok (.value v) w := by
  simp [execOp, ho, hx, hy, h, eqGuard, hg]
theorem exec_neqA {P : Program} {o : Oper} {a : Act} (t : TypeId) (x y : Operand) (u : TypeId) (ho : o.op = .binOp .neq t x y u) (A B : Array Value) (v : Value) (hx : a.eval x = .agg A) (hy : a.eval y = .agg B) (hg : P.eqGuardType P.depth t = false)
    (h : ∀ w, (binOp .neq t (.agg A) (.agg B)).run P w = .ok v w) (w : World) : (execOp a.eval o).run P w = .ok (.value v) w := by
  simp [execOp, ho, hx, hy, h, eqGuard, hg]

/-- a load of an array in a region that draws its order and only reads -/
theorem quiet_load {P : Program} {ops : Array Oper} {C : World → Prop} {Q : Act → Prop} {rest : List Oper} {op : Oper} {a : Act} (hw : Region.wanted op (yielded ops a.tmps) = true) (ty : TypeId) (x : Operand) (ho : op.op = .load ty x)
    (b o : Nat) (hx : a.eval x = .pointer (some ⟨b, o, none⟩)) (cs : List Value) (d : TypeDesc) (hc : ∀ w, C w → w.rangeAt b o cs)
    (hu : P.underlying ty = some d) (hd : d.isRow = true) (hi : (P.info? ty).map (·.size) = some cs.length) (h : wpQuiet P ops C Q rest (a.put op.dst (.agg cs.toArray))) : wpQuiet P ops C Q (op :: rest) a :=
  BigFrame.wpQuiet_want hw fun K hK => ⟨_, fun w hw' => by
    unfold Oper.quietAt execOp
    simp only [ho, hx, Instr.loadAt, Instr.sureAddr, Sem.run_bind, Sem.run_pure, Result.andThen_ok, run_loadVar_mid w b o ty cs d (hc w hw') hu hd hi]
    exact ⟨rfl, rfl⟩, hK _ h⟩
/-- what is known of one operation, in such a region -/
theorem quiet_one {P : Program} {ops : Array Oper} {C : World → Prop} {Q : Act → Prop} {rest : List Oper} {op : Oper} {a : Act} (hw : Region.wanted op (yielded ops a.tmps) = true) (v : Value) (hx : ∀ w, (execOp a.eval op).run P w = .ok (.value v) w)
    (h : wpQuiet P ops C Q rest (a.put op.dst v)) : wpQuiet P ops C Q (op :: rest) a :=
  BigFrame.wpQuiet_want hw fun K hK => ⟨v, fun w _ => by unfold Oper.quietAt; rw [hx w]; exact ⟨rfl, rfl⟩, hK _ h⟩
/-- an array lies in a block -/
structure At9 (W : World) (b : Nat) (L : List Value) : Prop where
  r : W.rangeAt b 0 L
  s : b < W.heap.size
section
variable {W W' : World} {b : Nat} {L : List Value}
theorem At9.of (h : At9 W b L) (e : W'.heap[b]? = W.heap[b]?) : At9 W' b L :=
  ⟨fun j v hv => (World.cell?_of_block (w := W) (a := ⟨b, 0 + j, none⟩) e).trans (h.r j v hv), by
    have hs := h.s
    rw [Array.getElem?_eq_getElem hs] at e
    exact (Array.getElem?_eq_some_iff.1 e).1⟩
theorem At9.next (h : At9 W b L) (e : Below W.heap.size W W') : At9 W' b L := h.of (e.block b h.s)
theorem At9.alloc (h : At9 W b L) (o : Obj) : At9 (W.alloc o) b L := h.of (Below.heap_alloc W o b h.s)
theorem Bk.at9 {k : IntKind} {n : Nat} {F : Nat → Int} (h : Bk k W b n F) : At9 W b (ints k n F) := ⟨h.range, h.lt⟩
end
end Go.Proofs.Ytcpjmfemgdgplaa

/-
  The walks of package fault: a fault in memory, what its kind names of a place, and what hangs on its kind alone.
-/
namespace Go.Proofs.Ytcpjmfemgdgplaa
open Go.RowKit Go.Shelf
attribute [local go_sem] Oper.semAt_some

/-- eight numbers -/
def ffn (k p q u v c i x : Int) : Nat → Int
  | 0 => k
  | 1 => p
  | 2 => q
  | 3 => u
  | 4 => v
  | 5 => c
  | 6 => i
  | _ => x
/-- a fault in block b -/
def Ft (W : World) (b : Nat) (k p q u v c i x : Int) : Prop := Bk .i64 W b 8 (ffn k p q u v c i x)
section
variable {W W' : World} {b : Nat} {k p q u v c i x : Int}
theorem Ft.new (W : World) (k p q u v c i x : Int) (t : TypeId) : Ft (W.alloc (.cells #[.int .i64 k, .int .i64 p, .int .i64 q, .int .i64 u, .int .i64 v, .int .i64 c, .int .i64 i, .int .i64 x] t)) W.heap.size k p q u v c i x := Bk.new .i64 W 8 (ffn k p q u v c i x) t
theorem Ft.c0 (h : Ft W b k p q u v c i x) : W.cell? ⟨b, 0, none⟩ = some (.int .i64 k) := Bk.cell h 0 (by omega)
theorem Ft.c1 (h : Ft W b k p q u v c i x) : W.cell? ⟨b, 1, none⟩ = some (.int .i64 p) := Bk.cell h 1 (by omega)
theorem Ft.c2 (h : Ft W b k p q u v c i x) : W.cell? ⟨b, 2, none⟩ = some (.int .i64 q) := Bk.cell h 2 (by omega)
theorem Ft.c3 (h : Ft W b k p q u v c i x) : W.cell? ⟨b, 3, none⟩ = some (.int .i64 u) := Bk.cell h 3 (by omega)
theorem Ft.c4 (h : Ft W b k p q u v c i x) : W.cell? ⟨b, 4, none⟩ = some (.int .i64 v) := Bk.cell h 4 (by omega)
theorem Ft.c5 (h : Ft W b k p q u v c i x) : W.cell? ⟨b, 5, none⟩ = some (.int .i64 c) := Bk.cell h 5 (by omega)
theorem Ft.c6 (h : Ft W b k p q u v c i x) : W.cell? ⟨b, 6, none⟩ = some (.int .i64 i) := Bk.cell h 6 (by omega)
theorem Ft.c7 (h : Ft W b k p q u v c i x) : W.cell? ⟨b, 7, none⟩ = some (.int .i64 x) := Bk.cell h 7 (by omega)
theorem Ft.next (h : Ft W b k p q u v c i x) (e : Below W.heap.size W W') : Ft W' b k p q u v c i x := Bk.next h e
theorem Ft.alloc (h : Ft W b k p q u v c i x) (y : Obj) : Ft (W.alloc y) b k p q u v c i x := Bk.alloc h y
theorem Ft.lt (h : Ft W b k p q u v c i x) : b < W.heap.size := Bk.lt h
theorem Ft.range (h : Ft W b k p q u v c i x) : W.rangeAt b 0 [.int .i64 k, .int .i64 p, .int .i64 q, .int .i64 u, .int .i64 v, .int .i64 c, .int .i64 i, .int .i64 x] := Bk.range h
theorem Ft.place (h : Ft W b k p q u v c i x) : W.rangeAt b 1 [.int .i64 p, .int .i64 q, .int .i64 u, .int .i64 v] := Bk.part h 1 4 (by omega)
theorem Ft.other (h : Ft W b k p q u v c i x) {e : Nat} (he : b ≠ e) (y : Nat) (z : Value) : Ft (W.setCell ⟨e, y, none⟩ z) b k p q u v c i x := Bk.other h he y z
theorem Ft.putOther (h : Ft W b k p q u v c i x) {e : Nat} (he : b ≠ e) (y : Nat) (z : List Value) : Ft (W.setCells e y z) b k p q u v c i x := Bk.putOther h he y z
theorem Pl.range {p q u v : Int} (h : Pl W b p q u v) : W.rangeAt b 0 [.int .i64 p, .int .i64 q, .int .i64 u, .int .i64 v] := Bk.range h
end
theorem infoP : (Try.prog.info? 36).map (·.size) = some 4 := by kernel_rfl
theorem infoF : (Try.prog.info? 38).map (·.size) = some 8 := by kernel_rfl
theorem one8 (k p q u v c i x : Int) : (#[.int .i64 k, .int .i64 p, .int .i64 q, .int .i64 u, .int .i64 v, .int .i64 c, .int .i64 i, .int .i64 x] : Array Value).all (·.oneCell') = true := ints_one .i64 8 (ffn k p q u v c i x)
theorem one4 (p q u v : Int) : (#[.int .i64 p, .int .i64 q, .int .i64 u, .int .i64 v] : Array Value).all (·.oneCell') = true := ints_one .i64 4 (pfn p q u v)
/-- an operation of which it is known what it yields -/
theorem wpList_known {P : Program} {ops : Array Oper} {rest : List Oper} {op : Oper} {a : Act} {w : World} {Q : Exit → Act → World → Prop} (hw : Region.wanted op (yielded ops a.tmps) = true) (v : Value) (hx : (execOp a.eval op).run P w = .ok (.value v) w)
    (h : wpList P ops Q rest (a.put op.dst v) w) : wpList P ops Q (op :: rest) a w := by
  refine wpList_step fun K hK => ?_
  rw [if_pos hw]
  unfold Oper.wp
  rw [hx]
  exact hK _ _ h
theorem exec_cell {P : Program} {op : Oper} {a : Act} {w : World} (x : Operand) (ho : op.op = .load 3 x) (b o : Nat) (hx : a.eval x = .pointer (some ⟨b, o, none⟩)) (v : Value) (hc : w.cell? ⟨b, o, none⟩ = some v) (hp : P = Try.prog) : (execOp a.eval op).run P w = .ok (.value v) w := by
  subst hp
  unfold execOp
  simp only [ho, hx, Instr.loadAt, Instr.sureAddr, Sem.run_bind, Sem.run_pure, Result.andThen_ok]
  simp [go_sem, hc]
/-- what the kind names of a place -/
def nq (k q : Int) : Int := if k = 5 then 0 else q
def nu (k u : Int) : Int := if k = 4 ∨ k = 5 then 0 else u
def nv (k v : Int) : Int := if k = 3 ∨ k = 5 then 0 else v
/-- does a fault last, does it cover one bit -/
def ls (k : Int) : Bool := decide (2 ≤ k ∧ k ≤ 5)
def nw (k : Int) : Bool := decide (k = 1 ∨ k = 2)

set_option maxRecDepth 100000 in
set_option maxHeartbeats 1000000 in
theorem named_row (p q u v c i x : Int) (p' q' u' v' : Int) (w : World) :
    Calls Try.prog 54 #[.agg #[.int .i64 3, .int .i64 p, .int .i64 q, .int .i64 u, .int .i64 v, .int .i64 c, .int .i64 i, .int .i64 x], .agg #[.int .i64 p', .int .i64 q', .int .i64 u', .int .i64 v']] w fun e w' => e = .returned (.agg #[.int .i64 p', .int .i64 q', .int .i64 u', .int .i64 0]) ∧ Below w.heap.size w w' := by
  go_enter Try.func54, Try.ntmps54
  go_upto_region 1 with (fail)
  obtain ⟨V, hV⟩ : ∃ V, ((w.alloc (.cells #[.int .i64 3, .int .i64 p, .int .i64 q, .int .i64 u, .int .i64 v, .int .i64 c, .int .i64 i, .int .i64 x] 38)).alloc (.cells #[.int .i64 p', .int .i64 q', .int .i64 u', .int .i64 v'] 36)).alloc (.cells #[.int .i64 0, .int .i64 0, .int .i64 0, .int .i64 0] 36) = V := ⟨_, rfl⟩
  have HI : Hid (Ft V w.heap.size 3 p q u v c i x ∧ Pl V (w.heap.size + 1) p' q' u' v' ∧ Pl V (w.heap.size + 1 + 1) 0 0 0 0 ∧ Below w.heap.size w V) := by
    rw [← hV]
    have h1 := Pl.new (w.alloc (.cells #[.int .i64 3, .int .i64 p, .int .i64 q, .int .i64 u, .int .i64 v, .int .i64 c, .int .i64 i, .int .i64 x] 38)) p' q' u' v' 36
    have h2 := Pl.new ((w.alloc (.cells #[.int .i64 3, .int .i64 p, .int .i64 q, .int .i64 u, .int .i64 v, .int .i64 c, .int .i64 i, .int .i64 x] 38)).alloc (.cells #[.int .i64 p', .int .i64 q', .int .i64 u', .int .i64 v'] 36)) 0 0 0 0 36
    simp only [World.size_alloc] at h1 h2
    exact ⟨((Ft.new w 3 p q u v c i x _).alloc _).alloc _, h1.alloc _, h2, (((Below.refl _ w).alloc (Nat.le_refl _) _).alloc (by simp) _).alloc (by simp; omega) _⟩
  obtain ⟨B, hB⟩ : ∃ B, w.heap.size = B := ⟨_, rfl⟩
  obtain ⟨C, hC⟩ : ∃ C, B + 1 = C := ⟨_, rfl⟩
  obtain ⟨D, hD⟩ : ∃ D, C + 1 = D := ⟨_, rfl⟩
  rw [hV]
  rw [hB, hC, hD] at HI ⊢
  have lC : B ≤ C := by omega
  have lD : B ≤ D := by omega
  have nC : D ≠ C := by omega
  clear hV hC hD
  have c0 := HI.out.1.c0
  have c1 := HI.out.2.1.c0
  have f3 : V.frozen? ⟨C, 3, none⟩ = false := Bk.free HI.out.2.1 3
  have v3 := HI.out.2.1.c3
  have e1 : Hid (Pl (V.setCell ⟨C, 3, none⟩ (.int .i64 0)) C p' q' u' 0 ∧ Pl (V.setCell ⟨C, 3, none⟩ (.int .i64 0)) D 0 0 0 0 ∧ Below B w (V.setCell ⟨C, 3, none⟩ (.int .i64 0))) :=
    ⟨(Bk.set HI.out.2.1 3 0).congr fun j _ => (by match j with | 0 => rfl | 1 => rfl | 2 => rfl | 3 => rfl | j + 4 => omega), Bk.other HI.out.2.2.1 nC _ _, HI.out.2.2.2.setCell (p := ⟨C, 3, none⟩) lC _⟩
  have hr := e1.out.1.range
  have ht : (V.setCell ⟨C, 3, none⟩ (.int .i64 0)).there D 0 4 := Bk.there e1.out.2.1 .i64 (pfn (p') (q') (u') (0))
  obtain ⟨W2, hW2⟩ : ∃ W2, (V.setCell ⟨C, 3, none⟩ (.int .i64 0)).setCells D 0 [.int .i64 p', .int .i64 q', .int .i64 u', .int .i64 0] = W2 := ⟨_, rfl⟩
  have e2 : Hid (Pl W2 D (p') (q') (u') (0) ∧ Below B w W2) := by rw [← hW2]; exact ⟨Bk.put e1.out.2.1 (pfn (p') (q') (u') (0)), belows_put lD _ 0 e1.out.2.2⟩
  go_wp2_with (first | refine wpList_load_mid rfl 36 _ rfl C 0 rfl [.int .i64 p', .int .i64 q', .int .i64 u', .int .i64 0] _ hr Try.underlying36 rfl infoP ?_ | refine wpList_store_mid rfl 36 _ _ rfl D 0 #[.int .i64 p', .int .i64 q', .int .i64 u', .int .i64 0] rfl rfl ht infoP (one4 (p') (q') (u') (0)) ?_)
  rw [hW2]
  have hs := e2.out.1.range
  have hld := run_loadVar_mid (P := Try.prog) W2 D 0 36 [.int .i64 p', .int .i64 q', .int .i64 u', .int .i64 0] _ hs Try.underlying36 rfl infoP
  refine bodyPost_ret (v := .agg #[.int .i64 p', .int .i64 q', .int .i64 u', .int .i64 0]) ?_ rfl ⟨rfl, by rw [hB]; exact e2.out.2⟩
  simp [results, Try.f54, Act.put, asAddr, hld]
set_option maxRecDepth 100000 in
set_option maxHeartbeats 1000000 in
theorem named_col (p q u v c i x : Int) (p' q' u' v' : Int) (w : World) :
    Calls Try.prog 54 #[.agg #[.int .i64 4, .int .i64 p, .int .i64 q, .int .i64 u, .int .i64 v, .int .i64 c, .int .i64 i, .int .i64 x], .agg #[.int .i64 p', .int .i64 q', .int .i64 u', .int .i64 v']] w fun e w' => e = .returned (.agg #[.int .i64 p', .int .i64 q', .int .i64 0, .int .i64 v']) ∧ Below w.heap.size w w' := by
  go_enter Try.func54, Try.ntmps54
  go_upto_region 1 with (fail)
  obtain ⟨V, hV⟩ : ∃ V, ((w.alloc (.cells #[.int .i64 4, .int .i64 p, .int .i64 q, .int .i64 u, .int .i64 v, .int .i64 c, .int .i64 i, .int .i64 x] 38)).alloc (.cells #[.int .i64 p', .int .i64 q', .int .i64 u', .int .i64 v'] 36)).alloc (.cells #[.int .i64 0, .int .i64 0, .int .i64 0, .int .i64 0] 36) = V := ⟨_, rfl⟩
  have HI : Hid (Ft V w.heap.size 4 p q u v c i x ∧ Pl V (w.heap.size + 1) p' q' u' v' ∧ Pl V (w.heap.size + 1 + 1) 0 0 0 0 ∧ Below w.heap.size w V) := by
    rw [← hV]
    have h1 := Pl.new (w.alloc (.cells #[.int .i64 4, .int .i64 p, .int .i64 q, .int .i64 u, .int .i64 v, .int .i64 c, .int .i64 i, .int .i64 x] 38)) p' q' u' v' 36
    have h2 := Pl.new ((w.alloc (.cells #[.int .i64 4, .int .i64 p, .int .i64 q, .int .i64 u, .int .i64 v, .int .i64 c, .int .i64 i, .int .i64 x] 38)).alloc (.cells #[.int .i64 p', .int .i64 q', .int .i64 u', .int .i64 v'] 36)) 0 0 0 0 36
    simp only [World.size_alloc] at h1 h2
    exact ⟨((Ft.new w 4 p q u v c i x _).alloc _).alloc _, h1.alloc _, h2, (((Below.refl _ w).alloc (Nat.le_refl _) _).alloc (by simp) _).alloc (by simp; omega) _⟩
  obtain ⟨B, hB⟩ : ∃ B, w.heap.size = B := ⟨_, rfl⟩
  obtain ⟨C, hC⟩ : ∃ C, B + 1 = C := ⟨_, rfl⟩
  obtain ⟨D, hD⟩ : ∃ D, C + 1 = D := ⟨_, rfl⟩
  rw [hV]
  rw [hB, hC, hD] at HI ⊢
  have lC : B ≤ C := by omega
  have lD : B ≤ D := by omega
  have nC : D ≠ C := by omega
  clear hV hC hD
  have c0 := HI.out.1.c0
  have c1 := HI.out.2.1.c0
  have f3 : V.frozen? ⟨C, 2, none⟩ = false := Bk.free HI.out.2.1 2
  have v3 := HI.out.2.1.c2
  have e1 : Hid (Pl (V.setCell ⟨C, 2, none⟩ (.int .i64 0)) C p' q' 0 v' ∧ Pl (V.setCell ⟨C, 2, none⟩ (.int .i64 0)) D 0 0 0 0 ∧ Below B w (V.setCell ⟨C, 2, none⟩ (.int .i64 0))) :=
    ⟨(Bk.set HI.out.2.1 2 0).congr fun j _ => (by match j with | 0 => rfl | 1 => rfl | 2 => rfl | 3 => rfl | j + 4 => omega), Bk.other HI.out.2.2.1 nC _ _, HI.out.2.2.2.setCell (p := ⟨C, 2, none⟩) lC _⟩
  have hr := e1.out.1.range
  have ht : (V.setCell ⟨C, 2, none⟩ (.int .i64 0)).there D 0 4 := Bk.there e1.out.2.1 .i64 (pfn (p') (q') (0) (v'))
  obtain ⟨W2, hW2⟩ : ∃ W2, (V.setCell ⟨C, 2, none⟩ (.int .i64 0)).setCells D 0 [.int .i64 p', .int .i64 q', .int .i64 0, .int .i64 v'] = W2 := ⟨_, rfl⟩
  have e2 : Hid (Pl W2 D (p') (q') (0) (v') ∧ Below B w W2) := by rw [← hW2]; exact ⟨Bk.put e1.out.2.1 (pfn (p') (q') (0) (v')), belows_put lD _ 0 e1.out.2.2⟩
  go_wp2_with (first | refine wpList_load_mid rfl 36 _ rfl C 0 rfl [.int .i64 p', .int .i64 q', .int .i64 0, .int .i64 v'] _ hr Try.underlying36 rfl infoP ?_ | refine wpList_store_mid rfl 36 _ _ rfl D 0 #[.int .i64 p', .int .i64 q', .int .i64 0, .int .i64 v'] rfl rfl ht infoP (one4 (p') (q') (0) (v')) ?_)
  rw [hW2]
  have hs := e2.out.1.range
  have hld := run_loadVar_mid (P := Try.prog) W2 D 0 36 [.int .i64 p', .int .i64 q', .int .i64 0, .int .i64 v'] _ hs Try.underlying36 rfl infoP
  refine bodyPost_ret (v := .agg #[.int .i64 p', .int .i64 q', .int .i64 0, .int .i64 v']) ?_ rfl ⟨rfl, by rw [hB]; exact e2.out.2⟩
  simp [results, Try.f54, Act.put, asAddr, hld]
set_option maxRecDepth 100000 in
set_option maxHeartbeats 1000000 in
theorem named_chip (p q u v c i x : Int) (p' q' u' v' : Int) (w : World) :
    Calls Try.prog 54 #[.agg #[.int .i64 5, .int .i64 p, .int .i64 q, .int .i64 u, .int .i64 v, .int .i64 c, .int .i64 i, .int .i64 x], .agg #[.int .i64 p', .int .i64 q', .int .i64 u', .int .i64 v']] w fun e w' => e = .returned (.agg #[.int .i64 p', .int .i64 0, .int .i64 0, .int .i64 0]) ∧ Below w.heap.size w w' := by
  go_enter Try.func54, Try.ntmps54
  go_upto_region 1 with (fail)
  obtain ⟨V, hV⟩ : ∃ V, ((w.alloc (.cells #[.int .i64 5, .int .i64 p, .int .i64 q, .int .i64 u, .int .i64 v, .int .i64 c, .int .i64 i, .int .i64 x] 38)).alloc (.cells #[.int .i64 p', .int .i64 q', .int .i64 u', .int .i64 v'] 36)).alloc (.cells #[.int .i64 0, .int .i64 0, .int .i64 0, .int .i64 0] 36) = V := ⟨_, rfl⟩
  have HI : Hid (Ft V w.heap.size 5 p q u v c i x ∧ Pl V (w.heap.size + 1) p' q' u' v' ∧ Pl V (w.heap.size + 1 + 1) 0 0 0 0 ∧ Below w.heap.size w V) := by
    rw [← hV]
    have h1 := Pl.new (w.alloc (.cells #[.int .i64 5, .int .i64 p, .int .i64 q, .int .i64 u, .int .i64 v, .int .i64 c, .int .i64 i, .int .i64 x] 38)) p' q' u' v' 36
    have h2 := Pl.new ((w.alloc (.cells #[.int .i64 5, .int .i64 p, .int .i64 q, .int .i64 u, .int .i64 v, .int .i64 c, .int .i64 i, .int .i64 x] 38)).alloc (.cells #[.int .i64 p', .int .i64 q', .int .i64 u', .int .i64 v'] 36)) 0 0 0 0 36
    simp only [World.size_alloc] at h1 h2
    exact ⟨((Ft.new w 5 p q u v c i x _).alloc _).alloc _, h1.alloc _, h2, (((Below.refl _ w).alloc (Nat.le_refl _) _).alloc (by simp) _).alloc (by simp; omega) _⟩
  obtain ⟨B, hB⟩ : ∃ B, w.heap.size = B := ⟨_, rfl⟩
  obtain ⟨C, hC⟩ : ∃ C, B + 1 = C := ⟨_, rfl⟩
  obtain ⟨D, hD⟩ : ∃ D, C + 1 = D := ⟨_, rfl⟩
  rw [hV]
  rw [hB, hC, hD] at HI ⊢
  have lC : B ≤ C := by omega
  have lD : B ≤ D := by omega
  have nC : D ≠ C := by omega
  clear hV hC hD
  have c0 := HI.out.1.c0
  have c1 := HI.out.2.1.c0
  have t3 : V.there C 0 4 := Bk.there HI.out.2.1 .i64 (pfn p' 0 0 0)
  have HC1 : Hid (V.cell? ⟨C, 0, none⟩ = some (.int .i64 p')) := c1
  clear c1
  have e1 : Hid (Pl (V.setCells C 0 [.int .i64 p', .int .i64 0, .int .i64 0, .int .i64 0]) C p' 0 0 0 ∧ Pl (V.setCells C 0 [.int .i64 p', .int .i64 0, .int .i64 0, .int .i64 0]) D 0 0 0 0 ∧ Below B w (V.setCells C 0 [.int .i64 p', .int .i64 0, .int .i64 0, .int .i64 0])) := ⟨Bk.put HI.out.2.1 (pfn p' 0 0 0), Bk.putOther HI.out.2.2.1 nC _ _, belows_put lC _ 0 HI.out.2.2.2⟩
  have hr := e1.out.1.range
  have ht : (V.setCells C 0 [.int .i64 p', .int .i64 0, .int .i64 0, .int .i64 0]).there D 0 4 := Bk.there e1.out.2.1 .i64 (pfn (p') (0) (0) (0))
  obtain ⟨W2, hW2⟩ : ∃ W2, (V.setCells C 0 [.int .i64 p', .int .i64 0, .int .i64 0, .int .i64 0]).setCells D 0 [.int .i64 p', .int .i64 0, .int .i64 0, .int .i64 0] = W2 := ⟨_, rfl⟩
  have e2 : Hid (Pl W2 D (p') (0) (0) (0) ∧ Below B w W2) := by rw [← hW2]; exact ⟨Bk.put e1.out.2.1 (pfn (p') (0) (0) (0)), belows_put lD _ 0 e1.out.2.2⟩
  go_upto_region 7 with (fail)
  go_step
  refine wpList_known rfl (.pointer (some ⟨C, 0, none⟩)) ?a1 ?_
  case a1 => simp [execOp, go_sem]
  simp only [Act.put, List.setIfInBounds_toArray, List.set_cons_zero, List.set_cons_succ]
  refine wpList_known rfl (.int .i64 p') (exec_cell _ rfl C 0 rfl _ HC1.out rfl) ?_
  simp only [Act.put, List.setIfInBounds_toArray, List.set_cons_zero, List.set_cons_succ]
  refine wpList_known rfl (.agg #[.int .i64 p', .int .i64 0, .int .i64 0, .int .i64 0]) ?a2 ?_
  case a2 => simp [execOp, go_sem]
  simp only [Act.put, List.setIfInBounds_toArray, List.set_cons_zero, List.set_cons_succ]
  refine wpList_store_mid rfl 36 _ _ rfl C 0 #[.int .i64 p', .int .i64 0, .int .i64 0, .int .i64 0] rfl rfl t3 infoP (one4 p' 0 0 0) ?_
  simp only [Act.put]
  go_wp2_with (first | refine wpList_load_mid rfl 36 _ rfl C 0 rfl [.int .i64 p', .int .i64 0, .int .i64 0, .int .i64 0] _ hr Try.underlying36 rfl infoP ?_ | refine wpList_store_mid rfl 36 _ _ rfl D 0 #[.int .i64 p', .int .i64 0, .int .i64 0, .int .i64 0] rfl rfl ht infoP (one4 (p') (0) (0) (0)) ?_)
  rw [hW2]
  have hs := e2.out.1.range
  have hld := run_loadVar_mid (P := Try.prog) W2 D 0 36 [.int .i64 p', .int .i64 0, .int .i64 0, .int .i64 0] _ hs Try.underlying36 rfl infoP
  refine bodyPost_ret (v := .agg #[.int .i64 p', .int .i64 0, .int .i64 0, .int .i64 0]) ?_ rfl ⟨rfl, by rw [hB]; exact e2.out.2⟩
  simp [results, Try.f54, Act.put, asAddr, hld]
set_option maxRecDepth 100000 in
set_option maxHeartbeats 1000000 in
theorem named_rest (k p q u v c i x : Int) (h3 : (k == 3) = false) (h4 : (k == 4) = false) (h5 : (k == 5) = false) (p' q' u' v' : Int) (w : World) :
    Calls Try.prog 54 #[.agg #[.int .i64 k, .int .i64 p, .int .i64 q, .int .i64 u, .int .i64 v, .int .i64 c, .int .i64 i, .int .i64 x], .agg #[.int .i64 p', .int .i64 q', .int .i64 u', .int .i64 v']] w fun e w' => e = .returned (.agg #[.int .i64 p', .int .i64 q', .int .i64 u', .int .i64 v']) ∧ Below w.heap.size w w' := by
  go_enter Try.func54, Try.ntmps54
  go_upto_region 1 with (fail)
  obtain ⟨V, hV⟩ : ∃ V, ((w.alloc (.cells #[.int .i64 k, .int .i64 p, .int .i64 q, .int .i64 u, .int .i64 v, .int .i64 c, .int .i64 i, .int .i64 x] 38)).alloc (.cells #[.int .i64 p', .int .i64 q', .int .i64 u', .int .i64 v'] 36)).alloc (.cells #[.int .i64 0, .int .i64 0, .int .i64 0, .int .i64 0] 36) = V := ⟨_, rfl⟩
  have HI : Hid (Ft V w.heap.size k p q u v c i x ∧ Pl V (w.heap.size + 1) p' q' u' v' ∧ Pl V (w.heap.size + 1 + 1) 0 0 0 0 ∧ Below w.heap.size w V) := by
    rw [← hV]
    have h1 := Pl.new (w.alloc (.cells #[.int .i64 k, .int .i64 p, .int .i64 q, .int .i64 u, .int .i64 v, .int .i64 c, .int .i64 i, .int .i64 x] 38)) p' q' u' v' 36
    have h2 := Pl.new ((w.alloc (.cells #[.int .i64 k, .int .i64 p, .int .i64 q, .int .i64 u, .int .i64 v, .int .i64 c, .int .i64 i, .int .i64 x] 38)).alloc (.cells #[.int .i64 p', .int .i64 q', .int .i64 u', .int .i64 v'] 36)) 0 0 0 0 36
    simp only [World.size_alloc] at h1 h2
    exact ⟨((Ft.new w k p q u v c i x _).alloc _).alloc _, h1.alloc _, h2, (((Below.refl _ w).alloc (Nat.le_refl _) _).alloc (by simp) _).alloc (by simp; omega) _⟩
  obtain ⟨B, hB⟩ : ∃ B, w.heap.size = B := ⟨_, rfl⟩
  obtain ⟨C, hC⟩ : ∃ C, B + 1 = C := ⟨_, rfl⟩
  obtain ⟨D, hD⟩ : ∃ D, C + 1 = D := ⟨_, rfl⟩
  rw [hV]
  rw [hB, hC, hD] at HI ⊢
  have lC : B ≤ C := by omega
  have lD : B ≤ D := by omega
  have nC : D ≠ C := by omega
  clear hV hC hD
  have c0 := HI.out.1.c0
  have c1 := HI.out.2.1.c0
  have e1 : Hid (Pl V C p' q' u' v' ∧ Pl V D 0 0 0 0 ∧ Below B w V) := HI.out.2
  have hr := e1.out.1.range
  have ht : (V).there D 0 4 := Bk.there e1.out.2.1 .i64 (pfn (p') (q') (u') (v'))
  obtain ⟨W2, hW2⟩ : ∃ W2, (V).setCells D 0 [.int .i64 p', .int .i64 q', .int .i64 u', .int .i64 v'] = W2 := ⟨_, rfl⟩
  have e2 : Hid (Pl W2 D (p') (q') (u') (v') ∧ Below B w W2) := by rw [← hW2]; exact ⟨Bk.put e1.out.2.1 (pfn (p') (q') (u') (v')), belows_put lD _ 0 e1.out.2.2⟩
  go_wp2_with (first | refine wpList_load_mid rfl 36 _ rfl C 0 rfl [.int .i64 p', .int .i64 q', .int .i64 u', .int .i64 v'] _ hr Try.underlying36 rfl infoP ?_ | refine wpList_store_mid rfl 36 _ _ rfl D 0 #[.int .i64 p', .int .i64 q', .int .i64 u', .int .i64 v'] rfl rfl ht infoP (one4 (p') (q') (u') (v')) ?_)
  rw [hW2]
  have hs := e2.out.1.range
  have hld := run_loadVar_mid (P := Try.prog) W2 D 0 36 [.int .i64 p', .int .i64 q', .int .i64 u', .int .i64 v'] _ hs Try.underlying36 rfl infoP
  refine bodyPost_ret (v := .agg #[.int .i64 p', .int .i64 q', .int .i64 u', .int .i64 v']) ?_ rfl ⟨rfl, by rw [hB]; exact e2.out.2⟩
  simp [results, Try.f54, Act.put, asAddr, hld]
theorem named_any (k p q u v c i x : Int) (p' q' u' v' : Int) (w : World) :
    Calls Try.prog 54 #[.agg #[.int .i64 k, .int .i64 p, .int .i64 q, .int .i64 u, .int .i64 v, .int .i64 c, .int .i64 i, .int .i64 x], .agg #[.int .i64 p', .int .i64 q', .int .i64 u', .int .i64 v']] w fun e w' => e = .returned (.agg #[.int .i64 p', .int .i64 (nq k q'), .int .i64 (nu k u'), .int .i64 (nv k v')]) ∧ Below w.heap.size w w' := by
  by_cases h3 : k = 3
  · subst h3; exact named_row p q u v c i x p' q' u' v' w
  by_cases h4 : k = 4
  · subst h4; exact named_col p q u v c i x p' q' u' v' w
  by_cases h5 : k = 5
  · subst h5; exact named_chip p q u v c i x p' q' u' v' w
  have := named_rest k p q u v c i x (by simpa using h3) (by simpa using h4) (by simpa using h5) p' q' u' v' w
  unfold nq nu nv
  rw [if_neg h5, if_neg (by omega), if_neg (by omega)]
  exact this
set_option maxRecDepth 100000 in
set_option maxHeartbeats 1000000 in
theorem values_any (k p q u v c i x : Int) (w : World) :
    Calls Try.prog 60 #[.agg #[.int .i64 k, .int .i64 p, .int .i64 q, .int .i64 u, .int .i64 v, .int .i64 c, .int .i64 i, .int .i64 x]] w fun e w' => e = .returned (.int .i64 (if k = 2 then 2 else 256)) ∧ Below w.heap.size w w' := by
  obtain ⟨z, Z⟩ : ∃ z : Int, (if k = 2 then 2 else 256) = z := ⟨_, rfl⟩
  rw [Z]
  go_enter Try.func60, Try.ntmps60
  go_upto_region 1 with (fail)
  have HF := Ft.new w k p q u v c i x 38
  have HB : Hid (Below w.heap.size w (w.alloc (.cells #[.int .i64 k, .int .i64 p, .int .i64 q, .int .i64 u, .int .i64 v, .int .i64 c, .int .i64 i, .int .i64 x] 38))) := (Below.refl _ w).alloc (Nat.le_refl _) _
  obtain ⟨V, hV⟩ : ∃ V, w.alloc (.cells #[.int .i64 k, .int .i64 p, .int .i64 q, .int .i64 u, .int .i64 v, .int .i64 c, .int .i64 i, .int .i64 x] 38) = V := ⟨_, rfl⟩
  rw [hV] at HF HB ⊢
  clear hV
  have c0 := HF.c0
  have c1 := HF.c1; have c2 := HF.c2; have c3 := HF.c3; have c4 := HF.c4; have c5 := HF.c5; have c6 := HF.c6; have c7 := HF.c7
  by_cases h : k = 2
  · skip
    have d : (k == 2) = true := by simpa using h
    obtain rfl : z = 2 := by rw [← Z]; rw [if_pos h]
    go_wp2
    go_ret
    exact ⟨rfl, HB.out⟩
  · skip
    have d : (k == 2) = false := by simpa using h
    obtain rfl : z = 256 := by rw [← Z]; rw [if_neg h]
    go_wp2
    go_ret
    exact ⟨rfl, HB.out⟩

set_option maxRecDepth 100000 in
set_option maxHeartbeats 1000000 in
theorem lasts_any (k p q u v c i x : Int) (w : World) :
    Calls Try.prog 27 #[.agg #[.int .i64 k, .int .i64 p, .int .i64 q, .int .i64 u, .int .i64 v, .int .i64 c, .int .i64 i, .int .i64 x]] w fun e w' => e = .returned (.bool (ls k)) ∧ Below w.heap.size w w' := by
  obtain ⟨z, Z⟩ : ∃ z : Bool, ls k = z := ⟨_, rfl⟩
  rw [Z]
  go_enter Try.func27, Try.ntmps27
  go_upto_region 1 with (fail)
  have HF := Ft.new w k p q u v c i x 38
  have HB : Hid (Below w.heap.size w (w.alloc (.cells #[.int .i64 k, .int .i64 p, .int .i64 q, .int .i64 u, .int .i64 v, .int .i64 c, .int .i64 i, .int .i64 x] 38))) := (Below.refl _ w).alloc (Nat.le_refl _) _
  obtain ⟨V, hV⟩ : ∃ V, w.alloc (.cells #[.int .i64 k, .int .i64 p, .int .i64 q, .int .i64 u, .int .i64 v, .int .i64 c, .int .i64 i, .int .i64 x] 38) = V := ⟨_, rfl⟩
  rw [hV] at HF HB ⊢
  clear hV
  have c0 := HF.c0
  have c1 := HF.c1; have c2 := HF.c2; have c3 := HF.c3; have c4 := HF.c4; have c5 := HF.c5; have c6 := HF.c6; have c7 := HF.c7
  by_cases h : 2 ≤ k
  · by_cases h2 : k ≤ 5
    · skip
      have d : decide (2 ≤ k) = true := decide_eq_true h
      have d2 : decide (k ≤ 5) = true := decide_eq_true h2
      obtain rfl : z = true := by rw [← Z]; exact decide_eq_true ⟨h, h2⟩
      go_wp2
      go_ret
      exact ⟨rfl, HB.out⟩
    · skip
      have d : decide (2 ≤ k) = true := decide_eq_true h
      have d2 : decide (k ≤ 5) = false := decide_eq_false h2
      obtain rfl : z = false := by rw [← Z]; exact decide_eq_false fun y => h2 y.2
      go_wp2
      go_ret
      exact ⟨rfl, HB.out⟩
  · skip
    have d : decide (2 ≤ k) = false := decide_eq_false h
    obtain rfl : z = false := by rw [← Z]; exact decide_eq_false fun y => h y.1
    go_wp2
    go_ret
    exact ⟨rfl, HB.out⟩

set_option maxRecDepth 100000 in
set_option maxHeartbeats 1000000 in
theorem narrow_any (k p q u v c i x : Int) (w : World) :
    Calls Try.prog 28 #[.agg #[.int .i64 k, .int .i64 p, .int .i64 q, .int .i64 u, .int .i64 v, .int .i64 c, .int .i64 i, .int .i64 x]] w fun e w' => e = .returned (.bool (nw k)) ∧ Below w.heap.size w w' := by
  obtain ⟨z, Z⟩ : ∃ z : Bool, nw k = z := ⟨_, rfl⟩
  rw [Z]
  go_enter Try.func28, Try.ntmps28
  go_upto_region 1 with (fail)
  have HF := Ft.new w k p q u v c i x 38
  have HB : Hid (Below w.heap.size w (w.alloc (.cells #[.int .i64 k, .int .i64 p, .int .i64 q, .int .i64 u, .int .i64 v, .int .i64 c, .int .i64 i, .int .i64 x] 38))) := (Below.refl _ w).alloc (Nat.le_refl _) _
  obtain ⟨V, hV⟩ : ∃ V, w.alloc (.cells #[.int .i64 k, .int .i64 p, .int .i64 q, .int .i64 u, .int .i64 v, .int .i64 c, .int .i64 i, .int .i64 x] 38) = V := ⟨_, rfl⟩
  rw [hV] at HF HB ⊢
  clear hV
  have c0 := HF.c0
  have c1 := HF.c1; have c2 := HF.c2; have c3 := HF.c3; have c4 := HF.c4; have c5 := HF.c5; have c6 := HF.c6; have c7 := HF.c7
  by_cases h : k = 1
  · skip
    have d : (k == 1) = true := by simpa using h
    obtain rfl : z = true := by rw [← Z]; exact decide_eq_true (.inl h)
    go_wp2
    go_ret
    exact ⟨rfl, HB.out⟩
  by_cases h2 : k = 2
  · skip
    have d : (k == 1) = false := by simpa using h
    have d2 : (k == 2) = true := by simpa using h2
    obtain rfl : z = true := by rw [← Z]; exact decide_eq_true (.inr h2)
    go_wp2
    go_ret
    exact ⟨rfl, HB.out⟩
  · skip
    have d : (k == 1) = false := by simpa using h
    have d2 : (k == 2) = false := by simpa using h2
    obtain rfl : z = false := by rw [← Z]; exact decide_eq_false (by omega)
    go_wp2
    go_ret
    exact ⟨rfl, HB.out⟩

theorem isKind_any (k : Int) (w : World) :
    Calls Try.prog 58 #[.int .i64 k] w fun e w' => e = .returned (.bool (decide (1 ≤ k ∧ k ≤ 7))) ∧ w' = w := by
  obtain ⟨z, Z⟩ : ∃ z : Bool, (decide (1 ≤ k ∧ k ≤ 7)) = z := ⟨_, rfl⟩
  rw [Z]
  go_enter Try.func58, Try.ntmps58
  by_cases h : 1 ≤ k
  · by_cases h2 : k ≤ 7
    · have d : decide (1 ≤ k) = true := decide_eq_true h
      have d2 : decide (k ≤ 7) = true := decide_eq_true h2
      obtain rfl : z = true := by rw [← Z]; exact decide_eq_true ⟨h, h2⟩
      go_wp2
      go_ret
      exact ⟨rfl, rfl⟩
    · have d : decide (1 ≤ k) = true := decide_eq_true h
      have d2 : decide (k ≤ 7) = false := decide_eq_false h2
      obtain rfl : z = false := by rw [← Z]; exact decide_eq_false fun y => h2 y.2
      go_wp2
      go_ret
      exact ⟨rfl, rfl⟩
  · have d : decide (1 ≤ k) = false := decide_eq_false h
    obtain rfl : z = false := by rw [← Z]; exact decide_eq_false fun y => h y.1
    go_wp2
    go_ret
    exact ⟨rfl, rfl⟩
theorem fbelow_any (n m : Int) (w : World) :
    Calls Try.prog 56 #[.int .i64 n, .int .i64 m] w fun e w' => e = .returned (.bool (decide (0 ≤ n ∧ n < m))) ∧ w' = w := by
  obtain ⟨z, Z⟩ : ∃ z : Bool, (decide (0 ≤ n ∧ n < m)) = z := ⟨_, rfl⟩
  rw [Z]
  go_enter Try.func56, Try.ntmps56
  by_cases h : 0 ≤ n
  · by_cases h2 : n < m
    · have d : decide (0 ≤ n) = true := decide_eq_true h
      have d2 : decide (n < m) = true := decide_eq_true h2
      obtain rfl : z = true := by rw [← Z]; exact decide_eq_true ⟨h, h2⟩
      go_wp2
      go_ret
      exact ⟨rfl, rfl⟩
    · have d : decide (0 ≤ n) = true := decide_eq_true h
      have d2 : decide (n < m) = false := decide_eq_false h2
      obtain rfl : z = false := by rw [← Z]; exact decide_eq_false fun y => h2 y.2
      go_wp2
      go_ret
      exact ⟨rfl, rfl⟩
  · have d : decide (0 ≤ n) = false := decide_eq_false h
    obtain rfl : z = false := by rw [← Z]; exact decide_eq_false fun y => h y.1
    go_wp2
    go_ret
    exact ⟨rfl, rfl⟩
end Go.Proofs.Ytcpjmfemgdgplaa

/-
  The walks of package fault: faults and places held against one another.
-/
namespace Go.Proofs.Ytcpjmfemgdgplaa
open Go.RowKit Go.Shelf
attribute [local go_sem] Oper.semAt_some

theorem eqP_in (d : Nat) (p q u v p' q' u' v' : Int) (w : World) : (Op.equalIn (d + 1 + 1) 36 (.agg #[.int .i64 p, .int .i64 q, .int .i64 u, .int .i64 v]) (.agg #[.int .i64 p', .int .i64 q', .int .i64 u', .int .i64 v'])).run Try.prog w = .ok (decide (p = p' ∧ q = q' ∧ u = u' ∧ v = v')) w := by
  have hS : Try.prog.underlying 36 = some (.struct (Try.prog.fieldsOf 36)) := by kernel_rfl
  have hp : Try.prog.stoodInHeld 36 = false := by kernel_rfl
  rw [run_equalIn_agg w (d + 1) 36 _ _ hS hp]
  simp only [Program.fieldsOf, Try.underlying36]
  go_simp
  by_cases h1 : p = p' <;> by_cases h2 : q = q' <;> by_cases h3 : u = u' <;> by_cases h4 : v = v' <;> simp [h1, h2, h3, h4]
theorem eqP_gd : Try.prog.eqGuardType Try.prog.depth 36 = false := by kernel_rfl
theorem eqP_eql (p q u v p' q' u' v' : Int) (w : World) : (binOp .eql 36 (.agg #[.int .i64 p, .int .i64 q, .int .i64 u, .int .i64 v]) (.agg #[.int .i64 p', .int .i64 q', .int .i64 u', .int .i64 v'])).run Try.prog w = .ok (.bool (decide (p = p' ∧ q = q' ∧ u = u' ∧ v = v'))) w := by
  rw [run_eql_struct, eqP_in 9998]; rfl
theorem eqQ_in (d : Nat) (p q u v p' q' u' v' : Int) (w : World) : (Op.equalIn (d + 1 + 1) 49 (.agg #[.int .i64 p, .int .i64 q, .int .i64 u, .int .i64 v]) (.agg #[.int .i64 p', .int .i64 q', .int .i64 u', .int .i64 v'])).run Try.prog w = .ok (decide (p = p' ∧ q = q' ∧ u = u' ∧ v = v')) w := by
  have hS : Try.prog.underlying 49 = some (.struct (Try.prog.fieldsOf 49)) := by kernel_rfl
  have hp : Try.prog.stoodInHeld 49 = false := by kernel_rfl
  rw [run_equalIn_agg w (d + 1) 49 _ _ hS hp]
  simp only [Program.fieldsOf, Try.underlying49]
  go_simp
  by_cases h1 : p = p' <;> by_cases h2 : q = q' <;> by_cases h3 : u = u' <;> by_cases h4 : v = v' <;> simp [h1, h2, h3, h4]
theorem eqQ_gd : Try.prog.eqGuardType Try.prog.depth 49 = false := by kernel_rfl
theorem eqQ_eql (p q u v p' q' u' v' : Int) (w : World) : (binOp .eql 49 (.agg #[.int .i64 p, .int .i64 q, .int .i64 u, .int .i64 v]) (.agg #[.int .i64 p', .int .i64 q', .int .i64 u', .int .i64 v'])).run Try.prog w = .ok (.bool (decide (p = p' ∧ q = q' ∧ u = u' ∧ v = v'))) w := by
  rw [run_eql_struct, eqQ_in 9998]; rfl
theorem eqF_in (d : Nat) (k p q u v c i x k' p' q' u' v' c' i' x' : Int) (w : World) : (Op.equalIn (d + 1 + 1 + 1) 38 (.agg #[.int .i64 k, .int .i64 p, .int .i64 q, .int .i64 u, .int .i64 v, .int .i64 c, .int .i64 i, .int .i64 x]) (.agg #[.int .i64 k', .int .i64 p', .int .i64 q', .int .i64 u', .int .i64 v', .int .i64 c', .int .i64 i', .int .i64 x'])).run Try.prog w = .ok (decide (k = k' ∧ p = p' ∧ q = q' ∧ u = u' ∧ v = v' ∧ c = c' ∧ i = i' ∧ x = x')) w := by
  have hS : Try.prog.underlying 38 = some (.struct (Try.prog.fieldsOf 38)) := by kernel_rfl
  have hp : Try.prog.stoodInHeld 38 = false := by kernel_rfl
  have hP := eqP_in d p q u v p' q' u' v'
  rw [run_equalIn_agg w (d + 1 + 1) 38 _ _ hS hp]
  simp only [Program.fieldsOf, Try.underlying38]
  go_simp
  by_cases h1 : k = k'
  case neg => simp [h1]
  by_cases h2 : p = p'
  case neg => simp [h1, h2]
  by_cases h3 : q = q'
  case neg => simp [h1, h2, h3]
  by_cases h4 : u = u'
  case neg => simp [h1, h2, h3, h4]
  by_cases h5 : v = v'
  case neg => simp [h1, h2, h3, h4, h5]
  by_cases h6 : c = c'
  case neg => simp [h1, h2, h3, h4, h5, h6]
  by_cases h7 : i = i'
  case neg => simp [h1, h2, h3, h4, h5, h6, h7]
  by_cases h8 : x = x' <;> simp [h1, h2, h3, h4, h5, h6, h7, h8]
theorem eqF_gd : Try.prog.eqGuardType Try.prog.depth 38 = false := by kernel_rfl
theorem eqF_eql (k p q u v c i x k' p' q' u' v' c' i' x' : Int) (w : World) : (binOp .eql 38 (.agg #[.int .i64 k, .int .i64 p, .int .i64 q, .int .i64 u, .int .i64 v, .int .i64 c, .int .i64 i, .int .i64 x]) (.agg #[.int .i64 k', .int .i64 p', .int .i64 q', .int .i64 u', .int .i64 v', .int .i64 c', .int .i64 i', .int .i64 x'])).run Try.prog w = .ok (.bool (decide (k = k' ∧ p = p' ∧ q = q' ∧ u = u' ∧ v = v' ∧ c = c' ∧ i = i' ∧ x = x'))) w := by
  rw [run_eql_struct, eqF_in 9997]; rfl
theorem eqF_neq (k p q u v c i x k' p' q' u' v' c' i' x' : Int) (w : World) : (binOp .neq 38 (.agg #[.int .i64 k, .int .i64 p, .int .i64 q, .int .i64 u, .int .i64 v, .int .i64 c, .int .i64 i, .int .i64 x]) (.agg #[.int .i64 k', .int .i64 p', .int .i64 q', .int .i64 u', .int .i64 v', .int .i64 c', .int .i64 i', .int .i64 x'])).run Try.prog w = .ok (.bool (!decide (k = k' ∧ p = p' ∧ q = q' ∧ u = u' ∧ v = v' ∧ c = c' ∧ i = i' ∧ x = x'))) w := by
  rw [run_neq_struct, eqF_in 9997]; rfl
end Go.Proofs.Ytcpjmfemgdgplaa
