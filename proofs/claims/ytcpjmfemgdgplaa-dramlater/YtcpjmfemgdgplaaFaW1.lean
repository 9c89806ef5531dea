/-
  The walks of package fault: a fault in memory, what its kind names of a place, and what hangs on its kind alone.
-/
import Derived.Test.YtcpjmfemgdgplaaGeW4
import Derived.Test.YtcpjmfemgdgplaaRwW7
namespace Go.Proofs.Ytcpjmfemgdgplaa
open Go.RowKit Go.Shelf
attribute [local go_sem] Oper.semAt_some

/-- eight numbers -/
def ffn (k p q u v c i x : Int) : Nat → Int
  | 0 => k
  | 1 => p
  | 2 => q
  | 3 => u
  | 4 => v
  | 5 => c
  | 6 => i
  | _ => x
/-- a fault in block b -/
def Ft (W : World) (b : Nat) (k p q u v c i x : Int) : Prop := Bk .i64 W b 8 (ffn k p q u v c i x)
section
variable {W W' : World} {b : Nat} {k p q u v c i x : Int}
theorem Ft.new (W : World) (k p q u v c i x : Int) (t : TypeId) : Ft (W.alloc (.cells #[.int .i64 k, .int .i64 p, .int .i64 q, .int .i64 u, .int .i64 v, .int .i64 c, .int .i64 i, .int .i64 x] t)) W.heap.size k p q u v c i x := Bk.new .i64 W 8 (ffn k p q u v c i x) t
theorem Ft.c0 (h : Ft W b k p q u v c i x) : W.cell? ⟨b, 0, none⟩ = some (.int .i64 k) := Bk.cell h 0 (by omega)
theorem Ft.c1 (h : Ft W b k p q u v c i x) : W.cell? ⟨b, 1, none⟩ = some (.int .i64 p) := Bk.cell h 1 (by omega)
theorem Ft.c2 (h : Ft W b k p q u v c i x) : W.cell? ⟨b, 2, none⟩ = some (.int .i64 q) := Bk.cell h 2 (by omega)
theorem Ft.c3 (h : Ft W b k p q u v c i x) : W.cell? ⟨b, 3, none⟩ = some (.int .i64 u) := Bk.cell h 3 (by omega)
theorem Ft.c4 (h : Ft W b k p q u v c i x) : W.cell? ⟨b, 4, none⟩ = some (.int .i64 v) := Bk.cell h 4 (by omega)
theorem Ft.c5 (h : Ft W b k p q u v c i x) : W.cell? ⟨b, 5, none⟩ = some (.int .i64 c) := Bk.cell h 5 (by omega)
theorem Ft.c6 (h : Ft W b k p q u v c i x) : W.cell? ⟨b, 6, none⟩ = some (.int .i64 i) := Bk.cell h 6 (by omega)
theorem Ft.c7 (h : Ft W b k p q u v c i x) : W.cell? ⟨b, 7, none⟩ = some (.int .i64 x) := Bk.cell h 7 (by omega)
theorem Ft.next (h : Ft W b k p q u v c i x) (e : Below W.heap.size W W') : Ft W' b k p q u v c i x := Bk.next h e
theorem Ft.alloc (h : Ft W b k p q u v c i x) (y : Obj) : Ft (W.alloc y) b k p q u v c i x := Bk.alloc h y
theorem Ft.lt (h : Ft W b k p q u v c i x) : b < W.heap.size := Bk.lt h
theorem Ft.range (h : Ft W b k p q u v c i x) : W.rangeAt b 0 [.int .i64 k, .int .i64 p, .int .i64 q, .int .i64 u, .int .i64 v, .int .i64 c, .int .i64 i, .int .i64 x] := Bk.range h
theorem Ft.place (h : Ft W b k p q u v c i x) : W.rangeAt b 1 [.int .i64 p, .int .i64 q, .int .i64 u, .int .i64 v] := Bk.part h 1 4 (by omega)
theorem Ft.other (h : Ft W b k p q u v c i x) {e : Nat} (he : b ≠ e) (y : Nat) (z : Value) : Ft (W.setCell ⟨e, y, none⟩ z) b k p q u v c i x := Bk.other h he y z
theorem Ft.putOther (h : Ft W b k p q u v c i x) {e : Nat} (he : b ≠ e) (y : Nat) (z : List Value) : Ft (W.setCells e y z) b k p q u v c i x := Bk.putOther h he y z
theorem Pl.range {p q u v : Int} (h : Pl W b p q u v) : W.rangeAt b 0 [.int .i64 p, .int .i64 q, .int .i64 u, .int .i64 v] := Bk.range h
end
theorem infoP : (Try.prog.info? 36).map (·.size) = some 4 := by kernel_rfl
theorem infoF : (Try.prog.info? 38).map (·.size) = some 8 := by kernel_rfl
theorem one8 (k p q u v c i x : Int) : (#[.int .i64 k, .int .i64 p, .int .i64 q, .int .i64 u, .int .i64 v, .int .i64 c, .int .i64 i, .int .i64 x] : Array Value).all (·.oneCell') = true := ints_one .i64 8 (ffn k p q u v c i x)
theorem one4 (p q u v : Int) : (#[.int .i64 p, .int .i64 q, .int .i64 u, .int .i64 v] : Array Value).all (·.oneCell') = true := ints_one .i64 4 (pfn p q u v)
/-- an operation of which it is known what it yields -/
theorem wpList_known {P : Program} {ops : Array Oper} {rest : List Oper} {op : Oper} {a : Act} {w : World} {Q : Exit → Act → World → Prop} (hw : Region.wanted op (yielded ops a.tmps) = true) (v : Value) (hx : (execOp a.eval op).run P w = .ok (.value v) w)
    (h : wpList P ops Q rest (a.put op.dst v) w) : wpList P ops Q (op :: rest) a w := by
  refine wpList_step fun K hK => ?_
  rw [if_pos hw]
  unfold Oper.wp
  rw [hx]
  exact hK _ _ h
theorem exec_cell {P : Program} {op : Oper} {a : Act} {w : World} (x : Operand) (ho : op.op = .load 3 x) (b o : Nat) (hx : a.eval x = .pointer (some ⟨b, o, none⟩)) (v : Value) (hc : w.cell? ⟨b, o, none⟩ = some v) (hp : P = Try.prog) : (execOp a.eval op).run P w = .ok (.value v) w := by
  subst hp
  unfold execOp
  simp only [ho, hx, Instr.loadAt, Instr.sureAddr, Sem.run_bind, Sem.run_pure, Result.andThen_ok]
  simp [go_sem, hc]
/-- what the kind names of a place -/
def nq (k q : Int) : Int := if k = 5 then 0 else q
def nu (k u : Int) : Int := if k = 4 ∨ k = 5 then 0 else u
def nv (k v : Int) : Int := if k = 3 ∨ k = 5 then 0 else v
/-- does a fault last, does it cover one bit -/
def ls (k : Int) : Bool := decide (2 ≤ k ∧ k ≤ 5)
def nw (k : Int) : Bool := decide (k = 1 ∨ k = 2)

set_option maxRecDepth 100000 in
set_option maxHeartbeats 1000000 in
theorem named_row (p q u v c i x : Int) (p' q' u' v' : Int) (w : World) :
    Calls Try.prog 54 #[.agg #[.int .i64 3, .int .i64 p, .int .i64 q, .int .i64 u, .int .i64 v, .int .i64 c, .int .i64 i, .int .i64 x], .agg #[.int .i64 p', .int .i64 q', .int .i64 u', .int .i64 v']] w fun e w' => e = .returned (.agg #[.int .i64 p', .int .i64 q', .int .i64 u', .int .i64 0]) ∧ Below w.heap.size w w' := by
  go_enter Try.func54, Try.ntmps54
  go_upto_region 1 with (fail)
  obtain ⟨V, hV⟩ : ∃ V, ((w.alloc (.cells #[.int .i64 3, .int .i64 p, .int .i64 q, .int .i64 u, .int .i64 v, .int .i64 c, .int .i64 i, .int .i64 x] 38)).alloc (.cells #[.int .i64 p', .int .i64 q', .int .i64 u', .int .i64 v'] 36)).alloc (.cells #[.int .i64 0, .int .i64 0, .int .i64 0, .int .i64 0] 36) = V := ⟨_, rfl⟩
  have HI : Hid (Ft V w.heap.size 3 p q u v c i x ∧ Pl V (w.heap.size + 1) p' q' u' v' ∧ Pl V (w.heap.size + 1 + 1) 0 0 0 0 ∧ Below w.heap.size w V) := by
    rw [← hV]
    have h1 := Pl.new (w.alloc (.cells #[.int .i64 3, .int .i64 p, .int .i64 q, .int .i64 u, .int .i64 v, .int .i64 c, .int .i64 i, .int .i64 x] 38)) p' q' u' v' 36
    have h2 := Pl.new ((w.alloc (.cells #[.int .i64 3, .int .i64 p, .int .i64 q, .int .i64 u, .int .i64 v, .int .i64 c, .int .i64 i, .int .i64 x] 38)).alloc (.cells #[.int .i64 p', .int .i64 q', .int .i64 u', .int .i64 v'] 36)) 0 0 0 0 36
    simp only [World.size_alloc] at h1 h2
    exact ⟨((Ft.new w 3 p q u v c i x _).alloc _).alloc _, h1.alloc _, h2, (((Below.refl _ w).alloc (Nat.le_refl _) _).alloc (by simp) _).alloc (by simp; omega) _⟩
  obtain ⟨B, hB⟩ : ∃ B, w.heap.size = B := ⟨_, rfl⟩
  obtain ⟨C, hC⟩ : ∃ C, B + 1 = C := ⟨_, rfl⟩
  obtain ⟨D, hD⟩ : ∃ D, C + 1 = D := ⟨_, rfl⟩
  rw [hV]
  rw [hB, hC, hD] at HI ⊢
  have lC : B ≤ C := by omega
  have lD : B ≤ D := by omega
  have nC : D ≠ C := by omega
  clear hV hC hD
  have c0 := HI.out.1.c0
  have c1 := HI.out.2.1.c0
  have f3 : V.frozen? ⟨C, 3, none⟩ = false := Bk.free HI.out.2.1 3
  have v3 := HI.out.2.1.c3
  have e1 : Hid (Pl (V.setCell ⟨C, 3, none⟩ (.int .i64 0)) C p' q' u' 0 ∧ Pl (V.setCell ⟨C, 3, none⟩ (.int .i64 0)) D 0 0 0 0 ∧ Below B w (V.setCell ⟨C, 3, none⟩ (.int .i64 0))) :=
    ⟨(Bk.set HI.out.2.1 3 0).congr fun j _ => (by match j with | 0 => rfl | 1 => rfl | 2 => rfl | 3 => rfl | j + 4 => omega), Bk.other HI.out.2.2.1 nC _ _, HI.out.2.2.2.setCell (p := ⟨C, 3, none⟩) lC _⟩
  have hr := e1.out.1.range
  have ht : (V.setCell ⟨C, 3, none⟩ (.int .i64 0)).there D 0 4 := Bk.there e1.out.2.1 .i64 (pfn (p') (q') (u') (0))
  obtain ⟨W2, hW2⟩ : ∃ W2, (V.setCell ⟨C, 3, none⟩ (.int .i64 0)).setCells D 0 [.int .i64 p', .int .i64 q', .int .i64 u', .int .i64 0] = W2 := ⟨_, rfl⟩
  have e2 : Hid (Pl W2 D (p') (q') (u') (0) ∧ Below B w W2) := by rw [← hW2]; exact ⟨Bk.put e1.out.2.1 (pfn (p') (q') (u') (0)), belows_put lD _ 0 e1.out.2.2⟩
  go_wp2_with (first | refine wpList_load_mid rfl 36 _ rfl C 0 rfl [.int .i64 p', .int .i64 q', .int .i64 u', .int .i64 0] _ hr Try.underlying36 rfl infoP ?_ | refine wpList_store_mid rfl 36 _ _ rfl D 0 #[.int .i64 p', .int .i64 q', .int .i64 u', .int .i64 0] rfl rfl ht infoP (one4 (p') (q') (u') (0)) ?_)
  rw [hW2]
  have hs := e2.out.1.range
  have hld := run_loadVar_mid (P := Try.prog) W2 D 0 36 [.int .i64 p', .int .i64 q', .int .i64 u', .int .i64 0] _ hs Try.underlying36 rfl infoP
  refine bodyPost_ret (v := .agg #[.int .i64 p', .int .i64 q', .int .i64 u', .int .i64 0]) ?_ rfl ⟨rfl, by rw [hB]; exact e2.out.2⟩
  simp [results, Try.f54, Act.put, asAddr, hld]
set_option maxRecDepth 100000 in
set_option maxHeartbeats 1000000 in
theorem named_col (p q u v c i x : Int) (p' q' u' v' : Int) (w : World) :
    Calls Try.prog 54 #[.agg #[.int .i64 4, .int .i64 p, .int .i64 q, .int .i64 u, .int .i64 v, .int .i64 c, .int .i64 i, .int .i64 x], .agg #[.int .i64 p', .int .i64 q', .int .i64 u', .int .i64 v']] w fun e w' => e = .returned (.agg #[.int .i64 p', .int .i64 q', .int .i64 0, .int .i64 v']) ∧ Below w.heap.size w w' := by
  go_enter Try.func54, Try.ntmps54
  go_upto_region 1 with (fail)
  obtain ⟨V, hV⟩ : ∃ V, ((w.alloc (.cells #[.int .i64 4, .int .i64 p, .int .i64 q, .int .i64 u, .int .i64 v, .int .i64 c, .int .i64 i, .int .i64 x] 38)).alloc (.cells #[.int .i64 p', .int .i64 q', .int .i64 u', .int .i64 v'] 36)).alloc (.cells #[.int .i64 0, .int .i64 0, .int .i64 0, .int .i64 0] 36) = V := ⟨_, rfl⟩
  have HI : Hid (Ft V w.heap.size 4 p q u v c i x ∧ Pl V (w.heap.size + 1) p' q' u' v' ∧ Pl V (w.heap.size + 1 + 1) 0 0 0 0 ∧ Below w.heap.size w V) := by
    rw [← hV]
    have h1 := Pl.new (w.alloc (.cells #[.int .i64 4, .int .i64 p, .int .i64 q, .int .i64 u, .int .i64 v, .int .i64 c, .int .i64 i, .int .i64 x] 38)) p' q' u' v' 36
    have h2 := Pl.new ((w.alloc (.cells #[.int .i64 4, .int .i64 p, .int .i64 q, .int .i64 u, .int .i64 v, .int .i64 c, .int .i64 i, .int .i64 x] 38)).alloc (.cells #[.int .i64 p', .int .i64 q', .int .i64 u', .int .i64 v'] 36)) 0 0 0 0 36
    simp only [World.size_alloc] at h1 h2
    exact ⟨((Ft.new w 4 p q u v c i x _).alloc _).alloc _, h1.alloc _, h2, (((Below.refl _ w).alloc (Nat.le_refl _) _).alloc (by simp) _).alloc (by simp; omega) _⟩
  obtain ⟨B, hB⟩ : ∃ B, w.heap.size = B := ⟨_, rfl⟩
  obtain ⟨C, hC⟩ : ∃ C, B + 1 = C := ⟨_, rfl⟩
  obtain ⟨D, hD⟩ : ∃ D, C + 1 = D := ⟨_, rfl⟩
  rw [hV]
  rw [hB, hC, hD] at HI ⊢
  have lC : B ≤ C := by omega
  have lD : B ≤ D := by omega
  have nC : D ≠ C := by omega
  clear hV hC hD
  have c0 := HI.out.1.c0
  have c1 := HI.out.2.1.c0
  have f3 : V.frozen? ⟨C, 2, none⟩ = false := Bk.free HI.out.2.1 2
  have v3 := HI.out.2.1.c2
  have e1 : Hid (Pl (V.setCell ⟨C, 2, none⟩ (.int .i64 0)) C p' q' 0 v' ∧ Pl (V.setCell ⟨C, 2, none⟩ (.int .i64 0)) D 0 0 0 0 ∧ Below B w (V.setCell ⟨C, 2, none⟩ (.int .i64 0))) :=
    ⟨(Bk.set HI.out.2.1 2 0).congr fun j _ => (by match j with | 0 => rfl | 1 => rfl | 2 => rfl | 3 => rfl | j + 4 => omega), Bk.other HI.out.2.2.1 nC _ _, HI.out.2.2.2.setCell (p := ⟨C, 2, none⟩) lC _⟩
  have hr := e1.out.1.range
  have ht : (V.setCell ⟨C, 2, none⟩ (.int .i64 0)).there D 0 4 := Bk.there e1.out.2.1 .i64 (pfn (p') (q') (0) (v'))
  obtain ⟨W2, hW2⟩ : ∃ W2, (V.setCell ⟨C, 2, none⟩ (.int .i64 0)).setCells D 0 [.int .i64 p', .int .i64 q', .int .i64 0, .int .i64 v'] = W2 := ⟨_, rfl⟩
  have e2 : Hid (Pl W2 D (p') (q') (0) (v') ∧ Below B w W2) := by rw [← hW2]; exact ⟨Bk.put e1.out.2.1 (pfn (p') (q') (0) (v')), belows_put lD _ 0 e1.out.2.2⟩
  go_wp2_with (first | refine wpList_load_mid rfl 36 _ rfl C 0 rfl [.int .i64 p', .int .i64 q', .int .i64 0, .int .i64 v'] _ hr Try.underlying36 rfl infoP ?_ | refine wpList_store_mid rfl 36 _ _ rfl D 0 #[.int .i64 p', .int .i64 q', .int .i64 0, .int .i64 v'] rfl rfl ht infoP (one4 (p') (q') (0) (v')) ?_)
  rw [hW2]
  have hs := e2.out.1.range
  have hld := run_loadVar_mid (P := Try.prog) W2 D 0 36 [.int .i64 p', .int .i64 q', .int .i64 0, .int .i64 v'] _ hs Try.underlying36 rfl infoP
  refine bodyPost_ret (v := .agg #[.int .i64 p', .int .i64 q', .int .i64 0, .int .i64 v']) ?_ rfl ⟨rfl, by rw [hB]; exact e2.out.2⟩
  simp [results, Try.f54, Act.put, asAddr, hld]
set_option maxRecDepth 100000 in
set_option maxHeartbeats 1000000 in
theorem named_chip (p q u v c i x : Int) (p' q' u' v' : Int) (w : World) :
    Calls Try.prog 54 #[.agg #[.int .i64 5, .int .i64 p, .int .i64 q, .int .i64 u, .int .i64 v, .int .i64 c, .int .i64 i, .int .i64 x], .agg #[.int .i64 p', .int .i64 q', .int .i64 u', .int .i64 v']] w fun e w' => e = .returned (.agg #[.int .i64 p', .int .i64 0, .int .i64 0, .int .i64 0]) ∧ Below w.heap.size w w' := by
  go_enter Try.func54, Try.ntmps54
  go_upto_region 1 with (fail)
  obtain ⟨V, hV⟩ : ∃ V, ((w.alloc (.cells #[.int .i64 5, .int .i64 p, .int .i64 q, .int .i64 u, .int .i64 v, .int .i64 c, .int .i64 i, .int .i64 x] 38)).alloc (.cells #[.int .i64 p', .int .i64 q', .int .i64 u', .int .i64 v'] 36)).alloc (.cells #[.int .i64 0, .int .i64 0, .int .i64 0, .int .i64 0] 36) = V := ⟨_, rfl⟩
  have HI : Hid (Ft V w.heap.size 5 p q u v c i x ∧ Pl V (w.heap.size + 1) p' q' u' v' ∧ Pl V (w.heap.size + 1 + 1) 0 0 0 0 ∧ Below w.heap.size w V) := by
    rw [← hV]
    have h1 := Pl.new (w.alloc (.cells #[.int .i64 5, .int .i64 p, .int .i64 q, .int .i64 u, .int .i64 v, .int .i64 c, .int .i64 i, .int .i64 x] 38)) p' q' u' v' 36
    have h2 := Pl.new ((w.alloc (.cells #[.int .i64 5, .int .i64 p, .int .i64 q, .int .i64 u, .int .i64 v, .int .i64 c, .int .i64 i, .int .i64 x] 38)).alloc (.cells #[.int .i64 p', .int .i64 q', .int .i64 u', .int .i64 v'] 36)) 0 0 0 0 36
    simp only [World.size_alloc] at h1 h2
    exact ⟨((Ft.new w 5 p q u v c i x _).alloc _).alloc _, h1.alloc _, h2, (((Below.refl _ w).alloc (Nat.le_refl _) _).alloc (by simp) _).alloc (by simp; omega) _⟩
  obtain ⟨B, hB⟩ : ∃ B, w.heap.size = B := ⟨_, rfl⟩
  obtain ⟨C, hC⟩ : ∃ C, B + 1 = C := ⟨_, rfl⟩
  obtain ⟨D, hD⟩ : ∃ D, C + 1 = D := ⟨_, rfl⟩
  rw [hV]
  rw [hB, hC, hD] at HI ⊢
  have lC : B ≤ C := by omega
  have lD : B ≤ D := by omega
  have nC : D ≠ C := by omega
  clear hV hC hD
  have c0 := HI.out.1.c0
  have c1 := HI.out.2.1.c0
  have t3 : V.there C 0 4 := Bk.there HI.out.2.1 .i64 (pfn p' 0 0 0)
  have HC1 : Hid (V.cell? ⟨C, 0, none⟩ = some (.int .i64 p')) := c1
  clear c1
  have e1 : Hid (Pl (V.setCells C 0 [.int .i64 p', .int .i64 0, .int .i64 0, .int .i64 0]) C p' 0 0 0 ∧ Pl (V.setCells C 0 [.int .i64 p', .int .i64 0, .int .i64 0, .int .i64 0]) D 0 0 0 0 ∧ Below B w (V.setCells C 0 [.int .i64 p', .int .i64 0, .int .i64 0, .int .i64 0])) := ⟨Bk.put HI.out.2.1 (pfn p' 0 0 0), Bk.putOther HI.out.2.2.1 nC _ _, belows_put lC _ 0 HI.out.2.2.2⟩
  have hr := e1.out.1.range
  have ht : (V.setCells C 0 [.int .i64 p', .int .i64 0, .int .i64 0, .int .i64 0]).there D 0 4 := Bk.there e1.out.2.1 .i64 (pfn (p') (0) (0) (0))
  obtain ⟨W2, hW2⟩ : ∃ W2, (V.setCells C 0 [.int .i64 p', .int .i64 0, .int .i64 0, .int .i64 0]).setCells D 0 [.int .i64 p', .int .i64 0, .int .i64 0, .int .i64 0] = W2 := ⟨_, rfl⟩
  have e2 : Hid (Pl W2 D (p') (0) (0) (0) ∧ Below B w W2) := by rw [← hW2]; exact ⟨Bk.put e1.out.2.1 (pfn (p') (0) (0) (0)), belows_put lD _ 0 e1.out.2.2⟩
  go_upto_region 7 with (fail)
  go_step
  refine wpList_known rfl (.pointer (some ⟨C, 0, none⟩)) ?a1 ?_
  case a1 => simp [execOp, go_sem]
  simp only [Act.put, List.setIfInBounds_toArray, List.set_cons_zero, List.set_cons_succ]
  refine wpList_known rfl (.int .i64 p') (exec_cell _ rfl C 0 rfl _ HC1.out rfl) ?_
  simp only [Act.put, List.setIfInBounds_toArray, List.set_cons_zero, List.set_cons_succ]
  refine wpList_known rfl (.agg #[.int .i64 p', .int .i64 0, .int .i64 0, .int .i64 0]) ?a2 ?_
  case a2 => simp [execOp, go_sem]
  simp only [Act.put, List.setIfInBounds_toArray, List.set_cons_zero, List.set_cons_succ]
  refine wpList_store_mid rfl 36 _ _ rfl C 0 #[.int .i64 p', .int .i64 0, .int .i64 0, .int .i64 0] rfl rfl t3 infoP (one4 p' 0 0 0) ?_
  simp only [Act.put]
  go_wp2_with (first | refine wpList_load_mid rfl 36 _ rfl C 0 rfl [.int .i64 p', .int .i64 0, .int .i64 0, .int .i64 0] _ hr Try.underlying36 rfl infoP ?_ | refine wpList_store_mid rfl 36 _ _ rfl D 0 #[.int .i64 p', .int .i64 0, .int .i64 0, .int .i64 0] rfl rfl ht infoP (one4 (p') (0) (0) (0)) ?_)
  rw [hW2]
  have hs := e2.out.1.range
  have hld := run_loadVar_mid (P := Try.prog) W2 D 0 36 [.int .i64 p', .int .i64 0, .int .i64 0, .int .i64 0] _ hs Try.underlying36 rfl infoP
  refine bodyPost_ret (v := .agg #[.int .i64 p', .int .i64 0, .int .i64 0, .int .i64 0]) ?_ rfl ⟨rfl, by rw [hB]; exact e2.out.2⟩
  simp [results, Try.f54, Act.put, asAddr, hld]
set_option maxRecDepth 100000 in
set_option maxHeartbeats 1000000 in
theorem named_rest (k p q u v c i x : Int) (h3 : (k == 3) = false) (h4 : (k == 4) = false) (h5 : (k == 5) = false) (p' q' u' v' : Int) (w : World) :
    Calls Try.prog 54 #[.agg #[.int .i64 k, .int .i64 p, .int .i64 q, .int .i64 u, .int .i64 v, .int .i64 c, .int .i64 i, .int .i64 x], .agg #[.int .i64 p', .int .i64 q', .int .i64 u', .int .i64 v']] w fun e w' => e = .returned (.agg #[.int .i64 p', .int .i64 q', .int .i64 u', .int .i64 v']) ∧ Below w.heap.size w w' := by
  go_enter Try.func54, Try.ntmps54
  go_upto_region 1 with (fail)
  obtain ⟨V, hV⟩ : ∃ V, ((w.alloc (.cells #[.int .i64 k, .int .i64 p, .int .i64 q, .int .i64 u, .int .i64 v, .int .i64 c, .int .i64 i, .int .i64 x] 38)).alloc (.cells #[.int .i64 p', .int .i64 q', .int .i64 u', .int .i64 v'] 36)).alloc (.cells #[.int .i64 0, .int .i64 0, .int .i64 0, .int .i64 0] 36) = V := ⟨_, rfl⟩
  have HI : Hid (Ft V w.heap.size k p q u v c i x ∧ Pl V (w.heap.size + 1) p' q' u' v' ∧ Pl V (w.heap.size + 1 + 1) 0 0 0 0 ∧ Below w.heap.size w V) := by
    rw [← hV]
    have h1 := Pl.new (w.alloc (.cells #[.int .i64 k, .int .i64 p, .int .i64 q, .int .i64 u, .int .i64 v, .int .i64 c, .int .i64 i, .int .i64 x] 38)) p' q' u' v' 36
    have h2 := Pl.new ((w.alloc (.cells #[.int .i64 k, .int .i64 p, .int .i64 q, .int .i64 u, .int .i64 v, .int .i64 c, .int .i64 i, .int .i64 x] 38)).alloc (.cells #[.int .i64 p', .int .i64 q', .int .i64 u', .int .i64 v'] 36)) 0 0 0 0 36
    simp only [World.size_alloc] at h1 h2
    exact ⟨((Ft.new w k p q u v c i x _).alloc _).alloc _, h1.alloc _, h2, (((Below.refl _ w).alloc (Nat.le_refl _) _).alloc (by simp) _).alloc (by simp; omega) _⟩
  obtain ⟨B, hB⟩ : ∃ B, w.heap.size = B := ⟨_, rfl⟩
  obtain ⟨C, hC⟩ : ∃ C, B + 1 = C := ⟨_, rfl⟩
  obtain ⟨D, hD⟩ : ∃ D, C + 1 = D := ⟨_, rfl⟩
  rw [hV]
  rw [hB, hC, hD] at HI ⊢
  have lC : B ≤ C := by omega
  have lD : B ≤ D := by omega
  have nC : D ≠ C := by omega
  clear hV hC hD
  have c0 := HI.out.1.c0
  have c1 := HI.out.2.1.c0
  have e1 : Hid (Pl V C p' q' u' v' ∧ Pl V D 0 0 0 0 ∧ Below B w V) := HI.out.2
  have hr := e1.out.1.range
  have ht : (V).there D 0 4 := Bk.there e1.out.2.1 .i64 (pfn (p') (q') (u') (v'))
  obtain ⟨W2, hW2⟩ : ∃ W2, (V).setCells D 0 [.int .i64 p', .int .i64 q', .int .i64 u', .int .i64 v'] = W2 := ⟨_, rfl⟩
  have e2 : Hid (Pl W2 D (p') (q') (u') (v') ∧ Below B w W2) := by rw [← hW2]; exact ⟨Bk.put e1.out.2.1 (pfn (p') (q') (u') (v')), belows_put lD _ 0 e1.out.2.2⟩
  go_wp2_with (first | refine wpList_load_mid rfl 36 _ rfl C 0 rfl [.int .i64 p', .int .i64 q', .int .i64 u', .int .i64 v'] _ hr Try.underlying36 rfl infoP ?_ | refine wpList_store_mid rfl 36 _ _ rfl D 0 #[.int .i64 p', .int .i64 q', .int .i64 u', .int .i64 v'] rfl rfl ht infoP (one4 (p') (q') (u') (v')) ?_)
  rw [hW2]
  have hs := e2.out.1.range
  have hld := run_loadVar_mid (P := Try.prog) W2 D 0 36 [.int .i64 p', .int .i64 q', .int .i64 u', .int .i64 v'] _ hs Try.underlying36 rfl infoP
  refine bodyPost_ret (v := .agg #[.int .i64 p', .int .i64 q', .int .i64 u', .int .i64 v']) ?_ rfl ⟨rfl, by rw [hB]; exact e2.out.2⟩
  simp [results, Try.f54, Act.put, asAddr, hld]
theorem named_any (k p q u v c i x : Int) (p' q' u' v' : Int) (w : World) :
    Calls Try.prog 54 #[.agg #[.int .i64 k, .int .i64 p, .int .i64 q, .int .i64 u, .int .i64 v, .int .i64 c, .int .i64 i, .int .i64 x], .agg #[.int .i64 p', .int .i64 q', .int .i64 u', .int .i64 v']] w fun e w' => e = .returned (.agg #[.int .i64 p', .int .i64 (nq k q'), .int .i64 (nu k u'), .int .i64 (nv k v')]) ∧ Below w.heap.size w w' := by
  by_cases h3 : k = 3
  · subst h3; exact named_row p q u v c i x p' q' u' v' w
  by_cases h4 : k = 4
  · subst h4; exact named_col p q u v c i x p' q' u' v' w
  by_cases h5 : k = 5
  · subst h5; exact named_chip p q u v c i x p' q' u' v' w
  have := named_rest k p q u v c i x (by simpa using h3) (by simpa using h4) (by simpa using h5) p' q' u' v' w
  unfold nq nu nv
  rw [if_neg h5, if_neg (by omega), if_neg (by omega)]
  exact this
set_option maxRecDepth 100000 in
set_option maxHeartbeats 1000000 in
theorem values_any (k p q u v c i x : Int) (w : World) :
    Calls Try.prog 60 #[.agg #[.int .i64 k, .int .i64 p, .int .i64 q, .int .i64 u, .int .i64 v, .int .i64 c, .int .i64 i, .int .i64 x]] w fun e w' => e = .returned (.int .i64 (if k = 2 then 2 else 256)) ∧ Below w.heap.size w w' := by
  obtain ⟨z, Z⟩ : ∃ z : Int, (if k = 2 then 2 else 256) = z := ⟨_, rfl⟩
  rw [Z]
  go_enter Try.func60, Try.ntmps60
  go_upto_region 1 with (fail)
  have HF := Ft.new w k p q u v c i x 38
  have HB : Hid (Below w.heap.size w (w.alloc (.cells #[.int .i64 k, .int .i64 p, .int .i64 q, .int .i64 u, .int .i64 v, .int .i64 c, .int .i64 i, .int .i64 x] 38))) := (Below.refl _ w).alloc (Nat.le_refl _) _
  obtain ⟨V, hV⟩ : ∃ V, w.alloc (.cells #[.int .i64 k, .int .i64 p, .int .i64 q, .int .i64 u, .int .i64 v, .int .i64 c, .int .i64 i, .int .i64 x] 38) = V := ⟨_, rfl⟩
  rw [hV] at HF HB ⊢
  clear hV
  have c0 := HF.c0
  have c1 := HF.c1; have c2 := HF.c2; have c3 := HF.c3; have c4 := HF.c4; have c5 := HF.c5; have c6 := HF.c6; have c7 := HF.c7
  by_cases h : k = 2
  · skip
    have d : (k == 2) = true := by simpa using h
    obtain rfl : z = 2 := by rw [← Z]; rw [if_pos h]
    go_wp2
    go_ret
    exact ⟨rfl, HB.out⟩
  · skip
    have d : (k == 2) = false := by simpa using h
    obtain rfl : z = 256 := by rw [← Z]; rw [if_neg h]
    go_wp2
    go_ret
    exact ⟨rfl, HB.out⟩

set_option maxRecDepth 100000 in
set_option maxHeartbeats 1000000 in
theorem lasts_any (k p q u v c i x : Int) (w : World) :
    Calls Try.prog 27 #[.agg #[.int .i64 k, .int .i64 p, .int .i64 q, .int .i64 u, .int .i64 v, .int .i64 c, .int .i64 i, .int .i64 x]] w fun e w' => e = .returned (.bool (ls k)) ∧ Below w.heap.size w w' := by
  obtain ⟨z, Z⟩ : ∃ z : Bool, ls k = z := ⟨_, rfl⟩
  rw [Z]
  go_enter Try.func27, Try.ntmps27
  go_upto_region 1 with (fail)
  have HF := Ft.new w k p q u v c i x 38
  have HB : Hid (Below w.heap.size w (w.alloc (.cells #[.int .i64 k, .int .i64 p, .int .i64 q, .int .i64 u, .int .i64 v, .int .i64 c, .int .i64 i, .int .i64 x] 38))) := (Below.refl _ w).alloc (Nat.le_refl _) _
  obtain ⟨V, hV⟩ : ∃ V, w.alloc (.cells #[.int .i64 k, .int .i64 p, .int .i64 q, .int .i64 u, .int .i64 v, .int .i64 c, .int .i64 i, .int .i64 x] 38) = V := ⟨_, rfl⟩
  rw [hV] at HF HB ⊢
  clear hV
  have c0 := HF.c0
  have c1 := HF.c1; have c2 := HF.c2; have c3 := HF.c3; have c4 := HF.c4; have c5 := HF.c5; have c6 := HF.c6; have c7 := HF.c7
  by_cases h : 2 ≤ k
  · by_cases h2 : k ≤ 5
    · skip
      have d : decide (2 ≤ k) = true := decide_eq_true h
      have d2 : decide (k ≤ 5) = true := decide_eq_true h2
      obtain rfl : z = true := by rw [← Z]; exact decide_eq_true ⟨h, h2⟩
      go_wp2
      go_ret
      exact ⟨rfl, HB.out⟩
    · skip
      have d : decide (2 ≤ k) = true := decide_eq_true h
      have d2 : decide (k ≤ 5) = false := decide_eq_false h2
      obtain rfl : z = false := by rw [← Z]; exact decide_eq_false fun y => h2 y.2
      go_wp2
      go_ret
      exact ⟨rfl, HB.out⟩
  · skip
    have d : decide (2 ≤ k) = false := decide_eq_false h
    obtain rfl : z = false := by rw [← Z]; exact decide_eq_false fun y => h y.1
    go_wp2
    go_ret
    exact ⟨rfl, HB.out⟩

set_option maxRecDepth 100000 in
set_option maxHeartbeats 1000000 in
theorem narrow_any (k p q u v c i x : Int) (w : World) :
    Calls Try.prog 28 #[.agg #[.int .i64 k, .int .i64 p, .int .i64 q, .int .i64 u, .int .i64 v, .int .i64 c, .int .i64 i, .int .i64 x]] w fun e w' => e = .returned (.bool (nw k)) ∧ Below w.heap.size w w' := by
  obtain ⟨z, Z⟩ : ∃ z : Bool, nw k = z := ⟨_, rfl⟩
  rw [Z]
  go_enter Try.func28, Try.ntmps28
  go_upto_region 1 with (fail)
  have HF := Ft.new w k p q u v c i x 38
  have HB : Hid (Below w.heap.size w (w.alloc (.cells #[.int .i64 k, .int .i64 p, .int .i64 q, .int .i64 u, .int .i64 v, .int .i64 c, .int .i64 i, .int .i64 x] 38))) := (Below.refl _ w).alloc (Nat.le_refl _) _
  obtain ⟨V, hV⟩ : ∃ V, w.alloc (.cells #[.int .i64 k, .int .i64 p, .int .i64 q, .int .i64 u, .int .i64 v, .int .i64 c, .int .i64 i, .int .i64 x] 38) = V := ⟨_, rfl⟩
  rw [hV] at HF HB ⊢
  clear hV
  have c0 := HF.c0
  have c1 := HF.c1; have c2 := HF.c2; have c3 := HF.c3; have c4 := HF.c4; have c5 := HF.c5; have c6 := HF.c6; have c7 := HF.c7
  by_cases h : k = 1
  · skip
    have d : (k == 1) = true := by simpa using h
    obtain rfl : z = true := by rw [← Z]; exact decide_eq_true (.inl h)
    go_wp2
    go_ret
    exact ⟨rfl, HB.out⟩
  by_cases h2 : k = 2
  · skip
    have d : (k == 1) = false := by simpa using h
    have d2 : (k == 2) = true := by simpa using h2
    obtain rfl : z = true := by rw [← Z]; exact decide_eq_true (.inr h2)
    go_wp2
    go_ret
    exact ⟨rfl, HB.out⟩
  · skip
    have d : (k == 1) = false := by simpa using h
    have d2 : (k == 2) = false := by simpa using h2
    obtain rfl : z = false := by rw [← Z]; exact decide_eq_false (by omega)
    go_wp2
    go_ret
    exact ⟨rfl, HB.out⟩

theorem isKind_any (k : Int) (w : World) :
    Calls Try.prog 58 #[.int .i64 k] w fun e w' => e = .returned (.bool (decide (1 ≤ k ∧ k ≤ 7))) ∧ w' = w := by
  obtain ⟨z, Z⟩ : ∃ z : Bool, (decide (1 ≤ k ∧ k ≤ 7)) = z := ⟨_, rfl⟩
  rw [Z]
  go_enter Try.func58, Try.ntmps58
  by_cases h : 1 ≤ k
  · by_cases h2 : k ≤ 7
    · have d : decide (1 ≤ k) = true := decide_eq_true h
      have d2 : decide (k ≤ 7) = true := decide_eq_true h2
      obtain rfl : z = true := by rw [← Z]; exact decide_eq_true ⟨h, h2⟩
      go_wp2
      go_ret
      exact ⟨rfl, rfl⟩
    · have d : decide (1 ≤ k) = true := decide_eq_true h
      have d2 : decide (k ≤ 7) = false := decide_eq_false h2
      obtain rfl : z = false := by rw [← Z]; exact decide_eq_false fun y => h2 y.2
      go_wp2
      go_ret
      exact ⟨rfl, rfl⟩
  · have d : decide (1 ≤ k) = false := decide_eq_false h
    obtain rfl : z = false := by rw [← Z]; exact decide_eq_false fun y => h y.1
    go_wp2
    go_ret
    exact ⟨rfl, rfl⟩
theorem fbelow_any (n m : Int) (w : World) :
    Calls Try.prog 56 #[.int .i64 n, .int .i64 m] w fun e w' => e = .returned (.bool (decide (0 ≤ n ∧ n < m))) ∧ w' = w := by
  obtain ⟨z, Z⟩ : ∃ z : Bool, (decide (0 ≤ n ∧ n < m)) = z := ⟨_, rfl⟩
  rw [Z]
  go_enter Try.func56, Try.ntmps56
  by_cases h : 0 ≤ n
  · by_cases h2 : n < m
    · have d : decide (0 ≤ n) = true := decide_eq_true h
      have d2 : decide (n < m) = true := decide_eq_true h2
      obtain rfl : z = true := by rw [← Z]; exact decide_eq_true ⟨h, h2⟩
      go_wp2
      go_ret
      exact ⟨rfl, rfl⟩
    · have d : decide (0 ≤ n) = true := decide_eq_true h
      have d2 : decide (n < m) = false := decide_eq_false h2
      obtain rfl : z = false := by rw [← Z]; exact decide_eq_false fun y => h2 y.2
      go_wp2
      go_ret
      exact ⟨rfl, rfl⟩
  · have d : decide (0 ≤ n) = false := decide_eq_false h
    obtain rfl : z = false := by rw [← Z]; exact decide_eq_false fun y => h y.1
    go_wp2
    go_ret
    exact ⟨rfl, rfl⟩
end Go.Proofs.Ytcpjmfemgdgplaa
