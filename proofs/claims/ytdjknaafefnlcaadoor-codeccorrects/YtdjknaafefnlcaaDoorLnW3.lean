/-
  A line in digits, by the program and by the document.
-/
import Derived.Test.YtdjknaafefnlcaaDoorLnW2
import Derived.ArgAppend
import Derived.Test.YtdjknaafefnlcaaDoorRound2
import Derived.Laws.IdiomStrings
namespace Go.Proofs.YtdjknaafefnlcaaDoor
open Go.RowKit Go.Shelf
open Ln (hexd hxn hxl)
attribute [local go_sem] Oper.semAt_some

theorem byte_info : (Tryd.prog.info? 5).map (fun i => (i.zero, i.size, i.bytes)) = some (some (.int .u8 0), 1, 1) := by kernel_rfl
theorem run_make_hex (w : World) : (Instr.makeSlice 52 (.int .i64 0) (.int .i64 128)).run Tryd.prog w = .ok (.slice (some ⟨w.heap.size, 0, none⟩) 0 128) (w.alloc (.cells (ints .u8 128 fun _ => 0).toArray 5)) := by
  obtain ⟨i, hi, hz0, hz1, hz2⟩ := info_parts byte_info
  have h := run_make (P := Tryd.prog) w 52 5 i (.int .u8 0) Tryd.underlying52 hi hz0 .i64 .i64 0 128 (by omega) (by omega) (by rw [hz2]; omega) (by omega)
  rw [hz1] at h
  have e : madeCells (Value.int .u8 0).cells ((128 : Int).toNat * 1) = (ints .u8 128 fun _ => 0).toArray := by kernel_rfl
  rw [e] at h
  exact h
abbrev digs : ByteArray := ⟨#[48, 49, 50, 51, 52, 53, 54, 55, 56, 57, 97, 98, 99, 100, 101, 102]⟩
theorem run_indexL (F : Nat → Int) (x : Nat) (hx : x < 64) (w : World) : (Instr.index 23 (.agg (ints .u8 64 F).toArray) (.int .i64 (x : Int))).run Tryd.prog w = .ok (.int .u8 (F x)) w := by
  have hc := ints_at .u8 64 F x hx
  have hu := Tryd.underlying23
  simp [Instr.index, run_underlying hu, asIntOf, go_sem, hx]
  rw [hc]; rfl

theorem exec_index {P : Program} {o : Oper} {a : Act} (t : TypeId) (x i : Operand) (ho : o.op = .index t x i) (vx vi v : Value) (hx : a.eval x = vx) (hi : a.eval i = vi) (h : ∀ w, (Instr.index t vx vi).run P w = .ok v w) (w : World) :
    (execOp a.eval o).run P w = .ok (.value v) w := by
  simp [execOp, ho, hx, hi, h, Result.andThen]
/-- append within the room -/
theorem wp_app {o : Oper} {a : Act} {w : World} {K : Act → World → Prop} {Q : Exit → Act → World → Prop} (d s : Operand)
    (ho : o.op = .call { callee := .builtin .append, args := #[d, s], argTypes := #[52, 52] })
    (g len cap sb m c n : Nat) (F G : Nat → Int) (hd : a.eval d = .slice (some ⟨g, 0, none⟩) len cap) (hs : a.eval s = .slice (some ⟨sb, 0, none⟩) m c)
    (hg : Bk .u8 w g n F) (hsrc : Bk .u8 w sb m G) (hroom : len + m ≤ cap) (hfit : len + m ≤ n)
    (h : K (a.put o.dst (.slice (some ⟨g, 0, none⟩) (len + m) cap)) (w.setCells g len (ints .u8 m G))) : Oper.wp Tryd.prog o a w K Q := by
  obtain ⟨i, hi, hz0, hz1, hz2⟩ := info_parts byte_info
  have hr := run_append_room_cells (P := Tryd.prog) w 52 o.type 5 i Tryd.underlying52 hi g 0 len cap ⟨sb, 0, none⟩ m c (ints .u8 m G) (by rw [ints_len, hz1, Nat.mul_one])
    (fun j u hu => by rw [Addr.add_mid]; exact hsrc.range j u hu) (ints_one' .u8 m G) hroom
    (fun j hj => by rw [ints_len] at hj; rw [hz1, hg.cell _ (by omega)]; rfl) (fun j hj => hg.free _)
  rw [hz1, Nat.mul_one, Nat.zero_add] at hr
  unfold Oper.wp
  simp [execOp, ho, resolve, invoke, builtin, hd, hs, hr, Result.andThen]
  exact h

theorem hxn_lt (F : Nat → Int) (hF : Byts 64 F) (j : Nat) (hj : j < 128) : hxn F j < 256 := by
  have := hF (j / 2) (by omega)
  unfold hxn
  refine Ln.hexd_lt _ ?_
  split <;> omega
/-- between two rounds of Hex: the digits of k bytes lie in the block E -/
structure HxI (B E : Nat) (F : Nat → Int) (w : World) (k : Nat) (wr : World) : Prop where
  o : Bk .u8 wr E 128 (fun j => if j < 2 * k then (hxn F j : Int) else 0)
  below : Below B w wr

end Go.Proofs.YtdjknaafefnlcaaDoor
