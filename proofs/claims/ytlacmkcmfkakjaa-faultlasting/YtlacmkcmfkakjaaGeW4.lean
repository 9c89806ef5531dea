/-
  The walks of package geom: Index, At, PerRank, Pages; the document's example.
-/
import Derived.Test.YtlacmkcmfkakjaaGeW3
import Derived.Laws.ResultCell
namespace Go.Proofs.Ytlacmkcmfkakjaa
open Go.RowKit
open Ge (pw rt hd ix)

/-- five numbers, four numbers -/
def gfn (r s b o c : Int) : Nat → Int
  | 0 => r
  | 1 => s
  | 2 => b
  | 3 => o
  | _ => c
def pfn (p q u v : Int) : Nat → Int
  | 0 => p
  | 1 => q
  | 2 => u
  | _ => v
/-- a geometry in block b -/
def Gm (W : World) (b : Nat) (r s b' o c : Int) : Prop := Bk .i64 W b 5 (gfn r s b' o c)
/-- a place in block b -/
def Pl (W : World) (b : Nat) (p q u v : Int) : Prop := Bk .i64 W b 4 (pfn p q u v)
theorem Gm.new (W : World) (r s b o c : Int) (t : TypeId) : Gm (W.alloc (.cells #[.int .i64 r, .int .i64 s, .int .i64 b, .int .i64 o, .int .i64 c] t)) W.heap.size r s b o c := Bk.new .i64 W 5 (gfn r s b o c) t
theorem Pl.new (W : World) (p q u v : Int) (t : TypeId) : Pl (W.alloc (.cells #[.int .i64 p, .int .i64 q, .int .i64 u, .int .i64 v] t)) W.heap.size p q u v := Bk.new .i64 W 4 (pfn p q u v) t
theorem Gm.c0 {W : World} {b : Nat} {r s b' o c : Int} (h : Gm W b r s b' o c) : W.cell? ⟨b, 0, none⟩ = some (.int .i64 r) := Bk.cell h 0 (by omega)
theorem Gm.c1 {W : World} {b : Nat} {r s b' o c : Int} (h : Gm W b r s b' o c) : W.cell? ⟨b, 1, none⟩ = some (.int .i64 s) := Bk.cell h 1 (by omega)
theorem Gm.c2 {W : World} {b : Nat} {r s b' o c : Int} (h : Gm W b r s b' o c) : W.cell? ⟨b, 2, none⟩ = some (.int .i64 b') := Bk.cell h 2 (by omega)
theorem Gm.c3 {W : World} {b : Nat} {r s b' o c : Int} (h : Gm W b r s b' o c) : W.cell? ⟨b, 3, none⟩ = some (.int .i64 o) := Bk.cell h 3 (by omega)
theorem Gm.c4 {W : World} {b : Nat} {r s b' o c : Int} (h : Gm W b r s b' o c) : W.cell? ⟨b, 4, none⟩ = some (.int .i64 c) := Bk.cell h 4 (by omega)
theorem Pl.c0 {W : World} {b : Nat} {p q u v : Int} (h : Pl W b p q u v) : W.cell? ⟨b, 0, none⟩ = some (.int .i64 p) := Bk.cell h 0 (by omega)
theorem Pl.c1 {W : World} {b : Nat} {p q u v : Int} (h : Pl W b p q u v) : W.cell? ⟨b, 1, none⟩ = some (.int .i64 q) := Bk.cell h 1 (by omega)
theorem Pl.c2 {W : World} {b : Nat} {p q u v : Int} (h : Pl W b p q u v) : W.cell? ⟨b, 2, none⟩ = some (.int .i64 u) := Bk.cell h 2 (by omega)
theorem Pl.c3 {W : World} {b : Nat} {p q u v : Int} (h : Pl W b p q u v) : W.cell? ⟨b, 3, none⟩ = some (.int .i64 v) := Bk.cell h 3 (by omega)
theorem Gm.next {W W' : World} {b : Nat} {r s b' o c : Int} (h : Gm W b r s b' o c) (k : Below W.heap.size W W') : Gm W' b r s b' o c := Bk.next h k
theorem Pl.next {W W' : World} {b : Nat} {p q u v : Int} (h : Pl W b p q u v) (k : Below W.heap.size W W') : Pl W' b p q u v := Bk.next h k
theorem Gm.alloc {W : World} {b : Nat} {r s b' o c : Int} (h : Gm W b r s b' o c) (x : Obj) : Gm (W.alloc x) b r s b' o c := Bk.alloc h x
theorem Pl.alloc {W : World} {b : Nat} {p q u v : Int} (h : Pl W b p q u v) (x : Obj) : Pl (W.alloc x) b p q u v := Bk.alloc h x
theorem Gm.lt {W : World} {b : Nat} {r s b' o c : Int} (h : Gm W b r s b' o c) : b < W.heap.size := Bk.lt h
theorem Pl.lt {W : World} {b : Nat} {p q u v : Int} (h : Pl W b p q u v) : b < W.heap.size := Bk.lt h

theorem hd_bounds {r s b o c p q u v : Int} (h : hd r s b o c p q u v = true) : (0 ≤ p ∧ p < 8) ∧ (0 ≤ q ∧ q < 16) ∧ (0 ≤ u ∧ u < 1024) ∧ (0 ≤ v ∧ v < 64) := by
  obtain ⟨h0, h1, h2, h3, h4⟩ := Ge.hd_all h
  have := Ge.rt_all h0
  omega

/-- how many lines a rank has, how many pages there are -/
def perR (r s b o c : Int) : Int := if rt r s b o c = true then b * o * c else 0
def pgs (r s b o c : Int) : Int := if rt r s b o c = true then r * b * o else 0
theorem rt_prods {r s b o c : Int} (h : rt r s b o c = true) : (0 ≤ b * o ∧ b * o ≤ 16384) ∧ (0 ≤ b * o * c ∧ b * o * c ≤ 1048576) ∧ (0 ≤ r * b ∧ r * b ≤ 128) ∧ (0 ≤ r * b * o ∧ r * b * o ≤ 131072) := by
  have h1 := Ge.rt_all h
  have p1 := low_prod b o 16 1024 (by omega) (by omega) (by omega) (by omega)
  have p2 := low_prod (b * o) c 16384 64 (by omega) (by omega) (by omega) (by omega)
  have p3 := low_prod r b 8 16 (by omega) (by omega) (by omega) (by omega)
  have p4 := low_prod (r * b) o 128 1024 (by omega) (by omega) (by omega) (by omega)
  omega
/-- the place that an index has, if any -/
def hx (r s b o c i : Int) : Bool := hd r s b o c (i / 1048576) (i / 65536 % 16) (i / 64 % 1024) (i % 64)
theorem info_place : (Try.prog.info? 23).map (·.size) = some 4 := by kernel_rfl
end Go.Proofs.Ytlacmkcmfkakjaa
