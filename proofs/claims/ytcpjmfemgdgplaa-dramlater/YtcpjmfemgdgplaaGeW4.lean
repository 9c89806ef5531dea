/-
  The walks of package geom: Index, At, PerRank, Pages; the document's example.
-/
import Derived.Test.YtcpjmfemgdgplaaGeW3
import Derived.Laws.ResultCell
namespace Go.Proofs.Ytcpjmfemgdgplaa
open Go.RowKit
open Ge (pw rt hd ix)

/-- five numbers, four numbers -/
def gfn (r s b o c : Int) : Nat → Int
  | 0 => r
  | 1 => s
  | 2 => b
  | 3 => o
  | _ => c
def pfn (p q u v : Int) : Nat → Int
  | 0 => p
  | 1 => q
  | 2 => u
  | _ => v
/-- a geometry in block b -/
def Gm (W : World) (b : Nat) (r s b' o c : Int) : Prop := Bk .i64 W b 5 (gfn r s b' o c)
/-- a place in block b -/
def Pl (W : World) (b : Nat) (p q u v : Int) : Prop := Bk .i64 W b 4 (pfn p q u v)
theorem Gm.new (W : World) (r s b o c : Int) (t : TypeId) : Gm (W.alloc (.cells #[.int .i64 r, .int .i64 s, .int .i64 b, .int .i64 o, .int .i64 c] t)) W.heap.size r s b o c := Bk.new .i64 W 5 (gfn r s b o c) t
theorem Pl.new (W : World) (p q u v : Int) (t : TypeId) : Pl (W.alloc (.cells #[.int .i64 p, .int .i64 q, .int .i64 u, .int .i64 v] t)) W.heap.size p q u v := Bk.new .i64 W 4 (pfn p q u v) t
theorem Gm.c0 {W : World} {b : Nat} {r s b' o c : Int} (h : Gm W b r s b' o c) : W.cell? ⟨b, 0, none⟩ = some (.int .i64 r) := Bk.cell h 0 (by omega)
theorem Gm.c1 {W : World} {b : Nat} {r s b' o c : Int} (h : Gm W b r s b' o c) : W.cell? ⟨b, 1, none⟩ = some (.int .i64 s) := Bk.cell h 1 (by omega)
theorem Gm.c2 {W : World} {b : Nat} {r s b' o c : Int} (h : Gm W b r s b' o c) : W.cell? ⟨b, 2, none⟩ = some (.int .i64 b') := Bk.cell h 2 (by omega)
theorem Gm.c3 {W : World} {b : Nat} {r s b' o c : Int} (h : Gm W b r s b' o c) : W.cell? ⟨b, 3, none⟩ = some (.int .i64 o) := Bk.cell h 3 (by omega)
theorem Gm.c4 {W : World} {b : Nat} {r s b' o c : Int} (h : Gm W b r s b' o c) : W.cell? ⟨b, 4, none⟩ = some (.int .i64 c) := Bk.cell h 4 (by omega)
theorem Pl.c0 {W : World} {b : Nat} {p q u v : Int} (h : Pl W b p q u v) : W.cell? ⟨b, 0, none⟩ = some (.int .i64 p) := Bk.cell h 0 (by omega)
theorem Pl.c1 {W : World} {b : Nat} {p q u v : Int} (h : Pl W b p q u v) : W.cell? ⟨b, 1, none⟩ = some (.int .i64 q) := Bk.cell h 1 (by omega)
theorem Pl.c2 {W : World} {b : Nat} {p q u v : Int} (h : Pl W b p q u v) : W.cell? ⟨b, 2, none⟩ = some (.int .i64 u) := Bk.cell h 2 (by omega)
theorem Pl.c3 {W : World} {b : Nat} {p q u v : Int} (h : Pl W b p q u v) : W.cell? ⟨b, 3, none⟩ = some (.int .i64 v) := Bk.cell h 3 (by omega)
theorem Gm.next {W W' : World} {b : Nat} {r s b' o c : Int} (h : Gm W b r s b' o c) (k : Below W.heap.size W W') : Gm W' b r s b' o c := Bk.next h k
theorem Pl.next {W W' : World} {b : Nat} {p q u v : Int} (h : Pl W b p q u v) (k : Below W.heap.size W W') : Pl W' b p q u v := Bk.next h k
theorem Gm.alloc {W : World} {b : Nat} {r s b' o c : Int} (h : Gm W b r s b' o c) (x : Obj) : Gm (W.alloc x) b r s b' o c := Bk.alloc h x
theorem Pl.alloc {W : World} {b : Nat} {p q u v : Int} (h : Pl W b p q u v) (x : Obj) : Pl (W.alloc x) b p q u v := Bk.alloc h x
theorem Gm.lt {W : World} {b : Nat} {r s b' o c : Int} (h : Gm W b r s b' o c) : b < W.heap.size := Bk.lt h
theorem Pl.lt {W : World} {b : Nat} {p q u v : Int} (h : Pl W b p q u v) : b < W.heap.size := Bk.lt h

theorem hd_bounds {r s b o c p q u v : Int} (h : hd r s b o c p q u v = true) : (0 ≤ p ∧ p < 8) ∧ (0 ≤ q ∧ q < 16) ∧ (0 ≤ u ∧ u < 1024) ∧ (0 ≤ v ∧ v < 64) := by
  obtain ⟨h0, h1, h2, h3, h4⟩ := Ge.hd_all h
  have := Ge.rt_all h0
  omega

set_option maxHeartbeats 1000000 in
theorem index_yes (r s b o c p q u v : Int) (h : hd r s b o c p q u v = true) (w : World) :
    Calls Try.prog 22 #[.agg #[.int .i64 r, .int .i64 s, .int .i64 b, .int .i64 o, .int .i64 c], .agg #[.int .i64 p, .int .i64 q, .int .i64 u, .int .i64 v]] w fun e w' => e = .returned (.tuple #[.int .i64 (ix p q u v), .int .i64 0]) ∧ Below w.heap.size w w' := by
  have HH : Hid (∀ w, Calls Try.prog 48 #[.agg #[.int .i64 r, .int .i64 s, .int .i64 b, .int .i64 o, .int .i64 c], .agg #[.int .i64 p, .int .i64 q, .int .i64 u, .int .i64 v]] w fun e w' => e = .returned (.bool true) ∧ Below w.heap.size w w') := fun w => by rw [← h]; exact holds_any r s b o c p q u v w
  obtain ⟨h1, h2, h3, h4⟩ := hd_bounds h
  have HX : Hid (∀ w, Calls Try.prog 49 #[.agg #[.int .i64 p, .int .i64 q, .int .i64 u, .int .i64 v]] w fun e w' => e = .returned (.int .i64 (ix p q u v)) ∧ Below w.heap.size w w') := fun w => index7_any p q u v h1 h2 h3 h4 w
  obtain ⟨x, Hx⟩ : ∃ x, Hid (ix p q u v = x) := ⟨_, rfl⟩
  rw [Hx.out] at HX ⊢
  clear h h1 h2 h3 h4
  go_enter Try.func22, Try.ntmps22
  go_wp2_with fail
  obtain ⟨V, hV⟩ : ∃ V, (w.alloc (.cells #[.int .i64 r, .int .i64 s, .int .i64 b, .int .i64 o, .int .i64 c] 23)).alloc (.cells #[.int .i64 p, .int .i64 q, .int .i64 u, .int .i64 v] 36) = V := ⟨_, rfl⟩
  have HB : Hid (Below w.heap.size w V) := by rw [← hV]; exact ((Below.refl _ w).alloc (Nat.le_refl _) _).alloc (by simp) _
  have hP : Pl V (w.heap.size + 1) p q u v := by have := Pl.new (w.alloc (.cells #[.int .i64 r, .int .i64 s, .int .i64 b, .int .i64 o, .int .i64 c] 23)) p q u v 36; rw [hV, World.size_alloc] at this; exact this
  have hs := hP.lt
  rw [hV]
  clear hV
  refine (HH.out _).mono ?_
  rintro e W ⟨rfl, bW⟩
  have hP2 := hP.next bW
  have c0 := hP2.c0; have c1 := hP2.c1; have c2 := hP2.c2; have c3 := hP2.c3
  have HB2 : Hid (Below w.heap.size w W) := HB.out.trans (bW.mono (by omega))
  clear hP hP2 bW HB hs
  go_wp2_with (go_at_call 49; refine (HX.out _).mono ?_; rintro e W3 ⟨rfl, b3⟩)
  refine bodyPost_ret (results_tmp2 rfl _ _ _) rfl ⟨rfl, ?_⟩
  exact HB2.out.trans (b3.mono HB2.out.size)
theorem index_no (r s b o c p q u v : Int) (h : hd r s b o c p q u v = false) (w : World) :
    Calls Try.prog 22 #[.agg #[.int .i64 r, .int .i64 s, .int .i64 b, .int .i64 o, .int .i64 c], .agg #[.int .i64 p, .int .i64 q, .int .i64 u, .int .i64 v]] w fun e w' => e = .returned (.tuple #[.int .i64 0, .int .i64 12]) ∧ Below w.heap.size w w' := by
  have HH : Hid (∀ w, Calls Try.prog 48 #[.agg #[.int .i64 r, .int .i64 s, .int .i64 b, .int .i64 o, .int .i64 c], .agg #[.int .i64 p, .int .i64 q, .int .i64 u, .int .i64 v]] w fun e w' => e = .returned (.bool false) ∧ Below w.heap.size w w') := fun w => by rw [← h]; exact holds_any r s b o c p q u v w
  clear h
  go_enter Try.func22, Try.ntmps22
  go_wp2_with (go_at_call 48; refine (HH.out _).mono ?_; rintro e W3 ⟨rfl, b3⟩)
  refine bodyPost_ret (results_tmp2 rfl _ _ _) rfl ⟨rfl, ?_⟩
  exact (((Below.refl _ w).alloc (Nat.le_refl _) _).alloc (by simp) _).trans (b3.mono (by simp only [World.size_alloc]; omega))

/-- how many lines a rank has, how many pages there are -/
def perR (r s b o c : Int) : Int := if rt r s b o c = true then b * o * c else 0
def pgs (r s b o c : Int) : Int := if rt r s b o c = true then r * b * o else 0
theorem rt_prods {r s b o c : Int} (h : rt r s b o c = true) : (0 ≤ b * o ∧ b * o ≤ 16384) ∧ (0 ≤ b * o * c ∧ b * o * c ≤ 1048576) ∧ (0 ≤ r * b ∧ r * b ≤ 128) ∧ (0 ≤ r * b * o ∧ r * b * o ≤ 131072) := by
  have h1 := Ge.rt_all h
  have p1 := low_prod b o 16 1024 (by omega) (by omega) (by omega) (by omega)
  have p2 := low_prod (b * o) c 16384 64 (by omega) (by omega) (by omega) (by omega)
  have p3 := low_prod r b 8 16 (by omega) (by omega) (by omega) (by omega)
  have p4 := low_prod (r * b) o 128 1024 (by omega) (by omega) (by omega) (by omega)
  omega
/-- the place that an index has, if any -/
def hx (r s b o c i : Int) : Bool := hd r s b o c (i / 1048576) (i / 65536 % 16) (i / 64 % 1024) (i % 64)
theorem info_place : (Try.prog.info? 36).map (·.size) = some 4 := by kernel_rfl
/-- what At tells: the place and an error, in cells and a slot -/
theorem at_told {W : World} {b : Nat} {p q u v : Int} (h : Pl W b p q u v) {tmps : Array Value} (h4 : tmps.getD 4 undef = .pointer (some ⟨b, 0, none⟩)) :
    (results Try.f69 tmps).run Try.prog W = .ok (.tuple #[.agg #[.int .i64 p, .int .i64 q, .int .i64 u, .int .i64 v], tmps.getD 5 undef]) W := by
  obtain ⟨t, ht⟩ := h
  rw [results_cell_tmp (p := 4) (u := 5) (ty := 36) rfl, h4]
  have := run_loadVar_row (P := Try.prog) W b t 36 (ints .i64 4 (pfn p q u v)).toArray (0, 0) _ ht Try.underlying36 rfl (by kernel_rfl)
  have e1 : (asAddr (.pointer (some ⟨b, 0, none⟩))).run Try.prog W = .ok ⟨b, 0, none⟩ W := rfl
  rw [e1]
  simp only [Result.andThen_ok, this]
  rfl
set_option maxHeartbeats 1000000 in
theorem at_core (r s b o c i p q u v : Int) (z : Bool) (HO : Hid (∀ w, Calls Try.prog 82 #[.int .i64 i] w fun e w' => e = .returned (.agg #[.int .i64 p, .int .i64 q, .int .i64 u, .int .i64 v]) ∧ Below w.heap.size w w'))
    (HH : Hid (∀ w, Calls Try.prog 48 #[.agg #[.int .i64 r, .int .i64 s, .int .i64 b, .int .i64 o, .int .i64 c], .agg #[.int .i64 p, .int .i64 q, .int .i64 u, .int .i64 v]] w fun e w' => e = .returned (.bool z) ∧ Below w.heap.size w w')) (w : World) :
    Calls Try.prog 69 #[.agg #[.int .i64 r, .int .i64 s, .int .i64 b, .int .i64 o, .int .i64 c], .int .i64 i] w fun e w' => e = .returned (.tuple #[.agg (if z = true then #[.int .i64 p, .int .i64 q, .int .i64 u, .int .i64 v] else #[.int .i64 0, .int .i64 0, .int .i64 0, .int .i64 0]), .int .i64 (if z = true then 0 else 12)]) ∧ Below w.heap.size w w' := by
  go_enter Try.func69, Try.ntmps69
  go_wp2_with fail
  obtain ⟨V, hV⟩ : ∃ V, (w.alloc (.cells #[.int .i64 r, .int .i64 s, .int .i64 b, .int .i64 o, .int .i64 c] 23)).alloc (.cells #[.int .i64 0, .int .i64 0, .int .i64 0, .int .i64 0] 36) = V := ⟨_, rfl⟩
  have HB : Hid (Below w.heap.size w V) := by rw [← hV]; exact ((Below.refl _ w).alloc (Nat.le_refl _) _).alloc (by simp) _
  have hG : Gm V w.heap.size r s b o c := by rw [← hV]; exact (Gm.new w r s b o c 23).alloc _
  have hP : Pl V (w.heap.size + 1) 0 0 0 0 := by have := Pl.new (w.alloc (.cells #[.int .i64 r, .int .i64 s, .int .i64 b, .int .i64 o, .int .i64 c] 23)) 0 0 0 0 36; rw [hV, World.size_alloc] at this; exact this
  rw [hV]
  clear hV
  refine (HO.out _).mono ?_
  rintro e W ⟨rfl, bW⟩
  replace HB : Hid (Below w.heap.size w W) := HB.out.trans (bW.mono HB.out.size)
  replace hG := hG.next bW
  replace hP := hP.next bW
  clear bW
  have c0 := hG.c0; have c1 := hG.c1; have c2 := hG.c2; have c3 := hG.c3; have c4 := hG.c4
  have l0 := hG.lt
  have HG : Hid (Pl W (w.heap.size + 1) 0 0 0 0) := hP
  clear hG hP
  go_wp2_with fail
  obtain ⟨V, hV⟩ : ∃ V, W.alloc (.cells #[.int .i64 p, .int .i64 q, .int .i64 u, .int .i64 v] 36) = V := ⟨_, rfl⟩
  replace HB : Hid (Below w.heap.size w V) := by rw [← hV]; exact HB.out.alloc HB.out.size _
  replace HG : Hid (Pl V (w.heap.size + 1) 0 0 0 0) := by rw [← hV]; exact HG.out.alloc _
  have hP : Pl V W.heap.size p q u v := by rw [← hV]; exact Pl.new W p q u v _
  have hne : w.heap.size + 1 ≤ W.heap.size := by have := HG.out.lt; rw [← hV] at this; simp at this; omega
  rw [hV]
  clear hV c0 c1 c2 c3 c4 l0
  refine (HH.out _).mono ?_
  rintro e W2 ⟨rfl, bW⟩
  replace HB : Hid (Below w.heap.size w W2) := HB.out.trans (bW.mono HB.out.size)
  replace HG : Hid (Pl W2 (w.heap.size + 1) 0 0 0 0) := HG.out.next bW
  replace hP := hP.next bW
  have c0 := hP.c0; have c1 := hP.c1; have c2 := hP.c2; have c3 := hP.c3
  have th : W2.there (w.heap.size + 1) 0 4 := Bk.there HG.out .i64 (pfn p q u v)
  have on : (#[.int .i64 p, .int .i64 q, .int .i64 u, .int .i64 v] : Array Value).all (·.oneCell') = true := ints_one .i64 4 (pfn p q u v)
  have on0 : (#[.int .i64 0, .int .i64 0, .int .i64 0, .int .i64 0] : Array Value).all (·.oneCell') = true := ints_one .i64 4 (pfn 0 0 0 0)
  clear bW hP hne
  cases z with
  | true =>
    have e1 : Hid (Pl (W2.setCells (w.heap.size + 1) 0 [.int .i64 p, .int .i64 q, .int .i64 u, .int .i64 v]) (w.heap.size + 1) p q u v) := Bk.put HG.out (pfn p q u v)
    go_wp2_with (first | refine wpList_store_mid rfl 36 _ _ rfl (w.heap.size + 1) 0 #[.int .i64 p, .int .i64 q, .int .i64 u, .int .i64 v] rfl rfl th info_place on ?_)
    refine bodyPost_ret (v := .tuple #[.agg #[.int .i64 p, .int .i64 q, .int .i64 u, .int .i64 v], .int .i64 0]) ?_ rfl ⟨rfl, belows_put (by omega) _ 0 HB.out⟩
    exact at_told e1.out rfl
  | false =>
    have e1 : Hid (Pl (W2.setCells (w.heap.size + 1) 0 [.int .i64 0, .int .i64 0, .int .i64 0, .int .i64 0]) (w.heap.size + 1) 0 0 0 0) := Bk.put HG.out (pfn 0 0 0 0)
    go_wp2_with (first | refine wpList_store_mid rfl 36 _ _ rfl (w.heap.size + 1) 0 #[.int .i64 0, .int .i64 0, .int .i64 0, .int .i64 0] rfl rfl th info_place on0 ?_)
    refine bodyPost_ret (v := .tuple #[.agg #[.int .i64 0, .int .i64 0, .int .i64 0, .int .i64 0], .int .i64 12]) ?_ rfl ⟨rfl, belows_put (by omega) _ 0 HB.out⟩
    exact at_told e1.out rfl
theorem at_yes (r s b o c i : Int) (h : hx r s b o c i = true) (w : World) :
    Calls Try.prog 69 #[.agg #[.int .i64 r, .int .i64 s, .int .i64 b, .int .i64 o, .int .i64 c], .int .i64 i] w fun e w' => e = .returned (.tuple #[.agg #[.int .i64 (i / 1048576), .int .i64 (i / 65536 % 16), .int .i64 (i / 64 % 1024), .int .i64 (i % 64)], .int .i64 0]) ∧ Below w.heap.size w w' :=
  at_core r s b o c i _ _ _ _ true (placeOf_any i) (fun w => by rw [← h]; exact holds_any r s b o c _ _ _ _ w) w
theorem at_no (r s b o c i : Int) (h : hx r s b o c i = false) (w : World) :
    Calls Try.prog 69 #[.agg #[.int .i64 r, .int .i64 s, .int .i64 b, .int .i64 o, .int .i64 c], .int .i64 i] w fun e w' => e = .returned (.tuple #[.agg #[.int .i64 0, .int .i64 0, .int .i64 0, .int .i64 0], .int .i64 12]) ∧ Below w.heap.size w w' :=
  at_core r s b o c i _ _ _ _ false (placeOf_any i) (fun w => by rw [← h]; exact holds_any r s b o c _ _ _ _ w) w

end Go.Proofs.Ytcpjmfemgdgplaa
