/-
  Texts of one family, one behind another: GeW4, RwMath, RwW1, BitW2, BitW3, BitW4, BitMath2, DoorTab, BitW5, Boxes, Bytes, BitW6, BitW7, RwW2.
-/
import Derived.Test.YtcpjmfemgdgplaaM02
import Derived.Laws.ResultCell
import Derived.Test.YtcpjmfemgdgplaaM01
import Derived.Test.YtcpjmfemgdgplaaRows
import Derived.WalkKit
import Derived.WalkSpells
import Derived.WalkLawsBesides
import Derived.Deep.QuietTactic
import Derived.BigQuiet
import Derived.Shelf.Abstract
import Derived.Shelf.RegionOpen
import Derived.Sort.QuietIn
import Derived.Sort.QuietTacIn
import Derived.OwnWalkIn
import Derived.TacticsInMore
import Derived.LoopNIn
import Derived.LoopIn
import Derived.ProofKit
import Derived.LaidMore
import Derived.OpenShut
import Derived.Stop.Joined
import Derived.Lib.LaidTab
import Derived.Lib.TrailingZeros
import Derived.Below
import Derived.Laws.AppendOwnNone
import Derived.OwnWalk
import Derived.Deep.DeepCutAuto

/-
  The walks of package geom: Index, At, PerRank, Pages; the document's example.
-/
namespace Go.Proofs.Ytcpjmfemgdgplaa
open Go.RowKit
open Ge (pw rt hd ix)

/-- five numbers, four numbers -/
def gfn (r s b o c : Int) : Nat → Int
  | 0 => r
  | 1 => s
  | 2 => b
  | 3 => o
  | _ => c
def pfn (p q u v : Int) : Nat → Int
  | 0 => p
  | 1 => q
  | 2 => u
  | _ => v
/-- a geometry in block b -/
def Gm (W : World) (b : Nat) (r s b' o c : Int) : Prop := Bk .i64 W b 5 (gfn r s b' o c)
/-- a place in block b -/
def Pl (W : World) (b : Nat) (p q u v : Int) : Prop := Bk .i64 W b 4 (pfn p q u v)
theorem Gm.new (W : World) (r s b o c : Int) (t : TypeId) : Gm (W.alloc (.cells #[.int .i64 r, .int .i64 s, .int .i64 b, .int .i64 o, .int .i64 c] t)) W.heap.size r s b o c := Bk.new .i64 W 5 (gfn r s b o c) t
theorem Pl.new (W : World) (p q u v : Int) (t : TypeId) : Pl (W.alloc (.cells #[.int .i64 p, .int .i64 q, .int .i64 u, .int .i64 v] t)) W.heap.size p q u v := Bk.new .i64 W 4 (pfn p q u v) t
theorem Gm.c0 {W : World} {b : Nat} {r s b' o c : Int} (h : Gm W b r s b' o c) : W.cell? ⟨b, 0, none⟩ = some (.int .i64 r) := Bk.cell h 0 (by omega)
theorem Gm.c1 {W : World} {b : Nat} {r s b' o c : Int} (h : Gm W b r s b' o c) : W.cell? ⟨b, 1, none⟩ = some (.int .i64 s) := Bk.cell h 1 (by omega)
theorem Gm.c2 {W : World} {b : Nat} {r s b' o c : Int} (h : Gm W b r s b' o c) : W.cell? ⟨b, 2, none⟩ = some (.int .i64 b') := Bk.cell h 2 (by omega)
theorem Gm.c3 {W : World} {b : Nat} {r s b' o c : Int} (h : Gm W b r s b' o c) : W.cell? ⟨b, 3, none⟩ = some (.int .i64 o) := Bk.cell h 3 (by omega)
theorem Gm.c4 {W : World} {b : Nat} {r s b' o c : Int} (h : Gm W b r s b' o c) : W.cell? ⟨b, 4, none⟩ = some (.int .i64 c) := Bk.cell h 4 (by omega)
theorem Pl.c0 {W : World} {b : Nat} {p q u v : Int} (h : Pl W b p q u v) : W.cell? ⟨b, 0, none⟩ = some (.int .i64 p) := Bk.cell h 0 (by omega)
theorem Pl.c1 {W : World} {b : Nat} {p q u v : Int} (h : Pl W b p q u v) : W.cell? ⟨b, 1, none⟩ = some (.int .i64 q) := Bk.cell h 1 (by omega)
theorem Pl.c2 {W : World} {b : Nat} {p q u v : Int} (h : Pl W b p q u v) : W.cell? ⟨b, 2, none⟩ = some (.int .i64 u) := Bk.cell h 2 (by omega)
theorem Pl.c3 {W : World} {b : Nat} {p q u v : Int} (h : Pl W b p q u v) : W.cell? ⟨b, 3, none⟩ = some (.int .i64 v) := Bk.cell h 3 (by omega)
theorem Gm.next {W W' : World} {b : Nat} {r s b' o c : Int} (h : Gm W b r s b' o c) (k : Below W.heap.size W W') : Gm W' b r s b' o c := Bk.next h k
theorem Pl.next {W W' : World} {b : Nat} {p q u v : Int} (h : Pl W b p q u v) (k : Below W.heap.size W W') : Pl W' b p q u v := Bk.next h k
theorem Gm.alloc {W : World} {b : Nat} {r s b' o c : Int} (h : Gm W b r s b' o c) (x : Obj) : Gm (W.alloc x) b r s b' o c := Bk.alloc h x
theorem Pl.alloc {W : World} {b : Nat} {p q u v : Int} (h : Pl W b p q u v) (x : Obj) : Pl (W.alloc x) b p q u v := Bk.alloc h x
theorem Gm.lt {W : World} {b : Nat} {r s b' o c : Int} (h : Gm W b r s b' o c) : b < W.heap.size := Bk.lt h
theorem Pl.lt {W : World} {b : Nat} {p q u v : Int} (h : Pl W b p q u v) : b < W.heap.size := Bk.lt h

theorem hd_bounds {r s b o c p q u v : Int} (h : hd r s b o c p q u v = true) : (0 ≤ p ∧ p < 8) ∧ (0 ≤ q ∧ q < 16) ∧ (0 ≤ u ∧ u < 1024) ∧ (0 ≤ v ∧ v < 64) := by
  obtain ⟨h0, h1, h2, h3, h4⟩ := Ge.hd_all h
  have := Ge.rt_all h0
  omega

set_option maxHeartbeats 1000000 in
theorem index_yes (r s b o c p q u v : Int) (h : hd r s b o c p q u v = true) (w : World) :
    Calls Try.prog 22 #[.agg #[.int .i64 r, .int .i64 s, .int .i64 b, .int .i64 o, .int .i64 c], .agg #[.int .i64 p, .int .i64 q, .int .i64 u, .int .i64 v]] w fun e w' => e = .returned (.tuple #[.int .i64 (ix p q u v), .int .i64 0]) ∧ Below w.heap.size w w' := by
  have HH : Hid (∀ w, Calls Try.prog 48 #[.agg #[.int .i64 r, .int .i64 s, .int .i64 b, .int .i64 o, .int .i64 c], .agg #[.int .i64 p, .int .i64 q, .int .i64 u, .int .i64 v]] w fun e w' => e = .returned (.bool true) ∧ Below w.heap.size w w') := fun w => by rw [← h]; exact holds_any r s b o c p q u v w
  obtain ⟨h1, h2, h3, h4⟩ := hd_bounds h
  have HX : Hid (∀ w, Calls Try.prog 49 #[.agg #[.int .i64 p, .int .i64 q, .int .i64 u, .int .i64 v]] w fun e w' => e = .returned (.int .i64 (ix p q u v)) ∧ Below w.heap.size w w') := fun w => index7_any p q u v h1 h2 h3 h4 w
  obtain ⟨x, Hx⟩ : ∃ x, Hid (ix p q u v = x) := ⟨_, rfl⟩
  rw [Hx.out] at HX ⊢
  clear h h1 h2 h3 h4
  go_enter Try.func22, Try.ntmps22
  go_wp2_with fail
  obtain ⟨V, hV⟩ : ∃ V, (w.alloc (.cells #[.int .i64 r, .int .i64 s, .int .i64 b, .int .i64 o, .int .i64 c] 23)).alloc (.cells #[.int .i64 p, .int .i64 q, .int .i64 u, .int .i64 v] 36) = V := ⟨_, rfl⟩
  have HB : Hid (Below w.heap.size w V) := by rw [← hV]; exact ((Below.refl _ w).alloc (Nat.le_refl _) _).alloc (by simp) _
  have hP : Pl V (w.heap.size + 1) p q u v := by have := Pl.new (w.alloc (.cells #[.int .i64 r, .int .i64 s, .int .i64 b, .int .i64 o, .int .i64 c] 23)) p q u v 36; rw [hV, World.size_alloc] at this; exact this
  have hs := hP.lt
  rw [hV]
  clear hV
  refine (HH.out _).mono ?_
  rintro e W ⟨rfl, bW⟩
  have hP2 := hP.next bW
  have c0 := hP2.c0; have c1 := hP2.c1; have c2 := hP2.c2; have c3 := hP2.c3
  have HB2 : Hid (Below w.heap.size w W) := HB.out.trans (bW.mono (by omega))
  clear hP hP2 bW HB hs
  go_wp2_with (go_at_call 49; refine (HX.out _).mono ?_; rintro e W3 ⟨rfl, b3⟩)
  refine bodyPost_ret (results_tmp2 rfl _ _ _) rfl ⟨rfl, ?_⟩
  exact HB2.out.trans (b3.mono HB2.out.size)
theorem index_no (r s b o c p q u v : Int) (h : hd r s b o c p q u v = false) (w : World) :
    Calls Try.prog 22 #[.agg #[.int .i64 r, .int .i64 s, .int .i64 b, .int .i64 o, .int .i64 c], .agg #[.int .i64 p, .int .i64 q, .int .i64 u, .int .i64 v]] w fun e w' => e = .returned (.tuple #[.int .i64 0, .int .i64 12]) ∧ Below w.heap.size w w' := by
  have HH : Hid (∀ w, Calls Try.prog 48 #[.agg #[.int .i64 r, .int .i64 s, .int .i64 b, .int .i64 o, .int .i64 c], .agg #[.int .i64 p, .int .i64 q, .int .i64 u, .int .i64 v]] w fun e w' => e = .returned (.bool false) ∧ Below w.heap.size w w') := fun w => by rw [← h]; exact holds_any r s b o c p q u v w
  clear h
  go_enter Try.func22, Try.ntmps22
  go_wp2_with (go_at_call 48; refine (HH.out _).mono ?_; rintro e W3 ⟨rfl, b3⟩)
  refine bodyPost_ret (results_tmp2 rfl _ _ _) rfl ⟨rfl, ?_⟩
  exact (((Below.refl _ w).alloc (Nat.le_refl _) _).alloc (by simp) _).trans (b3.mono (by simp only [World.size_alloc]; omega))

/-- how many lines a rank has, how many pages there are -/
def perR (r s b o c : Int) : Int := if rt r s b o c = true then b * o * c else 0
def pgs (r s b o c : Int) : Int := if rt r s b o c = true then r * b * o else 0
theorem rt_prods {r s b o c : Int} (h : rt r s b o c = true) : (0 ≤ b * o ∧ b * o ≤ 16384) ∧ (0 ≤ b * o * c ∧ b * o * c ≤ 1048576) ∧ (0 ≤ r * b ∧ r * b ≤ 128) ∧ (0 ≤ r * b * o ∧ r * b * o ≤ 131072) := by
  have h1 := Ge.rt_all h
  have p1 := low_prod b o 16 1024 (by omega) (by omega) (by omega) (by omega)
  have p2 := low_prod (b * o) c 16384 64 (by omega) (by omega) (by omega) (by omega)
  have p3 := low_prod r b 8 16 (by omega) (by omega) (by omega) (by omega)
  have p4 := low_prod (r * b) o 128 1024 (by omega) (by omega) (by omega) (by omega)
  omega
/-- the place that an index has, if any -/
def hx (r s b o c i : Int) : Bool := hd r s b o c (i / 1048576) (i / 65536 % 16) (i / 64 % 1024) (i % 64)
theorem info_place : (Try.prog.info? 36).map (·.size) = some 4 := by kernel_rfl
/-- what At tells: the place and an error, in cells and a slot -/
theorem at_told {W : World} {b : Nat} {p q u v : Int} (h : Pl W b p q u v) {tmps : Array Value} (h4 : tmps.getD 4 undef = .pointer (some ⟨b, 0, none⟩)) :
    (results Try.f69 tmps).run Try.prog W = .ok (.tuple #[.agg #[.int .i64 p, .int .i64 q, .int .i64 u, .int .i64 v], tmps.getD 5 undef]) W := by
  obtain ⟨t, ht⟩ := h
  rw [results_cell_tmp (p := 4) (u := 5) (ty := 36) rfl, h4]
  have := run_loadVar_row (P := Try.prog) W b t 36 (ints .i64 4 (pfn p q u v)).toArray (0, 0) _ ht Try.underlying36 rfl (by kernel_rfl)
  have e1 : (asAddr (.pointer (some ⟨b, 0, none⟩))).run Try.prog W = .ok ⟨b, 0, none⟩ W := rfl
  rw [e1]
  simp only [Result.andThen_ok, this]
  rfl
set_option maxHeartbeats 1000000 in
theorem at_core (r s b o c i p q u v : Int) (z : Bool) (HO : Hid (∀ w, Calls Try.prog 82 #[.int .i64 i] w fun e w' => e = .returned (.agg #[.int .i64 p, .int .i64 q, .int .i64 u, .int .i64 v]) ∧ Below w.heap.size w w'))
    (HH : Hid (∀ w, Calls Try.prog 48 #[.agg #[.int .i64 r, .int .i64 s, .int .i64 b, .int .i64 o, .int .i64 c], .agg #[.int .i64 p, .int .i64 q, .int .i64 u, .int .i64 v]] w fun e w' => e = .returned (.bool z) ∧ Below w.heap.size w w')) (w : World) :
    Calls Try.prog 69 #[.agg #[.int .i64 r, .int .i64 s, .int .i64 b, .int .i64 o, .int .i64 c], .int .i64 i] w fun e w' => e = .returned (.tuple #[.agg (if z = true then #[.int .i64 p, .int .i64 q, .int .i64 u, .int .i64 v] else #[.int .i64 0, .int .i64 0, .int .i64 0, .int .i64 0]), .int .i64 (if z = true then 0 else 12)]) ∧ Below w.heap.size w w' := by
  go_enter Try.func69, Try.ntmps69
  go_wp2_with fail
  obtain ⟨V, hV⟩ : ∃ V, (w.alloc (.cells #[.int .i64 r, .int .i64 s, .int .i64 b, .int .i64 o, .int .i64 c] 23)).alloc (.cells #[.int .i64 0, .int .i64 0, .int .i64 0, .int .i64 0] 36) = V := ⟨_, rfl⟩
  have HB : Hid (Below w.heap.size w V) := by rw [← hV]; exact ((Below.refl _ w).alloc (Nat.le_refl _) _).alloc (by simp) _
  have hG : Gm V w.heap.size r s b o c := by rw [← hV]; exact (Gm.new w r s b o c 23).alloc _
  have hP : Pl V (w.heap.size + 1) 0 0 0 0 := by have := Pl.new (w.alloc (.cells #[.int .i64 r, .int .i64 s, .int .i64 b, .int .i64 o, .int .i64 c] 23)) 0 0 0 0 36; rw [hV, World.size_alloc] at this; exact this
  rw [hV]
  clear hV
  refine (HO.out _).mono ?_
  rintro e W ⟨rfl, bW⟩
  replace HB : Hid (Below w.heap.size w W) := HB.out.trans (bW.mono HB.out.size)
  replace hG := hG.next bW
  replace hP := hP.next bW
  clear bW
  have c0 := hG.c0; have c1 := hG.c1; have c2 := hG.c2; have c3 := hG.c3; have c4 := hG.c4
  have l0 := hG.lt
  have HG : Hid (Pl W (w.heap.size + 1) 0 0 0 0) := hP
  clear hG hP
  go_wp2_with fail
  obtain ⟨V, hV⟩ : ∃ V, W.alloc (.cells #[.int .i64 p, .int .i64 q, .int .i64 u, .int .i64 v] 36) = V := ⟨_, rfl⟩
  replace HB : Hid (Below w.heap.size w V) := by rw [← hV]; exact HB.out.alloc HB.out.size _
  replace HG : Hid (Pl V (w.heap.size + 1) 0 0 0 0) := by rw [← hV]; exact HG.out.alloc _
  have hP : Pl V W.heap.size p q u v := by rw [← hV]; exact Pl.new W p q u v _
  have hne : w.heap.size + 1 ≤ W.heap.size := by have := HG.out.lt; rw [← hV] at this; simp at this; omega
  rw [hV]
  clear hV c0 c1 c2 c3 c4 l0
  refine (HH.out _).mono ?_
  rintro e W2 ⟨rfl, bW⟩
  replace HB : Hid (Below w.heap.size w W2) := HB.out.trans (bW.mono HB.out.size)
  replace HG : Hid (Pl W2 (w.heap.size + 1) 0 0 0 0) := HG.out.next bW
  replace hP := hP.next bW
  have c0 := hP.c0; have c1 := hP.c1; have c2 := hP.c2; have c3 := hP.c3
  have th : W2.there (w.heap.size + 1) 0 4 := Bk.there HG.out .i64 (pfn p q u v)
  have on : (#[.int .i64 p, .int .i64 q, .int .i64 u, .int .i64 v] : Array Value).all (·.oneCell') = true := ints_one .i64 4 (pfn p q u v)
  have on0 : (#[.int .i64 0, .int .i64 0, .int .i64 0, .int .i64 0] : Array Value).all (·.oneCell') = true := ints_one .i64 4 (pfn 0 0 0 0)
  clear bW hP hne
  cases z with
  | true =>
    have e1 : Hid (Pl (W2.setCells (w.heap.size + 1) 0 [.int .i64 p, .int .i64 q, .int .i64 u, .int .i64 v]) (w.heap.size + 1) p q u v) := Bk.put HG.out (pfn p q u v)
    go_wp2_with (first | refine wpList_store_mid rfl 36 _ _ rfl (w.heap.size + 1) 0 #[.int .i64 p, .int .i64 q, .int .i64 u, .int .i64 v] rfl rfl th info_place on ?_)
    refine bodyPost_ret (v := .tuple #[.agg #[.int .i64 p, .int .i64 q, .int .i64 u, .int .i64 v], .int .i64 0]) ?_ rfl ⟨rfl, belows_put (by omega) _ 0 HB.out⟩
    exact at_told e1.out rfl
  | false =>
    have e1 : Hid (Pl (W2.setCells (w.heap.size + 1) 0 [.int .i64 0, .int .i64 0, .int .i64 0, .int .i64 0]) (w.heap.size + 1) 0 0 0 0) := Bk.put HG.out (pfn 0 0 0 0)
    go_wp2_with (first | refine wpList_store_mid rfl 36 _ _ rfl (w.heap.size + 1) 0 #[.int .i64 0, .int .i64 0, .int .i64 0, .int .i64 0] rfl rfl th info_place on0 ?_)
    refine bodyPost_ret (v := .tuple #[.agg #[.int .i64 0, .int .i64 0, .int .i64 0, .int .i64 0], .int .i64 12]) ?_ rfl ⟨rfl, belows_put (by omega) _ 0 HB.out⟩
    exact at_told e1.out rfl
theorem at_yes (r s b o c i : Int) (h : hx r s b o c i = true) (w : World) :
    Calls Try.prog 69 #[.agg #[.int .i64 r, .int .i64 s, .int .i64 b, .int .i64 o, .int .i64 c], .int .i64 i] w fun e w' => e = .returned (.tuple #[.agg #[.int .i64 (i / 1048576), .int .i64 (i / 65536 % 16), .int .i64 (i / 64 % 1024), .int .i64 (i % 64)], .int .i64 0]) ∧ Below w.heap.size w w' :=
  at_core r s b o c i _ _ _ _ true (placeOf_any i) (fun w => by rw [← h]; exact holds_any r s b o c _ _ _ _ w) w
theorem at_no (r s b o c i : Int) (h : hx r s b o c i = false) (w : World) :
    Calls Try.prog 69 #[.agg #[.int .i64 r, .int .i64 s, .int .i64 b, .int .i64 o, .int .i64 c], .int .i64 i] w fun e w' => e = .returned (.tuple #[.agg #[.int .i64 0, .int .i64 0, .int .i64 0, .int .i64 0], .int .i64 12]) ∧ Below w.heap.size w w' :=
  at_core r s b o c i _ _ _ _ false (placeOf_any i) (fun w => by rw [← h]; exact holds_any r s b o c _ _ _ _ w) w

end Go.Proofs.Ytcpjmfemgdgplaa

/-
  Layer 9's mathematics: how much two are unlike, word by word; bits turned and set.
-/
namespace Go.Proofs.Ytcpjmfemgdgplaa.Rw
open Go Go.RowKit Bm

theorem wtK_nil (k x : Nat) (h : wtK k x = 0) (hx : x < 2 ^ k) : x = 0 := by
  induction k generalizing x with
  | zero => simpa using hx
  | succ k ih =>
    simp only [wtK] at h
    have := ih (x / 2) (by omega) (by rw [Nat.pow_succ] at hx; omega)
    omega
theorem wt_xor_le (a b : Nat) : wt (a ^^^ b) ≤ wt a + wt b := by
  have := wtK_xor 64 a b
  unfold wt; omega
theorem wt8 (x : Nat) (h : x < 256) : wt x ≤ 8 := by
  rw [← wtK_wt 8 x (by decide) h]; exact wtK_le 8 x

/-- how unlike two bytes are -/
def dl (m x y : Int) : Nat := if m = 1 then wt (x.toNat ^^^ y.toNat) else if x = y then 0 else 1
theorem dl_self (m x : Int) : dl m x x = 0 := by
  unfold dl
  split
  · rw [Nat.xor_self]; exact wt_zero
  · simp
theorem dl_symm (m x y : Int) : dl m x y = dl m y x := by
  unfold dl
  by_cases h : m = 1
  · rw [if_pos h, if_pos h, Nat.xor_comm]
  · rw [if_neg h, if_neg h]
    by_cases e : x = y
    · rw [if_pos e, if_pos e.symm]
    · rw [if_neg e, if_neg (fun e' => e e'.symm)]
theorem dl_tri (m x y z : Int) : dl m x z ≤ dl m x y + dl m y z := by
  unfold dl
  by_cases h : m = 1
  · rw [if_pos h, if_pos h, if_pos h]
    have e : x.toNat ^^^ z.toNat = (x.toNat ^^^ y.toNat) ^^^ (y.toNat ^^^ z.toNat) := by
      rw [Nat.xor_assoc, ← Nat.xor_assoc y.toNat, Nat.xor_self, Nat.zero_xor]
    rw [e]; exact wt_xor_le _ _
  · rw [if_neg h, if_neg h, if_neg h]
    by_cases e : x = z
    · rw [if_pos e]; omega
    · rw [if_neg e]
      by_cases e1 : x = y
      · rw [if_neg (fun e2 => e (e1.trans e2))]; omega
      · rw [if_neg e1]; omega
theorem dl_zero (m x y : Int) (hx : 0 ≤ x ∧ x < 256) (hy : 0 ≤ y ∧ y < 256) (h : dl m x y = 0) : x = y := by
  unfold dl at h
  split at h
  · have h2 : x.toNat ^^^ y.toNat < 2 ^ 8 := Nat.xor_lt_two_pow (by omega) (by omega)
    rw [← wtK_wt 8 _ (by decide) h2] at h
    have := wtK_nil 8 _ h h2
    have e : x.toNat = y.toNat := by
      have e2 : x.toNat ^^^ y.toNat ^^^ y.toNat = y.toNat := by rw [this, Nat.zero_xor]
      rwa [Nat.xor_assoc, Nat.xor_self, Nat.xor_zero] at e2
    omega
  · split at h
    · assumption
    · omega
theorem dl_le (m x y : Int) (hx : 0 ≤ x ∧ x < 256) (hy : 0 ≤ y ∧ y < 256) : dl m x y ≤ 8 ∧ (m ≠ 1 → dl m x y ≤ 1) := by
  unfold dl
  split
  · exact ⟨wt8 _ (Nat.xor_lt_two_pow (n := 8) (by omega) (by omega)), fun h => absurd ‹m = 1› h⟩
  · split <;> exact ⟨by omega, fun _ => by omega⟩

/-- the same of n bytes from the place o on -/
def sm (m : Int) (F G : Nat → Int) (o : Nat) : Nat → Nat
  | 0 => 0
  | j + 1 => sm m F G o j + dl m (F (o + j)) (G (o + j))
theorem sm_symm (m : Int) (F G : Nat → Int) (o n : Nat) : sm m F G o n = sm m G F o n := by
  induction n with
  | zero => rfl
  | succ n ih => rw [sm, sm, ih, dl_symm]
theorem sm_tri (m : Int) (F G H : Nat → Int) (o n : Nat) : sm m F H o n ≤ sm m F G o n + sm m G H o n := by
  induction n with
  | zero => exact Nat.le_refl _
  | succ n ih =>
    have := dl_tri m (F (o + n)) (G (o + n)) (H (o + n))
    rw [sm, sm, sm]; omega
theorem sm_zero (m : Int) (F G : Nat → Int) (o n : Nat) (hF : ∀ i, i < n → 0 ≤ F (o + i) ∧ F (o + i) < 256) (hG : ∀ i, i < n → 0 ≤ G (o + i) ∧ G (o + i) < 256) (h : sm m F G o n = 0) : ∀ i, i < n → F (o + i) = G (o + i) := by
  induction n with
  | zero => intro i hi; omega
  | succ n ih =>
    rw [sm] at h
    intro i hi
    by_cases e : i = n
    · subst e; exact dl_zero m _ _ (hF _ hi) (hG _ hi) (by omega)
    · exact ih (fun j hj => hF j (by omega)) (fun j hj => hG j (by omega)) (by omega) i (by omega)
theorem sm_same (m : Int) (F G : Nat → Int) (o n : Nat) (h : ∀ i, i < n → F (o + i) = G (o + i)) : sm m F G o n = 0 := by
  induction n with
  | zero => rfl
  | succ n ih => rw [sm, ih (fun j hj => h j (by omega)), h n (by omega), dl_self]
/-- where one alone is unlike -/
theorem sm_one (m : Int) (F G : Nat → Int) (o n p : Nat) (hp : p < n) (h : ∀ i, i < n → i ≠ p → F (o + i) = G (o + i)) : sm m F G o n = dl m (F (o + p)) (G (o + p)) := by
  induction n with
  | zero => omega
  | succ n ih =>
    rw [sm]
    by_cases e : p = n
    · subst e
      rw [sm_same m F G o p fun i hi => h i (by omega) (by omega)]; omega
    · rw [ih (by omega) fun i hi => h i (by omega), h n (by omega) (fun x => e x.symm), dl_self]; omega
theorem sm_le (m : Int) (F G : Nat → Int) (o n : Nat) (hF : ∀ i, i < n → 0 ≤ F (o + i) ∧ F (o + i) < 256) (hG : ∀ i, i < n → 0 ≤ G (o + i) ∧ G (o + i) < 256) : sm m F G o n ≤ 8 * n := by
  induction n with
  | zero => exact Nat.le_refl _
  | succ n ih =>
    have h1 := ih (fun j hj => hF j (by omega)) (fun j hj => hG j (by omega))
    have h2 := (dl_le m _ _ (hF n (by omega)) (hG n (by omega))).1
    rw [sm]; omega
theorem sm_congr (m : Int) (F G F' G' : Nat → Int) (o o' n : Nat) (h : ∀ i, i < n → F (o + i) = F' (o' + i) ∧ G (o + i) = G' (o' + i)) : sm m F G o n = sm m F' G' o' n := by
  induction n with
  | zero => rfl
  | succ n ih => rw [sm, sm, ih fun i hi => h i (by omega), (h n (by omega)).1, (h n (by omega)).2]

/-- of the first k words, each of n bytes, the most -/
def mx (m : Int) (F G : Nat → Int) (n : Nat) : Nat → Nat
  | 0 => 0
  | w + 1 => max (mx m F G n w) (sm m F G (n * w) n)
theorem mx_symm (m : Int) (F G : Nat → Int) (n k : Nat) : mx m F G n k = mx m G F n k := by
  induction k with
  | zero => rfl
  | succ k ih => rw [mx, mx, ih, sm_symm]
theorem mx_tri (m : Int) (F G H : Nat → Int) (n k : Nat) : mx m F H n k ≤ mx m F G n k + mx m G H n k := by
  induction k with
  | zero => exact Nat.le_refl _
  | succ k ih =>
    have := sm_tri m F G H (n * k) n
    rw [mx, mx, mx]; omega
theorem mx_ge (m : Int) (F G : Nat → Int) (n k w : Nat) (h : w < k) : sm m F G (n * w) n ≤ mx m F G n k := by
  induction k with
  | zero => omega
  | succ k ih =>
    rw [mx]
    by_cases e : w = k
    · subst e; omega
    · have := ih (by omega); omega
theorem mx_le (m : Int) (F G : Nat → Int) (n k c : Nat) (h : ∀ w, w < k → sm m F G (n * w) n ≤ c) : mx m F G n k ≤ c := by
  induction k with
  | zero => exact Nat.zero_le _
  | succ k ih =>
    have h1 := ih fun w hw => h w (by omega)
    have h2 := h k (by omega)
    rw [mx]; omega
theorem idx_lt (n k w i : Nat) (hw : w < k) (hi : i < n) : n * w + i < n * k := by
  have : n * (w + 1) ≤ n * k := Nat.mul_le_mul_left n hw
  rw [Nat.mul_succ] at this; omega
theorem mx_bound (m : Int) (F G : Nat → Int) (n k : Nat) (hF : ∀ i, i < n * k → 0 ≤ F i ∧ F i < 256) (hG : ∀ i, i < n * k → 0 ≤ G i ∧ G i < 256) : mx m F G n k ≤ 8 * n :=
  mx_le m F G n k _ fun w hw => sm_le m F G _ n (fun i hi => hF _ (idx_lt n k w i hw hi)) (fun i hi => hG _ (idx_lt n k w i hw hi))
theorem mx_zero (m : Int) (F G : Nat → Int) (n k : Nat) (hn : 0 < n) (hF : ∀ i, i < n * k → 0 ≤ F i ∧ F i < 256) (hG : ∀ i, i < n * k → 0 ≤ G i ∧ G i < 256) : mx m F G n k = 0 ↔ ∀ i, i < n * k → F i = G i := by
  constructor
  · intro h i hi
    have hw : i / n < k := Nat.div_lt_of_lt_mul hi
    have h1 := mx_ge m F G n k (i / n) hw
    have h2 := sm_zero m F G (n * (i / n)) n (fun j hj => hF _ (idx_lt n k _ j hw hj)) (fun j hj => hG _ (idx_lt n k _ j hw hj)) (by omega) (i % n) (Nat.mod_lt _ hn)
    rwa [Nat.div_add_mod] at h2
  · intro h
    have := mx_le m F G n k 0 fun w hw => Nat.le_of_eq (sm_same m F G _ n fun i hi => h _ (idx_lt n k w i hw hi))
    omega
/-- where one byte alone is unlike -/
theorem mx_one (m : Int) (F G : Nat → Int) (n k p : Nat) (hn : 0 < n) (hp : p < n * k) (h : ∀ i, i < n * k → i ≠ p → F i = G i) : mx m F G n k = dl m (F p) (G p) := by
  have hw : p / n < k := Nat.div_lt_of_lt_mul hp
  have hd := Nat.div_add_mod p n
  have hs : sm m F G (n * (p / n)) n = dl m (F p) (G p) := by
    rw [sm_one m F G _ n (p % n) (Nat.mod_lt _ hn) fun i hi hne => h _ (idx_lt n k _ i hw hi) (by omega), hd]
  refine Nat.le_antisymm (mx_le m F G n k _ fun w hw' => ?_) (hs ▸ mx_ge m F G n k _ hw)
  by_cases e : w = p / n
  · subst e; omega
  · rw [sm_same m F G _ n fun i hi => h _ (idx_lt n k w i hw' hi) fun e' => e (by rw [← e', Nat.mul_add_div hn, Nat.div_eq_of_lt hi]; rfl)]
    exact Nat.zero_le _
/-- where in each word one byte at most is unlike -/
theorem mx_col (m : Int) (F G : Nat → Int) (n k p c : Nat) (hp : p < n) (h : ∀ i, i < n * k → i % n ≠ p → F i = G i) (hc : ∀ i, i < n * k → dl m (F i) (G i) ≤ c) : mx m F G n k ≤ c := by
  refine mx_le m F G n k _ fun w hw => ?_
  rw [sm_one m F G _ n p hp fun i hi hne => h _ (idx_lt n k w i hw hi) (by rw [Nat.mul_add_mod, Nat.mod_eq_of_lt hi]; exact hne)]
  exact hc _ (idx_lt n k w p hw hp)

/-! ### bits set and turned -/
/-- a byte with the bit r as v, 0 or 1 -/
def fc (x r v : Nat) : Nat := (x - (if x / 2 ^ r % 2 = 1 then 2 ^ r else 0)) + (if v = 1 then 2 ^ r else 0)
theorem fc_flip : ∀ x < 256, ∀ r < 8, x ^^^ 2 ^ r = fc x r (1 - x / 2 ^ r % 2) := by decide +kernel
theorem fc_stay : ∀ x < 256, ∀ r < 8, x = fc x r (x / 2 ^ r % 2) := by decide +kernel
theorem flip_wt : ∀ x < 256, ∀ r < 8, wtK 8 ((x ^^^ 2 ^ r) ^^^ x) = 1 ∧ (x ^^^ 2 ^ r) ≠ x ∧ (x ^^^ 2 ^ r) < 256 ∧ ((x ^^^ 2 ^ r) ^^^ x) < 256 := by decide +kernel
theorem dl_flip (m : Int) (x r : Nat) (hx : x < 256) (hr : r < 8) : dl m ((x ^^^ 2 ^ r : Nat) : Int) (x : Int) = 1 := by
  obtain ⟨h1, h2, h3, h4⟩ := flip_wt x hx r hr
  unfold dl
  split
  · rw [show ((x ^^^ 2 ^ r : Nat) : Int).toNat = x ^^^ 2 ^ r from rfl, show ((x : Int)).toNat = x from rfl, ← wtK_wt 8 _ (by decide) h4]; exact h1
  · rw [if_neg (by omega)]
/-- all of a chip's bytes as v -/
def chp (n : Nat) (c : Int) (F : Nat → Int) (v : Int) (i : Nat) : Int := if 0 < n ∧ ((i % n : Nat) : Int) = c then v else F i
end Go.Proofs.Ytcpjmfemgdgplaa.Rw

/-
  The leaves of package raw: which modes there are, how many chips and words, where a byte stands, whose a bit is; the document's count of chips.
-/
namespace Go.Proofs.Ytcpjmfemgdgplaa
open Go.RowKit

/-- a mode, its chips and its words -/
def Md (m n k : Int) : Prop := (m = 1 ∧ n = 9 ∧ k = 8) ∨ (m = 2 ∧ n = 36 ∧ k = 2) ∨ (m ≠ 1 ∧ m ≠ 2 ∧ n = 0 ∧ k = 0)
theorem Md.bits : Md 1 9 8 := .inl ⟨rfl, rfl, rfl⟩
theorem Md.chips : Md 2 36 2 := .inr (.inl ⟨rfl, rfl, rfl⟩)
theorem Md.none (m : Int) (h1 : m ≠ 1) (h2 : m ≠ 2) : Md m 0 0 := .inr (.inr ⟨h1, h2, rfl, rfl⟩)
theorem md_any (m : Int) : ∃ n k, Md m n k := by
  by_cases h1 : m = 1
  · subst h1; exact ⟨_, _, .bits⟩
  · by_cases h2 : m = 2
    · subst h2; exact ⟨_, _, .chips⟩
    · exact ⟨_, _, .none m h1 h2⟩

theorem countChips_any {m n k : Int} (h : Md m n k) (w : World) :
    Calls Try.prog 57 #[.int .i64 m] w fun e w' => e = .returned (.int .i64 n) ∧ w' = w := by
  rcases h with ⟨rfl, rfl, rfl⟩ | ⟨rfl, rfl, rfl⟩ | ⟨h1, h2, rfl, rfl⟩
  · skip
    go_enter Try.func57, Try.ntmps57
    go_wp2
    go_ret
    exact ⟨rfl, rfl⟩
  · skip
    go_enter Try.func57, Try.ntmps57
    go_wp2
    go_ret
    exact ⟨rfl, rfl⟩
  · skip
    have d1 : (m == 1) = false := by simpa using h1
    have d2 : (m == 2) = false := by simpa using h2
    go_enter Try.func57, Try.ntmps57
    go_wp2
    go_ret
    exact ⟨rfl, rfl⟩

theorem refChips_any {m n k : Int} (h : Md m n k) (w : World) :
    Calls Try.prog 52 #[.int .i64 m] w fun e w' => e = .returned (.int .i64 n) ∧ w' = w := by
  rcases h with ⟨rfl, rfl, rfl⟩ | ⟨rfl, rfl, rfl⟩ | ⟨h1, h2, rfl, rfl⟩
  · skip
    go_enter Try.func52, Try.ntmps52
    go_wp2
    go_ret
    exact ⟨rfl, rfl⟩
  · skip
    go_enter Try.func52, Try.ntmps52
    go_wp2
    go_ret
    exact ⟨rfl, rfl⟩
  · skip
    have d1 : (m == 1) = false := by simpa using h1
    have d2 : (m == 2) = false := by simpa using h2
    go_enter Try.func52, Try.ntmps52
    go_wp2
    go_ret
    exact ⟨rfl, rfl⟩

theorem right9_any {m n k : Int} (h : Md m n k) (w : World) :
    Calls Try.prog 35 #[.int .i64 m] w fun e w' => e = .returned (.bool (decide (0 < n))) ∧ w' = w := by
  rcases h with ⟨rfl, rfl, rfl⟩ | ⟨rfl, rfl, rfl⟩ | ⟨h1, h2, rfl, rfl⟩
  · skip
    go_enter Try.func35, Try.ntmps35
    go_wp2
    go_ret
    exact ⟨rfl, rfl⟩
  · skip
    go_enter Try.func35, Try.ntmps35
    go_wp2
    go_ret
    exact ⟨rfl, rfl⟩
  · skip
    have d1 : (m == 1) = false := by simpa using h1
    have d2 : (m == 2) = false := by simpa using h2
    go_enter Try.func35, Try.ntmps35
    go_wp2
    go_ret
    exact ⟨rfl, rfl⟩

theorem countWords_any {m n k : Int} (h : Md m n k) (w : World) :
    Calls Try.prog 85 #[.int .i64 m] w fun e w' => e = .returned (.int .i64 k) ∧ w' = w := by
  have hr := right9_any h
  have hc := countChips_any h
  rcases h with ⟨rfl, rfl, rfl⟩ | ⟨rfl, rfl, rfl⟩ | ⟨h1, h2, rfl, rfl⟩
  · skip
    go_enter Try.func85, Try.ntmps85
    go_wp2_with (first | (go_at_call 35; refine (hr _).mono ?_; rintro e w' ⟨rfl, rfl⟩) | (go_at_call 57; refine (hc _).mono ?_; rintro e w' ⟨rfl, rfl⟩))
    go_ret
    exact ⟨rfl, rfl⟩
  · skip
    go_enter Try.func85, Try.ntmps85
    go_wp2_with (first | (go_at_call 35; refine (hr _).mono ?_; rintro e w' ⟨rfl, rfl⟩) | (go_at_call 57; refine (hc _).mono ?_; rintro e w' ⟨rfl, rfl⟩))
    go_ret
    exact ⟨rfl, rfl⟩
  · skip
    go_enter Try.func85, Try.ntmps85
    go_wp2_with (first | (go_at_call 35; refine (hr _).mono ?_; rintro e w' ⟨rfl, rfl⟩) | (go_at_call 57; refine (hc _).mono ?_; rintro e w' ⟨rfl, rfl⟩))
    go_ret
    exact ⟨rfl, rfl⟩

theorem below9_any (a b : Int) (w : World) :
    Calls Try.prog 76 #[.int .i64 a, .int .i64 b] w fun e w' => e = .returned (.bool (decide (0 ≤ a ∧ a < b))) ∧ w' = w := by
  by_cases h1 : 0 ≤ a
  · by_cases h2 : a < b
    · have d1 : decide (0 ≤ a) = true := by simpa using h1
      have d2 : decide (a < b) = true := by simpa using h2
      have dd : decide (0 ≤ a ∧ a < b) = true := by simp [h1, h2]
      rw [dd]
      go_enter Try.func76, Try.ntmps76
      go_wp2
      go_ret
      exact ⟨rfl, rfl⟩
    · have d1 : decide (0 ≤ a) = true := by simpa using h1
      have d2 : decide (a < b) = false := by simpa using h2
      have dd : decide (0 ≤ a ∧ a < b) = false := by simp [h2]
      rw [dd]
      go_enter Try.func76, Try.ntmps76
      go_wp2
      go_ret
      exact ⟨rfl, rfl⟩
  · have d1 : decide (0 ≤ a) = false := by simpa using h1
    have dd : decide (0 ≤ a ∧ a < b) = false := by simp [h1]
    rw [dd]
    go_enter Try.func76, Try.ntmps76
    go_wp2
    go_ret
    exact ⟨rfl, rfl⟩
theorem below9_yes (a b : Int) (h : 0 ≤ a ∧ a < b) (w : World) :
    Calls Try.prog 76 #[.int .i64 a, .int .i64 b] w fun e w' => e = .returned (.bool true) ∧ w' = w := by
  have := below9_any a b w
  rwa [show decide (0 ≤ a ∧ a < b) = true by simpa using h] at this
theorem below9_no (a b : Int) (h : ¬ (0 ≤ a ∧ a < b)) (w : World) :
    Calls Try.prog 76 #[.int .i64 a, .int .i64 b] w fun e w' => e = .returned (.bool false) ∧ w' = w := by
  have := below9_any a b w
  rwa [show decide (0 ≤ a ∧ a < b) = false by simpa using h] at this

theorem placeOf9_any {m n k : Int} (h : Md m n k) (x c : Int) (hx : 0 ≤ x ∧ x ≤ 100) (hc : 0 ≤ c ∧ c ≤ 100) (w : World) :
    Calls Try.prog 86 #[.int .i64 m, .int .i64 x, .int .i64 c] w fun e w' => e = .returned (.int .i64 (x * n + c)) ∧ w' = w := by
  have hcc := countChips_any h
  obtain ⟨h1, h2⟩ := hx
  obtain ⟨h3, h4⟩ := hc
  rcases h with ⟨rfl, rfl, rfl⟩ | ⟨rfl, rfl, rfl⟩ | ⟨h5, h6, rfl, rfl⟩
  · skip
    go_enter Try.func86, Try.ntmps86
    go_wp2_with (go_at_call 57; refine (hcc _).mono ?_; rintro e w' ⟨rfl, rfl⟩)
    go_ret
    exact ⟨rfl, rfl⟩
  · skip
    go_enter Try.func86, Try.ntmps86
    go_wp2_with (go_at_call 57; refine (hcc _).mono ?_; rintro e w' ⟨rfl, rfl⟩)
    go_ret
    exact ⟨rfl, rfl⟩
  · skip
    go_enter Try.func86, Try.ntmps86
    go_wp2_with (go_at_call 57; refine (hcc _).mono ?_; rintro e w' ⟨rfl, rfl⟩)
    go_ret
    exact ⟨by first | rfl | simp, rfl⟩
end Go.Proofs.Ytcpjmfemgdgplaa

/-
  Choose: which arguments it answers; the iterator that it makes; the document's example.
-/
namespace Go.Proofs.Ytcpjmfemgdgplaa
open Go.RowKit Go.Shelf
open Bm (wt wtK)
attribute [local go_sem] Oper.semAt_some

/-- what a round may hand back, its answer left open -/
theorem yields {e : Ending} {A B : Prop} (h : (e = .returned (.bool true) ∧ A) ∨ (e = .returned (.bool false) ∧ B)) : ∃ r : Bool, e = .returned (.bool r) ∧ Hid ((r = true ∧ A) ∨ (r = false ∧ B)) := by
  rcases h with ⟨rfl, h⟩ | ⟨rfl, h⟩
  · exact ⟨true, rfl, .inl ⟨rfl, h⟩⟩
  · exact ⟨false, rfl, .inr ⟨rfl, h⟩⟩



end Go.Proofs.Ytcpjmfemgdgplaa

/-
  Choose: which arguments it answers, and what it hands back.
-/
namespace Go.Proofs.Ytcpjmfemgdgplaa
open Go.RowKit Go.Shelf
open Bm (wt wtK)
attribute [local go_sem] Oper.semAt_some



end Go.Proofs.Ytcpjmfemgdgplaa

/-
  The document's example, which every statement of layer 3 holds the program against first.
-/
namespace Go.Proofs.Ytcpjmfemgdgplaa
open Go.RowKit Go.Shelf
open Bm (wt wtK cntW)
attribute [local go_sem] Oper.semAt_some

/-- four variables' boxes, laid one by one -/
theorem four_boxes (w : World) (t0 t1 t2 t3 : TypeId) (v0 v1 v2 v3 : Value) (V : World) (h : (((w.alloc (.cells #[v0] t0)).alloc (.cells #[v1] t1)).alloc (.cells #[v2] t2)).alloc (.cells #[v3] t3) = V) :
    V.heap.size = w.heap.size + 4 ∧ Box V w.heap.size v0 ∧ Box V (w.heap.size + 1) v1 ∧ Box V (w.heap.size + 1 + 1) v2 ∧ Box V (w.heap.size + 1 + 1 + 1) v3 ∧ Below w.heap.size w V := by
  have a0 := Box.new w t0 v0
  have a1 := Box.new (w.alloc (.cells #[v0] t0)) t1 v1
  have a2 := Box.new ((w.alloc (.cells #[v0] t0)).alloc (.cells #[v1] t1)) t2 v2
  have a3 := Box.new (((w.alloc (.cells #[v0] t0)).alloc (.cells #[v1] t1)).alloc (.cells #[v2] t2)) t3 v3
  simp only [World.size_alloc] at a1 a2 a3
  rw [← h]
  exact ⟨by simp, ((a0.alloc _).alloc _).alloc _, (a1.alloc _).alloc _, a2.alloc _, a3, ((((Below.refl _ w).alloc (Nat.le_refl _) _).alloc (by simp) _).alloc (by simp; omega) _).alloc (by simp; omega) _⟩

end Go.Proofs.Ytcpjmfemgdgplaa

/-
  What is left of a word when its lowest ones are taken, one by one.
-/
namespace Go.Proofs.Ytcpjmfemgdgplaa.Bm
open Go Go.RowKit

/-- v without its lowest q bits -/
def lef (v q : Nat) : Nat := v / 2 ^ q * 2 ^ q
theorem lef_zero (v : Nat) : lef v 0 = v := by simp [lef]
theorem lef_div (v q r : Nat) (h : q ≤ r) : lef v q / 2 ^ r = v / 2 ^ r := by
  obtain ⟨d, rfl⟩ : ∃ d, r = q + d := ⟨r - q, by omega⟩
  unfold lef
  rw [Nat.pow_add, ← Nat.div_div_eq_div_mul, Nat.mul_div_cancel _ (Nat.two_pow_pos q), Nat.div_div_eq_div_mul]
theorem lef_le (v q : Nat) : lef v q ≤ v := Nat.div_mul_le_self v _
theorem lef_nil (v q r : Nat) (h : lef v q = 0) (hr : q ≤ r) : ¬ v / 2 ^ r % 2 = 1 := by
  rw [← lef_div v q r hr, h]; simp
theorem and_pred (p m : Nat) : (2 ^ p * (2 * m + 1)) &&& (2 ^ p * (2 * m + 1) - 1) = m * 2 ^ (p + 1) := by
  have hp := Nat.two_pow_pos p
  have e1 : 2 ^ p * (2 * m + 1) = 2 ^ (p + 1) * m + 2 ^ p := by rw [Nat.mul_add, Nat.mul_one, ← Nat.mul_assoc, ← Nat.pow_succ]
  have e2 : 2 ^ p * (2 * m + 1) - 1 = 2 ^ (p + 1) * m + (2 ^ p - 1) := by rw [e1]; omega
  have hq : 2 ^ p < 2 ^ (p + 1) := by rw [Nat.pow_succ]; omega
  rw [e2, e1]
  have d1 : (2 ^ (p + 1) * m + 2 ^ p) / 2 ^ (p + 1) = m := by rw [Nat.mul_add_div (Nat.two_pow_pos _), Nat.div_eq_of_lt hq]; omega
  have d2 : (2 ^ (p + 1) * m + (2 ^ p - 1)) / 2 ^ (p + 1) = m := by rw [Nat.mul_add_div (Nat.two_pow_pos _), Nat.div_eq_of_lt (by omega)]; omega
  have m1 : (2 ^ (p + 1) * m + 2 ^ p) % 2 ^ (p + 1) = 2 ^ p := by rw [Nat.mul_add_mod, Nat.mod_eq_of_lt hq]
  have m2 : (2 ^ (p + 1) * m + (2 ^ p - 1)) % 2 ^ (p + 1) = 2 ^ p - 1 := by rw [Nat.mul_add_mod, Nat.mod_eq_of_lt (by omega)]
  have h1 : ((2 ^ (p + 1) * m + 2 ^ p) &&& (2 ^ (p + 1) * m + (2 ^ p - 1))) / 2 ^ (p + 1) = m := by rw [Nat.and_div_two_pow, d1, d2, Nat.and_self]
  have h2 : ((2 ^ (p + 1) * m + 2 ^ p) &&& (2 ^ (p + 1) * m + (2 ^ p - 1))) % 2 ^ (p + 1) = 0 := by
    rw [Nat.and_mod_two_pow, m1, m2, Nat.and_two_pow_sub_one_eq_mod]; simp
  have := Nat.div_add_mod ((2 ^ (p + 1) * m + 2 ^ p) &&& (2 ^ (p + 1) * m + (2 ^ p - 1))) (2 ^ (p + 1))
  rw [h1, h2] at this
  rw [← this, Nat.mul_comm]; omega
theorem low_facts (K v q : Nat) (hK : K ≤ 64) (hv : v < 2 ^ K) (h : lef v q ≠ 0) : ∃ p, p < K ∧ q ≤ p ∧ Lib.ctz 64 (lef v q) = p ∧ (∀ r, q ≤ r → r < p → ¬ v / 2 ^ r % 2 = 1) ∧ v / 2 ^ p % 2 = 1 ∧ lef v q &&& (lef v q - 1) = lef v (p + 1) := by
  have hlt : lef v q < 2 ^ 64 := Nat.lt_of_le_of_lt (lef_le v q) (Nat.lt_of_lt_of_le hv (Nat.pow_le_pow_right (by decide) hK))
  obtain ⟨m, hm, _⟩ := Lib.ctzFrom_spec 64 (lef v q) (by omega) hlt
  obtain ⟨p, hp⟩ : ∃ p, Lib.ctz 64 (lef v q) = p := ⟨_, rfl⟩
  have hp' : Lib.ctzFrom 64 (lef v q) = p := by rw [← hp]; simp [Lib.ctz, h]
  rw [hp'] at hm
  have pos := Nat.two_pow_pos p
  have dp : lef v q / 2 ^ p = 2 * m + 1 := by rw [hm]; exact Nat.mul_div_cancel_left _ pos
  have hqp : q ≤ p := by
    refine Nat.le_of_not_lt fun hlt2 => ?_
    obtain ⟨d, rfl⟩ : ∃ d, q = p + (d + 1) := ⟨q - p - 1, by omega⟩
    have e : lef v (p + (d + 1)) / 2 ^ p = 2 * (v / 2 ^ (p + (d + 1)) * 2 ^ d) := by
      unfold lef
      generalize v / 2 ^ (p + (d + 1)) = z
      rw [Nat.pow_add, Nat.pow_succ, show z * (2 ^ p * (2 ^ d * 2)) = 2 ^ p * (2 * (z * 2 ^ d)) from by ac_rfl]
      exact Nat.mul_div_cancel_left _ pos
    rw [e] at dp; omega
  have one : v / 2 ^ p % 2 = 1 := by rw [← lef_div v q p hqp, dp]; omega
  have hpK : p < K := by
    refine Nat.lt_of_not_le fun hle => ?_
    have : v / 2 ^ p = 0 := Nat.div_eq_of_lt (Nat.lt_of_lt_of_le hv (Nat.pow_le_pow_right (by decide) hle))
    rw [this] at one; simp at one
  refine ⟨p, hpK, hqp, hp, ?_, one, ?_⟩
  · intro r hr hrp
    rw [← lef_div v q r hr, hm]
    obtain ⟨d, rfl⟩ : ∃ d, p = r + (d + 1) := ⟨p - r - 1, by omega⟩
    rw [Nat.pow_add, Nat.mul_assoc, Nat.mul_div_cancel_left _ (Nat.two_pow_pos r), Nat.pow_succ, Nat.mul_comm (2 ^ d) 2, Nat.mul_assoc]
    omega
  · have e : v / 2 ^ (p + 1) = m := by
      rw [← lef_div v q (p + 1) (by omega), Nat.pow_succ, ← Nat.div_div_eq_div_mul, dp]; omega
    rw [show lef v (p + 1) = m * 2 ^ (p + 1) from by unfold lef; rw [e]]
    have := and_pred p m
    rw [← hm] at this
    exact this
/-- the key of the table, of a word's lowest one -/
theorem tz_key (x a : Nat) (hx : x < 18446744073709551616) (hx0 : x ≠ 0) (hlow : x &&& (18446744073709551616 - x) = a) :
    IntKind.u64.wrap (bits .and .u64 (x : Int) (IntKind.u64.wrap (-(x : Int))) * 285870213051353865) / 288230376151711744 = ((a * 285870213051353865 % 18446744073709551616 / 288230376151711744 : Nat) : Int) := by
  have e1 : IntKind.u64.wrap (-(x : Int)) = ((18446744073709551616 - x : Nat) : Int) := by rw [IntKind.wrap_u64]; omega
  rw [e1, u64_and_nat x _ hx (by omega), hlow, IntKind.wrap_u64]
  omega
/-- a cursor goes on over what does not fit -/
theorem skips {J : Nat → World → Prop} {N : Nat} {p : Nat → Prop} (h : ∀ x W, x < N → ¬ p x → J x W → J (x + 1) W) (q r : Nat) (W : World) (hqr : q ≤ r) (hr : r ≤ N) (hp : ∀ x, q ≤ x → x < r → ¬ p x) (hJ : J q W) : J r W := by
  induction r with
  | zero => rw [show (0 : Nat) = q from by omega]; exact hJ
  | succ r ih =>
    by_cases e : q = r + 1
    · rw [← e]; exact hJ
    · exact h r W (by omega) (hp r (by omega) (by omega)) (ih (by omega) (by omega) (fun x h1 h2 => hp x h1 (by omega)))
end Go.Proofs.Ytcpjmfemgdgplaa.Bm

/-
  The table of math/bits that the program reads (deBruijn64tab), out of the row's condition on what the variable holds when the call begins.
-/
namespace Go.Proofs.Ytcpjmfemgdgplaa
open Go.ChangeShapes Go.WideShapes Go.ChangeAt Go.WideElems Go.RowKit

end Go.Proofs.Ytcpjmfemgdgplaa

/-
  Ones: the lowest one of a word, by math/bits' table; the iterator that tells the ones of a word; the document's bit.
-/
namespace Go.Proofs.Ytcpjmfemgdgplaa
open Go.RowKit Go.Shelf
open Bm (wt wtK lef)
attribute [local go_sem] Oper.semAt_some



end Go.Proofs.Ytcpjmfemgdgplaa

/-
  Variables' boxes, laid one by one; the builtins min and max of two.
-/
namespace Go.Proofs.Ytcpjmfemgdgplaa
open Go.RowKit

theorem box2 (w : World) (t0 t1 : TypeId) (v0 v1 : Value) (V : World) (h : (w.alloc (.cells #[v0] t0)).alloc (.cells #[v1] t1) = V) :
    V.heap.size = w.heap.size + 2 ∧ Box V w.heap.size v0 ∧ Box V (w.heap.size + 1) v1 ∧ Stay w.heap.size w V := by
  have a0 := Box.new w t0 v0
  have a1 := Box.new (w.alloc (.cells #[v0] t0)) t1 v1
  simp only [World.size_alloc] at a1
  rw [← h]
  exact ⟨by simp, a0.alloc _, a1, (Stay.alloc _ w _ (Nat.le_refl _)).trans (Stay.alloc _ _ _ (by simp))⟩
theorem box3 (w : World) (t0 t1 t2 : TypeId) (v0 v1 v2 : Value) (V : World) (h : ((w.alloc (.cells #[v0] t0)).alloc (.cells #[v1] t1)).alloc (.cells #[v2] t2) = V) :
    V.heap.size = w.heap.size + 3 ∧ Box V w.heap.size v0 ∧ Box V (w.heap.size + 1) v1 ∧ Box V (w.heap.size + 1 + 1) v2 ∧ Stay w.heap.size w V := by
  have a0 := Box.new w t0 v0
  have a1 := Box.new (w.alloc (.cells #[v0] t0)) t1 v1
  have a2 := Box.new ((w.alloc (.cells #[v0] t0)).alloc (.cells #[v1] t1)) t2 v2
  simp only [World.size_alloc] at a1 a2
  rw [← h]
  exact ⟨by simp, (a0.alloc _).alloc _, a1.alloc _, a2, ((Stay.alloc _ w _ (Nat.le_refl _)).trans (Stay.alloc _ _ _ (by simp))).trans (Stay.alloc _ _ _ (by simp; omega))⟩
theorem min_run (a b c : Int) (h : min a b = c) {P : Program} (ts : Array TypeId) (t : TypeId) (w : World) : (Builtin.min_ ts t #[.int .i64 a, .int .i64 b]).run P w = .ok (.int .i64 c) w := by
  have e : (if b < a then b else a) = c := by split <;> omega
  rw [← e]
  simp [Builtin.min_, Builtin.min2]
theorem max_run (a b c : Int) (h : max a b = c) {P : Program} (ts : Array TypeId) (t : TypeId) (w : World) : (Builtin.max_ ts t #[.int .i64 a, .int .i64 b]).run P w = .ok (.int .i64 c) w := by
  have e : (if a < b then b else a) = c := by split <;> omega
  rw [← e]
  simp [Builtin.max_, Builtin.max2]
theorem Box.stayed {B : Nat} {W W' : World} {b : Nat} {v : Value} (h : Box W b v) (k : Stay B W W') : Box W' b v := Box.stay k h
end Go.Proofs.Ytcpjmfemgdgplaa

/-
  Slices of bytes as the walks see them: an address, and the list of what lies there.
-/
namespace Go.Proofs.Ytcpjmfemgdgplaa
open Go.RowKit

/-- what the walk is told of a slice of integers that came in (as the row's frame has it) -/
def IsRow (k : IntKind) (w : World) (a : Option Addr) (len cap : Nat) (zs : List Int) : Prop :=
  (a = none ∧ len = 0 ∧ cap = 0 ∧ zs = []) ∨
  ∃ x, a = some x ∧ len ≤ cap ∧ cap ≤ maxLen ∧ zs.length = cap ∧ (∀ i, i < zs.length → w.cell? (x.add i) = some (.int k (zs.getD i 0))) ∧ ∀ n ∈ zs, (Lit.int k n).wf = true

/-- a list of bytes lies at an address (an empty one anywhere) -/
def SlAt (w : World) (a : Option Addr) (l : List Int) : Prop :=
  (l = [] ∨ ∃ b off, a = some ⟨b, off, none⟩ ∧ b < w.heap.size ∧ ∀ i, i < l.length → w.cell? ⟨b, off + i, none⟩ = some (.int .u8 (l[i]?.getD 0)))
/-- each is a byte -/
def Byt (l : List Int) : Prop := ∀ i, i < l.length → 0 ≤ l[i]?.getD 0 ∧ l[i]?.getD 0 < 256
theorem SlAt.kept {w w' : World} {a : Option Addr} {l : List Int} (h : SlAt w a l) (hs : w.heap.size ≤ w'.heap.size) (hc : ∀ b o, b < w.heap.size → w'.cell? ⟨b, o, none⟩ = w.cell? ⟨b, o, none⟩) : SlAt w' a l := by
  rcases h with h | ⟨b, off, ha, hb, hl⟩
  · exact .inl h
  · exact .inr ⟨b, off, ha, by omega, fun i hi => (hc b _ hb).trans (hl i hi)⟩
theorem SlAt.drewN {w : World} {a : Option Addr} {l : List Int} (h : SlAt w a l) (k : Nat) : SlAt (w.drewN k) a l := h.kept (Nat.le_refl _) (fun _ _ _ => rfl)
theorem SlAt.alloc {w : World} {a : Option Addr} {l : List Int} (h : SlAt w a l) (o : Obj) : SlAt (w.alloc o) a l :=
  h.kept (by simp) (fun b o' hb => World.cell?_alloc_past _ _ _ hb)
theorem SlAt.below {w w' : World} {a : Option Addr} {l : List Int} (h : SlAt w a l) (hb : Below w.heap.size w w') : SlAt w' a l :=
  h.kept hb.size (fun b o hlt => hb.cell (p := ⟨b, o, none⟩) hlt)
theorem cell_lt {w : World} {a : Addr} {v : Value} (h : w.cell? a = some v) : a.block < w.heap.size := by
  by_cases hb : a.block < w.heap.size
  · exact hb
  · have : w.heap[a.block]? = none := Array.getElem?_eq_none (by omega)
    simp [World.cell?, this] at h
theorem IsRow.slAt {w : World} {a : Option Addr} {len cap : Nat} {zs : List Int} (h : IsRow .u8 w a len cap zs) :
    SlAt w a (zs.take len) ∧ Byt (zs.take len) ∧ (zs.take len).length = len ∧ len ≤ cap ∧ len ≤ maxLen := by
  rcases h with ⟨rfl, rfl, rfl, rfl⟩ | ⟨x, rfl, hl, hm, hz, hcell, hwz⟩
  · exact ⟨.inl rfl, fun i hi => by simp at hi, rfl, Nat.le_refl _, Nat.zero_le _⟩
  · have hlen : (zs.take len).length = len := by simp; omega
    refine ⟨?_, ?_, hlen, hl, by omega⟩
    · by_cases h0 : len = 0
      · subst h0; exact .inl rfl
      · right
        obtain ⟨b, off, spot⟩ := x
        have hc := hcell 0 (by omega)
        have hspot : spot = none := by simpa [Addr.add] using World.cell?_spot hc
        subst hspot
        refine ⟨b, off, rfl, by have := cell_lt hc; simpa [Addr.add] using this, fun i hi => ?_⟩
        rw [hlen] at hi
        have := hcell i (by omega)
        simp only [Addr.add, List.getD_eq_getElem?_getD] at this
        rw [List.getElem?_take_of_lt hi]
        by_cases h00 : i = 0
        · subst h00; simpa using this
        · rw [if_neg h00] at this; exact this
    · intro i hi
      rw [hlen] at hi
      rw [List.getElem?_take_of_lt hi]
      have := range_u8 hwz i
      omega

end Go.Proofs.Ytcpjmfemgdgplaa

/-
  Bits of bytes: has, Get, Differ, and the document's Get and Differ.
-/
namespace Go.Proofs.Ytcpjmfemgdgplaa
open Go.RowKit Go.Shelf
open Bm (wt wtK lef)

/-- a slice of n bytes, with room for c, holds F (which is 0 past its end) -/
structure Sl (w : World) (a : Option Addr) (n c : Nat) (F : Nat → Nat) : Prop where
  cells : 0 < n → ∃ b o, a = some ⟨b, o, none⟩ ∧ ∀ j, j < n → w.cell? ⟨b, o + j, none⟩ = some (.int .u8 (F j : Int))
  byt : ∀ j, F j < 256
  past : ∀ j, n ≤ j → F j = 0
  cap : n ≤ c
  nil : a = none → c = 0
theorem Sl.kept {w w' : World} {a : Option Addr} {n c : Nat} {F : Nat → Nat} (h : Sl w a n c F) (k : ∀ b o, a = some ⟨b, o, none⟩ → 0 < n → w'.heap[b]? = w.heap[b]?) : Sl w' a n c F :=
  ⟨fun hn => by
    obtain ⟨b, o, e, hc⟩ := h.cells hn
    exact ⟨b, o, e, fun j hj => (World.cell?_of_block (w := w) (a := ⟨b, o + j, none⟩) (k b o e hn)).trans (hc j hj)⟩, h.byt, h.past, h.cap, h.nil⟩
theorem Sl.lt {w : World} {a : Option Addr} {n c : Nat} {F : Nat → Nat} (h : Sl w a n c F) (b o : Nat) (e : a = some ⟨b, o, none⟩) (hn : 0 < n) : b < w.heap.size := by
  obtain ⟨b', o', e', hc⟩ := h.cells hn
  rw [e] at e'
  cases e'
  exact cell_lt (hc 0 hn)
theorem Sl.below {C : Nat} {w w' : World} {a : Option Addr} {n c : Nat} {F : Nat → Nat} (h : Sl w a n c F) (k : Below C w w') (hC : w.heap.size ≤ C) : Sl w' a n c F :=
  h.kept fun b o e hn => k.block b (by have := h.lt b o e hn; omega)
theorem Sl.stay {C : Nat} {w w' : World} {a : Option Addr} {n c : Nat} {F : Nat → Nat} (h : Sl w a n c F) (k : Stay C w w') : Sl w' a n c F :=
  ⟨fun hn => by
    obtain ⟨b, o, e, hc⟩ := h.cells hn
    exact ⟨b, o, e, fun j hj => k.cell (hc j hj)⟩, h.byt, h.past, h.cap, h.nil⟩
theorem Sl.drewN {w : World} {a : Option Addr} {n c : Nat} {F : Nat → Nat} (h : Sl w a n c F) (k : Nat) : Sl (w.drewN k) a n c F := h.kept fun _ _ _ _ => rfl
theorem Sl.set {w : World} {a : Option Addr} {n c d : Nat} {F : Nat → Nat} (h : Sl w a n c F) (u : Value) (k : ∀ b o, a = some ⟨b, o, none⟩ → 0 < n → b ≠ d) : Sl (w.setCell ⟨d, 0, none⟩ u) a n c F :=
  h.kept fun b o e hn => Below.heap_setCell w _ u b (k b o e hn)
/-- the first m of them -/
def cut (m : Nat) (F : Nat → Nat) (j : Nat) : Nat := if j < m then F j else 0
theorem Sl.take {w : World} {a : Option Addr} {n c : Nat} {F : Nat → Nat} (h : Sl w a n c F) (m : Nat) (hm : m ≤ n) : Sl w a m c (cut m F) :=
  ⟨fun h0 => by
    obtain ⟨b, o, e, hc⟩ := h.cells (by omega)
    exact ⟨b, o, e, fun j hj => by rw [hc j (by omega)]; simp [cut, hj]⟩,
   fun j => by unfold cut; split; exact h.byt j; decide, fun j hj => by unfold cut; rw [if_neg (by omega)], by have := h.cap; omega, h.nil⟩
/-- what the row's frame tells of a slice -/
theorem IsRow.slice {w : World} {a : Option Addr} {n c : Nat} {zs : List Int} (h : IsRow .u8 w a n c zs) : ∃ F, Sl w a n c F ∧ (n : Int) ≤ 9223372036854775807 ∧ c ≤ maxLen := by
  obtain ⟨sa, ba, ea, ca, ma⟩ := h.slAt
  have hby : ∀ j : Nat, ((zs.take n)[j]?.getD 0).toNat < 256 := fun j => by
    by_cases hj : j < (zs.take n).length
    · have := ba j hj; omega
    · rw [List.getElem?_eq_none (by omega)]; decide
  refine ⟨fun j => ((zs.take n)[j]?.getD 0).toNat, ⟨?_, hby, ?_, ca, ?_⟩, by unfold maxLen at ma; omega, ?_⟩
  · intro hn
    rcases sa with sa | ⟨b, o, e, _, hc⟩
    · rw [sa] at ea; simp at ea; omega
    · refine ⟨b, o, e, fun j hj => ?_⟩
      have := ba j (by omega)
      rw [hc j (by omega)]
      congr 2
      omega
  · intro j hj
    simp only [List.getElem?_eq_none (show (zs.take n).length ≤ j by omega)]; rfl
  · intro e
    rcases h with ⟨_, _, hc, _⟩ | ⟨x, hx, _⟩
    · exact hc
    · rw [e] at hx; cases hx
  · rcases h with ⟨_, _, hc, _⟩ | ⟨x, hx, _, hm, _⟩
    · rw [hc]; unfold maxLen; omega
    · exact hm

/-- the bit i of F -/
def gb (F : Nat → Nat) (i : Nat) : Nat := F (i / 8) / 2 ^ (i % 8) % 2
theorem gb_le (F : Nat → Nat) (i : Nat) : gb F i ≤ 1 := by unfold gb; omega
/-- how many of the first k bits are unlike -/
def dif (F G : Nat → Nat) : Nat → Nat
  | 0 => 0
  | k + 1 => dif F G k + (if gb F k = gb G k then 0 else 1)
theorem dif_le (F G : Nat → Nat) (k : Nat) : dif F G k ≤ k := by
  induction k with
  | zero => simp [dif]
  | succ k ih => simp only [dif]; split <;> omega
theorem dif_yes (F G : Nat → Nat) (k : Nat) (h : ¬ gb F k = gb G k) : dif F G (k + 1) = dif F G k + 1 := by simp [dif, h]
theorem dif_no (F G : Nat → Nat) (k : Nat) (h : gb F k = gb G k) : dif F G (k + 1) = dif F G k := by simp [dif, h]
theorem dif_congr (F G F' G' : Nat → Nat) (k : Nat) (h : ∀ i, i < k → (gb F i = gb G i ↔ gb F' i = gb G' i)) : dif F G k = dif F' G' k := by
  induction k with
  | zero => rfl
  | succ k ih =>
    simp only [dif, ih fun i hi => h i (by omega)]
    have := h k (by omega)
    by_cases e : gb F k = gb G k
    · rw [if_pos e, if_pos (this.1 e)]
    · rw [if_neg e, if_neg fun h' => e (this.2 h')]
theorem xor_bit (x y r : Nat) : (x ^^^ y) / 2 ^ r % 2 = if x / 2 ^ r % 2 = y / 2 ^ r % 2 then 0 else 1 := by
  rw [Nat.xor_div_two_pow]
  have e := Nat.xor_mod_two_pow (a := x / 2 ^ r) (b := y / 2 ^ r) (n := 1)
  simp only [Nat.pow_one] at e
  rw [e]
  rcases Nat.mod_two_eq_zero_or_one (x / 2 ^ r) with h1 | h1 <;> rcases Nat.mod_two_eq_zero_or_one (y / 2 ^ r) with h2 | h2 <;> rw [h1, h2] <;> rfl
theorem dif_part (F G : Nat → Nat) (j r : Nat) (hr : r ≤ 8) : dif F G (8 * j + r) = dif F G (8 * j) + wtK r (F j ^^^ G j) := by
  induction r with
  | zero => simp [wtK]
  | succ r ih =>
    rw [Bm.wtK_succ_hi, xor_bit, ← Nat.add_assoc, dif, ih (by omega)]
    have e : ∀ H : Nat → Nat, gb H (8 * j + r) = H j / 2 ^ r % 2 := fun H => by unfold gb; rw [show (8 * j + r) / 8 = j from by omega, show (8 * j + r) % 8 = r from by omega]
    rw [e F, e G]; omega
theorem dif_byte (F G : Nat → Nat) (j : Nat) (hF : F j < 256) (hG : G j < 256) : dif F G (8 * (j + 1)) = dif F G (8 * j) + wt (F j ^^^ G j) := by
  rw [show 8 * (j + 1) = 8 * j + 8 from by omega, dif_part F G j 8 (Nat.le_refl _), Bm.wtK_wt 8 _ (by decide) (Nat.xor_lt_two_pow (n := 8) hF hG)]

/-! ### has, Get -/
theorem has_yes (a : Option Addr) (n c : Nat) (i : Int) (h0 : 0 ≤ i) (h1 : i < 8 * n) (hn : (n : Int) ≤ 1000) (w : World) :
    Calls Try.prog 80 #[.slice a n c, .int .i64 i] w fun e w' => e = .returned (.bool true) ∧ w' = w := by
  have e : i.tdiv 8 = i / 8 := Int.tdiv_eq_ediv_of_nonneg h0
  have d : decide (i / 8 < (n : Int)) = true := by simp; omega
  go_enter Try.func80, Try.ntmps80
  go_wp2_with (simp only [e])
  go_ret
  exact ⟨rfl, rfl⟩
theorem has_no (a : Option Addr) (n c : Nat) (i : Int) (h : i < 0 ∨ 8 * n ≤ i) (hi : i ≤ 9223372036854775807) (hn : (n : Int) ≤ 1000) (w : World) :
    Calls Try.prog 80 #[.slice a n c, .int .i64 i] w fun e w' => e = .returned (.bool false) ∧ w' = w := by
  by_cases h0 : 0 ≤ i
  · have e : i.tdiv 8 = i / 8 := Int.tdiv_eq_ediv_of_nonneg h0
    have d : decide (i / 8 < (n : Int)) = false := by simp; omega
    have d2 : ¬ i / 8 < (n : Int) := by omega
    clear h
    go_enter Try.func80, Try.ntmps80
    go_wp2_with (simp only [e])
    go_ret
    exact ⟨rfl, rfl⟩
  · have d : decide (0 ≤ i) = false := by simp; omega
    clear h
    go_enter Try.func80, Try.ntmps80
    go_wp2
    go_ret
    exact ⟨rfl, rfl⟩

theorem and1 (x r : Nat) (hx : x < 256) : bits .and .u8 ((x : Int) / 2 ^ r) 1 = ((x / 2 ^ r % 2 : Nat) : Int) := by
  have e : (x : Int) / 2 ^ r = ((x / 2 ^ r : Nat) : Int) := by simp
  have l := Nat.div_le_self x (2 ^ r)
  rw [e]
  exact (u8_and_nat (x / 2 ^ r) 1 (by omega) (by decide)).trans (by rw [nat_mask1])
theorem gb_past (F : Nat → Nat) (n i : Nat) (h : ∀ j, n ≤ j → F j = 0) (hi : 8 * n ≤ i) : gb F i = 0 := by unfold gb; rw [h (i / 8) (by omega)]; simp
set_option maxHeartbeats 1000000 in
theorem get_yes (a : Option Addr) (n c : Nat) (F : Nat → Nat) (i : Nat) (hi : i < 8 * n) (hn : n ≤ 1000) (w : World) (hs : Sl w a n c F) :
    Calls Try.prog 77 #[.slice a n c, .int .i64 (i : Int)] w fun e w' => e = .returned (.int .i64 (gb F i : Int)) ∧ w' = w := by
  obtain ⟨b, o, rfl, hc⟩ := hs.cells (by omega)
  have hcell := hc (i / 8) (by omega)
  have hx := hs.byt (i / 8)
  obtain ⟨x, Hx⟩ : ∃ x, Hid (F (i / 8) = x) := ⟨_, rfl⟩
  obtain ⟨g, hg, Hg⟩ : ∃ g, g ≤ 1 ∧ Hid (gb F i = g) := ⟨_, gb_le F i, rfl⟩
  obtain ⟨j, hj, Hj⟩ : ∃ j, j < n ∧ Hid (i / 8 = j) := ⟨_, by omega, rfl⟩
  obtain ⟨r, hr, Hr⟩ : ∃ r, r < 8 ∧ Hid (i % 8 = r) := ⟨_, by omega, rfl⟩
  rw [Hx.out] at hcell hx
  rw [Hg.out]
  have hand : bits .and .u8 ((x : Int) / 2 ^ r) 1 = (g : Int) := by rw [and1 x r hx, ← Hg.out, ← Hr.out, ← Hx.out]; rfl
  rw [Hj.out] at hcell
  have e1 : (i : Int).tdiv 8 = (j : Int) := by rw [Int.tdiv_eq_ediv_of_nonneg (by omega)]; have := Hj.out; omega
  have e2 : (i : Int).tmod 8 = (r : Int) := by rw [Int.tmod_eq_emod_of_nonneg (by omega)]; have := Hr.out; omega
  have e1' : (i : Int) / 8 = (j : Int) := by have := Hj.out; omega
  have e2' : (i : Int) % 8 = (r : Int) := by have := Hr.out; omega
  clear hc hs
  go_enter Try.func77, Try.ntmps77
  go_wp2_with (go_at_call 80; refine (has_yes _ _ _ _ (by omega) (by omega) (by omega) _).mono ?_; rintro e w' ⟨rfl, rfl⟩)
  go_ret
  exact ⟨rfl, rfl⟩
theorem get_no (a : Option Addr) (n c : Nat) (i : Int) (h : i < 0 ∨ 8 * n ≤ i) (hi : i ≤ 9223372036854775807) (hn : n ≤ 1000) (w : World) :
    Calls Try.prog 77 #[.slice a n c, .int .i64 i] w fun e w' => e = .returned (.int .i64 0) ∧ w' = w := by
  have H : Hid (i < 0 ∨ 8 * (n : Int) ≤ i) := h
  clear h
  go_enter Try.func77, Try.ntmps77
  go_wp2_with (go_at_call 80; refine (has_no _ _ _ _ H.out hi (by omega) _).mono ?_; rintro e w' ⟨rfl, rfl⟩)
  go_ret
  exact ⟨rfl, rfl⟩

/-! ### the document's Get and Differ -/
end Go.Proofs.Ytcpjmfemgdgplaa

/-
  Differ, Clone, Flip.
-/
namespace Go.Proofs.Ytcpjmfemgdgplaa
open Go.RowKit Go.Shelf
open Bm (wt wtK lef)

theorem u8_info : (Try.prog.info? 5).map (fun i => (i.zero, i.size, i.bytes)) = some (some (.int .u8 0), 1, 1) := by kernel_rfl
theorem u8_parts : ∃ i, Try.prog.info? 5 = some i ∧ i.zero = some (.int .u8 0) ∧ i.size = 1 ∧ i.bytes = 1 := by
  obtain ⟨i, hi, h⟩ := Option.map_eq_some_iff.1 u8_info
  simp only [Prod.mk.injEq] at h
  exact ⟨i, hi, h.1, h.2.1, h.2.2⟩

/-- a slice of n bytes in new memory -/
structure NewSl (w w' : World) (a : Option Addr) (n c : Nat) (F : Nat → Nat) : Prop where
  sl : Sl w' a n c F
  below : Below w.heap.size w w'
  fresh : 0 < n → ∃ g, a = some ⟨g, 0, none⟩ ∧ w.heap.size ≤ g ∧ ∀ o, w'.frozen? ⟨g, o, none⟩ = false
/-- what append lays, as bytes -/
theorem owned_bytes {w : World} {base n : Nat} {v : Value} {F : Nat → Nat} (hb : ∀ j, F j < 256) (hp : ∀ j, n ≤ j → F j = 0) (hv : v ≠ .slice none 0 0) (h : w.ownsRow base 5 1 v n ((List.range n).map fun j => .int .u8 (F j : Int))) :
    ∃ g c, v = .slice (some ⟨g, 0, none⟩) n c ∧ base ≤ g ∧ Sl w (some ⟨g, 0, none⟩) n c F ∧ ∀ o, w.frozen? ⟨g, o, none⟩ = false := by
  obtain ⟨h1, ⟨h2, _⟩ | ⟨g, cap, cur, hv', hg, hh, hnc, hcm, hsz, htk⟩⟩ := h
  · exact absurd h2 hv
  · refine ⟨g, cap, hv', hg, ⟨fun _ => ⟨g, 0, rfl, fun j hj => ?_⟩, hb, hp, hnc, fun e => by cases e⟩, fun o => by simp [World.frozen?, hh]⟩
    have e : cur[j]? = ((List.range n).map fun j => Value.int .u8 (F j : Int))[j]? := by
      rw [← htk, List.getElem?_take_of_lt (by omega)]; simp
    rw [Nat.zero_add]
    simp only [World.cell?, hh]
    simp [e, hj]

set_option maxHeartbeats 1000000 in
theorem clone_any (a : Option Addr) (n c : Nat) (F : Nat → Nat) (hn : n ≤ 1000) (w : World) (hs : Sl w a n c F) :
    Calls Try.prog 79 #[.slice a n c] w fun e w' => ∃ a' c', e = .returned (.slice a' n c') ∧ NewSl w w' a' n c' F := by
  cases a with
  | none =>
    have hc := hs.nil rfl
    have hcap := hs.cap
    obtain rfl : n = 0 := by omega
    obtain rfl : c = 0 := hc
    have hnil : ∀ w, (binOp .eql 105 (.slice none 0 0) (.slice none 0 0)).run Try.prog w = .ok (.bool true) w := fun w => by kernel_rfl
    have H : Hid (Sl w none 0 0 F) := hs
    clear hs hcap
    go_enter Try.func79, Try.ntmps79
    go_wp2
    go_ret
    exact ⟨none, 0, rfl, H.out, Below.refl _ _, fun h => by omega⟩
  | some x =>
    have hnil : ∀ w, (binOp .eql 105 (.slice (some x) n c) (.slice none 0 0)).run Try.prog w = .ok (.bool false) w := fun w => by kernel_rfl
    obtain ⟨i0, hi, hz0, hz1, hz2⟩ := u8_parts
    obtain ⟨news, Hnews⟩ : ∃ news, Hid (news = (List.range n).map fun j => Value.int .u8 (F j : Int)) := ⟨_, rfl⟩
    have HS : Hid (Sl w (some x) n c F) := hs
    clear hs
    go_enter Try.func79, Try.ntmps79
    go_wp2_with (at_builtin; refine wpList_append_own _ rfl _ _ 105 rfl w.heap.size 5 i0 (.int .u8 0) 1 1 Try.underlying105 hi hz0 hz1 hz2 rfl (by decide) _ 0 [] rfl ⟨rfl, .inr ⟨w.heap.size, 0, #[], rfl, Nat.le_refl _, World.alloc_heap_new w _, Nat.le_refl _, Nat.zero_le _, rfl, rfl⟩⟩ x n c news rfl ?c0 ?c1 ?c2 ?c3 ?c4 ?c5 ?_)
    case c0 => rw [Hnews.out]; simp
    case c1 =>
      intro j u hj
      rw [Hnews.out] at hj
      have hjn : j < n := by have := (List.getElem?_eq_some_iff.1 hj).1; simpa using this
      obtain ⟨b, o, e, hc⟩ := HS.out.cells (by omega)
      cases e
      simp [hjn] at hj
      rw [← hj]
      have hb : b < w.heap.size := HS.out.lt b o rfl (by omega)
      have := (World.cell?_of_block (w := w) (a := ⟨b, o + j, none⟩) (Below.heap_alloc w (.cells #[] 5) b hb)).trans (hc j hjn)
      rw [← this]
      unfold Addr.add
      split
      · rename_i h; simp [h]
      · rfl
    case c2 => intro u hu; rw [Hnews.out] at hu; obtain ⟨y, _, rfl⟩ := List.mem_map.1 hu; rfl
    case c3 => unfold maxLen; omega
    case c4 => omega
    case c5 => simp
    intro v' w1 hown hgrow hiff
    have hB : Below w.heap.size w w1 := by
      have h0 : Below w.heap.size w (w.alloc (.cells #[] 5)) := (Below.refl _ _).alloc (Nat.le_refl _) _
      exact h0.grown hgrow (by simp) (fun k e => by cases e; exact Nat.le_refl _)
    have hv : v' ≠ .slice none 0 0 := hiff
    rw [Hnews.out] at hown
    obtain ⟨g, c', rfl, hg, hsl, hfz⟩ := owned_bytes HS.out.byt HS.out.past hv (by simpa using hown)
    clear hown hgrow hiff hv
    go_wp2
    go_ret
    exact ⟨some ⟨g, 0, none⟩, c', rfl, hsl, hB, fun _ => ⟨g, rfl, hg, hfz⟩⟩

/-- F with the bit i turned -/
def flp (F : Nat → Nat) (i : Nat) : Nat → Nat := fun j => if j = i / 8 then F j ^^^ 2 ^ (i % 8) else F j
theorem flp_byt (F : Nat → Nat) (i : Nat) (h : ∀ j, F j < 256) (j : Nat) : flp F i j < 256 := by
  unfold flp
  split
  · refine Nat.xor_lt_two_pow (n := 8) (h j) ?_
    have : 2 ^ (i % 8) ≤ 2 ^ 7 := Nat.pow_le_pow_right (by decide) (by omega)
    omega
  · exact h j
theorem gb_flp (F : Nat → Nat) (i k : Nat) : gb (flp F i) k = if k = i then 1 - gb F k else gb F k := by
  unfold gb flp
  by_cases hb : k / 8 = i / 8
  · rw [if_pos hb, xor_bit]
    by_cases e : k = i
    · subst e
      rw [if_pos rfl, Nat.div_self (Nat.two_pow_pos _)]
      rcases Nat.mod_two_eq_zero_or_one (F (k / 8) / 2 ^ (k % 8)) with h | h <;> rw [h] <;> rfl
    · rw [if_neg e]
      have hr : k % 8 ≠ i % 8 := by omega
      have h0 : 2 ^ (i % 8) / 2 ^ (k % 8) % 2 = 0 := by
        by_cases hlt : i % 8 < k % 8
        · rw [Nat.div_eq_of_lt (Nat.pow_lt_pow_right (by decide) hlt)]
        · obtain ⟨d, hd⟩ : ∃ d, i % 8 = k % 8 + (d + 1) := ⟨i % 8 - k % 8 - 1, by omega⟩
          rw [hd, Nat.pow_add, Nat.mul_div_cancel_left _ (Nat.two_pow_pos _), Nat.pow_succ]; omega
      rw [h0]
      rcases Nat.mod_two_eq_zero_or_one (F (k / 8) / 2 ^ (k % 8)) with h | h <;> rw [h] <;> rfl
  · rw [if_neg hb, if_neg (fun e => hb (by rw [e]))]

set_option maxHeartbeats 2000000 in
theorem flip_yes (a : Option Addr) (n c : Nat) (F : Nat → Nat) (i : Nat) (hi : i < 8 * n) (hn : n ≤ 1000) (w : World) (hs : Sl w a n c F) :
    Calls Try.prog 63 #[.slice a n c, .int .i64 (i : Int)] w fun e w' => ∃ a' c', e = .returned (.slice a' n c') ∧ NewSl w w' a' n c' (flp F i) := by
  obtain ⟨j, hj, Hj⟩ : ∃ j, j < n ∧ Hid (i / 8 = j) := ⟨_, by omega, rfl⟩
  obtain ⟨r, hr, Hr⟩ : ∃ r, r < 8 ∧ Hid (i % 8 = r) := ⟨_, by omega, rfl⟩
  have e1 : (i : Int).tdiv 8 = (j : Int) := by rw [Int.tdiv_eq_ediv_of_nonneg (by omega)]; have := Hj.out; omega
  have e2 : (i : Int).tmod 8 = (r : Int) := by rw [Int.tmod_eq_emod_of_nonneg (by omega)]; have := Hr.out; omega
  have e1' : (i : Int) / 8 = (j : Int) := by have := Hj.out; omega
  have e2' : (i : Int) % 8 = (r : Int) := by have := Hr.out; omega
  obtain ⟨s, hsh, hs7, Hs⟩ : ∃ s : Nat, (2 : Int) ^ r = (s : Int) ∧ s ≤ 128 ∧ Hid (s = 2 ^ r) := ⟨2 ^ r, by simp, by have : 2 ^ r ≤ 2 ^ 7 := Nat.pow_le_pow_right (by decide) (by omega); omega, rfl⟩
  have HS : Hid (Sl w a n c F) := hs
  have hx := hs.byt j
  obtain ⟨x, Hx⟩ : ∃ x, Hid (F j = x) := ⟨_, rfl⟩
  rw [Hx.out] at hx
  obtain ⟨z, hz, rz, Hz⟩ : ∃ z : Nat, bits .xor .u8 (x : Int) (s : Int) = (z : Int) ∧ z < 256 ∧ Hid (x ^^^ s = z) := ⟨_, u8_xor_nat x s hx (by omega), Nat.xor_lt_two_pow (n := 8) hx (by omega), rfl⟩
  clear hs
  go_enter Try.func63, Try.ntmps63
  go_wp2_with fail
  refine (clone_any a n c F hn _ HS.out).mono ?_
  rintro e w1 ⟨a', c', rfl, N⟩
  obtain ⟨g, rfl, hg, hfz⟩ := N.fresh (by omega)
  obtain ⟨g', o', e, hc⟩ := N.sl.cells (by omega)
  cases e
  have hcell := hc j hj
  rw [Hx.out, Nat.zero_add] at hcell
  have hcell2 : w1.drew.cell? ⟨g, j, none⟩ = some (.int .u8 (x : Int)) := hcell
  have hfz1 := hfz j
  have hfz2 : w1.drew.frozen? ⟨g, j, none⟩ = false := hfz1
  have HN : Hid (NewSl w w1 (some ⟨g, 0, none⟩) n c' F) := N
  clear N hc
  go_wp2_with (go_at_call 80; refine (has_yes _ _ _ _ (by omega) (by omega) (by omega) _).mono ?_; rintro e w' ⟨rfl, rfl⟩)
  go_region
  all_goals
    go_wp2
    go_ret
    refine ⟨some ⟨g, 0, none⟩, c', rfl, ⟨fun _ => ⟨g, 0, rfl, fun k hk => ?_⟩, flp_byt F i HN.out.sl.byt, fun k hk => ?_, HN.out.sl.cap, fun e => by cases e⟩, ?_, fun _ => ⟨g, rfl, hg, fun o => ?_⟩⟩
    · rw [Nat.zero_add]
      obtain ⟨g2, o2, e, hc⟩ := HN.out.sl.cells (by omega)
      cases e
      have hck := hc k hk
      rw [Nat.zero_add] at hck
      by_cases ekj : k = j
      · subst ekj
        change (World.setCell _ ⟨g, k, none⟩ _).cell? ⟨g, k, none⟩ = _
        rw [World.cell?_setCell_same' _ _ _ (by rw [hcell]; rfl)]
        have : flp F i k = z := by unfold flp; rw [if_pos Hj.out.symm, Hr.out, ← Hs.out, Hx.out, Hz.out]
        rw [this]
      · have : flp F i k = F k := by unfold flp; rw [if_neg (by rw [Hj.out]; exact ekj)]
        rw [this, ← hck]
        change (World.setCell _ ⟨g, j, none⟩ _).cell? ⟨g, k, none⟩ = _
        have hne : (⟨g, j, none⟩ : Addr) ≠ ⟨g, k, none⟩ := fun e => ekj (by cases e; rfl)
        first | exact World.cell?_setCell_other _ hne | exact World.cell?_setCell_other _ _ hne | exact World.cell?_setCell_other _ _ _ hne | exact World.cell?_setCell_other _ _ _ _ hne
    · have := HN.out.sl.past k hk
      unfold flp; rw [if_neg (by rw [Hj.out]; omega)]; exact this
    · exact (HN.out.below.drew).setCell (p := ⟨g, j, none⟩) hg _
    · change (World.setCell _ _ _).frozen? _ = false
      rw [World.frozen?_setCell]; exact hfz o
set_option maxHeartbeats 1000000 in
theorem flip_no (a : Option Addr) (n c : Nat) (F : Nat → Nat) (i : Int) (h : i < 0 ∨ 8 * n ≤ i) (hi : i ≤ 9223372036854775807) (hn : n ≤ 1000) (w : World) (hs : Sl w a n c F) :
    Calls Try.prog 63 #[.slice a n c, .int .i64 i] w fun e w' => ∃ a' c', e = .returned (.slice a' n c') ∧ NewSl w w' a' n c' F := by
  have H : Hid (i < 0 ∨ 8 * (n : Int) ≤ i) := h
  have HS : Hid (Sl w a n c F) := hs
  clear h hs
  go_enter Try.func63, Try.ntmps63
  go_wp2_with fail
  refine (clone_any a n c F hn _ HS.out).mono ?_
  rintro e w1 ⟨a', c', rfl, N⟩
  have HN : Hid (NewSl w w1 a' n c' F) := N
  clear N
  go_wp2_with (go_at_call 80; refine (has_no _ _ _ _ H.out hi (by omega) _).mono ?_; rintro e w' ⟨rfl, rfl⟩)
  go_ret
  exact ⟨a', c', rfl, HN.out⟩
end Go.Proofs.Ytcpjmfemgdgplaa

/-
  Whose a bit is; how many bits, or bytes, of two words are unlike.
-/
namespace Go.Proofs.Ytcpjmfemgdgplaa
open Go.RowKit
open Bm (wt wtK)
attribute [local go_sem] Oper.semAt_some

theorem whose_no {m n k : Int} (h : Md m n k) (b : Int) (hb : n = 0 ∨ ¬ (0 ≤ b ∧ b < 576)) (w : World) :
    Calls Try.prog 55 #[.int .i64 m, .int .i64 b] w fun e w' => e = .returned (.tuple #[.int .i64 0, .int .i64 0, .int .i64 12]) ∧ w' = w := by
  by_cases h0 : 0 < n
  · have hr := right9_any h
    rw [show decide (0 < n) = true by simpa using h0] at hr
    have hl := below9_no b 576 (by omega)
    go_enter Try.func55, Try.ntmps55
    go_wp2_with (first | (go_at_call 35; refine (hr _).mono ?_; rintro e w' ⟨rfl, rfl⟩) | (go_at_call 76; refine (hl _).mono ?_; rintro e w' ⟨rfl, rfl⟩))
    go_ret3
    exact ⟨rfl, rfl⟩
  · have hr := right9_any h
    rw [show decide (0 < n) = false by simpa using h0] at hr
    go_enter Try.func55, Try.ntmps55
    go_wp2_with (first | (go_at_call 35; refine (hr _).mono ?_; rintro e w' ⟨rfl, rfl⟩))
    go_ret3
    exact ⟨rfl, rfl⟩
theorem whose_yes {m n k : Int} (h : Md m n k) (b : Int) (h0 : 0 < n) (hb0 : 0 ≤ b) (hb : b < 576) (w : World) :
    Calls Try.prog 55 #[.int .i64 m, .int .i64 b] w fun e w' => e = .returned (.tuple #[.int .i64 (b / 8 / n), .int .i64 (b / 8 % n), .int .i64 0]) ∧ ∃ q, w' = w.drewN q := by
  have hr := right9_any h
  have hcc := countChips_any h
  rw [show decide (0 < n) = true by simpa using h0] at hr
  have hl := below9_yes b 576 ⟨hb0, hb⟩
  have e1 : b.tdiv 8 = b / 8 := Int.tdiv_eq_ediv_of_nonneg hb0
  obtain ⟨x, hx, hx1, hx2⟩ : ∃ x, b / 8 = x ∧ 0 ≤ x ∧ x < 72 := ⟨_, rfl, by omega, by omega⟩
  rw [hx] at e1 ⊢
  rcases h with ⟨rfl, rfl, rfl⟩ | ⟨rfl, rfl, rfl⟩ | ⟨_, _, rfl, rfl⟩
  · skip
    have e2 : x.tdiv 9 = x / 9 := Int.tdiv_eq_ediv_of_nonneg hx1
    have e3 : x.tmod 9 = x % 9 := Int.tmod_eq_emod_of_nonneg hx1
    go_enter Try.func55, Try.ntmps55
    go_wp2_with (first | (go_at_call 35; refine (hr _).mono ?_; rintro e w' ⟨rfl, rfl⟩) | (go_at_call 76; refine (hl _).mono ?_; rintro e w' ⟨rfl, rfl⟩))
    go_quiet ((go_at_call 57; exact Calls.quiet_of_same (hcc _)))
    go_wp2
    go_ret3
    exact ⟨rfl, ⟨_, rfl⟩⟩
  · skip
    have e2 : x.tdiv 36 = x / 36 := Int.tdiv_eq_ediv_of_nonneg hx1
    have e3 : x.tmod 36 = x % 36 := Int.tmod_eq_emod_of_nonneg hx1
    go_enter Try.func55, Try.ntmps55
    go_wp2_with (first | (go_at_call 35; refine (hr _).mono ?_; rintro e w' ⟨rfl, rfl⟩) | (go_at_call 76; refine (hl _).mono ?_; rintro e w' ⟨rfl, rfl⟩))
    go_quiet ((go_at_call 57; exact Calls.quiet_of_same (hcc _)))
    go_wp2
    go_ret3
    exact ⟨rfl, ⟨_, rfl⟩⟩
  · omega

/-- n bytes of a block, as functions of Nat -/
def pc (F : Nat → Int) (o n j : Nat) : Nat := if j < n then (F (o + j)).toNat else 0
theorem pc_sl (F : Nat → Int) (w : World) (A o n c : Nat) (hF : Byts 72 F) (h : Bk .u8 w A 72 F) (hn : o + n ≤ 72) (hc : n ≤ c) : Sl w (some ⟨A, o, none⟩) n c (pc F o n) :=
  ⟨fun _ => ⟨A, o, rfl, fun j hj => by
    have := hF (o + j) (by omega)
    rw [h.cell (o + j) (by omega)]
    unfold pc
    rw [if_pos hj]
    congr 2; omega⟩, fun j => by
    unfold pc
    split
    · have := hF (o + j) (by omega); omega
    · decide, fun j hj => by unfold pc; rw [if_neg (by omega)], hc, fun e => by cases e⟩
theorem pc_byt (F : Nat → Int) (o n j : Nat) (hF : Byts 72 F) (hn : o + n ≤ 72) : pc F o n j < 256 := by
  unfold pc
  split
  · have := hF (o + j) (by omega); omega
  · decide
theorem dif_sm (F G : Nat → Int) (o n : Nat) (hF : Byts 72 F) (hG : Byts 72 G) (hn : o + n ≤ 72) : ∀ j, j ≤ n → dif (pc F o n) (pc G o n) (8 * j) = Rw.sm 1 F G o j
  | 0, _ => rfl
  | j + 1, hj => by
    rw [dif_byte _ _ j (pc_byt F o n j hF hn) (pc_byt G o n j hG hn), dif_sm F G o n hF hG hn j (by omega), Rw.sm]
    unfold Rw.dl pc
    rw [if_pos rfl, if_pos (by omega), if_pos (by omega)]

end Go.Proofs.Ytcpjmfemgdgplaa
