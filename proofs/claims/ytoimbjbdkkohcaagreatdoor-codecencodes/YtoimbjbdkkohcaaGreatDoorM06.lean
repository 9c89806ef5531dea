/-
  Texts of one family, one behind another: PolyW3, PolyW4, PolyW5, PolyW6, PolyW7, RsW6.
-/
import Derived.Test.YtoimbjbdkkohcaaGreatDoorM05
import Derived.Laws.CopyOwn
import Derived.Laws.AppendOwnNone
import Derived.Test.YtoimbjbdkkohcaaGreatDoorM01
import Derived.Test.YtoimbjbdkkohcaaGreatDoorM02
import Derived.Shelf.Abstract
import Derived.Shelf.RegionOpen
import Derived.OwnWalkIn
import Derived.TacticsInMore
import Derived.LoopNIn
import Derived.LoopIn

/-
  The walk of addScaled: a row that the caller made is added to.
-/
namespace Go.Proofs.YtoimbjbdkkohcaaGreatDoor
open Go.RowKit Go.Deep
open Gf (eI lI gI dI pI)
open Po (toE cf mu S pwr ev cv Low)

/-- a block holds n elements at its head -/
def RowE (w : World) (g n : Nat) (F : Nat → Po.El) : Prop := ∃ N f, n ≤ N ∧ w.rowIs g 5 N f ∧ ∀ j, j < n → f j = .int .u8 (ofE (F j))
theorem RowE.cell {w : World} {g n : Nat} {F : Nat → Po.El} (h : RowE w g n F) {i : Nat} (hi : i < n) : w.cell? ⟨g, i, none⟩ = some (.int .u8 (ofE (F i))) := by
  obtain ⟨N, f, hN, hr, hf⟩ := h
  rw [hr.cell (by omega), hf i hi]
theorem RowE.frozen {w : World} {g n : Nat} {F : Nat → Po.El} (h : RowE w g n F) (i : Nat) : w.frozen? ⟨g, i, none⟩ = false := by
  obtain ⟨N, f, hN, hr, hf⟩ := h
  exact hr.frozen i
theorem RowE.lt {w : World} {g n : Nat} {F : Nat → Po.El} (h : RowE w g n F) : g < w.heap.size := by
  obtain ⟨N, f, hN, hr, hf⟩ := h
  exact hr.lt
theorem RowE.congr {w : World} {g n : Nat} {F G : Nat → Po.El} (h : RowE w g n F) (e : ∀ i, i < n → F i = G i) : RowE w g n G := by
  obtain ⟨N, f, hN, hr, hf⟩ := h
  exact ⟨N, f, hN, hr, fun j hj => by rw [hf j hj, e j hj]⟩
theorem RowE.set {w : World} {g n : Nat} {F : Nat → Po.El} (h : RowE w g n F) (i : Nat) (E : Po.El) : RowE (w.setCell ⟨g, i, none⟩ (.int .u8 (ofE E))) g n (fun j => if j = i then E else F j) := by
  obtain ⟨N, f, hN, hr, hf⟩ := h
  refine ⟨N, _, hN, hr.set i _, fun j hj => ?_⟩
  by_cases e : j = i
  · simp [e]
  · simp [e, hf j hj]
theorem RowE.drewN {w : World} {g n : Nat} {F : Nat → Po.El} (h : RowE w g n F) (k : Nat) : RowE (w.drewN k) g n F := h
theorem RowE.below {B : Nat} {w w' : World} {g n : Nat} {F : Nat → Po.El} (h : RowE w g n F) (hb : Below B w w') (hg : g < B) : RowE w' g n F := by
  obtain ⟨N, f, hN, hr, hf⟩ := h
  exact ⟨N, f, hN, hr.of_block (hb.block g hg), hf⟩
theorem rowE_made (w : World) (n : Nat) : RowE (w.alloc (.cells (madeCells #[.int .u8 0] n) 5)) w.heap.size n (fun _ => 0) :=
  ⟨n, _, Nat.le_refl _, World.rowIs_made w _ n _, fun _ _ => rfl⟩
/-- a list lies below a block -/
def Lies (g : Nat) (a : Option Addr) (l : List Int) : Prop := l = [] ∨ ∃ b off, a = some ⟨b, off, none⟩ ∧ b < g
/-- F, with A times l added from o on, as far as k of l -/
def adN (F : Nat → Po.El) (A : Po.El) (l : List Int) (o k : Nat) (j : Nat) : Po.El := if o ≤ j ∧ j < o + k then F j ^^^ mu A (cf l (j - o)) else F j
theorem adN_zero (F : Nat → Po.El) (A : Po.El) (l : List Int) (o j : Nat) : adN F A l o 0 j = F j := by unfold adN; rw [if_neg (by omega)]
theorem adN_at (F : Nat → Po.El) (A : Po.El) (l : List Int) (o k : Nat) : adN F A l o k (o + k) = F (o + k) := by unfold adN; rw [if_neg (by omega)]
theorem adN_step (F : Nat → Po.El) (A : Po.El) (l : List Int) (o k j : Nat) : (if j = o + k then F (o + k) ^^^ mu A (cf l k) else adN F A l o k j) = adN F A l o (k + 1) j := by
  unfold adN
  by_cases e : j = o + k
  · subst e; rw [if_pos rfl, if_pos (by omega), show o + k - o = k from by omega]
  · rw [if_neg e]
    by_cases h : o ≤ j ∧ j < o + k
    · rw [if_pos h, if_pos (by omega)]
    · rw [if_neg h, if_neg (by omega)]
theorem adN_all (F : Nat → Po.El) (A : Po.El) (l : List Int) (o j : Nat) : adN F A l o l.length j = F j ^^^ (if o ≤ j then mu A (cf l (j - o)) else 0) := by
  unfold adN
  by_cases h : o ≤ j
  · rw [if_pos h]
    by_cases h2 : j < o + l.length
    · rw [if_pos ⟨h, h2⟩]
    · rw [if_neg (by omega), Po.cf_low l (j - o) (by omega), Po.mu_zero, Po.x0]
  · rw [if_neg h, if_neg (by omega), Po.x0]

theorem ad_row {wr : World} {g n o k : Nat} {F : Nat → Po.El} {A : Int} {l : List Int} {y v : Int} (hA : 0 ≤ A ∧ A < 256) (bq : Byt l) (row : RowE wr g n (adN F (toE A) l o k)) (Hy : Hid (y = l[k]?.getD 0)) (Hv : Hid (ofE (adN F (toE A) l o k (o + k)) = v)) (q : Nat) :
    RowE ((wr.drewN q).setCell ⟨g, o + k, none⟩ (.int .u8 (bits .xor .u8 v (gI A y)))) g n (adN F (toE A) l o (k + 1)) := by
  have h2 : gI A (ofE (cf l k)) = ofE (mu (toE A) (cf l k)) := by rw [← gI_ofE, ofE_toE A hA.1 hA.2]
  rw [← Hv.out, Hy.out, ← ofE_cf l bq k, adN_at, h2, xor_ofE]
  exact ((row.drewN q).set (o + k) _).congr (fun j _ => adN_step F (toE A) l o k j)

set_option maxRecDepth 100000 in
set_option maxHeartbeats 1000000 in
theorem addScaled_any (b g n o m c : Nat) (aq : Option Addr) (cq nq : Nat) (l : List Int) (A : Int) (F : Nat → Po.El) (w : World) (hf : FldAt w b) (hb : b < g) (sq : SlAt w aq l) (hq : Lies g aq l) (bq : Byt l) (hA : 0 ≤ A ∧ A < 256)
    (hn : o + nq ≤ n) (hm : nq ≤ m) (mn : m < 4611686018427387904) (row : RowE w g n F) (en : l.length = nq) :
    Calls Tryz.prog 91 #[.pointer (some ⟨b, 0, none⟩), .slice (some ⟨g, o, none⟩) m c, .slice aq nq cq, .int .u8 A] w fun e w' => e = .returned (.tuple #[]) ∧ RowE w' g n (adN F (toE A) l o l.length) ∧ Below g w w' := by
  subst en
  go_enter Tryz.func91, Tryz.ntmps91
  go_wp2
  go_loopw [12] (fun i wr => ∃ k : Nat, k ≤ l.length ∧ i = .int .i64 (k : Int) ∧ RowE wr g n (adN F (toE A) l o k) ∧ Below g w wr) (fun i _ => l.length - (intOf i).toNat)
  case atStart => exact ⟨0, by omega, rfl, row.congr (fun i _ => (adN_zero F _ l o i).symm), Below.refl _ _⟩
  case round =>
    clear row
    obtain ⟨k, hk, rfl, row, hB⟩ := hrel
    by_cases hlt : k < l.length
    · obtain ⟨y, h1, Hy⟩ : ∃ y, (0 ≤ y ∧ y < 256) ∧ Hid (y = l[k]?.getD 0) := ⟨_, bq k hlt, rfl⟩
      obtain ⟨v, h2, Hv⟩ : ∃ v, (0 ≤ v ∧ v < 256) ∧ Hid (ofE (adN F (toE A) l o k (o + k)) = v) := ⟨_, ofE_bd _, rfl⟩
      rcases sq with sq | ⟨b1, o1, rfl, hb1, hc1⟩
      · rw [sq] at hlt; simp at hlt
      have hb1g : b1 < g := by
        rcases hq with hq | ⟨b', o', e, h⟩
        · rw [hq] at hlt; simp at hlt
        · cases e; exact h
      have c1 : wr.cell? ⟨b1, o1 + k, none⟩ = some (.int .u8 y) := by rw [Hy.out, hB.cell (p := ⟨b1, o1 + k, none⟩) hb1g]; exact hc1 k hlt
      have c2 := row.cell (i := o + k) (by omega)
      rw [Hv.out] at c2
      have z2 : wr.frozen? ⟨g, o + k, none⟩ = false := row.frozen (o + k)
      have hfr : FldAt wr b := hf.of (fun o => hB.cell (p := ⟨b, o, none⟩) hb)
      clear hc1
      go_wp2
      go_region_with (go_at_call 92; refine (mul_any _ _ _ (by omega) (by omega) (by omega) (by omega) _ (by exact hfr.of fun _ => rfl)).mono ?_; rintro e w' ⟨rfl, q, rfl⟩)
      all_goals
        go_wp2
        go_roundw
        case rel => exact ⟨k + 1, by omega, by go_num, ad_row hA bq row Hy Hv _, (below_drewN hB _).setCell (p := ⟨g, o + k, none⟩) (Nat.le_refl _) _⟩
        case measure => simp [intOf]; omega
    · have : k = l.length := by omega
      subst this
      go_wp2
      go_end0
      exact ⟨rfl, row, hB⟩

end Go.Proofs.YtoimbjbdkkohcaaGreatDoor

/-
  The walks of Trim, Add, Mul, Scale, Shift: each answers a new list.
-/
namespace Go.Proofs.YtoimbjbdkkohcaaGreatDoor
open Go.RowKit Go.Deep
open Gf (eI lI gI dI pI)
open Po (toE cf mu S pwr ev cv Low)

/-- a slice of n bytes, with room for c, holds a list -/
structure Arg (w : World) (a : Option Addr) (n c : Nat) (l : List Int) : Prop where
  len : l.length = n
  sl : SlAt w a l
  byt : Byt l
  cap : n ≤ c
  nil : a = none → c = 0
theorem Arg.below {w w' : World} {a : Option Addr} {n c : Nat} {l : List Int} (h : Arg w a n c l) (hb : Below w.heap.size w w') : Arg w' a n c l := ⟨h.len, h.sl.below hb, h.byt, h.cap, h.nil⟩
theorem Arg.drewN {w : World} {a : Option Addr} {n c : Nat} {l : List Int} (h : Arg w a n c l) (k : Nat) : Arg (w.drewN k) a n c l := ⟨h.len, h.sl.drewN k, h.byt, h.cap, h.nil⟩
theorem Arg.alloc {w : World} {a : Option Addr} {n c : Nat} {l : List Int} (h : Arg w a n c l) (o : Obj) : Arg (w.alloc o) a n c l := ⟨h.len, h.sl.alloc o, h.byt, h.cap, h.nil⟩
theorem Arg.take {w : World} {a : Option Addr} {n c : Nat} {l : List Int} (h : Arg w a n c l) (k : Nat) (hk : k ≤ n) : Arg w a k c (l.take k) :=
  ⟨by have := h.len; simp; omega, h.sl.take k, h.byt.take k, by have := h.cap; omega, h.nil⟩
theorem Arg.lies {w : World} {a : Option Addr} {n c : Nat} {l : List Int} (h : Arg w a n c l) : Lies w.heap.size a l := by
  rcases h.sl with e | ⟨b, o, ha, hb, _⟩
  · exact .inl e
  · exact .inr ⟨b, o, ha, hb⟩
theorem Arg.none (w : World) : Arg w none 0 0 [] := ⟨rfl, .inl rfl, fun i hi => by simp at hi, Nat.le_refl _, fun _ => rfl⟩
theorem FldAt.lt {w : World} {b : Nat} (h : FldAt w b) : b < w.heap.size := cell_lt (h.1 0 (by omega))
theorem FldAt.below {w w' : World} {b : Nat} (h : FldAt w b) (hb : Below w.heap.size w w') : FldAt w' b := h.of fun o => hb.cell (p := ⟨b, o, Option.none⟩) h.lt

-- LISTS OF ELEMENTS
def lst (n : Nat) (F : Nat → Po.El) : List Int := (List.range n).map fun j => ofE (F j)
theorem lst_len (n : Nat) (F : Nat → Po.El) : (lst n F).length = n := by simp [lst]
theorem lst_get (n : Nat) (F : Nat → Po.El) (i : Nat) (h : i < n) : (lst n F)[i]?.getD 0 = ofE (F i) := by simp [lst, h]
theorem lst_cf (n : Nat) (F : Nat → Po.El) (i : Nat) (h : i < n) : cf (lst n F) i = F i := by unfold cf; rw [lst_get n F i h, toE_ofE]
theorem lst_byt (n : Nat) (F : Nat → Po.El) : Byt (lst n F) := fun i hi => by
  rw [lst_len] at hi
  rw [lst_get n F i hi]; exact ofE_bd _
theorem lst_low (n : Nat) (F : Nat → Po.El) (h : Low n F) (i : Nat) : cf (lst n F) i = F i := by
  by_cases hi : i < n
  · exact lst_cf n F i hi
  · rw [h i (by omega)]; exact Po.cf_low _ i (by rw [lst_len]; omega)
theorem RowE.arg {w : World} {g n c : Nat} {F : Nat → Po.El} (h : RowE w g n F) (hc : n ≤ c) : Arg w (some ⟨g, 0, Option.none⟩) n c (lst n F) :=
  ⟨lst_len n F, .inr ⟨g, 0, rfl, h.lt, fun i hi => by rw [lst_len] at hi; rw [Nat.zero_add, h.cell hi, lst_get n F i hi]⟩, lst_byt n F, hc, fun e => by cases e⟩
theorem cf_zero_iff (l : List Int) (hb : Byt l) (i : Nat) : cf l i = 0 ↔ l[i]?.getD 0 = 0 := by rw [← ofE_cf l hb i, ofE_eq_zero]
theorem tl_of_cf (l : List Int) (hb : Byt l) (n : Nat) (h1 : 0 < n → cf l (n - 1) ≠ 0) (h2 : Low n (cf l)) : tl l = n :=
  tl_unique l n (fun h e => h1 h ((cf_zero_iff l hb _).2 e)) (fun i hi => (cf_zero_iff l hb i).1 (h2 i hi))
theorem cf_low_tl (l : List Int) (hb : Byt l) : Low (tl l) (cf l) := fun i hi => (cf_zero_iff l hb i).2 (tl_past l i hi)
theorem cf_top_tl (l : List Int) (hb : Byt l) (h : 0 < tl l) : cf l (tl l - 1) ≠ 0 := fun e => tl_top l h ((cf_zero_iff l hb _).1 e)
theorem take_get (l : List Int) (i : Nat) : (l.take (tl l))[i]?.getD 0 = l[i]?.getD 0 := by
  by_cases h : i < tl l
  · rw [List.getElem?_take_of_lt h]
  · rw [List.getElem?_eq_none (by simp; omega), tl_past l i (by omega)]; rfl
theorem take_cf (l : List Int) (i : Nat) : cf (l.take (tl l)) i = cf l i := by unfold cf; rw [take_get]
theorem take_tl (l : List Int) : tl (l.take (tl l)) = tl l := tl_unique _ _ (fun h => by rw [take_get]; exact tl_top l h) (fun i hi => by rw [take_get]; exact tl_past l i hi)

/-- a new polynomial, trimmed, with these coefficients -/
def IsP (w' : World) (e : Ending) (C : Nat → Po.El) (N : Nat) : Prop :=
  ∃ a n c l, e = .returned (.slice a n c) ∧ Arg w' a n c l ∧ tl l = n ∧ (∀ i, cf l i = C i) ∧ n ≤ N

theorem run_append_nothing (w : World) (ty : TypeId) (a : Option Addr) (c : Nat) :
    (Builtin.append_ #[69, 69] ty #[.slice none 0 0, .slice a 0 c]).run Tryz.prog w = .ok (.slice none 0 0) w := by
  obtain ⟨i, hi, hzz⟩ := Option.map_eq_some_iff.1 info_u8
  cases a with
  | none => simp [Builtin.append_, run_underlying Tryz.underlying69, sizeOf, typeInfo, hi, Builtin.lenOf, Builtin.firstCells]
  | some a => simp [Builtin.append_, run_underlying Tryz.underlying69, sizeOf, typeInfo, hi, Builtin.lenOf, Builtin.firstCells, loadCells, loadCellsFrom]
theorem wpList_append_nothing {w : World} {ops : Array Oper} {rest : List Oper} {o : Oper} {a : Act} {Q : Exit → Act → World → Prop} (hgd : o.guard = none) (s x : Operand)
    (ho : o.op = .call { callee := .builtin .append, args := #[s, x], argTypes := #[69, 69] }) (ad : Option Addr) (c : Nat) (hs : a.eval s = .slice none 0 0) (hx : a.eval x = .slice ad 0 c)
    (h : wpList Tryz.prog ops Q rest (a.put o.dst (.slice none 0 0)) w) : wpList Tryz.prog ops Q (o :: rest) a w := by
  refine wpList_plain hgd fun K hK => ?_
  have hrun := run_append_nothing w o.type ad c
  unfold Oper.wp
  simp [execOp, ho, resolve, invoke, builtin, hs, hx, hrun, Result.andThen]
  exact hK _ _ h
/-- what append lays -/
theorem owned_row {w : World} {base n : Nat} {v : Value} {l : List Int} (hb : Byt l) (hn : n = l.length) (h0 : 0 < n) (h : w.ownsRow base 5 1 v n (l.map (Value.int .u8))) :
    ∃ g c, v = .slice (some ⟨g, 0, none⟩) n c ∧ base ≤ g ∧ n ≤ c ∧ RowE w g n (cf l) := by
  obtain ⟨h1, h2 | ⟨g, cap, cur, hv, hg, hh, hnc, hcm, hsz, htk⟩⟩ := h
  · omega
  · subst hn
    refine ⟨g, cap, hv, hg, hnc, cur.size, fun j => cur[j]?.getD (.int .u8 0), by omega, ⟨cur, hh, rfl, fun i hi => by simp [hi]⟩, fun j hj => ?_⟩
    rw [ofE_cf l hb]
    have e : cur[j]? = (l.map (Value.int .u8))[j]? := by
      rw [← htk, List.getElem?_take_of_lt (by omega)]; simp
    simp [e, hj]
set_option maxHeartbeats 400000 in
/-- Trim: a new list; where it isn't empty, a row of its own -/
theorem trim_any (a : Option Addr) (n c : Nat) (l : List Int) (w : World) (A : Arg w a n c l) (hn : n ≤ 4000) :
    Calls Tryz.prog 90 #[.slice a n c] w fun e w' => ∃ a' c', e = .returned (.slice a' (tl l) c') ∧ Below w.heap.size w w' ∧ tl l ≤ c' ∧ (a' = none → c' = 0) ∧
      (0 < tl l → ∃ g, a' = some ⟨g, 0, none⟩ ∧ w.heap.size ≤ g ∧ RowE w' g (tl l) (cf l)) := by
  obtain ⟨en, sa, ba, hc, hnil⟩ := A
  subst en
  have ht := tl_le l
  by_cases h0 : tl l = 0
  · go_enter Tryz.func90, Tryz.ntmps90
    go_wp2_with (first | (go_at_call 93; refine (trimmed_any a c l _ sa ba (by unfold maxLen; omega) hc).mono ?_; rw [h0]; rintro e w' ⟨rfl, rfl⟩) | (at_builtin; refine wpList_append_nothing rfl _ _ rfl a c rfl rfl ?_))
    go_ret
    exact ⟨none, 0, by rw [h0]; rfl, Below.refl _ _, by omega, fun _ => rfl, fun h => by omega⟩
  · obtain ⟨i0, hi, hz0, hz1, hz2⟩ := info_parts info_u8
    rcases sa with sa | ⟨b1, o1, rfl, hb1, hc1⟩
    · exact absurd (by rw [sa]; rfl) h0
    have sa : SlAt w (some ⟨b1, o1, none⟩) l := .inr ⟨b1, o1, rfl, hb1, hc1⟩
    obtain ⟨m, hm, Hm⟩ : ∃ m, m ≤ l.length ∧ Hid (tl l = m) := ⟨_, ht, rfl⟩
    have hm0 : 0 < m := by have := Hm.out; omega
    obtain ⟨news, Hnews⟩ : ∃ news, Hid (news = (l.take m).map (Value.int .u8)) := ⟨_, rfl⟩
    clear ht h0
    go_enter Tryz.func90, Tryz.ntmps90
    go_wp2_with (first | (go_at_call 93; refine (trimmed_any (some ⟨b1, o1, none⟩) c l _ sa ba (by unfold maxLen; omega) hc).mono ?_; rw [Hm.out]; rintro e w' ⟨rfl, rfl⟩) | (at_builtin; refine wpList_append_own _ rfl _ _ 69 rfl w'.heap.size 5 i0 (.int .u8 0) 1 1 Tryz.underlying69 hi hz0 hz1 hz2 rfl (by decide) _ 0 [] rfl (World.ownsRow_nil _ _ _ _) ⟨b1, o1, none⟩ m c news rfl ?c0 ?c1 ?c2 ?c3 ?c4 (Nat.le_refl _) ?_))
    case c0 => rw [Hnews.out]; simp; omega
    case c1 =>
      intro j u hj
      rw [Hnews.out] at hj
      have hjm : j < m := by have := (List.getElem?_eq_some_iff.1 hj).1; simp at this; omega
      have e : u = .int .u8 (l[j]?.getD 0) := by
        rw [List.getElem?_map, List.getElem?_take_of_lt hjm] at hj
        cases h : l[j]? with
        | none => rw [h] at hj; simp at hj
        | some x => rw [h] at hj; simp at hj; rw [← hj]; rfl
      rw [e, ← hc1 j (by omega)]
      unfold Addr.add
      split
      · rename_i h; simp [h]
      · rfl
    case c2 => intro u hu; rw [Hnews.out] at hu; obtain ⟨x, _, rfl⟩ := List.mem_map.1 hu; rfl
    case c3 => unfold maxLen; omega
    case c4 => omega
    intro v' w1 hown hgrow _
    have hB : Below w'.heap.size w' w1 := (Below.refl _ _).grown hgrow (Nat.le_refl _) (fun k e => by cases e)
    have hown : w1.ownsRow w'.heap.size 5 1 v' m ((l.take m).map (Value.int .u8)) := by rw [← Hnews.out]; simpa using hown
    obtain ⟨g, c', rfl, hg, hcc, hrow⟩ := owned_row (ba.take m) (by simp; omega) hm0 hown
    clear hown hgrow
    go_wp2
    go_ret
    refine ⟨some ⟨g, 0, none⟩, c', by rw [Hm.out]; rfl, hB, by rw [Hm.out]; exact hcc, fun e => (by cases e), fun _ => ⟨g, rfl, hg, ?_⟩⟩
    rw [← Hm.out] at hrow
    exact hrow.congr (fun i _ => take_cf l i)

end Go.Proofs.YtoimbjbdkkohcaaGreatDoor

/-
  The walks of Mul, Scale, Add and Shift.
-/
namespace Go.Proofs.YtoimbjbdkkohcaaGreatDoor
open Go.RowKit Go.Deep
open Gf (eI lI gI dI pI)
open Po (toE cf mu S pwr ev cv Low)

theorem trimmed_arg (a : Option Addr) (n c m : Nat) (l : List Int) (w : World) (A : Arg w a n c l) (hn : n ≤ 4000) (hm : Hid (tl l = m)) :
    Calls Tryz.prog 93 #[.slice a n c] w fun e w' => e = .returned (.slice a m c) ∧ w' = w := by
  obtain ⟨en, sa, ba, hc, hnil⟩ := A
  subst en
  have h := trimmed_any a c l w sa ba (by unfold maxLen; omega) hc
  rw [hm.out] at h
  exact h
/-- a list without the noughts at its end -/
theorem Arg.trim {w : World} {a : Option Addr} {n c m : Nat} {l : List Int} (A : Arg w a n c l) (hm : Hid (tl l = m)) : ∃ l', Arg w a m c l' ∧ Hid (∀ i, cf l' i = cf l i) ∧ Hid (tl l' = m) ∧ m ≤ n := by
  have h := tl_le l
  have e := A.len
  have hm' := hm.out
  refine ⟨l.take m, A.take m (by omega), ?_, ?_, by omega⟩
  · intro i; rw [← hm']; exact take_cf l i
  · show _ = _; rw [← hm']; exact take_tl l

/-- the first k products of each coefficient -/
def pcv (p q : Nat → Po.El) (k j : Nat) : Po.El := S k (fun i => if i ≤ j then mu (p i) (q (j - i)) else 0)
theorem pcv_end (p q : Nat → Po.El) (n j : Nat) (hp : Low n p) : pcv p q n j = cv p q j := by
  unfold pcv cv
  have h1 : S (j + 1) (fun i => mu (p i) (q (j - i))) = S (j + 1) (fun i => if i ≤ j then mu (p i) (q (j - i)) else 0) :=
    Po.S_congr _ _ _ (fun i hi => by show _ = if i ≤ j then _ else _; rw [if_pos (by omega)])
  rw [h1]
  by_cases h : n ≤ j + 1
  · exact (Po.S_more n (j + 1) _ (fun i hi => by rw [hp i hi, Po.zero_mu]; split <;> rfl) h).symm
  · exact Po.S_more (j + 1) n _ (fun i hi => by rw [if_neg (by omega)]) (by omega)
theorem cv_zero_left (p q : Nat → Po.El) (h : ∀ i, p i = 0) (k : Nat) : cv p q k = 0 := Po.S_null _ _ (fun i _ => by rw [h i, Po.zero_mu])
theorem cv_zero_right (p q : Nat → Po.El) (h : ∀ i, q i = 0) (k : Nat) : cv p q k = 0 := Po.S_null _ _ (fun i _ => by rw [h (k - i), Po.mu_zero])
theorem isP_none (w : World) (C : Nat → Po.El) (N : Nat) (h : ∀ i, C i = 0) : IsP w (.returned (.slice none 0 0)) C N :=
  ⟨none, 0, 0, [], rfl, Arg.none w, rfl, fun i => by rw [h i]; rfl, Nat.zero_le _⟩
/-- a row, trimmed, is a polynomial -/
theorem isP_row {w : World} {g n c : Nat} {F : Nat → Po.El} (row : RowE w g n F) (hc : n ≤ c) (h1 : 0 < n → F (n - 1) ≠ 0) (h2 : Low n F) (C : Nat → Po.El) (hC : ∀ i, F i = C i) (N : Nat) (hN : n ≤ N) :
    IsP w (.returned (.slice (some ⟨g, 0, none⟩) n c)) C N :=
  ⟨_, n, c, lst n F, rfl, row.arg hc, tl_of_cf _ (lst_byt n F) n (fun h => by rw [lst_cf n F _ (by omega)]; exact h1 h) (fun i hi => by rw [lst_low n F h2]; exact h2 i hi), fun i => by rw [lst_low n F h2, hC], hN⟩

set_option maxRecDepth 100000 in
set_option maxHeartbeats 1000000 in
theorem pmul_any (b : Nat) (ap : Option Addr) (np cp : Nat) (p : List Int) (aq : Option Addr) (nq cq : Nat) (q : List Int) (w : World) (hf : FldAt w b) (P : Arg w ap np cp p) (Q : Arg w aq nq cq q) (hp : np ≤ 2000) (hq : nq ≤ 2000) :
    Calls Tryz.prog 84 #[.pointer (some ⟨b, 0, none⟩), .slice ap np cp, .slice aq nq cq] w fun e w' => IsP w' e (cv (cf p) (cf q)) (np + nq) ∧ Below w.heap.size w w' := by
  obtain ⟨m1, Hm1⟩ : ∃ m, Hid (tl p = m) := ⟨_, rfl⟩
  obtain ⟨m2, Hm2⟩ : ∃ m, Hid (tl q = m) := ⟨_, rfl⟩
  obtain ⟨p', P', Hp', Ht1, hmp⟩ := P.trim Hm1
  obtain ⟨q', Q', Hq', Ht2, hmq⟩ := Q.trim Hm2
  have KP := trimmed_arg ap np cp m1 p w P (by omega) Hm1
  have KQ := trimmed_arg aq nq cq m2 q w Q (by omega) Hm2
  by_cases h1 : m1 = 0
  · subst h1
    go_enter Tryz.func84, Tryz.ntmps84
    go_wp2_with (first | (go_at_call_of 93 (Value.slice ap np cp); refine KP.mono ?_; rintro e w' ⟨rfl, rfl⟩) | (go_at_call_of 93 (Value.slice aq nq cq); refine KQ.mono ?_; rintro e w' ⟨rfl, rfl⟩))
    go_ret
    exact ⟨isP_none _ _ _ (cv_zero_left _ _ (fun i => cf_low_tl p P.byt i (by rw [Hm1.out]; omega))), Below.refl _ _⟩
  by_cases h2 : m2 = 0
  · subst h2
    have h1' : ((m1 : Int) == 0) = false := by simp [h1]
    go_enter Tryz.func84, Tryz.ntmps84
    go_wp2_with (first | (go_at_call_of 93 (Value.slice ap np cp); refine KP.mono ?_; rintro e w' ⟨rfl, rfl⟩) | (go_at_call_of 93 (Value.slice aq nq cq); refine KQ.mono ?_; rintro e w' ⟨rfl, rfl⟩))
    go_ret
    exact ⟨isP_none _ _ _ (cv_zero_right _ _ (fun i => cf_low_tl q Q.byt i (by rw [Hm2.out]; omega))), Below.refl _ _⟩
  have h1' : ((m1 : Int) == 0) = false := by simp [h1]
  have h2' : ((m2 : Int) == 0) = false := by simp [h2]
  have h1p : 0 < m1 := by omega
  have h2p : 0 < m2 := by omega
  clear h1 h2
  obtain ⟨N, hN, HN⟩ : ∃ N, N < 4000 ∧ Hid (N + 1 = m1 + m2) := ⟨m1 + m2 - 1, by omega, by show _ = _; omega⟩
  have hmk := run_make_row' (P := Tryz.prog) 69 5 (.int .u8 0) 1 Tryz.underlying69 info_u8 rfl .i64 .i64 N (by omega) (by omega)
  have eN : ((N : Nat) : Int) = (m1 : Int) + (m2 : Int) - 1 := by have := HN.out; omega
  rw [eN] at hmk
  clear eN
  go_enter Tryz.func84, Tryz.ntmps84
  go_wp2_with (first | (go_at_call_of 93 (Value.slice ap np cp); refine KP.mono ?_; rintro e w' ⟨rfl, rfl⟩) | (go_at_call_of 93 (Value.slice aq nq cq); refine KQ.mono ?_; rintro e w' ⟨rfl, rfl⟩))
  clear hmk KP KQ
  go_loopw [31] (fun i wr => ∃ k : Nat, k ≤ m1 ∧ i = .int .i64 (k : Int) ∧ RowE wr w'.heap.size N (pcv (cf p) (cf q) k) ∧ Below w'.heap.size w' wr) (fun i _ => m1 - (intOf i).toNat)
  case atStart => exact ⟨0, by omega, rfl, (rowE_made w' N).congr (fun i _ => rfl), (Below.refl _ _).alloc (Nat.le_refl _) _⟩
  case round =>
    obtain ⟨k, hk, rfl, row, hB⟩ := hrel
    have hbs := hB.size
    have hbl := hf.lt
    by_cases hlt : k < m1
    · have hkN : k < N := by have := HN.out; omega
      have hkN2 : k + m2 ≤ N := by have := HN.out; omega
      obtain ⟨x, hx, Hx⟩ : ∃ x, (0 ≤ x ∧ x < 256) ∧ Hid (x = p'[k]?.getD 0) := ⟨_, P'.byt k (by rw [P'.len]; exact hlt), rfl⟩
      rcases P'.sl with sp | ⟨b1, o1, rfl, hb1, hc1⟩
      · have := P'.len; rw [sp] at this; simp at this; omega
      have c1 : wr.cell? ⟨b1, o1 + k, none⟩ = some (.int .u8 x) := by rw [Hx.out, hB.cell (p := ⟨b1, o1 + k, none⟩) hb1]; exact hc1 k (by rw [P'.len]; exact hlt)
      have Qr := Q'.below hB
      have hfr := hf.below hB
      have hLies := Q'.lies
      clear hc1
      go_wp2_with (go_at_call 91; refine (addScaled_any b w'.heap.size N k (N - k) (N - k) aq cq m2 q' x (pcv (cf p) (cf q) k) wr hfr hbl Qr.sl hLies Qr.byt hx hkN2 (by omega) (by omega) row Qr.len).mono ?_; rintro e w2 ⟨rfl, row', hB'⟩)
      go_roundw
      case rel =>
        refine ⟨k + 1, by omega, by go_num, row'.congr (fun j _ => ?_), hB.trans hB'⟩
        have ex : toE x = cf p k := by rw [Hx.out, ← Hp'.out k]; rfl
        rw [adN_all, ex]
        show _ = pcv (cf p) (cf q) k j ^^^ (if k ≤ j then mu (cf p k) (cf q (j - k)) else 0)
        rw [Hq'.out]
      case measure => simp [intOf]; omega
    · have hkm : k = m1 := by omega
      subst hkm
      go_wp2
      go_ret
      have h1l : Low k (cf p) := by have := cf_low_tl p P.byt; rwa [Hm1.out] at this
      have h2l : Low m2 (cf q) := by have := cf_low_tl q Q.byt; rwa [Hm2.out] at this
      have h1t : cf p (k - 1) ≠ 0 := by have := cf_top_tl p P.byt (by rw [Hm1.out]; omega); rwa [Hm1.out] at this
      have h2t : cf q (m2 - 1) ≠ 0 := by have := cf_top_tl q Q.byt (by rw [Hm2.out]; omega); rwa [Hm2.out] at this
      have hNN := HN.out
      have hl := Po.cv_low h1l h2l
      rw [show k + m2 - 1 = N from by omega] at hl
      refine ⟨isP_row (F := cv (cf p) (cf q)) (row.congr (fun j _ => pcv_end _ _ _ j h1l)) (Nat.le_refl _) (fun _ => ?_) hl _ (fun _ => rfl) _ (by omega), hB⟩
      have := Po.cv_top (a := k - 1) (b := m2 - 1) (p := cf p) (q := cf q) (h1l.mono (by omega)) (h2l.mono (by omega))
      rw [show N - 1 = k - 1 + (m2 - 1) from by omega, this]
      exact Po.mu_ne _ _ h1t h2t

end Go.Proofs.YtoimbjbdkkohcaaGreatDoor

/-
  The walks of Scale, Add and Shift.
-/
namespace Go.Proofs.YtoimbjbdkkohcaaGreatDoor
open Go.RowKit Go.Deep
open Gf (eI lI gI dI pI)
open Po (toE cf mu S pwr ev cv Low)

theorem arg_lit (w : World) (l : List Int) (hb : Byt l) : Arg (w.alloc (.cells (l.map (Value.int .u8)).toArray 5)) (some ⟨w.heap.size, 0, none⟩) l.length l.length l := by
  refine ⟨rfl, .inr ⟨w.heap.size, 0, rfl, by simp, fun i hi => ?_⟩, hb, Nat.le_refl _, fun e => by cases e⟩
  rw [Nat.zero_add, World.cell?_alloc_new]
  simp [hi]
theorem byt_one (a : Int) (h : 0 ≤ a ∧ a < 256) : Byt [a] := fun i hi => by
  have : i = 0 := by simp at hi; omega
  subst this; exact h
theorem byt_two (a b : Int) (h : 0 ≤ a ∧ a < 256) (k : 0 ≤ b ∧ b < 256) : Byt [a, b] := fun i hi => by
  have : i = 0 ∨ i = 1 := by simp at hi; omega
  rcases this with rfl | rfl
  · exact h
  · exact k
theorem IsP.congr {w : World} {e : Ending} {C D : Nat → Po.El} {N : Nat} (h : IsP w e C N) (hc : ∀ i, C i = D i) : IsP w e D N := by
  obtain ⟨a, n, c, l, he, A, ht, hl, hN⟩ := h
  exact ⟨a, n, c, l, he, A, ht, fun i => by rw [hl i, hc i], hN⟩
theorem IsP.low {w : World} {e : Ending} {C : Nat → Po.El} {N M : Nat} (h : IsP w e C N) (hc : Low M C) : IsP w e C M := by
  obtain ⟨a, n, c, l, he, A, ht, hl, hN⟩ := h
  refine ⟨a, n, c, l, he, A, ht, hl, ?_⟩
  by_cases hM : n ≤ M
  · exact hM
  · have := cf_top_tl l A.byt (by omega)
    rw [hl, ht, hc (n - 1) (by omega)] at this
    exact absurd rfl this
theorem cv_const (p : Nat → Po.El) (a : Int) (k : Nat) : cv p (cf [a]) k = mu (p k) (toE a) := by
  unfold cv
  rw [Po.S_one (k + 1) k _ (by omega) (fun i hi hne => by rw [Po.cf_low [a] (k - i) (by simp; omega), Po.mu_zero]), Nat.sub_self]; rfl


theorem run_maxN {P : Program} (a b N : Nat) (h : max a b = N) (ts : Array TypeId) (t : TypeId) (w : World) : (Builtin.max_ ts t #[.int .i64 (a : Int), .int .i64 (b : Int)]).run P w = .ok (.int .i64 (N : Int)) w := by
  have e : (if (a : Int) < (b : Int) then (b : Int) else a) = (N : Int) := by split <;> omega
  rw [← e]
  simp [Builtin.max_, Builtin.max2]
theorem run_maxI {P : Program} (n : Int) (N : Nat) (h : n.toNat = N) (ts : Array TypeId) (t : TypeId) (w : World) : (Builtin.max_ ts t #[.int .i64 n, .int .i64 0]).run P w = .ok (.int .i64 (N : Int)) w := by
  have e : (if n < 0 then (0 : Int) else n) = (N : Int) := by split <;> omega
  rw [← e]
  simp [Builtin.max_, Builtin.max2]
/-- zeros, with a list laid over them from a place on -/
theorem rowE_splice {w : World} {g N off : Nat} {l : List Int} {z : List Value} (hb : Byt l) (hz : z = List.replicate N (.int .u8 0)) (hfit : off + l.length ≤ N) (cs : List Value) (hcs : cs = l.map (Value.int .u8))
    (h : w.heap[g]? = some (.cells (splice z off cs).toArray 5 (0, 0))) : RowE w g N (fun j => if off ≤ j then cf l (j - off) else 0) := by
  have hlen : (splice z off cs).length = N := by rw [length_splice _ _ _ (by rw [hz, hcs]; simp; omega), hz]; simp
  refine ⟨N, fun j => (splice z off cs)[j]?.getD (.int .u8 0), Nat.le_refl _, ⟨_, h, by simpa using hlen, fun i hi => by
    have : i < (splice z off cs).length := by omega
    simp [this]⟩, fun j hj => ?_⟩
  show (splice z off cs)[j]?.getD (.int .u8 0) = .int .u8 (ofE (if off ≤ j then cf l (j - off) else 0))
  unfold splice
  by_cases h1 : off ≤ j
  · rw [if_pos h1, List.getElem?_append_right (by rw [hz]; simp; omega)]
    have e1 : (List.take off z).length = off := by rw [hz]; simp; omega
    rw [e1]
    by_cases h2 : j - off < l.length
    · rw [List.getElem?_append_left (by rw [hcs]; simpa using h2), hcs, List.getElem?_map, ofE_cf l hb]
      rw [List.getElem?_eq_getElem h2]; rfl
    · rw [List.getElem?_append_right (by rw [hcs]; simp; omega), List.getElem?_drop, Po.cf_low l _ (by omega), hz, List.getElem?_replicate]
      split <;> rfl
  · rw [if_neg h1, List.getElem?_append_left (by rw [hz]; simp; omega), List.getElem?_take_of_lt (by omega), hz, List.getElem?_replicate, if_pos hj]; rfl
theorem made_zeros (N : Nat) : madeCells #[Value.int .u8 0] N = (List.replicate N (Value.int .u8 0)).toArray := by
  apply Array.ext_getElem?
  intro i
  simp [madeCells]
  by_cases h : i < N <;> simp [h, Nat.mod_one]
/-- the cells of a list, where a copy asks for them -/
theorem SlAt.cells {w : World} {a : Option Addr} {l : List Int} (h : SlAt w a l) (h0 : 0 < l.length) : ∃ ad, a = some ad ∧ ∀ j v, (l.map (Value.int .u8))[j]? = some v → w.cell? (ad.add j) = some v := by
  rcases h with h | ⟨b, o, ha, hb, hl⟩
  · rw [h] at h0; simp at h0
  · refine ⟨_, ha, fun j v hj => ?_⟩
    have hjl : j < l.length := by have := (List.getElem?_eq_some_iff.1 hj).1; simpa using this
    have e : v = .int .u8 (l[j]?.getD 0) := by
      rw [List.getElem?_map, List.getElem?_eq_getElem hjl] at hj
      rw [List.getElem?_eq_getElem hjl]
      simpa using hj.symm
    rw [e, ← hl j hjl]
    unfold Addr.add
    split
    · rename_i h; simp [h]
    · rfl

/-- the sum, as far as k places -/
def xrN (p q : Nat → Po.El) (k j : Nat) : Po.El := if j < k then p j ^^^ q j else p j
theorem xrN_step (p q : Nat → Po.El) (k j : Nat) : (if j = k then p k ^^^ q k else xrN p q k j) = xrN p q (k + 1) j := by
  unfold xrN
  by_cases e : j = k
  · subst e; rw [if_pos rfl, if_pos (by omega)]
  · rw [if_neg e]
    by_cases h : j < k
    · rw [if_pos h, if_pos (by omega)]
    · rw [if_neg h, if_neg (by omega)]
theorem xrN_at (p q : Nat → Po.El) (k : Nat) : xrN p q k k = p k := if_neg (by omega)



end Go.Proofs.YtoimbjbdkkohcaaGreatDoor

/-
  The walks of Roots, of Mod, and of the document's example.
-/
namespace Go.Proofs.YtoimbjbdkkohcaaGreatDoor
open Go.RowKit Go.Deep
open Gf (eI lI gI dI pI)
open Po (toE cf mu S pwr ev cv Low rts lin one)

/-- the polynomial of the first k roots -/
def RT (r : List Int) (k : Nat) : Nat → Po.El := rts ((r.take k).map toE).reverse
theorem RT_step (r : List Int) (k : Nat) (hk : k < r.length) : RT r (k + 1) = cv (RT r k) (lin (toE (r[k]?.getD 0))) := by
  unfold RT
  have e : r.take (k + 1) = r.take k ++ [r[k]?.getD 0] := by
    rw [List.take_add_one, List.getElem?_eq_getElem hk]; rfl
  rw [e, List.map_append, List.reverse_append]
  rfl
theorem RT_low (r : List Int) (k : Nat) (hk : k ≤ r.length) : Low (k + 1) (RT r k) := by
  have h := Po.rts_low ((r.take k).map toE).reverse
  have e : (((r.take k).map toE).reverse).length = k := by simp; omega
  rw [e] at h
  exact h
theorem cf_one (i : Nat) : cf [1] i = one i := by
  unfold one
  by_cases h : i = 0
  · subst h; rfl
  · rw [if_neg h]; exact Po.cf_low [1] i (by simp; omega)
theorem cf_lin (x : Int) (i : Nat) : cf [x, 1] i = lin (toE x) i := by
  unfold lin
  by_cases h : i = 0
  · subst h; rfl
  · rw [if_neg h]
    by_cases h1 : i = 1
    · subst h1; rfl
    · rw [if_neg h1]; exact Po.cf_low [x, 1] i (by simp; omega)
theorem degree_arg (a : Option Addr) (n c m : Nat) (l : List Int) (d : Int) (w : World) (A : Arg w a n c l) (hn : n ≤ 4000) (hm : Hid (tl l = m)) (hd : Hid (d = (m : Int) - 1)) :
    Calls Tryz.prog 88 #[.slice a n c] w fun e w' => e = .returned (.int .i64 d) ∧ w' = w := by
  obtain ⟨en, sa, ba, hc, hnil⟩ := A
  subst en
  have h := degree_any a c l w sa ba (by unfold maxLen; omega)
  rw [hm.out, ← hd.out] at h
  exact h
theorem below_like {w w' : World} (h : ∃ k, w' = w.drewN k) : Below w.heap.size w w' := by
  obtain ⟨k, rfl⟩ := h; exact below_drewN (Below.refl _ _) k
/-- one behind the other, each over all that there was -/
theorem bnext {w a b : World} (h : Below w.heap.size w a) (k : Below a.heap.size a b) : Below w.heap.size w b := h.trans (k.mono h.size)
theorem lit_below (w : World) (c : Array Value) (t : TypeId) : Below w.heap.size w (w.alloc (.cells c t)) := (Below.refl _ _).alloc (Nat.le_refl _) _

set_option maxRecDepth 100000 in
set_option maxHeartbeats 1000000 in
theorem roots_any (b : Nat) (ar : Option Addr) (nr cr : Nat) (r : List Int) (w : World) (hf : FldAt w b) (R : Arg w ar nr cr r) (hr : nr ≤ 1000) :
    Calls Tryz.prog 58 #[.pointer (some ⟨b, 0, none⟩), .slice ar nr cr] w fun e w' => IsP w' e (RT r nr) (nr + 1) ∧ Below w.heap.size w w' := by
  have X := arg_lit w [1] (byt_one 1 (by decide))
  have hB0 := lit_below w ([1].map (Value.int .u8)).toArray 5
  simp only [List.map_cons, List.map_nil, List.length_cons, List.length_nil, Nat.zero_add] at X hB0
  go_enter Tryz.func58, Tryz.ntmps58
  go_wp2
  go_loopw [5, 11] (fun v i wr => ∃ (k : Nat) (a : Option Addr) (n c : Nat) (l : List Int), k ≤ nr ∧ i = .int .i64 (k : Int) ∧ v = .slice a n c ∧ n ≤ k + 1 ∧ Arg wr a n c l ∧ Hid (tl l = n) ∧ Hid (∀ i, cf l i = RT r k i) ∧ Below w.heap.size w wr) (fun _ i _ => nr - (intOf i).toNat)
  case atStart => exact ⟨0, _, 1, 1, [1], by omega, rfl, rfl, by omega, X, (by decide : tl [1] = 1), fun i => cf_one i, hB0⟩
  case round =>
    clear X hB0
    obtain ⟨k, a, n, c, l, hk, rfl, rfl, hn, A, Ht, HC, hB⟩ := hrel
    by_cases hlt : k < nr
    · obtain ⟨x, hx, Hx⟩ : ∃ x, (0 ≤ x ∧ x < 256) ∧ Hid (x = r[k]?.getD 0) := ⟨_, R.byt k (by rw [R.len]; exact hlt), rfl⟩
      rcases R.sl with sr | ⟨b1, o1, rfl, hb1, hc1⟩
      · have := R.len; rw [sr] at this; simp at this; omega
      have c1 : wr.cell? ⟨b1, o1 + k, none⟩ = some (.int .u8 x) := by rw [Hx.out, hB.cell (p := ⟨b1, o1 + k, none⟩) hb1]; exact hc1 k (by rw [R.len]; exact hlt)
      have hfr := hf.below hB
      have hBl := lit_below wr ([x, 1].map (Value.int .u8)).toArray 5
      have X := arg_lit wr [x, 1] (byt_two x 1 hx (by decide))
      have K := pmul_any b a n c l _ _ _ [x, 1] _ (hfr.below hBl) (A.below hBl) X (by omega) (by simp)
      simp only [List.map_cons, List.map_nil, List.length_cons, List.length_nil, Nat.zero_add] at K hBl
      clear hc1 X
      go_wp2_with (go_at_call 84; refine K.mono ?_; rintro e w2 ⟨⟨a2, n2, c2, l2, rfl, A2, ht2, hl2, hn2⟩, hB2⟩)
      go_roundw
      case rel =>
        have hC : ∀ i, cf l2 i = RT r (k + 1) i := fun i => by
          rw [hl2 i, RT_step r k (by rw [R.len]; exact hlt), ← Hx.out]
          exact Po.cv_congr _ _ _ _ _ (fun i _ => HC.out i) (fun i _ => cf_lin x i)
        obtain ⟨_, n3, _, l3, he, _, _, _, hn3⟩ := IsP.low (w := w2) (e := .returned (.slice a2 n2 c2)) (N := n2) ⟨a2, n2, c2, l2, rfl, A2, ht2, hC, Nat.le_refl _⟩ (RT_low r (k + 1) (by rw [R.len]; omega))
        cases he
        exact ⟨k + 1, a2, _, _, l2, by omega, by go_num, rfl, by omega, A2, ht2, hC, hB.trans (hBl.mono hB.size |>.trans (hB2.mono (by have := hB.size; simp; omega)))⟩
      case measure => simp [intOf]; omega
    · have hkm : k = nr := by omega
      subst hkm
      go_wp2
      go_ret
      exact ⟨⟨a, n, c, l, rfl, A, Ht.out, HC.out, hn⟩, hB⟩

theorem eq_of_cf {l1 l2 : List Int} (b1 : Byt l1) (b2 : Byt l2) (t1 : tl l1 = l1.length) (t2 : tl l2 = l2.length) (h : ∀ i, cf l1 i = cf l2 i) : l1 = l2 := by
  have hg : ∀ i : Nat, l1[i]?.getD 0 = l2[i]?.getD 0 := fun i => by rw [← ofE_cf l1 b1, ← ofE_cf l2 b2, h]
  have hlen : l1.length = l2.length := by
    rw [← t2]
    refine Eq.symm (tl_unique l2 l1.length (fun h0 => ?_) (fun i hi => ?_))
    · rw [← hg, ← t1]; exact tl_top l1 (by omega)
    · rw [← hg, List.getElem?_eq_none hi]; rfl
  refine List.ext_getElem hlen (fun i h1 h2 => ?_)
  have := hg i
  rw [List.getElem?_eq_getElem h1, List.getElem?_eq_getElem h2] at this
  exact this
theorem rts_12 (i : Nat) : RT [1, 2] 2 i = cf [2, 3, 1] i := by
  by_cases h : i < 3
  · have : i = 0 ∨ i = 1 ∨ i = 2 := by omega
    rcases this with rfl | rfl | rfl <;> decide +kernel
  · rw [RT_low [1, 2] 2 (by simp) i (by omega), Po.cf_low [2, 3, 1] i (by simp; omega)]


-- DIVISION
/-- an element at a place -/
def mono (A : Po.El) (m : Nat) : Nat → Po.El := fun i => if i = m then A else 0
theorem mono_low (A : Po.El) (m : Nat) : Low (m + 1) (mono A m) := fun i hi => by unfold mono; rw [if_neg (by omega)]
theorem cv_mono (A : Po.El) (m : Nat) (q : Nat → Po.El) (j : Nat) : cv (mono A m) q j = if m ≤ j then mu A (q (j - m)) else 0 := by
  unfold cv
  by_cases h : m ≤ j
  · rw [if_pos h, Po.S_one (j + 1) m _ (by omega) (fun i hi hne => by unfold mono; rw [if_neg hne, Po.zero_mu])]
    unfold mono; rw [if_pos rfl]
  · rw [if_neg h]
    exact Po.S_null _ _ (fun i hi => by unfold mono; rw [if_neg (by omega), Po.zero_mu])
/-- what is left of p, when all from k on is gone -/
def Left (p q : Nat → Po.El) (k : Nat) (R : Nat → Po.El) : Prop := Low k R ∧ ∃ T M, Low M T ∧ ∀ j, p j = cv T q j ^^^ R j
theorem Left.start (p q : Nat → Po.El) (k : Nat) (h : Low k p) : Left p q k p := ⟨h, fun _ => 0, 0, fun _ _ => rfl, fun j => by rw [cv_zero_left _ _ (fun _ => rfl), Po.z0]⟩
theorem Left.step {p q R : Nat → Po.El} {k d : Nat} (h : Left p q (k + 1) R) (hd : d ≤ k) (hq : Low (d + 1) q) (I : Po.El) (hI : mu I (q d) = 1) :
    Left p q k (fun j => R j ^^^ (if k - d ≤ j then mu (mu (R k) I) (q (j - (k - d))) else 0)) := by
  obtain ⟨hl, T, M, hT, hp⟩ := h
  refine ⟨fun j hj => ?_, fun i => T i ^^^ mono (mu (R k) I) (k - d) i, M + (k - d + 1), ?_, fun j => ?_⟩
  · show R j ^^^ (if k - d ≤ j then mu (mu (R k) I) (q (j - (k - d))) else 0) = 0
    rw [if_pos (by omega)]
    by_cases e : j = k
    · subst e
      rw [show j - (j - d) = d from by omega, Po.mu_assoc, hI, Po.mu_one, Po.xor_self']
    · rw [hl j (by omega), hq (j - (k - d)) (by omega), Po.mu_zero, Po.x0]
  · exact Low.xor (hT.mono (by omega)) ((mono_low _ _).mono (by omega))
  · have : (if k - d ≤ j then mu (mu (R k) I) (q (j - (k - d))) else 0) ^^^ (if k - d ≤ j then mu (mu (R k) I) (q (j - (k - d))) else 0) = (0 : Po.El) := Po.xor_self' _
    rw [Po.cv_xor_left, cv_mono, hp j, Po.xor4, this, Po.x0]
theorem inv_el (y : Int) (hy0 : 0 < y) (hy1 : y < 256) : mu (toE (dI 1 y)) (toE y) = 1 := by
  have h := Gf.gI_dI 1 y (by decide) (by decide) hy0 hy1
  have hd := Gf.dI_bd 1 y
  have := Po.toE_gI (dI 1 y) y hd.1 hd.2 (by omega) hy1
  rw [h] at this
  exact this.symm

theorem slice_from (g m c o : Nat) (l : Int) (hl : l = (o : Int)) (h1 : o ≤ m) (h2 : o < c) (wx : World) :
    (Instr.slice 69 (.slice (some ⟨g, 0, none⟩) m c) (some (.int .i64 l)) none none).run Tryz.prog wx = .ok (.slice (some ⟨g, o, none⟩) (m - o) (c - o)) wx := by
  subst hl
  have he : Tryz.prog.elem 69 = 5 := by kernel_rfl
  obtain ⟨i, hi, hzz⟩ := Option.map_eq_some_iff.1 info_u8
  simp only [Prod.mk.injEq] at hzz
  rw [run_slice_l (P := Tryz.prog) (w := wx) (t := 69) (a := some ⟨g, 0, none⟩) (len := m) (cap := c) (by rw [he]; exact Tryz.underlying69) .i64 (o : Int) (by omega) (by omega), he]
  have hco : ¬ c = o := by omega
  have hz : (Addr.add ⟨g, 0, none⟩ o) = ⟨g, o, none⟩ := by
    unfold Addr.add
    by_cases h : o = 0
    · simp [h]
    · simp [h]
  simp [sizeOf, typeInfo, hi, hzz, Result.andThen, sliced, hco, hz]

theorem mod_zero (b : Nat) (ap : Option Addr) (np cp : Nat) (aq : Option Addr) (nq cq : Nat) (q : List Int) (w : World) (Q : Arg w aq nq cq q) (hq : nq ≤ 2000) (h0 : Hid (tl q = 0)) :
    Calls Tryz.prog 73 #[.pointer (some ⟨b, 0, none⟩), .slice ap np cp, .slice aq nq cq] w fun e w' => e = .returned (.tuple #[.slice none 0 0, .int .i64 16]) ∧ w' = w := by
  go_enter Tryz.func73, Tryz.ntmps73
  go_wp2_with (go_at_call 88; refine (degree_arg _ _ _ 0 q (-1) _ Q (by omega) h0 (by decide : (-1 : Int) = 0 - 1)).mono ?_; rintro e w6 ⟨rfl, rfl⟩)
  go_ret2
  exact ⟨rfl, rfl⟩
set_option maxRecDepth 100000 in
set_option maxHeartbeats 2000000 in
theorem mod_any (b : Nat) (ap : Option Addr) (np cp : Nat) (p : List Int) (aq : Option Addr) (nq cq : Nat) (q : List Int) (d : Nat) (w : World) (hf : FldAt w b) (P : Arg w ap np cp p) (Q : Arg w aq nq cq q) (hp : np ≤ 2000) (hq : nq ≤ 2000) (hd : Hid (tl q = d + 1)) :
    Calls Tryz.prog 73 #[.pointer (some ⟨b, 0, none⟩), .slice ap np cp, .slice aq nq cq] w fun e w' => ∃ a n c l, e = .returned (.tuple #[.slice a n c, .int .i64 0]) ∧ Arg w' a n c l ∧ tl l = n ∧ n ≤ d ∧ Left (cf p) (cf q) d (cf l) ∧ Below w.heap.size w w' := by
  obtain ⟨q', Q', Hq', Htq, hdq⟩ := Q.trim hd
  obtain ⟨y, hy, Hy⟩ : ∃ y, (0 < y ∧ y < 256) ∧ Hid (y = q'[d]?.getD 0) := by
    refine ⟨_, ?_, rfl⟩
    have h1 := Q'.byt d (by rw [Q'.len]; omega)
    have h2 := tl_top q' (by rw [Htq.out]; omega)
    rw [Htq.out, show d + 1 - 1 = d from by omega] at h2
    omega
  have hI : mu (toE (dI 1 y)) (cf q d) = 1 := by
    have := inv_el y hy.1 hy.2
    rw [Hy.out, ← Hq'.out d]
    rwa [Hy.out] at this
  rcases Q'.sl with sq | ⟨b1, o1, rfl, hb1, hc1⟩
  · have := Q'.len; rw [sq] at this; simp at this
  have cy : w.cell? ⟨b1, o1 + d, none⟩ = some (.int .u8 y) := by rw [Hy.out]; exact hc1 d (by rw [Q'.len]; omega)
  clear hc1
  have hId := Gf.dI_bd 1 y
  have hcq : d + 1 ≤ cq := Q'.cap
  obtain ⟨m, Hm⟩ : ∃ m, Hid (tl p = m) := ⟨_, rfl⟩
  have KD := degree_arg (some ⟨b1, o1, none⟩) nq cq (d + 1) q (d : Int) w Q (by omega) hd (by show _ = _; omega)
  have hdz : decide ((d : Int) < 0) = false := by simp
  go_enter Tryz.func73, Tryz.ntmps73
  go_wp2_with (first | (go_at_call 88; refine KD.mono ?_; rintro e w' ⟨rfl, rfl⟩) | (go_at_call 89; refine (inv_any _ _ (by omega) (by omega) _ (by exact hf)).mono ?_; rintro e w1 ⟨rfl, HL⟩))
  have hB1 := below_like HL
  clear HL KD cy
  refine (trim_any ap np cp p w1 (P.below hB1) (by omega)).mono ?_
  rw [Hm.out]
  rintro e w2 ⟨a2, c2, rfl, hB2, hc2, hnil2, hrow⟩
  have hB12 := bnext hB1 hB2
  have hmn : m ≤ np := by have h1 := tl_le p; have h2 := P.len; have h3 := Hm.out; omega
  by_cases hm0 : m = 0
  · subst hm0
    have hd0 : decide ((d : Int) ≤ -1) = false := by simp; omega
    have A0 : Arg w2 a2 0 c2 [] := ⟨rfl, .inl rfl, fun i hi => by simp at hi, by omega, hnil2⟩
    go_wp2
    refine wp_loop_rounds 1 ?_
    rw [rounds_succ]
    go_wp2_with (go_at_call 93; refine (trimmed_arg _ _ _ 0 [] _ A0 (by omega) (rfl : tl [] = 0)).mono ?_; rintro e w6 ⟨rfl, rfl⟩)
    go_ret2
    refine ⟨a2, 0, c2, [], rfl, A0, rfl, by omega, ?_, hB12⟩
    have hz : ∀ i, cf p i = 0 := fun i => cf_low_tl p P.byt i (by rw [Hm.out]; omega)
    have := Left.start (cf p) (cf q) d (fun i _ => hz i)
    have e : cf p = cf [] := funext (fun i => by rw [hz i]; rfl)
    rw [e] at this ⊢
    exact this
  · obtain ⟨g, rfl, hg, row⟩ := hrow (by omega)
    have hm0' : 0 < m := by omega
    clear hm0 hrow
    have hlow : Low m (cf p) := by have := cf_low_tl p P.byt; rwa [Hm.out] at this
    have hqlow : Low (d + 1) (cf q) := by have := cf_low_tl q Q.byt; rwa [hd.out] at this
    go_wp2
    go_loopw [12] (fun i wr => ∃ (k : Nat) (R : Nat → Po.El), k ≤ m ∧ i = .int .i64 ((k : Int) - 1) ∧ Left (cf p) (cf q) k R ∧ RowE wr g m R ∧ Below g w2 wr) (fun i _ => (intOf i + 1).toNat)
    case atStart => exact ⟨m, cf p, by omega, rfl, Left.start _ _ _ hlow, row, Below.refl _ _⟩
    case round =>
      clear row
      obtain ⟨k, R, hk, rfl, hL, row, hB⟩ := hrel
      have hgs : w'.heap.size ≤ g := by have := hB1.size; omega
      have hBr : Below w'.heap.size w' wr := hB12.trans (hB.mono hgs)
      by_cases hkd : d < k
      · obtain ⟨i, hi, Hi⟩ : ∃ i, i < m ∧ Hid (k = i + 1) := ⟨k - 1, by omega, by show _ = _; omega⟩
        have hid : d ≤ i := by have := Hi.out; omega
        rw [Hi.out, show (((i + 1 : Nat) : Int) - 1) = (i : Int) from by omega]
        have hL' : Hid (Left (cf p) (cf q) (i + 1) R) := by show Left _ _ _ _; rw [← Hi.out]; exact hL
        clear hL hkd
        obtain ⟨x, hx, Hx⟩ : ∃ x, (0 ≤ x ∧ x < 256) ∧ Hid (ofE (R i) = x) := ⟨_, ofE_bd _, rfl⟩
        have cx := row.cell hi
        rw [Hx.out] at cx
        have Qr := Q'.below hBr
        have hfr := hf.below hBr
        have hbg : b < g := by have := hf.lt; omega
        have hLies : Lies g (some ⟨b1, o1, none⟩) q' := .inr ⟨b1, o1, rfl, by omega⟩
        have hxi := Gf.gI_bd x (dI 1 y)
        obtain ⟨o, hoc, hom, ho, Ho⟩ : ∃ o, o < c2 ∧ o < m ∧ Hid ((i : Int) - (d : Int) = (o : Int)) ∧ Hid (i = d + o) := ⟨i - d, by omega, by omega, by show _ = _; omega, by show _ = _; omega⟩
        have hwr : IntKind.i64.wrap ((i : Int) - (d : Int)) = (o : Int) := by rw [ho.out, Go.IntWalk.i64_left]; exact Go.IntWalk.wrap64_in (o : Int) ⟨by omega, by omega⟩
        have hodm : o + (d + 1) ≤ m := by have := Ho.out; omega
        have hom' : o ≤ m := by omega
        have hoc' : ¬ c2 = o := by omega
        go_wp2
        go_region_with (first | (go_at_call 92; refine (mul_any _ _ _ (by omega) (by omega) (by omega) (by omega) _ (by exact hfr.of fun _ => rfl)).mono ?_; rintro e w' ⟨rfl, j, rfl⟩) | (go_at_call 91; refine (addScaled_any b g m o (m - o) (c2 - o) (some ⟨b1, o1, none⟩) cq (d + 1) q' (gI x (dI 1 y)) R _ (by exact hfr.of fun _ => rfl) hbg (by exact Qr.sl.drewN _) hLies Qr.byt hxi hodm (by omega) (by omega) (by exact row.drewN _) Qr.len).mono ?_; rintro e w3 ⟨rfl, row3, hB3⟩))
        all_goals
          go_wp2
          go_roundw
          case rel =>
            refine ⟨i, _, by omega, by go_num, Left.step hL'.out hid hqlow (toE (dI 1 y)) hI, row3.congr (fun t _ => ?_), (below_drewN hB _).trans hB3⟩
            have ex : toE (gI x (dI 1 y)) = mu (R i) (toE (dI 1 y)) := by rw [Po.toE_gI x (dI 1 y) hx.1 hx.2 hId.1 hId.2, ← Hx.out, toE_ofE]
            have eo : i - d = o := by have := Ho.out; omega
            rw [adN_all, ex, eo, Hq'.out]
          case measure => simp [intOf]
      · have hkd' : k ≤ d := by omega
        have hRl : Low m R := hL.1.mono hk
        have A := row.arg (c := c2) hc2
        obtain ⟨t, Hm2⟩ : ∃ t, Hid (tl (lst m R) = t) := ⟨_, rfl⟩
        obtain ⟨l', A', Hl', Ht', htm⟩ := A.trim Hm2
        have hdk : decide ((d : Int) ≤ (k : Int) - 1) = false := by simp; omega
        go_wp2_with (go_at_call 93; refine (trimmed_arg _ m c2 t _ wr A (by omega) Hm2).mono ?_; rintro e w6 ⟨rfl, rfl⟩)
        go_ret2
        have hC : ∀ i, cf l' i = R i := fun i => by rw [Hl'.out i, lst_low m R hRl]
        obtain ⟨_, n3, _, l3, he, _, _, _, hn3⟩ := IsP.low (w := w6) (e := .returned (.slice (some ⟨g, 0, none⟩) t c2)) (N := t) ⟨_, t, c2, l', rfl, A', Ht'.out, hC, Nat.le_refl _⟩ (hL.1.mono hkd')
        cases he
        refine ⟨_, _, _, l', rfl, A', Ht'.out, hn3, ?_, hBr⟩
        have e : cf l' = R := funext hC
        rw [e]
        exact ⟨hL.1.mono hkd', hL.2⟩

end Go.Proofs.YtoimbjbdkkohcaaGreatDoor

/-
  The iterator over an element's powers, the code as it lies, its roots.
-/
namespace Go.Proofs.YtoimbjbdkkohcaaGreatDoor
open Go.RowKit Go.Shelf
open Gf (gI eI)
open Po (El mu pwr ev S cf toE cv Low rts)
open Rm (al sy)
attribute [local go_sem] Oper.semAt_some

theorem yields5 {e : Ending} {A B : Prop} (h : (e = .returned (.bool true) ∧ A) ∨ (e = .returned (.bool false) ∧ B)) : ∃ r : Bool, e = .returned (.bool r) ∧ Hid ((r = true ∧ A) ∨ (r = false ∧ B)) := by
  rcases h with ⟨rfl, h⟩ | ⟨rfl, h⟩
  · exact ⟨true, rfl, .inl ⟨rfl, h⟩⟩
  · exact ⟨false, rfl, .inr ⟨rfl, h⟩⟩
theorem FldAt.stay {B : Nat} {W W' : World} {b : Nat} (h : FldAt W b) (k : Stay B W W') : FldAt W' b :=
  ⟨fun n hn => k.cell (h.1 n hn), fun a ha => k.cell (h.2 a ha)⟩
theorem FldAt.keep {M : Nat → Prop} {W W' : World} {b : Nat} (h : FldAt W b) (k : Keep M W W') (hm : ¬ M b) : FldAt W' b :=
  h.of fun o => World.cell?_of_block (w := W) (a := ⟨b, o, none⟩) (k.2 b h.lt hm)

set_option maxHeartbeats 1000000 in
theorem powers_any (b : Nat) (a n : Int) (w : World) :
    Calls Tryz.prog 82 #[.pointer (some ⟨b, 0, none⟩), .int .u8 a, .int .i64 n] w fun e w' =>
      e = .returned (.func (.func 101) #[] #[.pointer (some ⟨w.heap.size + 1 + 1, 0, none⟩), .pointer (some ⟨w.heap.size, 0, none⟩), .pointer (some ⟨w.heap.size + 1, 0, none⟩)]) ∧
      w' = ((w.alloc (.cells #[.pointer (some ⟨b, 0, none⟩)] 65)).alloc (.cells #[.int .u8 a] 5)).alloc (.cells #[.int .i64 n] 3) := by
  go_enter Tryz.func82, Tryz.ntmps82
  go_wp2
  go_ret
  exact ⟨rfl, rfl⟩

set_option maxRecDepth 100000 in
set_option maxHeartbeats 2000000 in
theorem powers_seq (nb fb ab b n : Nat) (a : El) (hn : n ≤ 300) (w : World) (c0 : Box w nb (.int .i64 (n : Int))) (c1 : Box w fb (.pointer (some ⟨b, 0, none⟩))) (c2 : Box w ab (.int .u8 (oe a))) (hf : FldAt w b) :
    SeqC Tryz.prog 101 #[.pointer (some ⟨nb, 0, none⟩), .pointer (some ⟨fb, 0, none⟩), .pointer (some ⟨ab, 0, none⟩)] (fun x => #[.int .i64 (x : Int), .int .u8 (oe (pwr a x))]) n (fun _ => True) (fun x => x = fb ∨ x = ab ∨ x = b) w := by
  intro l M J Jx W hW hM hJ hJx hskip hY h0
  have d0 := (c0.below hW c0.lt).1
  have D1 : Hid (Box W fb (.pointer (some ⟨b, 0, none⟩))) := c1.below hW c1.lt
  have D2 : Hid (Box W ab (.int .u8 (oe a))) := c2.below hW c2.lt
  have DF : Hid (FldAt W b) := hf.below hW
  have HM : Hid (¬ M fb ∧ ¬ M ab ∧ ¬ M b) := ⟨fun h => (hM _ h).2 (.inl rfl), fun h => (hM _ h).2 (.inr (.inl rfl)), fun h => (hM _ h).2 (.inr (.inr rfl))⟩
  have HJ : Hid (∀ x W1 k, J x W1 → J x (W1.drewN k)) := fun x W1 k h => hJ x _ _ h (Stay.drewN _ W1 k)
  have HY : Hid (∀ (x : Nat) (W1 : World), x < n → J x W1 → YieldAt Fence.wide 8 Tryz.prog l #[.int .i64 (x : Int), .int .u8 (oe (pwr a x))] W1 fun e W' => (e = .returned (.bool true) ∧ J (x + 1) W' ∧ Keep M W1 W') ∨ (e = .returned (.bool false) ∧ Jx x W' ∧ Keep M W1 W')) := fun x W1 h1 h2 => hY x W1 h1 trivial h2
  clear hJ hJx hskip hY hM hW c0 c1 c2 hf
  refine callsIn_of_wp Tryz.func101 rfl trivial ?_ rfl
  simp only [Tryz.ntmps101, List.size_toArray, List.length_cons, List.length_nil, Nat.reduceAdd, Nat.reduceSub, Array.replicate_succ, Array.replicate_zero, List.push_toArray, List.append_toArray, List.nil_append, List.cons_append]
  gi_wp2
  gi_loopw [5, 8] (fun p i wr => ∃ (x : Nat) (y : El), x ≤ n ∧ Hid (y = pwr a x) ∧ i = .int .i64 (x : Int) ∧ p = .int .u8 (oe y) ∧ J x wr ∧ Hid (Box wr fb (.pointer (some ⟨b, 0, none⟩)) ∧ Box wr ab (.int .u8 (oe a)) ∧ FldAt wr b)) (fun _ i _ => (n - (intOf i).toNat))
  case atStart => exact ⟨0, 1, by omega, rfl, rfl, rfl, h0, D1.out, D2.out, DF.out⟩
  case round =>
    obtain ⟨x, y, hx, Hy, rfl, rfl, hJs, HB⟩ := hrel
    by_cases hlt : x < n
    · obtain ⟨fn, tmps, assign, body, hyl, hR⟩ := HY.out x wr hlt hJs
      rw [← Hy.out] at hyl
      have hyb := oe_bd y
      have hab := oe_bd a
      gi_wp2
      refine hR.mono ?_
      rintro e W3 (⟨rfl, hJ3, hk3⟩ | ⟨rfl, hJx3, _⟩)
      · obtain ⟨b1, b2, bf⟩ := HB.out
        have e1 := hk3.box b1 HM.out.1
        have e2 := hk3.box b2 HM.out.2.1
        have ef := bf.keep hk3 HM.out.2.2
        have q1 := e1.1
        have q2 := e2.1
        have E : Hid (Box W3 fb (.pointer (some ⟨b, 0, none⟩)) ∧ Box W3 ab (.int .u8 (oe a)) ∧ FldAt W3 b) := ⟨e1, e2, ef⟩
        have Hy' : Hid (mu y a = pwr a (x + 1)) := by show _ = _; rw [Hy.out]; rfl
        have HMul : Hid (Calls Tryz.prog 92 #[.pointer (some ⟨b, 0, none⟩), .int .u8 (oe y), .int .u8 (oe a)] W3 fun e w' => e = .returned (.int .u8 (oe (mu y a))) ∧ ∃ k, w' = W3.drewN k) := by
          rw [← oe_mu]; exact mul_any b _ _ hyb.1 hyb.2 hab.1 hab.2 W3 ef
        clear b1 b2 bf e1 e2 ef HB
        gi_wp2_with (refine ⟨trivial, ?_⟩; gi_at_call 92; refine (callsIn_wide.2 HMul.out).mono ?_; rintro e w' ⟨rfl, q, rfl⟩)
        go_roundw
        case rel => exact ⟨x + 1, mu y a, by omega, Hy', by go_num, rfl, HJ.out _ _ q hJ3, E.out.1.drewN q, E.out.2.1.drewN q, E.out.2.2.drewN q⟩
        case measure => simp [intOf]; omega
      · gi_wp2
        refine bodyPost_ret (results_none rfl _ _ _) rfl ?_
        exact ⟨⟨_, rfl⟩, .inr ⟨x, hlt, trivial, hJx3⟩⟩
    · obtain rfl : x = n := by omega
      gi_wp2
      go_end0
      exact ⟨⟨_, rfl⟩, .inl hJs⟩

/-! ### the code -/
/-- the generator's coefficients -/
def gen : Nat → El := rts [8, 4, 2, 1]
theorem gen_low : Low 5 gen := Po.rts_low [8, 4, 2, 1]
theorem gen_top : gen 4 = 1 := Po.rts_top [8, 4, 2, 1]
structure CdAt (w : World) (c b : Nat) : Prop where
  f : w.cell? ⟨c, 0, none⟩ = some (.pointer (some ⟨b, 0, none⟩))
  g : ∀ i : Nat, i < 5 → w.cell? ⟨c, 1 + i, none⟩ = some (.int .u8 (oe (gen i)))
  fld : FldAt w b
theorem CdAt.lt {w : World} {c b : Nat} (h : CdAt w c b) : c < w.heap.size := cell_lt h.f
theorem CdAt.of {w w' : World} {c b : Nat} (h : CdAt w c b) (k : w'.heap[c]? = w.heap[c]?) (k2 : w'.heap[b]? = w.heap[b]?) : CdAt w' c b :=
  ⟨(World.cell?_of_block (w := w) (a := ⟨c, 0, none⟩) k).trans h.f, fun i hi => (World.cell?_of_block (w := w) (a := ⟨c, 1 + i, none⟩) k).trans (h.g i hi), h.fld.of fun o => World.cell?_of_block (w := w) (a := ⟨b, o, none⟩) k2⟩
theorem CdAt.below {C : Nat} {w w' : World} {c b : Nat} (h : CdAt w c b) (k : Below C w w') (hC : c < C ∧ b < C) : CdAt w' c b := h.of (k.block c hC.1) (k.block b hC.2)
theorem CdAt.next {w w' : World} {c b : Nat} (h : CdAt w c b) (k : Below w.heap.size w w') : CdAt w' c b := h.below k ⟨h.lt, h.fld.lt⟩
theorem CdAt.stay {B : Nat} {w w' : World} {c b : Nat} (h : CdAt w c b) (k : Stay B w w') : CdAt w' c b := ⟨k.cell h.f, fun i hi => k.cell (h.g i hi), h.fld.stay k⟩
theorem CdAt.drewN {w : World} {c b : Nat} (h : CdAt w c b) (k : Nat) : CdAt (w.drewN k) c b := h.stay (Stay.drewN 0 w k)

theorem eI_1 : eI 1 = 2 := by decide +kernel
theorem Below.drew1 {B : Nat} {w w' : World} (h : Below B w w') : Below B w w'.drew := below_stay h (Stay.drewN B w' 1) (Nat.le_refl _)
/-- what the roots' iterator holds, and where it lies -/
structure RtO (b : Nat) (w w' : World) : Prop where
  size : w'.heap.size = w.heap.size + 3
  c0 : Box w' w.heap.size (.pointer (some ⟨b, 0, none⟩))
  c1 : Box w' (w.heap.size + 1) (.int .u8 2)
  c2 : Box w' (w.heap.size + 1 + 1) (.int .i64 4)
  stay : Stay w.heap.size w w'
theorem powers_out (b : Nat) (w : World) :
    Calls Tryz.prog 82 #[.pointer (some ⟨b, 0, none⟩), .int .u8 2, .int .i64 4] w fun e w' =>
      e = .returned (.func (.func 101) #[] #[.pointer (some ⟨w.heap.size + 1 + 1, 0, none⟩), .pointer (some ⟨w.heap.size, 0, none⟩), .pointer (some ⟨w.heap.size + 1, 0, none⟩)]) ∧ RtO b w w' := by
  refine (powers_any b 2 4 w).mono ?_
  rintro e w' ⟨rfl, rfl⟩
  obtain ⟨h1, h2, h3, h4, h5⟩ := box3 w _ _ _ _ _ _ _ rfl
  exact ⟨rfl, h1, h2, h3, h4, h5⟩
set_option maxHeartbeats 1000000 in
theorem roots_fn (c b : Nat) (w : World) (f : w.cell? ⟨c, 0, none⟩ = some (.pointer (some ⟨b, 0, none⟩))) (hf : FldAt w b) :
    Calls Tryz.prog 57 #[.pointer (some ⟨c, 0, none⟩)] w fun e w' =>
      e = .returned (.func (.func 101) #[] #[.pointer (some ⟨w.heap.size + 1 + 1, 0, none⟩), .pointer (some ⟨w.heap.size, 0, none⟩), .pointer (some ⟨w.heap.size + 1, 0, none⟩)]) ∧ RtO b w w' := by
  have hx : Hid (∀ W, FldAt W b → Calls Tryz.prog 83 #[.pointer (some ⟨b, 0, none⟩), .int .i64 1] W fun e w' => e = .returned (.int .u8 2) ∧ w' = W) := fun W h => by
    have := exp_any b 1 W h; rw [eI_1] at this; exact this
  have F : Hid (w.drew.cell? ⟨c, 0, none⟩ = some (.pointer (some ⟨b, 0, none⟩))) := f
  go_enter Tryz.func57, Tryz.ntmps57
  go_wp2
  go_region_held3 (fun w' => w'.cell? ⟨c, 0, none⟩ = some (.pointer (some ⟨b, 0, none⟩))) (go_keep)
    (first | (go_at_call 83; refine (hx.out _ (by exact hf.drewN _)).mono ?_; rintro e w' ⟨rfl, rfl⟩) | (go_at_call 82; refine (powers_out b _).mono ?_; rintro e w' ⟨rfl, hO⟩; have hc := hO.stay.cell F.out))
  go_wp2
  go_ret
  exact ⟨rfl, hO.size, hO.c0, hO.c1, hO.c2, (Stay.drewN _ w 1).trans hO.stay⟩
end Go.Proofs.YtoimbjbdkkohcaaGreatDoor
