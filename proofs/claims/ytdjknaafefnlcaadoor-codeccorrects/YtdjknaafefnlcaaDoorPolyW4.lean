/-
  The walks of Trim, Add, Mul, Scale, Shift: each answers a new list.
-/
import Derived.Test.YtdjknaafefnlcaaDoorPolyW3
import Derived.Laws.CopyOwn
import Derived.Laws.AppendOwnNone
namespace Go.Proofs.YtdjknaafefnlcaaDoor
open Go.RowKit Go.Deep
open Gf (eI lI gI dI pI)
open Po (toE cf mu S pwr ev cv Low)

/-- a slice of n bytes, with room for c, holds a list -/
structure Arg (w : World) (a : Option Addr) (n c : Nat) (l : List Int) : Prop where
  len : l.length = n
  sl : SlAt w a l
  byt : Byt l
  cap : n ≤ c
  nil : a = none → c = 0
theorem Arg.below {w w' : World} {a : Option Addr} {n c : Nat} {l : List Int} (h : Arg w a n c l) (hb : Below w.heap.size w w') : Arg w' a n c l := ⟨h.len, h.sl.below hb, h.byt, h.cap, h.nil⟩
theorem Arg.drewN {w : World} {a : Option Addr} {n c : Nat} {l : List Int} (h : Arg w a n c l) (k : Nat) : Arg (w.drewN k) a n c l := ⟨h.len, h.sl.drewN k, h.byt, h.cap, h.nil⟩
theorem Arg.alloc {w : World} {a : Option Addr} {n c : Nat} {l : List Int} (h : Arg w a n c l) (o : Obj) : Arg (w.alloc o) a n c l := ⟨h.len, h.sl.alloc o, h.byt, h.cap, h.nil⟩
theorem Arg.take {w : World} {a : Option Addr} {n c : Nat} {l : List Int} (h : Arg w a n c l) (k : Nat) (hk : k ≤ n) : Arg w a k c (l.take k) :=
  ⟨by have := h.len; simp; omega, h.sl.take k, h.byt.take k, by have := h.cap; omega, h.nil⟩
theorem Arg.lies {w : World} {a : Option Addr} {n c : Nat} {l : List Int} (h : Arg w a n c l) : Lies w.heap.size a l := by
  rcases h.sl with e | ⟨b, o, ha, hb, _⟩
  · exact .inl e
  · exact .inr ⟨b, o, ha, hb⟩
theorem Arg.none (w : World) : Arg w none 0 0 [] := ⟨rfl, .inl rfl, fun i hi => by simp at hi, Nat.le_refl _, fun _ => rfl⟩
theorem FldAt.lt {w : World} {b : Nat} (h : FldAt w b) : b < w.heap.size := cell_lt (h.1 0 (by omega))
theorem FldAt.below {w w' : World} {b : Nat} (h : FldAt w b) (hb : Below w.heap.size w w') : FldAt w' b := h.of fun o => hb.cell (p := ⟨b, o, Option.none⟩) h.lt

-- LISTS OF ELEMENTS
def lst (n : Nat) (F : Nat → Po.El) : List Int := (List.range n).map fun j => ofE (F j)
theorem lst_len (n : Nat) (F : Nat → Po.El) : (lst n F).length = n := by simp [lst]
theorem lst_get (n : Nat) (F : Nat → Po.El) (i : Nat) (h : i < n) : (lst n F)[i]?.getD 0 = ofE (F i) := by simp [lst, h]
theorem lst_cf (n : Nat) (F : Nat → Po.El) (i : Nat) (h : i < n) : cf (lst n F) i = F i := by unfold cf; rw [lst_get n F i h, toE_ofE]
theorem lst_byt (n : Nat) (F : Nat → Po.El) : Byt (lst n F) := fun i hi => by
  rw [lst_len] at hi
  rw [lst_get n F i hi]; exact ofE_bd _
theorem lst_low (n : Nat) (F : Nat → Po.El) (h : Low n F) (i : Nat) : cf (lst n F) i = F i := by
  by_cases hi : i < n
  · exact lst_cf n F i hi
  · rw [h i (by omega)]; exact Po.cf_low _ i (by rw [lst_len]; omega)
theorem RowE.arg {w : World} {g n c : Nat} {F : Nat → Po.El} (h : RowE w g n F) (hc : n ≤ c) : Arg w (some ⟨g, 0, Option.none⟩) n c (lst n F) :=
  ⟨lst_len n F, .inr ⟨g, 0, rfl, h.lt, fun i hi => by rw [lst_len] at hi; rw [Nat.zero_add, h.cell hi, lst_get n F i hi]⟩, lst_byt n F, hc, fun e => by cases e⟩
theorem cf_zero_iff (l : List Int) (hb : Byt l) (i : Nat) : cf l i = 0 ↔ l[i]?.getD 0 = 0 := by rw [← ofE_cf l hb i, ofE_eq_zero]
theorem tl_of_cf (l : List Int) (hb : Byt l) (n : Nat) (h1 : 0 < n → cf l (n - 1) ≠ 0) (h2 : Low n (cf l)) : tl l = n :=
  tl_unique l n (fun h e => h1 h ((cf_zero_iff l hb _).2 e)) (fun i hi => (cf_zero_iff l hb i).1 (h2 i hi))
theorem cf_low_tl (l : List Int) (hb : Byt l) : Low (tl l) (cf l) := fun i hi => (cf_zero_iff l hb i).2 (tl_past l i hi)
theorem cf_top_tl (l : List Int) (hb : Byt l) (h : 0 < tl l) : cf l (tl l - 1) ≠ 0 := fun e => tl_top l h ((cf_zero_iff l hb _).1 e)
theorem take_get (l : List Int) (i : Nat) : (l.take (tl l))[i]?.getD 0 = l[i]?.getD 0 := by
  by_cases h : i < tl l
  · rw [List.getElem?_take_of_lt h]
  · rw [List.getElem?_eq_none (by simp; omega), tl_past l i (by omega)]; rfl
theorem take_cf (l : List Int) (i : Nat) : cf (l.take (tl l)) i = cf l i := by unfold cf; rw [take_get]
theorem take_tl (l : List Int) : tl (l.take (tl l)) = tl l := tl_unique _ _ (fun h => by rw [take_get]; exact tl_top l h) (fun i hi => by rw [take_get]; exact tl_past l i hi)

/-- a new polynomial, trimmed, with these coefficients -/
def IsP (w' : World) (e : Ending) (C : Nat → Po.El) (N : Nat) : Prop :=
  ∃ a n c l, e = .returned (.slice a n c) ∧ Arg w' a n c l ∧ tl l = n ∧ (∀ i, cf l i = C i) ∧ n ≤ N

theorem run_append_nothing (w : World) (ty : TypeId) (a : Option Addr) (c : Nat) :
    (Builtin.append_ #[52, 52] ty #[.slice none 0 0, .slice a 0 c]).run Tryd.prog w = .ok (.slice none 0 0) w := by
  obtain ⟨i, hi, hzz⟩ := Option.map_eq_some_iff.1 info_u8
  cases a with
  | none => simp [Builtin.append_, run_underlying Tryd.underlying52, sizeOf, typeInfo, hi, Builtin.lenOf, Builtin.firstCells]
  | some a => simp [Builtin.append_, run_underlying Tryd.underlying52, sizeOf, typeInfo, hi, Builtin.lenOf, Builtin.firstCells, loadCells, loadCellsFrom]
theorem wpList_append_nothing {w : World} {ops : Array Oper} {rest : List Oper} {o : Oper} {a : Act} {Q : Exit → Act → World → Prop} (hgd : o.guard = none) (s x : Operand)
    (ho : o.op = .call { callee := .builtin .append, args := #[s, x], argTypes := #[52, 52] }) (ad : Option Addr) (c : Nat) (hs : a.eval s = .slice none 0 0) (hx : a.eval x = .slice ad 0 c)
    (h : wpList Tryd.prog ops Q rest (a.put o.dst (.slice none 0 0)) w) : wpList Tryd.prog ops Q (o :: rest) a w := by
  refine wpList_plain hgd fun K hK => ?_
  have hrun := run_append_nothing w o.type ad c
  unfold Oper.wp
  simp [execOp, ho, resolve, invoke, builtin, hs, hx, hrun, Result.andThen]
  exact hK _ _ h
/-- what append lays -/
theorem owned_row {w : World} {base n : Nat} {v : Value} {l : List Int} (hb : Byt l) (hn : n = l.length) (h0 : 0 < n) (h : w.ownsRow base 5 1 v n (l.map (Value.int .u8))) :
    ∃ g c, v = .slice (some ⟨g, 0, none⟩) n c ∧ base ≤ g ∧ n ≤ c ∧ RowE w g n (cf l) := by
  obtain ⟨h1, h2 | ⟨g, cap, cur, hv, hg, hh, hnc, hcm, hsz, htk⟩⟩ := h
  · omega
  · subst hn
    refine ⟨g, cap, hv, hg, hnc, cur.size, fun j => cur[j]?.getD (.int .u8 0), by omega, ⟨cur, hh, rfl, fun i hi => by simp [hi]⟩, fun j hj => ?_⟩
    rw [ofE_cf l hb]
    have e : cur[j]? = (l.map (Value.int .u8))[j]? := by
      rw [← htk, List.getElem?_take_of_lt (by omega)]; simp
    simp [e, hj]
set_option maxHeartbeats 400000 in
/-- Trim: a new list; where it isn't empty, a row of its own -/
theorem trim_any (a : Option Addr) (n c : Nat) (l : List Int) (w : World) (A : Arg w a n c l) (hn : n ≤ 4000) :
    Calls Tryd.prog 83 #[.slice a n c] w fun e w' => ∃ a' c', e = .returned (.slice a' (tl l) c') ∧ Below w.heap.size w w' ∧ tl l ≤ c' ∧ (a' = none → c' = 0) ∧
      (0 < tl l → ∃ g, a' = some ⟨g, 0, none⟩ ∧ w.heap.size ≤ g ∧ RowE w' g (tl l) (cf l)) := by
  obtain ⟨en, sa, ba, hc, hnil⟩ := A
  subst en
  have ht := tl_le l
  by_cases h0 : tl l = 0
  · go_enter Tryd.func83, Tryd.ntmps83
    go_wp2_with (first | (go_at_call 86; refine (trimmed_any a c l _ sa ba (by unfold maxLen; omega) hc).mono ?_; rw [h0]; rintro e w' ⟨rfl, rfl⟩) | (at_builtin; refine wpList_append_nothing rfl _ _ rfl a c rfl rfl ?_))
    go_ret
    exact ⟨none, 0, by rw [h0]; rfl, Below.refl _ _, by omega, fun _ => rfl, fun h => by omega⟩
  · obtain ⟨i0, hi, hz0, hz1, hz2⟩ := info_parts info_u8
    rcases sa with sa | ⟨b1, o1, rfl, hb1, hc1⟩
    · exact absurd (by rw [sa]; rfl) h0
    have sa : SlAt w (some ⟨b1, o1, none⟩) l := .inr ⟨b1, o1, rfl, hb1, hc1⟩
    obtain ⟨m, hm, Hm⟩ : ∃ m, m ≤ l.length ∧ Hid (tl l = m) := ⟨_, ht, rfl⟩
    have hm0 : 0 < m := by have := Hm.out; omega
    obtain ⟨news, Hnews⟩ : ∃ news, Hid (news = (l.take m).map (Value.int .u8)) := ⟨_, rfl⟩
    clear ht h0
    go_enter Tryd.func83, Tryd.ntmps83
    go_wp2_with (first | (go_at_call 86; refine (trimmed_any (some ⟨b1, o1, none⟩) c l _ sa ba (by unfold maxLen; omega) hc).mono ?_; rw [Hm.out]; rintro e w' ⟨rfl, rfl⟩) | (at_builtin; refine wpList_append_own _ rfl _ _ 52 rfl w'.heap.size 5 i0 (.int .u8 0) 1 1 Tryd.underlying52 hi hz0 hz1 hz2 rfl (by decide) _ 0 [] rfl (World.ownsRow_nil _ _ _ _) ⟨b1, o1, none⟩ m c news rfl ?c0 ?c1 ?c2 ?c3 ?c4 (Nat.le_refl _) ?_))
    case c0 => rw [Hnews.out]; simp; omega
    case c1 =>
      intro j u hj
      rw [Hnews.out] at hj
      have hjm : j < m := by have := (List.getElem?_eq_some_iff.1 hj).1; simp at this; omega
      have e : u = .int .u8 (l[j]?.getD 0) := by
        rw [List.getElem?_map, List.getElem?_take_of_lt hjm] at hj
        cases h : l[j]? with
        | none => rw [h] at hj; simp at hj
        | some x => rw [h] at hj; simp at hj; rw [← hj]; rfl
      rw [e, ← hc1 j (by omega)]
      unfold Addr.add
      split
      · rename_i h; simp [h]
      · rfl
    case c2 => intro u hu; rw [Hnews.out] at hu; obtain ⟨x, _, rfl⟩ := List.mem_map.1 hu; rfl
    case c3 => unfold maxLen; omega
    case c4 => omega
    intro v' w1 hown hgrow _
    have hB : Below w'.heap.size w' w1 := (Below.refl _ _).grown hgrow (Nat.le_refl _) (fun k e => by cases e)
    have hown : w1.ownsRow w'.heap.size 5 1 v' m ((l.take m).map (Value.int .u8)) := by rw [← Hnews.out]; simpa using hown
    obtain ⟨g, c', rfl, hg, hcc, hrow⟩ := owned_row (ba.take m) (by simp; omega) hm0 hown
    clear hown hgrow
    go_wp2
    go_ret
    refine ⟨some ⟨g, 0, none⟩, c', by rw [Hm.out]; rfl, hB, by rw [Hm.out]; exact hcc, fun e => (by cases e), fun _ => ⟨g, rfl, hg, ?_⟩⟩
    rw [← Hm.out] at hrow
    exact hrow.congr (fun i _ => take_cf l i)

end Go.Proofs.YtdjknaafefnlcaaDoor
