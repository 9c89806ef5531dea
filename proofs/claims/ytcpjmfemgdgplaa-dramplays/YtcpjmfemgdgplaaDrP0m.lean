/-
  What a play of chips is told with: a step's cells, faults as the document has them.
-/
import Derived.Test.YtcpjmfemgdgplaaM17
import Derived.Test.YtcpjmfemgdgplaaM18
namespace Go.Proofs.Ytcpjmfemgdgplaa
open Go.RowKit Go.Shelf
open Ge (pw rt hd ix)
attribute [local go_sem] Oper.semAt_some

/-- the cells of a step of a law -/
def oc12 (F : Nat → Int) : List Value := ints .i64 11 F ++ ints .u8 72 fun j => F (j + 11)
abbrev KS12 : List IntKind := List.replicate 11 IntKind.i64 ++ List.replicate 72 IntKind.u8
theorem oc12_len (F : Nat → Int) : (oc12 F).length = 83 := by simp [oc12, ints_len]
theorem oc12_is (F : Nat → Int) : mints KS12 F = oc12 F := by
  unfold mints oc12 ints
  rfl
theorem oc12_one (F : Nat → Int) : ∀ v ∈ oc12 F, v.oneCell' = true := by
  intro v hv
  rcases List.mem_append.1 hv with h | h
  · exact ints_one' _ _ _ v h
  · exact ints_one' _ _ _ v h
theorem mix_open {w : World} {a2 : Option Addr} {len cap : Nat} {Z : Nat → Nat → Int} (h : IsMix KS12 w a2 len cap Z) : 0 < len → ∃ pb po, a2 = some ⟨pb, po, none⟩ ∧ ∀ W, Below w.heap.size w W → ∀ t, t < len → W.rangeAt pb (po + t * 83) (oc12 (Z t)) ∧ (∀ j, j < 11 → I64 (Z t j)) ∧ Byts 72 fun j => Z t (j + 11) := by
  intro h0
  rcases h with ⟨_, h1, _⟩ | ⟨x, rfl, h1, h2, h3⟩
  · omega
  · obtain ⟨pb, po, st⟩ := x
    have hks : ∀ j, j < 83 → ∃ k, KS12[j]? = some k := fun j hj => ⟨_, List.getElem?_eq_getElem (by simpa using hj)⟩
    obtain ⟨k0, hk0⟩ := hks 0 (by omega)
    have hc0 := (h3 0 (by omega) 0 k0 hk0).1
    obtain rfl : st = none := by simpa [Addr.add] using World.cell?_spot hc0
    have hpb : pb < w.heap.size := by
      have := World.block_lt_of_cell? w _ hc0
      rwa [Addr.add_lit] at this
    refine ⟨pb, po, rfl, fun W hW t ht => ⟨fun j v hv => ?_, fun j hj => ?_, fun j hj => ?_⟩⟩
    · have hj : j < 83 := by have := (List.getElem?_eq_some_iff.1 hv).1; rwa [oc12_len] at this
      obtain ⟨k, hk⟩ := hks j hj
      have h4 := (h3 t (by omega) j k hk).1
      rw [Addr.add_lit] at h4
      have h5 : (oc12 (Z t))[j]? = some (.int k (Z t j)) := by rw [← oc12_is]; exact mints_at _ _ _ _ hk
      rw [hv] at h5
      cases h5
      have e : po + t * 83 + j = po + (t * KS12.length + j) := by simp; omega
      rw [e]
      exact (hW.cell (p := ⟨pb, po + (t * KS12.length + j), none⟩) hpb).trans h4
    · have hk : KS12[j]? = some .i64 := by
        rw [List.getElem?_append_left (by simpa using hj), List.getElem?_replicate, if_pos hj]
      have := bounds_i64 (h3 t (by omega) j _ hk).2
      exact ⟨this.1, by omega⟩
    · have hk : KS12[j + 11]? = some .u8 := by
        rw [List.getElem?_append_right (by simp), List.getElem?_replicate, if_pos (by simp; omega)]
      have := bounds_u8 (h3 t (by omega) (j + 11) _ hk).2
      exact ⟨this.1, by show Z t (j + 11) < 256; omega⟩
theorem infoOp : (Try.prog.info? 42).map (·.size) = some 83 := by kernel_rfl
theorem zeroOp (w : World) : (zeroValue 42).run Try.prog w = .ok (.agg (oc12 fun _ => 0).toArray) w := by kernel_rfl
theorem wpList_known_g {P : Program} {ops : Array Oper} {rest : List Oper} {op : Oper} {a : Act} {w : World} {Q : Exit → Act → World → Prop} (hw : Region.wanted op (yielded ops a.tmps) = true) (v : Value) (hx : (execOp a.eval op).run P w = .ok (.value v) w) (h : wpList P ops Q rest (a.put op.dst v) w) : wpList P ops Q (op :: rest) a w :=
  wpList_step fun K hK => by rw [if_pos hw]; unfold Oper.wp; rw [hx]; exact hK _ _ h
theorem eqH_in (d : Nat) (k p q u v c i x k' p' q' u' v' c' i' x' : Int) (w : World) : (Op.equalIn (d + 1 + 1 + 1) 51 (.agg #[.int .i64 k, .int .i64 p, .int .i64 q, .int .i64 u, .int .i64 v, .int .i64 c, .int .i64 i, .int .i64 x]) (.agg #[.int .i64 k', .int .i64 p', .int .i64 q', .int .i64 u', .int .i64 v', .int .i64 c', .int .i64 i', .int .i64 x'])).run Try.prog w = .ok (decide (k = k' ∧ p = p' ∧ q = q' ∧ u = u' ∧ v = v' ∧ c = c' ∧ i = i' ∧ x = x')) w := by
  have hS : Try.prog.underlying 51 = some (.struct (Try.prog.fieldsOf 51)) := by kernel_rfl
  have hp : Try.prog.stoodInHeld 51 = false := by kernel_rfl
  have hP := eqQ_in d p q u v p' q' u' v'
  rw [run_equalIn_agg w (d + 1 + 1) 51 _ _ hS hp]
  simp only [Program.fieldsOf, Try.underlying51]
  go_simp
  by_cases h1 : k = k'
  case neg => simp [h1]
  by_cases h2 : p = p'
  case neg => simp [h1, h2]
  by_cases h3 : q = q'
  case neg => simp [h1, h2, h3]
  by_cases h4 : u = u'
  case neg => simp [h1, h2, h3, h4]
  by_cases h5 : v = v'
  case neg => simp [h1, h2, h3, h4, h5]
  by_cases h6 : c = c'
  case neg => simp [h1, h2, h3, h4, h5, h6]
  by_cases h7 : i = i'
  case neg => simp [h1, h2, h3, h4, h5, h6, h7]
  by_cases h8 : x = x' <;> simp [h1, h2, h3, h4, h5, h6, h7, h8]
theorem eqH_gd : Try.prog.eqGuardType Try.prog.depth 51 = false := by kernel_rfl
theorem eqH_eql (k p q u v c i x k' p' q' u' v' c' i' x' : Int) (w : World) : (binOp .eql 51 (.agg #[.int .i64 k, .int .i64 p, .int .i64 q, .int .i64 u, .int .i64 v, .int .i64 c, .int .i64 i, .int .i64 x]) (.agg #[.int .i64 k', .int .i64 p', .int .i64 q', .int .i64 u', .int .i64 v', .int .i64 c', .int .i64 i', .int .i64 x'])).run Try.prog w = .ok (.bool (decide (k = k' ∧ p = p' ∧ q = q' ∧ u = u' ∧ v = v' ∧ c = c' ∧ i = i' ∧ x = x'))) w := by
  rw [run_eql_struct, eqH_in 9997]; rfl
theorem eqH_neq (k p q u v c i x k' p' q' u' v' c' i' x' : Int) (w : World) : (binOp .neq 51 (.agg #[.int .i64 k, .int .i64 p, .int .i64 q, .int .i64 u, .int .i64 v, .int .i64 c, .int .i64 i, .int .i64 x]) (.agg #[.int .i64 k', .int .i64 p', .int .i64 q', .int .i64 u', .int .i64 v', .int .i64 c', .int .i64 i', .int .i64 x'])).run Try.prog w = .ok (.bool (!decide (k = k' ∧ p = p' ∧ q = q' ∧ u = u' ∧ v = v' ∧ c = c' ∧ i = i' ∧ x = x'))) w := by
  rw [run_neq_struct, eqH_in 9997]; rfl
/-- a fault, as the document has it -/
theorem of12_any (k p q u v c i x : Int) (w : World) :
    Calls Try.prog 16 #[.agg #[.int .i64 k, .int .i64 p, .int .i64 q, .int .i64 u, .int .i64 v, .int .i64 c, .int .i64 i, .int .i64 x]] w fun e w' => e = .returned (.agg #[.int .i64 k, .int .i64 p, .int .i64 q, .int .i64 u, .int .i64 v, .int .i64 c, .int .i64 i, .int .i64 x]) ∧ Below w.heap.size w w' := by
  go_enter Try.func16, Try.ntmps16
  go_upto_region 1 with (fail)
  obtain ⟨V, hV⟩ : ∃ V, (w.alloc (.cells #[.int .i64 k, .int .i64 p, .int .i64 q, .int .i64 u, .int .i64 v, .int .i64 c, .int .i64 i, .int .i64 x] 38)).alloc (.cells #[.int .i64 0, .int .i64 0, .int .i64 0, .int .i64 0, .int .i64 0, .int .i64 0, .int .i64 0, .int .i64 0] 51) = V := ⟨_, rfl⟩
  have HI : Hid (Ft V w.heap.size k p q u v c i x ∧ Ft V (w.heap.size + 1) 0 0 0 0 0 0 0 0 ∧ Below w.heap.size w V) := by
    rw [← hV]
    have h1 := Ft.new (w.alloc (.cells #[.int .i64 k, .int .i64 p, .int .i64 q, .int .i64 u, .int .i64 v, .int .i64 c, .int .i64 i, .int .i64 x] 38)) 0 0 0 0 0 0 0 0 51
    simp only [World.size_alloc] at h1
    exact ⟨(Ft.new w k p q u v c i x _).alloc _, h1, ((Below.refl _ w).alloc (Nat.le_refl _) _).alloc (by simp) _⟩
  obtain ⟨B, hB⟩ : ∃ B, w.heap.size = B := ⟨_, rfl⟩
  obtain ⟨D, hD⟩ : ∃ D, B + 1 = D := ⟨_, rfl⟩
  rw [hV]
  rw [hB, hD] at HI ⊢
  have lD : B ≤ D := by omega
  clear hV hD
  have c0 := HI.out.1.c0; have c5 := HI.out.1.c5; have c6 := HI.out.1.c6; have c7 := HI.out.1.c7
  have hr := HI.out.1.place
  have ht : V.there D 0 8 := Bk.there HI.out.2.1 .i64 (ffn k p q u v c i x)
  obtain ⟨W2, hW2⟩ : ∃ W2, V.setCells D 0 [.int .i64 k, .int .i64 p, .int .i64 q, .int .i64 u, .int .i64 v, .int .i64 c, .int .i64 i, .int .i64 x] = W2 := ⟨_, rfl⟩
  have e2 : Hid (Ft W2 D k p q u v c i x ∧ Below B w W2) := by rw [← hW2]; exact ⟨Bk.put HI.out.2.1 (ffn k p q u v c i x), belows_put lD _ 0 HI.out.2.2⟩
  go_wp2_with (first | refine wpList_load_mid rfl 36 _ rfl B 1 rfl [.int .i64 p, .int .i64 q, .int .i64 u, .int .i64 v] _ hr Try.underlying36 rfl infoP ?_ | refine wpList_store_mid rfl 51 _ _ rfl D 0 #[.int .i64 k, .int .i64 p, .int .i64 q, .int .i64 u, .int .i64 v, .int .i64 c, .int .i64 i, .int .i64 x] rfl rfl ht infoF12t (one8 k p q u v c i x) ?_)
  rw [hW2]
  have hs := e2.out.1.range
  have hld := run_loadVar_mid (P := Try.prog) W2 D 0 51 [.int .i64 k, .int .i64 p, .int .i64 q, .int .i64 u, .int .i64 v, .int .i64 c, .int .i64 i, .int .i64 x] _ hs Try.underlying51 rfl infoF12t
  refine bodyPost_ret (v := .agg #[.int .i64 k, .int .i64 p, .int .i64 q, .int .i64 u, .int .i64 v, .int .i64 c, .int .i64 i, .int .i64 x]) ?_ rfl ⟨rfl, by rw [hB]; exact e2.out.2⟩
  simp [results, Try.f16, Act.put, asAddr, hld]

theorem zeroD12 (w : World) : (zeroValue 34).run Try.prog w = .ok (.agg (dl 0 0 0 0 0 0 (.slice none 0 0) (.slice none 0 0) (.slice none 0 0)).toArray) w := by kernel_rfl
theorem zeroWe (w : World) : (zeroValue 59).run Try.prog w = .ok (.agg #[.int .i64 0, .bool false]) w := by kernel_rfl
theorem build0R12 (w : World) : (Instr.build 40 #[]).run Try.prog w = .ok (.agg (ints .u8 72 fun _ => 0).toArray) w := run_build w _ _ _ (by kernel_rfl)
theorem build0W12 (w : World) : (Instr.build 59 #[]).run Try.prog w = .ok (.agg #[.int .i64 0, .bool false]) w := run_build w _ _ _ (by kernel_rfl)
theorem gdB12 : Try.prog.eqGuardType Try.prog.depth 39 = false := by kernel_rfl
theorem eqlB12 (F G : Nat → Int) (hF : Byts 72 F) (hG : Byts 72 G) (b : Bool) (hb : b = true ↔ ∀ i, i < 72 → F i = G i) (w : World) : (binOp .eql 39 (.agg (ints .u8 72 F).toArray) (.agg (ints .u8 72 G).toArray)).run Try.prog w = .ok (.bool b) w :=
  eql_ints 39 72 Try.underlying39 F G hF hG b hb w
/-- a step's cells, by name -/
def op12 (z0 z1 z2 k p q u v c x y : Int) (F : Nat → Int) : List Value := [.int .i64 z0, .int .i64 z1, .int .i64 z2, .int .i64 k, .int .i64 p, .int .i64 q, .int .i64 u, .int .i64 v, .int .i64 c, .int .i64 x, .int .i64 y] ++ ints .u8 72 F
theorem op12_is (Z : Nat → Int) : oc12 Z = op12 (Z 0) (Z 1) (Z 2) (Z 3) (Z 4) (Z 5) (Z 6) (Z 7) (Z 8) (Z 9) (Z 10) (fun j => Z (j + 11)) := rfl
theorem op12_len (z0 z1 z2 k p q u v c x y : Int) (F : Nat → Int) : (op12 z0 z1 z2 k p q u v c x y F).length = 83 := by simp [op12, ints_len]
theorem op12_one (z0 z1 z2 k p q u v c x y : Int) (F : Nat → Int) : ∀ w ∈ op12 z0 z1 z2 k p q u v c x y F, w.oneCell' = true := by
  intro w hw
  rcases List.mem_append.1 hw with h | h
  · exact ints_one' .i64 11 (fun j => match j with | 0 => z0 | 1 => z1 | 2 => z2 | 3 => k | 4 => p | 5 => q | 6 => u | 7 => v | 8 => c | 9 => x | _ => y) w h
  · exact ints_one' _ _ _ w h
/-- what a step's cells tell -/
structure Oc (O : List Value) (z0 z1 z2 k p q u v c x y : Int) (LR : List Value) : Prop where
  len : O.length = 83
  one : O.toArray.all (·.oneCell') = true
  c0 : O[0]? = some (.int .i64 z0)
  c1 : O[1]? = some (.int .i64 z1)
  c2 : O[2]? = some (.int .i64 z2)
  fa : (O.drop 3).take 8 = [.int .i64 k, .int .i64 p, .int .i64 q, .int .i64 u, .int .i64 v, .int .i64 c, .int .i64 x, .int .i64 y]
  ra : (O.drop 11).take LR.length = LR
theorem Oc.mk' (z0 z1 z2 k p q u v c x y : Int) (F : Nat → Int) : Oc (op12 z0 z1 z2 k p q u v c x y F) z0 z1 z2 k p q u v c x y (ints .u8 72 F) := by
  refine ⟨op12_len _ _ _ _ _ _ _ _ _ _ _ _, all_oneCell_toArray (op12_one _ _ _ _ _ _ _ _ _ _ _ _), rfl, rfl, rfl, rfl, ?_⟩
  unfold op12
  rw [List.drop_append_of_le_length (by simp), List.drop_eq_nil_of_le (by simp), List.nil_append, List.take_of_length_le (Nat.le_refl _)]
theorem Oc.info {O : List Value} {z0 z1 z2 k p q u v c x y : Int} {LR : List Value} (h : Oc O z0 z1 z2 k p q u v c x y LR) : (Try.prog.info? 42).map (·.size) = some O.length := by rw [h.len]; exact infoOp
end Go.Proofs.Ytcpjmfemgdgplaa
