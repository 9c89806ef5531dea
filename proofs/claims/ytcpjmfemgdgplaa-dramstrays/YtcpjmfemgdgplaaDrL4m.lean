/-
  The law DramStrays: what is to come is taken by accesses alone, one each, in order.
-/
import Derived.Test.YtcpjmfemgdgplaaDrL4Am
import Derived.Test.YtcpjmfemgdgplaaM18
namespace Go.Proofs.Ytcpjmfemgdgplaa
open Go.RowKit Go.Shelf
open Ge (pw rt hd ix)
attribute [local go_sem] Oper.semAt_some

theorem run_maxI12 {P : Program} (n : Int) (N : Nat) (h : n.toNat = N) (ts : Array TypeId) (t : TypeId) (w : World) : (Builtin.max_ ts t #[.int .i64 n, .int .i64 0]).run P w = .ok (.int .i64 (N : Int)) w := by
  have e : (if n < 0 then (0 : Int) else n) = (N : Int) := by split <;> omega
  rw [← e]
  simp [Builtin.max_, Builtin.max2]
theorem wp_store_int12 {o : Oper} {a : Act} {w : World} {K : Act → World → Prop} {Q : Exit → Act → World → Prop} (x y : Operand) (ho : o.op = .store 3 x y) (b i : Nat) (hx : a.eval x = .pointer (some ⟨b, i, none⟩)) (z : Int) (hy : a.eval y = .int .i64 z)
    (old : Value) (hc : w.cell? ⟨b, i, none⟩ = some old) (hf : w.frozen? ⟨b, i, none⟩ = false) (h : K (a.put o.dst undef) (w.setCell ⟨b, i, none⟩ (.int .i64 z))) : Oper.wp Try.prog o a w K Q := by
  unfold Oper.wp execOp
  simp only [ho, hx, hy]
  simp [go_sem, Oper.upon, hc, hf]
  exact h
theorem eqW_neq_self (i : Int) (a : Bool) (w : World) : (binOp .neq 59 (.agg #[.int .i64 i, .bool a]) (.agg #[.int .i64 i, .bool a])).run Try.prog w = .ok (.bool false) w := by
  rw [run_neq_struct, eqW_in 9998]
  simp
/-- a row that a law owns beside chips -/
structure Wn (lo B M : Nat) (vb vc sv : Value) (cnt : Nat) (Z : Nat → Nat → Int) (W : World) : Prop where
  o : W.ownsRow lo 38 8 sv cnt (fcells12 cnt Z)
  m : ∀ g, sv.ownBlock = some g → ¬ mine B M vb vc g
section
variable {w0 W W' : World} {es : List (Nat × List Value)} {lo B M : Nat} {r s b o d m : Int} {n : Nat} {G : Int → Nat → Int} {vb vc vb' vc' sv : Value} {l1 l2 cnt : Nat} {Y Z Z' : Nat → Nat → Int} {k j : Int}
theorem Wn.mo (h : Wn lo B M vb vc sv cnt Z W) (k : Mo lo B M vb vc vb' vc' W W') : Wn lo B M vb' vc' sv cnt Z W' :=
  ⟨own_kept h.o fun g e => k.2.k g (h.o.lt g e).2 (h.m g e), fun g e hm => (k.1 g hm).elim (h.m g e) fun h2 => by have := (h.o.lt g e).2; omega⟩
theorem Wn.next (h : Wn lo B M vb vc sv cnt Z W) (k : Below W.heap.size W W') : Wn lo B M vb vc sv cnt Z W' := ⟨own_kept h.o fun g e => k.block g (h.o.lt g e).2, h.m⟩
theorem Wn.own (h : Wn lo B M vb vc sv cnt Z W) (e : vc'.ownBlock = vc.ownBlock) (k : Mv lo (mine B M vb vc) W W') : Wn lo B M vb vc' sv cnt Z W' :=
  h.mo ⟨fun g hg => .inl ((own_eq e g).1 hg), k⟩
theorem Lw.grow {row : Option Nat} (h : Lw w0 es [] lo B M r s b o d m n G vb l1 Y vc l2 Z W) (k : W.grownBy W' row) (hr : ∀ g, row = some g → lo ≤ g ∧ ¬ mine B M vb vc g) : Lw w0 es [] lo B M r s b o d m n G vb l1 Y vc l2 Z W' := by
  have hb : ∀ g, g < W.heap.size → row ≠ some g → W'.heap[g]? = W.heap[g]? := fun g h1 h2 => k.block g h1 fun e => h2 e.symm
  refine ⟨h.d.of fun g hg => hb g (h.d.mine_lt g hg).2 fun e => (hr g e).2 hg, below_grown7 h.n k (fun g e => Nat.le_trans h.l (hr g e).1) h.n.size, h.l, fun x hx => ⟨(h.e x hx).1, (h.e x hx).2.of (hb _ (h.e x hx).2.lt fun e => by have := (hr _ e).1; have := (h.e x hx).1; omega)⟩, fun x hx => by simp at hx⟩
theorem Lw.drop {x : Nat × List Value} {ls : List (Nat × List Value)} (h : Lw w0 es (x :: ls) lo B M r s b o d m n G vb l1 Y vc l2 Z W) : Lw w0 es ls lo B M r s b o d m n G vb l1 Y vc l2 Z W := ⟨h.d, h.n, h.l, h.e, fun y hy => h.b y (by simp [hy])⟩
theorem Lw.set0 {C : Nat} {L : List Value} (h : Lw w0 es [(C, L)] lo B M r s b o d m n G vb l1 Y vc l2 Z W) (hC : lo ≤ C) (i : Nat) (v : Value) : Lw w0 es [(C, L.set i v)] lo B M r s b o d m n G vb l1 Y vc l2 Z (W.setCell ⟨C, i, none⟩ v) := by
  obtain ⟨hm, hc⟩ := h.b (C, L) (by simp)
  refine ⟨h.d.of fun g hg => Below.heap_setCell W ⟨C, i, none⟩ v g (fun e => hm (by have e2 : g = C := e; subst e2; exact hg)), below_set12 (by have := h.l; omega) h.n, h.l, fun x hx => ⟨(h.e x hx).1, (h.e x hx).2.other (by have := (h.e x hx).1; omega) i v⟩, fun x hx => ?_⟩
  rcases List.mem_cons.1 hx with rfl | hx
  · exact ⟨hm, hc.set i v⟩
  · simp at hx
/-- a Stray or a Drop, rejected or put behind those to come -/
theorem lwStray (h : Lw w0 es [] lo B M r s b o d m n G vb l1 Y vc l2 Z W) (hm : Md m k j) (k9 p q u v c x y : Int) (hf : ∀ i, i < 8 → (Lit.int .i64 (ffn k9 p q u v c x y i)).wf = true) (hn : n < 1000000) (h6 : 6 ≤ k9) (h2 : l2 < 256) :
    Calls Try.prog 23 #[.pointer (some ⟨B, 0, none⟩), .agg #[.int .i64 k9, .int .i64 p, .int .i64 q, .int .i64 u, .int .i64 v, .int .i64 c, .int .i64 x, .int .i64 y]] W fun e w' => (e = .returned (.int .i64 10) ∧ Below W.heap.size W w') ∨ (hd r s b o d p q u v = true ∧ e = .returned (.int .i64 0) ∧ ∃ vc', Dm w' lo B M r s b o d m n G vb l1 Y vc' (l2 + 1) (snZ Z l2 (ffn k9 p q u v c x y)) ∧ Mo lo B M vb vc vb vc' W w') := by
  refine (dInject_any h.d hm k9 p q u v c x y hf hn).mono ?_
  rintro e w' ⟨a, rfl, hij⟩
  have hls : Go.Proofs.Ytcpjmfemgdgplaa.ls k9 = false := by unfold Go.Proofs.Ytcpjmfemgdgplaa.ls; simp; omega
  rcases hij with ⟨_, h, hb⟩ | ⟨_, h, _⟩ | ⟨_, _, h, _⟩ | ⟨_, _, h, _⟩ | ⟨_, _, _, h, _⟩ | ⟨h1, _, _, _, h, vc', h3, h4⟩
  · rw [h]; exact .inl ⟨rfl, hb⟩
  · omega
  · rw [hls] at h; cases h
  · rw [hls] at h; cases h
  · omega
  · rw [h]; exact .inr ⟨rtF_hd h1, rfl, vc', h3, h4⟩
end
theorem bools_open {w : World} {a : Option Addr} {len cap : Nat} {Z : Nat → Bool} (h : IsBo w a len cap Z) : 0 < len → ∃ pb po, a = some ⟨pb, po, none⟩ ∧ ∀ W, Below w.heap.size w W → ∀ t, t < len → W.cell? ⟨pb, po + t, none⟩ = some (.bool (Z t)) := by
  intro h0
  rcases h with ⟨_, h1, _⟩ | ⟨x, rfl, h1, h2, h3⟩
  · omega
  · obtain ⟨pb, po, st⟩ := x
    have hc0 := h3 0 (by omega)
    obtain rfl : st = none := by simpa [Addr.add] using World.cell?_spot hc0
    have hpb : pb < w.heap.size := by
      have := World.block_lt_of_cell? w _ hc0
      rwa [Addr.add_lit] at this
    refine ⟨pb, po, rfl, fun W hW t ht => ?_⟩
    have h4 := h3 t (by omega)
    rw [Addr.add_lit] at h4
    exact (hW.cell (p := ⟨pb, po + t, none⟩) hpb).trans h4
/-- where the accesses go, the first t taken -/
def dropZ (Z : Nat → Nat → Int) (t : Nat) : Nat → Nat → Int := fun i j => Z (i + t) j
theorem dropZ_tl (Z : Nat → Nat → Int) (t : Nat) : tlZ (dropZ Z t) = dropZ Z (t + 1) := by
  funext i j
  show Z (i + 1 + t) j = Z (i + (t + 1)) j
  rw [Nat.add_assoc, Nat.add_comm 1 t]
set_option maxRecDepth 100000 in
set_option maxHeartbeats 8000000 in
theorem dramStrays_core (r s b o d m : Int) (a2 : Option Addr) (len cap : Nat) (Z2 : Nat → Nat → Int) (idx : Int) (hidx : I64 idx) (a4 : Option Addr) (len4 cap4 : Nat) (Z4 : Nat → Bool) (w : World) (hz2 : IsFlat .i64 8 w a2 len cap Z2) (hz4 : IsBo w a4 len4 cap4 Z4) :
    Calls Try.prog 6 #[.agg #[.int .i64 r, .int .i64 s, .int .i64 b, .int .i64 o, .int .i64 d], .int .i64 m, .slice a2 len cap, .int .i64 idx, .slice a4 len4 cap4] w fun e w' => e = .returned (.bool true) ∧ Below w.heap.size w w' := by
  obtain ⟨i0, hi, hz0, hz1, hz2'⟩ := info_three infoFl
  obtain ⟨k8, j8, hm⟩ := md_any m
  have HM : Hid (Md m k8 j8) := hm
  have HI : Hid (I64 idx) := hidx
  have HS : Hid (Fs w a2 len cap Z2) := hz2.fs
  have HS4 : Hid (0 < len4 → ∃ pb po, a4 = some ⟨pb, po, none⟩ ∧ ∀ W, Below w.heap.size w W → ∀ t, t < len4 → W.cell? ⟨pb, po + t, none⟩ = some (.bool (Z4 t))) := bools_open hz4
  clear hm hidx hz2 hz4
  go_enter Try.func6, Try.ntmps6
  go_upto_region 1 with (fail)
  obtain ⟨A, hA⟩ : ∃ A, w.heap.size = A := ⟨_, rfl⟩
  obtain ⟨V, hV⟩ : ∃ V, w.alloc (.cells #[.int .i64 r, .int .i64 s, .int .i64 b, .int .i64 o, .int .i64 d] 23) = V := ⟨_, rfl⟩
  have HP : Hid (Pre w [(A, [.int .i64 r, .int .i64 s, .int .i64 b, .int .i64 o, .int .i64 d])] V) := by
    have h := (Pre.start w).lay [.int .i64 r, .int .i64 s, .int .i64 b, .int .i64 o, .int .i64 d] 23
    rw [hV, hA] at h
    exact h
  rw [hV, hA]
  clear hV
  go_wp2_with fail
  refine (anchor12_any _).mono ?_
  rintro e W1 ⟨rfl, b1⟩
  replace HP : Hid (Pre w [(A, [.int .i64 r, .int .i64 s, .int .i64 b, .int .i64 o, .int .i64 d])] W1) := HP.out.next b1
  clear b1
  have hg : W1.rangeAt A 0 [.int .i64 r, .int .i64 s, .int .i64 b, .int .i64 o, .int .i64 d] := HP.out.c0.range
  go_wp2_with (first | refine wpList_load_mid rfl 23 _ rfl A 0 rfl [.int .i64 r, .int .i64 s, .int .i64 b, .int .i64 o, .int .i64 d] _ hg Try.underlying23 rfl infoGm ?_)
  by_cases hr : rt r s b o d = true
  case neg =>
    refine (dNew_geom r s b o d m (by simpa using hr) _).mono ?_
    rintro e W2 ⟨rfl, b2⟩
    have HZ : Hid (Below w.heap.size w W2) := (HP.out.next b2).n
    clear HP hg b2
    go_wp2
    go_ret
    exact ⟨rfl, by first | exact HZ.out | (rw [hA] at HZ; exact HZ.out)⟩
  by_cases hk : 0 < k8
  case neg =>
    have hk0 : Md m 0 0 := by rcases HM.out with ⟨_, h, _⟩ | ⟨_, h, _⟩ | ⟨h1, h2, _⟩; omega; omega; exact Md.none m h1 h2
    refine (dNew_mode r s b o d m hr hk0 _).mono ?_
    rintro e W2 ⟨rfl, b2⟩
    have HZ : Hid (Below w.heap.size w W2) := (HP.out.next b2).n
    clear HP hg b2
    go_wp2
    go_ret
    exact ⟨rfl, by first | exact HZ.out | (rw [hA] at HZ; exact HZ.out)⟩
  refine (lwNew HP.out hr HM.out hk).mono ?_
  rintro e W2 ⟨B, M, rfl, h2⟩
  obtain ⟨lo, hlo⟩ : ∃ lo, W1.heap.size = lo := ⟨_, rfl⟩
  rw [hlo] at h2
  have HQ : Hid (Lw w [(A, [.int .i64 r, .int .i64 s, .int .i64 b, .int .i64 o, .int .i64 d])] [] lo B M r s b o d m 0 (fun _ _ => 0) (.slice none 0 0) 0 (fun _ _ => 0) (.slice none 0 0) 0 (fun _ _ => 0) W2) := h2
  clear h2 HP hg hr hk
  by_cases hl30 : (len : Int) > 30
  · have HZ : Hid (Below w.heap.size w W2) := HQ.out.n
    clear HQ
    go_wp2
    go_ret
    exact ⟨rfl, by first | exact HZ.out | (rw [hA] at HZ; exact HZ.out)⟩
  by_cases hl60 : (len4 : Int) > 60
  · have HZ : Hid (Below w.heap.size w W2) := HQ.out.n
    clear HQ
    go_wp2
    go_ret
    exact ⟨rfl, by first | exact HZ.out | (rw [hA] at HZ; exact HZ.out)⟩
  have hl3 : len ≤ 30 := by omega
  have hl6 : len4 ≤ 60 := by omega
  have HR0 : Hid (∃ vb vc cnt Zc, cnt ≤ 0 ∧ Lw w [(A, [.int .i64 r, .int .i64 s, .int .i64 b, .int .i64 o, .int .i64 d])] [] lo B M r s b o d m 0 (fun _ _ => 0) vb 0 (fun _ _ => 0) vc cnt Zc W2 ∧ Wn lo B M vb vc (.slice none 0 0) cnt Zc W2) :=
    ⟨_, _, 0, fun _ _ => 0, Nat.le_refl _, HQ.out, ⟨World.ownsRow_nil _ _ _ _, fun g e => by simp [Value.ownBlock] at e⟩⟩
  clear HQ
  go_wp2
  go_loopw [13, 61] (fun v i wr => ∃ (t : Nat) (sv : Value), sv = v ∧ t ≤ len ∧ i = .int .i64 (t : Int) ∧ Hid (∃ vb vc cnt Zc, cnt ≤ t ∧ Lw w [(A, [.int .i64 r, .int .i64 s, .int .i64 b, .int .i64 o, .int .i64 d])] [] lo B M r s b o d m 0 (fun _ _ => 0) vb 0 (fun _ _ => 0) vc cnt Zc wr ∧ Wn lo B M vb vc sv cnt Zc wr)) (fun _ i _ => len - (intOf i).toNat)
  case atStart => exact ⟨0, _, rfl, by omega, rfl, HR0⟩
  case round =>
    clear HR0
    obtain ⟨t, sv, rfl, ht, rfl, HR⟩ := hrel
    by_cases hlt : t < len
    · obtain ⟨vb, vc, cnt, Zc, hct, hq, hwn⟩ := HR.out
      obtain ⟨pb, po, rfl, hpb, hcl⟩ := HS.out.at_ (by omega)
      have hwf := HS.out.wf t hlt
      have hop : wr.rangeAt pb (po + t * 8) [.int .i64 (Z2 t 0), .int .i64 (Z2 t 1), .int .i64 (Z2 t 2), .int .i64 (Z2 t 3), .int .i64 (Z2 t 4), .int .i64 (Z2 t 5), .int .i64 (Z2 t 6), .int .i64 (Z2 t 7)] := fs_range (fun i hi j hj => (hq.n.cell (p := ⟨pb, po + (i * 8 + j), none⟩) hpb).trans (hcl i hi j hj)) t hlt
      obtain ⟨z0, e0⟩ : ∃ z, Z2 t 0 = z := ⟨_, rfl⟩
      obtain ⟨z1, e1⟩ : ∃ z, Z2 t 1 = z := ⟨_, rfl⟩
      obtain ⟨z2, e2⟩ : ∃ z, Z2 t 2 = z := ⟨_, rfl⟩
      obtain ⟨z3, e3⟩ : ∃ z, Z2 t 3 = z := ⟨_, rfl⟩
      obtain ⟨z4, e4⟩ : ∃ z, Z2 t 4 = z := ⟨_, rfl⟩
      obtain ⟨z5, e5⟩ : ∃ z, Z2 t 5 = z := ⟨_, rfl⟩
      obtain ⟨z6, e6⟩ : ∃ z, Z2 t 6 = z := ⟨_, rfl⟩
      obtain ⟨z7, e7⟩ : ∃ z, Z2 t 7 = z := ⟨_, rfl⟩
      have HW : Hid (∀ i, i < 8 → (Lit.int .i64 (ffn z0 z1 z2 z3 z4 z5 z6 z7 i)).wf = true) := by
        intro i hi
        have := hwf i hi
        have h9 : i = 0 ∨ i = 1 ∨ i = 2 ∨ i = 3 ∨ i = 4 ∨ i = 5 ∨ i = 6 ∨ i = 7 := by omega
        rcases h9 with rfl | rfl | rfl | rfl | rfl | rfl | rfl | rfl
        · rwa [e0] at this
        · rwa [e1] at this
        · rwa [e2] at this
        · rwa [e3] at this
        · rwa [e4] at this
        · rwa [e5] at this
        · rwa [e6] at this
        · rwa [e7] at this
      rw [e0, e1, e2, e3, e4, e5, e6, e7] at hop
      obtain ⟨C, hC⟩ : ∃ C, wr.heap.size = C := ⟨_, rfl⟩
      have h9 := hq.lay [.int .i64 z0, .int .i64 z1, .int .i64 z2, .int .i64 z3, .int .i64 z4, .int .i64 z5, .int .i64 z6, .int .i64 z7] 38
      rw [hC] at h9
      have HN : Hid (cnt ≤ t) := hct
      have h9n := hwn.next ((Below.refl _ wr).alloc (Nat.le_refl _) (.cells #[.int .i64 z0, .int .i64 z1, .int .i64 z2, .int .i64 z3, .int .i64 z4, .int .i64 z5, .int .i64 z6, .int .i64 z7] 38))
      clear e0 e1 e2 e3 e4 e5 e6 e7 hwf hcl hpb hq hct hwn HR
      go_upto_region 10 with (first | refine wpList_load_mid rfl 38 _ rfl pb (po + t * 8) rfl [.int .i64 z0, .int .i64 z1, .int .i64 z2, .int .i64 z3, .int .i64 z4, .int .i64 z5, .int .i64 z6, .int .i64 z7] _ hop Try.underlying38 rfl infoFt ?_)
      obtain ⟨W3, hW3⟩ : ∃ W, wr.alloc (.cells #[.int .i64 z0, .int .i64 z1, .int .i64 z2, .int .i64 z3, .int .i64 z4, .int .i64 z5, .int .i64 z6, .int .i64 z7] 38) = W := ⟨_, rfl⟩
      have HQ : Hid (Lw w [(A, [.int .i64 r, .int .i64 s, .int .i64 b, .int .i64 o, .int .i64 d])] [(C, [.int .i64 z0, .int .i64 z1, .int .i64 z2, .int .i64 z3, .int .i64 z4, .int .i64 z5, .int .i64 z6, .int .i64 z7])] lo B M r s b o d m 0 (fun _ _ => 0) vb 0 (fun _ _ => 0) vc cnt Zc W3) := by rw [← hW3]; exact h9
      have HWN : Hid (Wn lo B M vb vc sv cnt Zc W3) := by rw [← hW3]; exact h9n
      rw [hW3]
      clear hW3 h9 h9n hC hop
      have c0 : W3.cell? ⟨C, 0, none⟩ = some (.int .i64 z0) := HQ.out.b0.cell rfl
      by_cases h6 : z0 ≥ 6
      · go_wp2_with (first | refine wpList_load_g (by rfl) 38 _ rfl C 0 rfl [.int .i64 z0, .int .i64 z1, .int .i64 z2, .int .i64 z3, .int .i64 z4, .int .i64 z5, .int .i64 z6, .int .i64 z7] _ (by exact HQ.out.b0.range) Try.underlying38 rfl infoFt ?_)
        refine (lwStray HQ.out.drop HM.out z0 z1 z2 z3 z4 z5 z6 z7 HW.out (by omega) h6 (by have := HN.out; omega)).mono ?_
        rintro e W4 (⟨rfl, hb4⟩ | ⟨hhd, rfl, vc', h4, mo4⟩)
        · have HR2 : Hid (∃ vb vc cnt Zc, cnt ≤ t + 1 ∧ Lw w [(A, [.int .i64 r, .int .i64 s, .int .i64 b, .int .i64 o, .int .i64 d])] [] lo B M r s b o d m 0 (fun _ _ => 0) vb 0 (fun _ _ => 0) vc cnt Zc W4 ∧ Wn lo B M vb vc sv cnt Zc W4) := ⟨vb, vc, cnt, Zc, by have := HN.out; omega, (HQ.out.drop).next hb4, HWN.out.next hb4⟩
          clear hb4 c0 HQ HWN
          go_wp2
          go_roundw
          case rel => exact ⟨t + 1, _, rfl, by omega, by go_num, HR2⟩
          case measure => simp [intOf]; omega
        · have HQ4 : Hid (Lw w [(A, [.int .i64 r, .int .i64 s, .int .i64 b, .int .i64 o, .int .i64 d])] [(C, [.int .i64 z0, .int .i64 z1, .int .i64 z2, .int .i64 z3, .int .i64 z4, .int .i64 z5, .int .i64 z6, .int .i64 z7])] lo B M r s b o d m 0 (fun _ _ => 0) vb 0 (fun _ _ => 0) vc' (cnt + 1) (snZ Zc cnt (ffn z0 z1 z2 z3 z4 z5 z6 z7)) W4) := HQ.out.mo h4 mo4
          have HWN4 : Hid (Wn lo B M vb vc' sv cnt Zc W4) := HWN.out.mo mo4
          have hr4 : W4.rangeAt C 0 [.int .i64 z0, .int .i64 z1, .int .i64 z2, .int .i64 z3, .int .i64 z4, .int .i64 z5, .int .i64 z6, .int .i64 z7] := HQ4.out.b0.range
          clear hhd h4 mo4 c0 HQ HWN
          obtain ⟨K, hK⟩ : ∃ K, W4.heap.size = K := ⟨_, rfl⟩
          have HK : Hid (Ft (W4.alloc (.cells #[.int .i64 z0, .int .i64 z1, .int .i64 z2, .int .i64 z3, .int .i64 z4, .int .i64 z5, .int .i64 z6, .int .i64 z7] 38)) K z0 z1 z2 z3 z4 z5 z6 z7) := by rw [← hK]; exact Ft.new W4 z0 z1 z2 z3 z4 z5 z6 z7 _
          have hcn := HN.out
          have hloK : lo ≤ (W4.alloc (.cells #[.int .i64 z0, .int .i64 z1, .int .i64 z2, .int .i64 z3, .int .i64 z4, .int .i64 z5, .int .i64 z6, .int .i64 z7] 38)).heap.size := by have := HQ4.out.d.lo_le; simp; omega
          go_wp2_with (first
            | refine wpList_load_mid rfl 38 _ rfl C 0 rfl [.int .i64 z0, .int .i64 z1, .int .i64 z2, .int .i64 z3, .int .i64 z4, .int .i64 z5, .int .i64 z6, .int .i64 z7] _ hr4 Try.underlying38 rfl infoFt ?_
            | (at_builtin; go_loud (refine wpList_append_own_at _ rfl _ _ 45 rfl lo 38 i0 (.agg (ints .i64 8 fun _ => 0).toArray) 8 64 Try.underlying45 hi hz0 hz1 hz2' rfl (by decide) sv cnt (fcells12 cnt Zc) rfl (World.ownsRow.alloc HWN4.out.o _) ⟨K, 0, none⟩ 1 1 (ints .i64 8 (ffn z0 z1 z2 z3 z4 z5 z6 z7)) rfl ?d0 ?d1 ?d2 ?d3 ?d4 ?d5 ?_)))
          case d0 => simp [ints]
          case d1 =>
            intro j u hj
            rw [Addr.add_lit, Nat.zero_add]
            have := HK.out.range j u hj
            rwa [Nat.zero_add] at this
          case d2 => exact ints_one' .i64 8 _
          case d3 => unfold maxLen; omega
          case d4 => omega
          case d5 => exact hloK
          intro v' w1 hown hgrow _ hat
          rw [fcells12_snoc] at hown
          have HR2 : Hid (∃ vb vc cnt Zc, cnt ≤ t + 1 ∧ Lw w [(A, [.int .i64 r, .int .i64 s, .int .i64 b, .int .i64 o, .int .i64 d])] [] lo B M r s b o d m 0 (fun _ _ => 0) vb 0 (fun _ _ => 0) vc cnt Zc w1 ∧ Wn lo B M vb vc v' cnt Zc w1) := by
            have hq5 := (HQ4.out.drop).next ((Below.refl _ W4).alloc (Nat.le_refl _) (.cells #[.int .i64 z0, .int .i64 z1, .int .i64 z2, .int .i64 z3, .int .i64 z4, .int .i64 z5, .int .i64 z6, .int .i64 z7] 38))
            have hwn5 := HWN4.out.next ((Below.refl _ W4).alloc (Nat.le_refl _) (.cells #[.int .i64 z0, .int .i64 z1, .int .i64 z2, .int .i64 z3, .int .i64 z4, .int .i64 z5, .int .i64 z6, .int .i64 z7] 38))
            refine ⟨vb, vc', cnt + 1, snZ Zc cnt (ffn z0 z1 z2 z3 z4 z5 z6 z7), by omega, hq5.grow hgrow (fun g e => ⟨(hwn5.o.lt g e).1, hwn5.m g e⟩), hown, fun g e => ?_⟩
            rcases hat with h | h
            · exact hwn5.m g (by rw [← h, e])
            · intro hmg
              rw [e] at h
              cases h
              have h99 := (hq5.d.mine_lt _ hmg).2
              rw [World.size_alloc] at h99
              simp only [World.size_alloc] at *
              omega
          clear hown hgrow hat hr4 HQ4 HWN4 HK hloK hK
          go_wp2
          go_roundw
          case rel => exact ⟨t + 1, _, rfl, by omega, by go_num, HR2⟩
          case measure => simp [intOf]; omega
      · have HR2 : Hid (∃ vb vc cnt Zc, cnt ≤ t + 1 ∧ Lw w [(A, [.int .i64 r, .int .i64 s, .int .i64 b, .int .i64 o, .int .i64 d])] [] lo B M r s b o d m 0 (fun _ _ => 0) vb 0 (fun _ _ => 0) vc cnt Zc W3 ∧ Wn lo B M vb vc sv cnt Zc W3) := ⟨vb, vc, cnt, Zc, by have := HN.out; omega, HQ.out.drop, HWN.out⟩
        clear HQ HWN
        go_wp2
        go_roundw
        case rel => exact ⟨t + 1, _, rfl, by omega, by go_num, HR2⟩
        case measure => simp [intOf]; omega
    · obtain rfl : len = t := by omega
      obtain ⟨vb, vc, cnt, Zc, hct, hq, hwn⟩ := HR.out
      have HQ : Hid (Lw w [(A, [.int .i64 r, .int .i64 s, .int .i64 b, .int .i64 o, .int .i64 d])] [] lo B M r s b o d m 0 (fun _ _ => 0) vb 0 (fun _ _ => 0) vc cnt Zc wr) := hq
      have HWN : Hid (Wn lo B M vb vc sv cnt Zc wr) := hwn
      have HN : Hid (cnt ≤ len) := hct
      clear hct hq hwn HR
      clear HS hlt ht hl30 hl3
      obtain ⟨a9, c9, rfl⟩ := own_form HWN.out.o
      have hz := zeroR
      obtain ⟨T0, hT0⟩ : ∃ Z, (ints .u8 72 fun _ => 0) = Z := ⟨_, rfl⟩
      have lt0 : T0.length = 72 := by rw [← hT0]; exact ints_len _ _ _
      rw [hT0] at hz
      have HT0 : Hid ((ints .u8 72 fun _ => 0) = T0) := hT0
      clear hT0
      go_wp2_with fail
      by_cases hx9 : hx r s b o d idx = true
      case neg =>
        refine (dLook_no HQ.out.d idx (by simpa using hx9)).mono ?_
        rintro e W3 ⟨rfl, b3⟩
        unfold rawV
        rw [HT0.out]
        have HZ : Hid (Below w.heap.size w W3) := (HQ.out.next b3).n
        obtain ⟨K, hK⟩ : ∃ K, W3.heap.size = K := ⟨_, rfl⟩
        have ht1 : (W3.alloc (.cells T0.toArray 40)).there K 0 T0.toArray.size := by
          have := (Cb.new W3 T0 40).thereAt 0 T0.length (by omega)
          rw [hK] at this
          simpa using this
        have iL : (Try.prog.info? 40).map (·.size) = some T0.toArray.size := by rw [List.size_toArray, lt0]; exact infoR
        have one1 : T0.toArray.all (·.oneCell') = true := by rw [← HT0.out]; exact ints_one .u8 72 _
        have HZ2 : Hid (Below w.heap.size w ((W3.alloc (.cells T0.toArray 40)).setCells K 0 T0)) := by
          have h9 := HZ.out.size
          exact belows_put (by omega) _ 0 (HZ.out.alloc HZ.out.size _)
        clear HQ HWN b3 HZ
        go_wp2_with (first | refine wpList_store_mid rfl 40 _ _ rfl K 0 T0.toArray rfl rfl ht1 iL one1 ?_)
        go_ret
        exact ⟨rfl, by first | exact HZ2.out | (rw [hA] at HZ2; exact HZ2.out)⟩
      refine (dLook_yes HQ.out.d HM.out idx HI.out hx9).mono ?_
      rintro e W3 ⟨rfl, b3⟩
      have HX9 : Hid (hx r s b o d idx = true) := hx9
      unfold rawV
      obtain ⟨L, hL⟩ : ∃ L, ints .u8 72 (ovF k8 (fun _ _ => 0) (idx / 1048576) (idx / 65536 % 16) (idx / 64 % 1024) (idx % 64) ((fun _ _ => 0 : Int → Nat → Int) idx) 0) = L := ⟨_, rfl⟩
      have ll : L.length = 72 := by rw [← hL]; exact ints_len _ _ _
      have one1 : L.toArray.all (·.oneCell') = true := by rw [← hL]; exact ints_one .u8 72 _
      have iL : (Try.prog.info? 40).map (·.size) = some L.toArray.size := by rw [List.size_toArray, ll]; exact infoR
      rw [hL]
      have h9 := (HQ.out.next b3).layA L T0 40 (by rw [ll, lt0])
      have ht1 := (HQ.out.next b3).there L T0 40 (by rw [ll, lt0])
      have hwn9 := HWN.out.next b3
      obtain ⟨K, hK⟩ : ∃ K, W3.heap.size = K := ⟨_, rfl⟩
      rw [hK] at h9 ht1
      have HKB : Hid (Below W3.heap.size W3 ((W3.alloc (.cells T0.toArray 40)).setCells K 0 L)) := belows_put (by omega) _ 0 ((Below.refl _ W3).alloc (Nat.le_refl _) _)
      clear hL hx9 HQ HWN b3
      go_upto_region 16 with (first | refine wpList_store_mid rfl 40 _ _ rfl K 0 L.toArray rfl rfl ht1 iL one1 ?_)
      obtain ⟨W4, hW4⟩ : ∃ W, (W3.alloc (.cells T0.toArray 40)).setCells K 0 L = W := ⟨_, rfl⟩
      have HR0 : Hid (∃ vb vc n G, n ≤ 0 ∧ Lw w [(A, [.int .i64 r, .int .i64 s, .int .i64 b, .int .i64 o, .int .i64 d])] [] lo B M r s b o d m n G vb 0 (fun _ _ => 0) vc (cnt - 0) (dropZ Zc 0) W4 ∧ Wn lo B M vb vc (.slice a9 cnt c9) cnt Zc W4) := by
        refine ⟨vb, vc, 0, (fun _ _ => 0), Nat.le_refl _, ?_, ?_⟩
        · rw [← hW4]; exact h9.drop
        · rw [← hW4]; exact hwn9.next HKB.out
      rw [hW4]
      clear hW4 h9 ht1 hwn9 HKB hK iL one1 ll
      go_wp2
      go_loopw [91] (fun i wr => ∃ t : Nat, t ≤ len4 ∧ i = .int .i64 (t : Int) ∧ Hid (∃ vb vc n G, n ≤ t ∧ Lw w [(A, [.int .i64 r, .int .i64 s, .int .i64 b, .int .i64 o, .int .i64 d])] [] lo B M r s b o d m n G vb 0 (fun _ _ => 0) vc (cnt - t) (dropZ Zc t) wr ∧ Wn lo B M vb vc (.slice a9 cnt c9) cnt Zc wr)) (fun i _ => len4 - (intOf i).toNat)
      case atStart => exact ⟨0, by omega, rfl, HR0⟩
      case round =>
        clear HR0
        obtain ⟨t, ht, rfl, HR⟩ := hrel
        obtain ⟨vb, vc, n, G, hnt, hq, hwn⟩ := HR.out
        have HN : Hid (n ≤ t ∧ t ≤ 60) := ⟨hnt, by omega⟩
        by_cases hlt : t < len4
        · obtain ⟨rb, ro, rfl, hrd⟩ := HS4.out (by omega)
          have hcr := hrd wr hq.n t hlt
          obtain ⟨rd, hrd2⟩ : ∃ z, Z4 t = z := ⟨_, rfl⟩
          rw [hrd2] at hcr
          have HQ0 : Hid (Lw w [(A, [.int .i64 r, .int .i64 s, .int .i64 b, .int .i64 o, .int .i64 d])] [] lo B M r s b o d m n G vb 0 (fun _ _ => 0) vc (cnt - t) (dropZ Zc t) wr) := hq
          have HW0 : Hid (Wn lo B M vb vc (.slice a9 cnt c9) cnt Zc wr) := hwn
          clear hrd hrd2 hq hwn hnt HR
          go_upto_region 20 with (fail)
          obtain ⟨C, hC⟩ : ∃ C, wr.heap.size = C := ⟨_, rfl⟩
          obtain ⟨W5, hW5⟩ : ∃ W, wr.alloc (.cells #[.int .i64 idx, .bool false] 59) = W := ⟨_, rfl⟩
          have HQ : Hid (Lw w [(A, [.int .i64 r, .int .i64 s, .int .i64 b, .int .i64 o, .int .i64 d])] [(C, [.int .i64 idx, .bool false])] lo B M r s b o d m n G vb 0 (fun _ _ => 0) vc (cnt - t) (dropZ Zc t) W5) := by rw [← hW5, ← hC]; exact HQ0.out.lay [.int .i64 idx, .bool false] _
          have HWN : Hid (Wn lo B M vb vc (.slice a9 cnt c9) cnt Zc W5) := by rw [← hW5]; exact HW0.out.next ((Below.refl _ _).alloc (Nat.le_refl _) _)
          have HLC : Hid (lo ≤ C) := by rw [← hC]; exact HQ0.out.d.lo_le
          have HWC : Hid (∀ g, (Value.slice a9 cnt c9).ownBlock = some g → g < C) := fun g e => by rw [← hC]; exact (HW0.out.o.lt g e).2
          rw [hW5, hC]
          clear hW5 hC HQ0 HW0 hcr
          by_cases htc : t < cnt
          · obtain ⟨g9, rfl⟩ : ∃ g, a9 = some ⟨g, 0, none⟩ := by
              rcases HWN.out.o.2 with ⟨h, h2⟩ | ⟨g, cap9, cur, h, _⟩
              · omega
              · cases h; exact ⟨g, rfl⟩
            have hfs : ∀ j, j < 8 → W5.cell? ⟨g9, t * 8 + j, none⟩ = some (.int .i64 (Zc t j)) := fun j hj => by
              have hc := HWN.out.o.cells (g := g9) rfl (t * 8 + j) _ (fcells12_at cnt Zc t j htc hj)
              rw [Addr.add_lit] at hc
              simpa using hc
            have q0 : W5.cell? ⟨g9, t * 8, none⟩ = some (.int .i64 (Zc t 0)) := by simpa using hfs 0 (by omega)
            have hhd : hd r s b o d (Zc t 1) (Zc t 2) (Zc t 3) (Zc t 4) = true := by
              have := HQ.out.d.ok 0 (by omega)
              simpa [dropZ] using this
            have HFS : Hid (∀ W, Wn lo B M vb vc (.slice (some ⟨g9, 0, none⟩) cnt c9) cnt Zc W → W.rangeAt g9 (t * 8 + 1) [.int .i64 (Zc t 1), .int .i64 (Zc t 2), .int .i64 (Zc t 3), .int .i64 (Zc t 4)]) := fun W hWn j u hu => by
              have hj : j < 4 := (List.getElem?_eq_some_iff.1 hu).1
              have hc := hWn.o.cells (g := g9) rfl (t * 8 + (j + 1)) _ (fcells12_at cnt Zc t (j + 1) htc (by omega))
              rw [Addr.add_lit, Nat.zero_add] at hc
              rw [show t * 8 + 1 + j = t * 8 + (j + 1) by omega, hc, ← hu]
              have h9 : j = 0 ∨ j = 1 ∨ j = 2 ∨ j = 3 := by omega
              rcases h9 with rfl | rfl | rfl | rfl <;> rfl
            have HWI : Hid (wI (cnt - t) (dropZ Zc t) idx = (if Zc t 0 = 7 then idx else ix (Zc t 1) (Zc t 2) (Zc t 3) (Zc t 4)) ∧ wD (cnt - t) (dropZ Zc t) = decide (Zc t 0 = 7)) := by
              have e9 : dropZ Zc t 0 = Zc t := by funext j; simp [dropZ]
              refine ⟨by unfold wI; rw [if_neg (by omega), e9], ?_⟩
              unfold wD
              rw [e9]
              by_cases h7 : Zc t 0 = 7
              · rw [decide_eq_true ⟨by omega, h7⟩, decide_eq_true h7]
              · rw [decide_eq_false (fun h => h7 h.2), decide_eq_false h7]
            have HHD : Hid (hd r s b o d (Zc t 1) (Zc t 2) (Zc t 3) (Zc t 4) = true) := hhd
            obtain ⟨z0, hz0'⟩ : ∃ z, Zc t 0 = z := ⟨_, rfl⟩
            obtain ⟨p1, hp1⟩ : ∃ z, Zc t 1 = z := ⟨_, rfl⟩
            obtain ⟨p2, hp2⟩ : ∃ z, Zc t 2 = z := ⟨_, rfl⟩
            obtain ⟨p3, hp3⟩ : ∃ z, Zc t 3 = z := ⟨_, rfl⟩
            obtain ⟨p4, hp4⟩ : ∃ z, Zc t 4 = z := ⟨_, rfl⟩
            rw [hz0'] at q0 HWI
            rw [hp1, hp2, hp3, hp4] at HFS HWI HHD
            clear hhd hfs hz0' hp1 hp2 hp3 hp4
            by_cases e7 : z0 = 7
            · subst e7
              have hcc := HQ.out.b0.cell (i := 1) rfl
              have hfc := HQ.out.b0.free 1
              obtain ⟨W6, hW6⟩ : ∃ W, W5.setCell ⟨C, 1, none⟩ (.bool true) = W := ⟨_, rfl⟩
              have HQ6 : Hid (Lw w [(A, [.int .i64 r, .int .i64 s, .int .i64 b, .int .i64 o, .int .i64 d])] [(C, [.int .i64 idx, .bool true])] lo B M r s b o d m n G vb 0 (fun _ _ => 0) vc (cnt - t) (dropZ Zc t) W6) := by rw [← hW6]; exact HQ.out.set0 HLC.out 1 (.bool true)
              have HWN6 : Hid (Wn lo B M vb vc (.slice (some ⟨g9, 0, none⟩) cnt c9) cnt Zc W6) := by
                rw [← hW6]
                refine ⟨own_kept HWN.out.o fun g hg => Below.heap_setCell W5 ⟨C, 1, none⟩ _ g ?_, HWN.out.m⟩
                have h99 := HWC.out g hg
                show g ≠ C
                omega
              have HJ : Hid (wI (cnt - t) (dropZ Zc t) idx = idx ∧ wD (cnt - t) (dropZ Zc t) = true) := ⟨by rw [HWI.out.1, if_pos rfl], by rw [HWI.out.2]; rfl⟩
              clear HQ HWN HWI HFS HHD
              go_upto_region 24 with (fail)
              clear hW6 hcc hfc q0
              have HQ6b : Hid (Lw w [(A, [.int .i64 r, .int .i64 s, .int .i64 b, .int .i64 o, .int .i64 d])] [(C, [.int .i64 idx, .bool true])] lo B M r s b o d m n G vb 0 (fun _ _ => 0) vc (cnt - t) (dropZ Zc t) W6) := HQ6.out
              clear HQ6
              go_wp2_with fail
              refine (dTouch_any HQ6b.out.d HM.out idx (by have := HN.out; omega) HX9.out rd).mono ?_
              rintro e W7 ⟨rfl, vc7, G7, hd7, hown7, hmv7⟩
              rw [HJ.out.1, HJ.out.2]
              have HQ7 : Hid (Lw w [(A, [.int .i64 r, .int .i64 s, .int .i64 b, .int .i64 o, .int .i64 d])] [(C, [.int .i64 idx, .bool true])] lo B M r s b o d m (n + 1) G7 vb 0 (fun _ _ => 0) vc7 (cnt - t - 1) (tlZ (dropZ Zc t)) W7) := HQ6b.out.mo hd7 ⟨fun g hg => .inl ((own_eq hown7 g).1 hg), hmv7⟩
              have HWN7 : Hid (Wn lo B M vb vc7 (.slice (some ⟨g9, 0, none⟩) cnt c9) cnt Zc W7) := HWN6.out.own hown7 hmv7
              clear hd7 hown7 hmv7 HQ6b HWN6 HJ
              go_upto_region 25 with (fail)
              obtain ⟨D, hD⟩ : ∃ D, W7.heap.size = D := ⟨_, rfl⟩
              obtain ⟨W8, hW8⟩ : ∃ W, W7.alloc (.cells #[.int .i64 idx, .bool true] 59) = W := ⟨_, rfl⟩
              have HQ8 : Hid (Lw w [(A, [.int .i64 r, .int .i64 s, .int .i64 b, .int .i64 o, .int .i64 d])] [(D, [.int .i64 idx, .bool true]), (C, [.int .i64 idx, .bool true])] lo B M r s b o d m (n + 1) G7 vb 0 (fun _ _ => 0) vc7 (cnt - t - 1) (tlZ (dropZ Zc t)) W8) := by rw [← hW8, ← hD]; exact HQ7.out.lay [.int .i64 idx, .bool true] _
              have HWN8 : Hid (Wn lo B M vb vc7 (.slice (some ⟨g9, 0, none⟩) cnt c9) cnt Zc W8) := by rw [← hW8]; exact HWN7.out.next ((Below.refl _ _).alloc (Nat.le_refl _) _)
              rw [hW8, hD]
              clear hW8 hD HQ7 HWN7
              have qd : W8.rangeAt D 0 [.int .i64 idx, .bool true] := HQ8.out.b0.range
              have qc : W8.rangeAt C 0 [.int .i64 idx, .bool true] := HQ8.out.b1.range
              have hne : ∀ w, (binOp .neq 59 (.agg #[.int .i64 idx, .bool true]) (.agg #[.int .i64 idx, .bool true])).run Try.prog w = .ok (.bool false) w := fun w => eqW_neq_self idx true w
              have HR2 : Hid (∃ vb vc n G, n ≤ t + 1 ∧ Lw w [(A, [.int .i64 r, .int .i64 s, .int .i64 b, .int .i64 o, .int .i64 d])] [] lo B M r s b o d m n G vb 0 (fun _ _ => 0) vc (cnt - (t + 1)) (dropZ Zc (t + 1)) W8 ∧ Wn lo B M vb vc (.slice (some ⟨g9, 0, none⟩) cnt c9) cnt Zc W8) := by
                have h := HQ8.out.drop.drop
                rw [show cnt - t - 1 = cnt - (t + 1) by omega, dropZ_tl] at h
                exact ⟨vb, vc7, n + 1, G7, by have := HN.out; omega, h, HWN8.out⟩
              clear HQ8 HWN8
              go_wp2_with (first
                | refine wpList_load_mid rfl 59 _ rfl D 0 rfl [.int .i64 idx, .bool true] _ qd Try.underlying59 rfl infoWe ?_
                | refine wpList_load_mid rfl 59 _ rfl C 0 rfl [.int .i64 idx, .bool true] _ qc Try.underlying59 rfl infoWe ?_
                | refine wpList_known rfl (.bool false) (exec_neqA 59 _ _ _ rfl _ _ _ rfl rfl gdW12 hne _) ?_)
              go_roundw
              case rel => exact ⟨t + 1, by omega, by go_num, HR2⟩
              case measure => simp [intOf]; omega
            · obtain ⟨z, hzx⟩ : ∃ z, ix p1 p2 p3 p4 = z := ⟨_, rfl⟩
              have HJ : Hid (wI (cnt - t) (dropZ Zc t) idx = z ∧ wD (cnt - t) (dropZ Zc t) = false) := ⟨by rw [HWI.out.1, if_neg e7, hzx], by rw [HWI.out.2, decide_eq_false e7]⟩
              have CX : Hid (∀ w : World, Calls Try.prog 22 #[.agg #[.int .i64 r, .int .i64 s, .int .i64 b, .int .i64 o, .int .i64 d], .agg #[.int .i64 p1, .int .i64 p2, .int .i64 p3, .int .i64 p4]] w fun e w' => e = .returned (.tuple #[.int .i64 z, .int .i64 0]) ∧ Below w.heap.size w w') := fun w => by rw [← hzx]; exact index_yes r s b o d p1 p2 p3 p4 HHD.out w
              have HQQ : Hid (Lw w [(A, [.int .i64 r, .int .i64 s, .int .i64 b, .int .i64 o, .int .i64 d])] [(C, [.int .i64 idx, .bool false])] lo B M r s b o d m n G vb 0 (fun _ _ => 0) vc (cnt - t) (dropZ Zc t) W5) := HQ.out
              clear HWI HHD hzx
              go_upto_region 23 with (fail)
              clear q0
              refine region_ends (by kernel_rfl) (fun W' => W'.rangeAt A 0 [.int .i64 r, .int .i64 s, .int .i64 b, .int .i64 o, .int .i64 d] ∧ W'.rangeAt g9 (t * 8 + 1) [.int .i64 p1, .int .i64 p2, .int .i64 p3, .int .i64 p4]) (fun a99 W' => a99 = ({ tmps := #[.agg #[.int .i64 r, .int .i64 s, .int .i64 b, .int .i64 o, .int .i64 d], .int .i64 m, .slice a2 len cap, .int .i64 idx, .slice (some ⟨rb, ro, none⟩) len4 cap4, .pointer (some ⟨A, 0, none⟩), undef, undef, undef, undef, u10, .pointer (some ⟨B, 0, none⟩), .int .i64 0, .slice (some ⟨g9, 0, none⟩) cnt c9, undef, u15, .pointer (some ⟨K, 0, none⟩), .int .i64 0, .int .i64 (t : Int), .bool rd, .pointer (some ⟨C, 0, none⟩), u21, u22, .bool true, .bool false, .tuple #[.pointer (some ⟨B, 0, none⟩), .int .i64 0], .agg #[.int .i64 r, .int .i64 s, .int .i64 b, .int .i64 o, .int .i64 d], .int .i64 m, .tuple #[.pointer (some ⟨B, 0, none⟩), .int .i64 0], .pointer (some ⟨B, 0, none⟩), .int .i64 0, .int .i64 0, .bool false, .bool false, .pointer (some ⟨B, 0, none⟩), .bool false, .bool false, .bool false, .slice a2 len cap, .int .i64 (len : Int), .bool (decide (30 < (len : Int))), .bool (decide (30 < (len : Int))), .bool (decide (30 < (len : Int))), .slice (some ⟨rb, ro, none⟩) len4 cap4, .int .i64 (len4 : Int), .bool (decide (60 < (len4 : Int))), .bool (decide (30 < (len : Int)) || decide (60 < (len4 : Int))), undef, undef, undef, undef, undef, undef, undef, undef, undef, undef, undef, undef, .slice a2 len cap, .int .i64 (len : Int), .int .i64 (len : Int), .bool false, u63, u64, u65, u66, u67, u68, u69, u70, u71, u72, u73, u74, u75, u76, u77, u78, .tuple #[.agg L.toArray, .int .i64 0], .pointer (some ⟨B, 0, none⟩), .int .i64 idx, .tuple #[.agg L.toArray, .int .i64 0], .agg L.toArray, .int .i64 0, .int .i64 0, .bool false, undef, undef, .slice (some ⟨rb, ro, none⟩) len4 cap4, .int .i64 (len4 : Int), .int .i64 (t : Int), .bool true, .int .i64 (t : Int), .pointer (some ⟨rb, ro + t, none⟩), .bool rd, .int .i64 idx, .agg #[.int .i64 idx, .bool false], .int .i64 (t : Int), .slice (some ⟨g9, 0, none⟩) cnt c9, .int .i64 (cnt : Int), .bool true, .bool true, .slice (some ⟨g9, 0, none⟩) cnt c9, .int .i64 (t : Int), .pointer (some ⟨g9, t * 8, none⟩), .pointer (some ⟨g9, t * 8, none⟩), .int .i64 z0, .bool (z0 == 7), .bool (z0 == 7), u110, .int .i64 (t : Int), .slice (some ⟨g9, 0, none⟩) cnt c9, .int .i64 (cnt : Int), .bool true, .tuple #[.int .i64 z, .int .i64 0], .agg #[.int .i64 r, .int .i64 s, .int .i64 b, .int .i64 o, .int .i64 d], .slice (some ⟨g9, 0, none⟩) cnt c9, .int .i64 (t : Int), .pointer (some ⟨g9, t * 8, none⟩), .pointer (some ⟨g9, t * 8 + 1, none⟩), .agg #[.int .i64 p1, .int .i64 p2, .int .i64 p3, .int .i64 p4], .tuple #[.int .i64 z, .int .i64 0], .int .i64 z, .int .i64 0, .pointer (some ⟨C, 0, none⟩), u126, u127, u128, u129, u130, u131, u132, u133, u134, u135, u136, u137, u138, u139, u140, undef, undef, undef, undef, undef, undef, undef, undef, undef, undef], defers := [] } : Act) ∧ ∃ W3, Below W5.heap.size W5 W3 ∧ W' = W3.setCell ⟨C, 0, none⟩ (.int .i64 z)) ⟨(HQ.out.next (below_drew1 _)).e0.range, HFS.out _ (HWN.out.next (below_drew1 _))⟩ (fun hH => ?reg) (fun a99 V3 hr => ?aft)
              case reg =>
                refine take_pure 0 (v := .agg #[.int .i64 r, .int .i64 s, .int .i64 b, .int .i64 o, .int .i64 d]) rfl (by kernel_rfl) rfl (fun w' hw => exec_range 23 (.tmp 5) rfl A 0 rfl [.int .i64 r, .int .i64 s, .int .i64 b, .int .i64 o, .int .i64 d] _ hw.1 Try.underlying23 rfl infoGm) hH ?_
                show wpAnyH _ _ _ _ _ _ _ ({ tmps := #[.agg #[.int .i64 r, .int .i64 s, .int .i64 b, .int .i64 o, .int .i64 d], .int .i64 m, .slice a2 len cap, .int .i64 idx, .slice (some ⟨rb, ro, none⟩) len4 cap4, .pointer (some ⟨A, 0, none⟩), undef, undef, undef, undef, u10, .pointer (some ⟨B, 0, none⟩), .int .i64 0, .slice (some ⟨g9, 0, none⟩) cnt c9, undef, u15, .pointer (some ⟨K, 0, none⟩), .int .i64 0, .int .i64 (t : Int), .bool rd, .pointer (some ⟨C, 0, none⟩), u21, u22, .bool true, .bool false, .tuple #[.pointer (some ⟨B, 0, none⟩), .int .i64 0], .agg #[.int .i64 r, .int .i64 s, .int .i64 b, .int .i64 o, .int .i64 d], .int .i64 m, .tuple #[.pointer (some ⟨B, 0, none⟩), .int .i64 0], .pointer (some ⟨B, 0, none⟩), .int .i64 0, .int .i64 0, .bool false, .bool false, .pointer (some ⟨B, 0, none⟩), .bool false, .bool false, .bool false, .slice a2 len cap, .int .i64 (len : Int), .bool (decide (30 < (len : Int))), .bool (decide (30 < (len : Int))), .bool (decide (30 < (len : Int))), .slice (some ⟨rb, ro, none⟩) len4 cap4, .int .i64 (len4 : Int), .bool (decide (60 < (len4 : Int))), .bool (decide (30 < (len : Int)) || decide (60 < (len4 : Int))), undef, undef, undef, undef, undef, undef, undef, undef, undef, undef, undef, undef, .slice a2 len cap, .int .i64 (len : Int), .int .i64 (len : Int), .bool false, u63, u64, u65, u66, u67, u68, u69, u70, u71, u72, u73, u74, u75, u76, u77, u78, .tuple #[.agg L.toArray, .int .i64 0], .pointer (some ⟨B, 0, none⟩), .int .i64 idx, .tuple #[.agg L.toArray, .int .i64 0], .agg L.toArray, .int .i64 0, .int .i64 0, .bool false, undef, undef, .slice (some ⟨rb, ro, none⟩) len4 cap4, .int .i64 (len4 : Int), .int .i64 (t : Int), .bool true, .int .i64 (t : Int), .pointer (some ⟨rb, ro + t, none⟩), .bool rd, .int .i64 idx, .agg #[.int .i64 idx, .bool false], .int .i64 (t : Int), .slice (some ⟨g9, 0, none⟩) cnt c9, .int .i64 (cnt : Int), .bool true, .bool true, .slice (some ⟨g9, 0, none⟩) cnt c9, .int .i64 (t : Int), .pointer (some ⟨g9, t * 8, none⟩), .pointer (some ⟨g9, t * 8, none⟩), .int .i64 z0, .bool (z0 == 7), .bool (z0 == 7), u110, .int .i64 (t : Int), .slice (some ⟨g9, 0, none⟩) cnt c9, .int .i64 (cnt : Int), .bool true, u115, .agg #[.int .i64 r, .int .i64 s, .int .i64 b, .int .i64 o, .int .i64 d], u117, u118, u119, u120, u121, u122, u123, u124, u125, u126, u127, u128, u129, u130, u131, u132, u133, u134, u135, u136, u137, u138, u139, u140, undef, undef, undef, undef, undef, undef, undef, undef, undef, undef], defers := [] } : Act) _
                refine take_pure 1 (v := .slice (some ⟨g9, 0, none⟩) cnt c9) rfl (by kernel_rfl) rfl (fun w' hw => by simp [execOp, go_sem]) hH ?_
                show wpAnyH _ _ _ _ _ _ _ ({ tmps := #[.agg #[.int .i64 r, .int .i64 s, .int .i64 b, .int .i64 o, .int .i64 d], .int .i64 m, .slice a2 len cap, .int .i64 idx, .slice (some ⟨rb, ro, none⟩) len4 cap4, .pointer (some ⟨A, 0, none⟩), undef, undef, undef, undef, u10, .pointer (some ⟨B, 0, none⟩), .int .i64 0, .slice (some ⟨g9, 0, none⟩) cnt c9, undef, u15, .pointer (some ⟨K, 0, none⟩), .int .i64 0, .int .i64 (t : Int), .bool rd, .pointer (some ⟨C, 0, none⟩), u21, u22, .bool true, .bool false, .tuple #[.pointer (some ⟨B, 0, none⟩), .int .i64 0], .agg #[.int .i64 r, .int .i64 s, .int .i64 b, .int .i64 o, .int .i64 d], .int .i64 m, .tuple #[.pointer (some ⟨B, 0, none⟩), .int .i64 0], .pointer (some ⟨B, 0, none⟩), .int .i64 0, .int .i64 0, .bool false, .bool false, .pointer (some ⟨B, 0, none⟩), .bool false, .bool false, .bool false, .slice a2 len cap, .int .i64 (len : Int), .bool (decide (30 < (len : Int))), .bool (decide (30 < (len : Int))), .bool (decide (30 < (len : Int))), .slice (some ⟨rb, ro, none⟩) len4 cap4, .int .i64 (len4 : Int), .bool (decide (60 < (len4 : Int))), .bool (decide (30 < (len : Int)) || decide (60 < (len4 : Int))), undef, undef, undef, undef, undef, undef, undef, undef, undef, undef, undef, undef, .slice a2 len cap, .int .i64 (len : Int), .int .i64 (len : Int), .bool false, u63, u64, u65, u66, u67, u68, u69, u70, u71, u72, u73, u74, u75, u76, u77, u78, .tuple #[.agg L.toArray, .int .i64 0], .pointer (some ⟨B, 0, none⟩), .int .i64 idx, .tuple #[.agg L.toArray, .int .i64 0], .agg L.toArray, .int .i64 0, .int .i64 0, .bool false, undef, undef, .slice (some ⟨rb, ro, none⟩) len4 cap4, .int .i64 (len4 : Int), .int .i64 (t : Int), .bool true, .int .i64 (t : Int), .pointer (some ⟨rb, ro + t, none⟩), .bool rd, .int .i64 idx, .agg #[.int .i64 idx, .bool false], .int .i64 (t : Int), .slice (some ⟨g9, 0, none⟩) cnt c9, .int .i64 (cnt : Int), .bool true, .bool true, .slice (some ⟨g9, 0, none⟩) cnt c9, .int .i64 (t : Int), .pointer (some ⟨g9, t * 8, none⟩), .pointer (some ⟨g9, t * 8, none⟩), .int .i64 z0, .bool (z0 == 7), .bool (z0 == 7), u110, .int .i64 (t : Int), .slice (some ⟨g9, 0, none⟩) cnt c9, .int .i64 (cnt : Int), .bool true, u115, .agg #[.int .i64 r, .int .i64 s, .int .i64 b, .int .i64 o, .int .i64 d], .slice (some ⟨g9, 0, none⟩) cnt c9, u118, u119, u120, u121, u122, u123, u124, u125, u126, u127, u128, u129, u130, u131, u132, u133, u134, u135, u136, u137, u138, u139, u140, undef, undef, undef, undef, undef, undef, undef, undef, undef, undef], defers := [] } : Act) _
                refine take_pure 2 (v := .int .i64 (t : Int)) rfl (by kernel_rfl) rfl (fun w' hw => by simp [execOp, go_sem]) hH ?_
                show wpAnyH _ _ _ _ _ _ _ ({ tmps := #[.agg #[.int .i64 r, .int .i64 s, .int .i64 b, .int .i64 o, .int .i64 d], .int .i64 m, .slice a2 len cap, .int .i64 idx, .slice (some ⟨rb, ro, none⟩) len4 cap4, .pointer (some ⟨A, 0, none⟩), undef, undef, undef, undef, u10, .pointer (some ⟨B, 0, none⟩), .int .i64 0, .slice (some ⟨g9, 0, none⟩) cnt c9, undef, u15, .pointer (some ⟨K, 0, none⟩), .int .i64 0, .int .i64 (t : Int), .bool rd, .pointer (some ⟨C, 0, none⟩), u21, u22, .bool true, .bool false, .tuple #[.pointer (some ⟨B, 0, none⟩), .int .i64 0], .agg #[.int .i64 r, .int .i64 s, .int .i64 b, .int .i64 o, .int .i64 d], .int .i64 m, .tuple #[.pointer (some ⟨B, 0, none⟩), .int .i64 0], .pointer (some ⟨B, 0, none⟩), .int .i64 0, .int .i64 0, .bool false, .bool false, .pointer (some ⟨B, 0, none⟩), .bool false, .bool false, .bool false, .slice a2 len cap, .int .i64 (len : Int), .bool (decide (30 < (len : Int))), .bool (decide (30 < (len : Int))), .bool (decide (30 < (len : Int))), .slice (some ⟨rb, ro, none⟩) len4 cap4, .int .i64 (len4 : Int), .bool (decide (60 < (len4 : Int))), .bool (decide (30 < (len : Int)) || decide (60 < (len4 : Int))), undef, undef, undef, undef, undef, undef, undef, undef, undef, undef, undef, undef, .slice a2 len cap, .int .i64 (len : Int), .int .i64 (len : Int), .bool false, u63, u64, u65, u66, u67, u68, u69, u70, u71, u72, u73, u74, u75, u76, u77, u78, .tuple #[.agg L.toArray, .int .i64 0], .pointer (some ⟨B, 0, none⟩), .int .i64 idx, .tuple #[.agg L.toArray, .int .i64 0], .agg L.toArray, .int .i64 0, .int .i64 0, .bool false, undef, undef, .slice (some ⟨rb, ro, none⟩) len4 cap4, .int .i64 (len4 : Int), .int .i64 (t : Int), .bool true, .int .i64 (t : Int), .pointer (some ⟨rb, ro + t, none⟩), .bool rd, .int .i64 idx, .agg #[.int .i64 idx, .bool false], .int .i64 (t : Int), .slice (some ⟨g9, 0, none⟩) cnt c9, .int .i64 (cnt : Int), .bool true, .bool true, .slice (some ⟨g9, 0, none⟩) cnt c9, .int .i64 (t : Int), .pointer (some ⟨g9, t * 8, none⟩), .pointer (some ⟨g9, t * 8, none⟩), .int .i64 z0, .bool (z0 == 7), .bool (z0 == 7), u110, .int .i64 (t : Int), .slice (some ⟨g9, 0, none⟩) cnt c9, .int .i64 (cnt : Int), .bool true, u115, .agg #[.int .i64 r, .int .i64 s, .int .i64 b, .int .i64 o, .int .i64 d], .slice (some ⟨g9, 0, none⟩) cnt c9, .int .i64 (t : Int), u119, u120, u121, u122, u123, u124, u125, u126, u127, u128, u129, u130, u131, u132, u133, u134, u135, u136, u137, u138, u139, u140, undef, undef, undef, undef, undef, undef, undef, undef, undef, undef], defers := [] } : Act) _
                refine take_pure 3 (v := .pointer (some ⟨g9, t * 8, none⟩)) rfl (by kernel_rfl) rfl (fun w' hw => by simp [execOp, go_sem, htc]) hH ?_
                show wpAnyH _ _ _ _ _ _ _ ({ tmps := #[.agg #[.int .i64 r, .int .i64 s, .int .i64 b, .int .i64 o, .int .i64 d], .int .i64 m, .slice a2 len cap, .int .i64 idx, .slice (some ⟨rb, ro, none⟩) len4 cap4, .pointer (some ⟨A, 0, none⟩), undef, undef, undef, undef, u10, .pointer (some ⟨B, 0, none⟩), .int .i64 0, .slice (some ⟨g9, 0, none⟩) cnt c9, undef, u15, .pointer (some ⟨K, 0, none⟩), .int .i64 0, .int .i64 (t : Int), .bool rd, .pointer (some ⟨C, 0, none⟩), u21, u22, .bool true, .bool false, .tuple #[.pointer (some ⟨B, 0, none⟩), .int .i64 0], .agg #[.int .i64 r, .int .i64 s, .int .i64 b, .int .i64 o, .int .i64 d], .int .i64 m, .tuple #[.pointer (some ⟨B, 0, none⟩), .int .i64 0], .pointer (some ⟨B, 0, none⟩), .int .i64 0, .int .i64 0, .bool false, .bool false, .pointer (some ⟨B, 0, none⟩), .bool false, .bool false, .bool false, .slice a2 len cap, .int .i64 (len : Int), .bool (decide (30 < (len : Int))), .bool (decide (30 < (len : Int))), .bool (decide (30 < (len : Int))), .slice (some ⟨rb, ro, none⟩) len4 cap4, .int .i64 (len4 : Int), .bool (decide (60 < (len4 : Int))), .bool (decide (30 < (len : Int)) || decide (60 < (len4 : Int))), undef, undef, undef, undef, undef, undef, undef, undef, undef, undef, undef, undef, .slice a2 len cap, .int .i64 (len : Int), .int .i64 (len : Int), .bool false, u63, u64, u65, u66, u67, u68, u69, u70, u71, u72, u73, u74, u75, u76, u77, u78, .tuple #[.agg L.toArray, .int .i64 0], .pointer (some ⟨B, 0, none⟩), .int .i64 idx, .tuple #[.agg L.toArray, .int .i64 0], .agg L.toArray, .int .i64 0, .int .i64 0, .bool false, undef, undef, .slice (some ⟨rb, ro, none⟩) len4 cap4, .int .i64 (len4 : Int), .int .i64 (t : Int), .bool true, .int .i64 (t : Int), .pointer (some ⟨rb, ro + t, none⟩), .bool rd, .int .i64 idx, .agg #[.int .i64 idx, .bool false], .int .i64 (t : Int), .slice (some ⟨g9, 0, none⟩) cnt c9, .int .i64 (cnt : Int), .bool true, .bool true, .slice (some ⟨g9, 0, none⟩) cnt c9, .int .i64 (t : Int), .pointer (some ⟨g9, t * 8, none⟩), .pointer (some ⟨g9, t * 8, none⟩), .int .i64 z0, .bool (z0 == 7), .bool (z0 == 7), u110, .int .i64 (t : Int), .slice (some ⟨g9, 0, none⟩) cnt c9, .int .i64 (cnt : Int), .bool true, u115, .agg #[.int .i64 r, .int .i64 s, .int .i64 b, .int .i64 o, .int .i64 d], .slice (some ⟨g9, 0, none⟩) cnt c9, .int .i64 (t : Int), .pointer (some ⟨g9, t * 8, none⟩), u120, u121, u122, u123, u124, u125, u126, u127, u128, u129, u130, u131, u132, u133, u134, u135, u136, u137, u138, u139, u140, undef, undef, undef, undef, undef, undef, undef, undef, undef, undef], defers := [] } : Act) _
                refine take_pure 4 (v := .pointer (some ⟨g9, t * 8 + 1, none⟩)) rfl (by kernel_rfl) rfl (fun w' hw => by simp [execOp, go_sem]) hH ?_
                show wpAnyH _ _ _ _ _ _ _ ({ tmps := #[.agg #[.int .i64 r, .int .i64 s, .int .i64 b, .int .i64 o, .int .i64 d], .int .i64 m, .slice a2 len cap, .int .i64 idx, .slice (some ⟨rb, ro, none⟩) len4 cap4, .pointer (some ⟨A, 0, none⟩), undef, undef, undef, undef, u10, .pointer (some ⟨B, 0, none⟩), .int .i64 0, .slice (some ⟨g9, 0, none⟩) cnt c9, undef, u15, .pointer (some ⟨K, 0, none⟩), .int .i64 0, .int .i64 (t : Int), .bool rd, .pointer (some ⟨C, 0, none⟩), u21, u22, .bool true, .bool false, .tuple #[.pointer (some ⟨B, 0, none⟩), .int .i64 0], .agg #[.int .i64 r, .int .i64 s, .int .i64 b, .int .i64 o, .int .i64 d], .int .i64 m, .tuple #[.pointer (some ⟨B, 0, none⟩), .int .i64 0], .pointer (some ⟨B, 0, none⟩), .int .i64 0, .int .i64 0, .bool false, .bool false, .pointer (some ⟨B, 0, none⟩), .bool false, .bool false, .bool false, .slice a2 len cap, .int .i64 (len : Int), .bool (decide (30 < (len : Int))), .bool (decide (30 < (len : Int))), .bool (decide (30 < (len : Int))), .slice (some ⟨rb, ro, none⟩) len4 cap4, .int .i64 (len4 : Int), .bool (decide (60 < (len4 : Int))), .bool (decide (30 < (len : Int)) || decide (60 < (len4 : Int))), undef, undef, undef, undef, undef, undef, undef, undef, undef, undef, undef, undef, .slice a2 len cap, .int .i64 (len : Int), .int .i64 (len : Int), .bool false, u63, u64, u65, u66, u67, u68, u69, u70, u71, u72, u73, u74, u75, u76, u77, u78, .tuple #[.agg L.toArray, .int .i64 0], .pointer (some ⟨B, 0, none⟩), .int .i64 idx, .tuple #[.agg L.toArray, .int .i64 0], .agg L.toArray, .int .i64 0, .int .i64 0, .bool false, undef, undef, .slice (some ⟨rb, ro, none⟩) len4 cap4, .int .i64 (len4 : Int), .int .i64 (t : Int), .bool true, .int .i64 (t : Int), .pointer (some ⟨rb, ro + t, none⟩), .bool rd, .int .i64 idx, .agg #[.int .i64 idx, .bool false], .int .i64 (t : Int), .slice (some ⟨g9, 0, none⟩) cnt c9, .int .i64 (cnt : Int), .bool true, .bool true, .slice (some ⟨g9, 0, none⟩) cnt c9, .int .i64 (t : Int), .pointer (some ⟨g9, t * 8, none⟩), .pointer (some ⟨g9, t * 8, none⟩), .int .i64 z0, .bool (z0 == 7), .bool (z0 == 7), u110, .int .i64 (t : Int), .slice (some ⟨g9, 0, none⟩) cnt c9, .int .i64 (cnt : Int), .bool true, u115, .agg #[.int .i64 r, .int .i64 s, .int .i64 b, .int .i64 o, .int .i64 d], .slice (some ⟨g9, 0, none⟩) cnt c9, .int .i64 (t : Int), .pointer (some ⟨g9, t * 8, none⟩), .pointer (some ⟨g9, t * 8 + 1, none⟩), u121, u122, u123, u124, u125, u126, u127, u128, u129, u130, u131, u132, u133, u134, u135, u136, u137, u138, u139, u140, undef, undef, undef, undef, undef, undef, undef, undef, undef, undef], defers := [] } : Act) _
                refine take_pure 5 (v := .agg #[.int .i64 p1, .int .i64 p2, .int .i64 p3, .int .i64 p4]) rfl (by kernel_rfl) rfl (fun w' hw => exec_range 36 (.tmp 120) rfl g9 (t * 8 + 1) rfl [.int .i64 p1, .int .i64 p2, .int .i64 p3, .int .i64 p4] _ hw.2 Try.underlying36 rfl info_place) hH ?_
                show wpAnyH _ _ _ _ _ _ _ ({ tmps := #[.agg #[.int .i64 r, .int .i64 s, .int .i64 b, .int .i64 o, .int .i64 d], .int .i64 m, .slice a2 len cap, .int .i64 idx, .slice (some ⟨rb, ro, none⟩) len4 cap4, .pointer (some ⟨A, 0, none⟩), undef, undef, undef, undef, u10, .pointer (some ⟨B, 0, none⟩), .int .i64 0, .slice (some ⟨g9, 0, none⟩) cnt c9, undef, u15, .pointer (some ⟨K, 0, none⟩), .int .i64 0, .int .i64 (t : Int), .bool rd, .pointer (some ⟨C, 0, none⟩), u21, u22, .bool true, .bool false, .tuple #[.pointer (some ⟨B, 0, none⟩), .int .i64 0], .agg #[.int .i64 r, .int .i64 s, .int .i64 b, .int .i64 o, .int .i64 d], .int .i64 m, .tuple #[.pointer (some ⟨B, 0, none⟩), .int .i64 0], .pointer (some ⟨B, 0, none⟩), .int .i64 0, .int .i64 0, .bool false, .bool false, .pointer (some ⟨B, 0, none⟩), .bool false, .bool false, .bool false, .slice a2 len cap, .int .i64 (len : Int), .bool (decide (30 < (len : Int))), .bool (decide (30 < (len : Int))), .bool (decide (30 < (len : Int))), .slice (some ⟨rb, ro, none⟩) len4 cap4, .int .i64 (len4 : Int), .bool (decide (60 < (len4 : Int))), .bool (decide (30 < (len : Int)) || decide (60 < (len4 : Int))), undef, undef, undef, undef, undef, undef, undef, undef, undef, undef, undef, undef, .slice a2 len cap, .int .i64 (len : Int), .int .i64 (len : Int), .bool false, u63, u64, u65, u66, u67, u68, u69, u70, u71, u72, u73, u74, u75, u76, u77, u78, .tuple #[.agg L.toArray, .int .i64 0], .pointer (some ⟨B, 0, none⟩), .int .i64 idx, .tuple #[.agg L.toArray, .int .i64 0], .agg L.toArray, .int .i64 0, .int .i64 0, .bool false, undef, undef, .slice (some ⟨rb, ro, none⟩) len4 cap4, .int .i64 (len4 : Int), .int .i64 (t : Int), .bool true, .int .i64 (t : Int), .pointer (some ⟨rb, ro + t, none⟩), .bool rd, .int .i64 idx, .agg #[.int .i64 idx, .bool false], .int .i64 (t : Int), .slice (some ⟨g9, 0, none⟩) cnt c9, .int .i64 (cnt : Int), .bool true, .bool true, .slice (some ⟨g9, 0, none⟩) cnt c9, .int .i64 (t : Int), .pointer (some ⟨g9, t * 8, none⟩), .pointer (some ⟨g9, t * 8, none⟩), .int .i64 z0, .bool (z0 == 7), .bool (z0 == 7), u110, .int .i64 (t : Int), .slice (some ⟨g9, 0, none⟩) cnt c9, .int .i64 (cnt : Int), .bool true, u115, .agg #[.int .i64 r, .int .i64 s, .int .i64 b, .int .i64 o, .int .i64 d], .slice (some ⟨g9, 0, none⟩) cnt c9, .int .i64 (t : Int), .pointer (some ⟨g9, t * 8, none⟩), .pointer (some ⟨g9, t * 8 + 1, none⟩), .agg #[.int .i64 p1, .int .i64 p2, .int .i64 p3, .int .i64 p4], u122, u123, u124, u125, u126, u127, u128, u129, u130, u131, u132, u133, u134, u135, u136, u137, u138, u139, u140, undef, undef, undef, undef, undef, undef, undef, undef, undef, undef], defers := [] } : Act) _
                refine take_one 6 rfl rfl (by kernel_rfl) ?_
                refine wp_contract 22 [.tmp 116, .tmp 121] _ rfl (enters_of Try.func22 (by kernel_rfl) rfl) [.agg #[.int .i64 r, .int .i64 s, .int .i64 b, .int .i64 o, .int .i64 d], .agg #[.int .i64 p1, .int .i64 p2, .int .i64 p3, .int .i64 p4]] rfl (CX.out _) ?_
                rintro e W' ⟨rfl, b2⟩
                refine ⟨_, rfl, ⟨((HQ.out.next (below_drew1 _)).next b2).e0.range, HFS.out _ ((HWN.out.next (below_drew1 _)).next b2)⟩, fun hH => ?_⟩
                show wpAnyH _ _ _ _ _ _ _ ({ tmps := #[.agg #[.int .i64 r, .int .i64 s, .int .i64 b, .int .i64 o, .int .i64 d], .int .i64 m, .slice a2 len cap, .int .i64 idx, .slice (some ⟨rb, ro, none⟩) len4 cap4, .pointer (some ⟨A, 0, none⟩), undef, undef, undef, undef, u10, .pointer (some ⟨B, 0, none⟩), .int .i64 0, .slice (some ⟨g9, 0, none⟩) cnt c9, undef, u15, .pointer (some ⟨K, 0, none⟩), .int .i64 0, .int .i64 (t : Int), .bool rd, .pointer (some ⟨C, 0, none⟩), u21, u22, .bool true, .bool false, .tuple #[.pointer (some ⟨B, 0, none⟩), .int .i64 0], .agg #[.int .i64 r, .int .i64 s, .int .i64 b, .int .i64 o, .int .i64 d], .int .i64 m, .tuple #[.pointer (some ⟨B, 0, none⟩), .int .i64 0], .pointer (some ⟨B, 0, none⟩), .int .i64 0, .int .i64 0, .bool false, .bool false, .pointer (some ⟨B, 0, none⟩), .bool false, .bool false, .bool false, .slice a2 len cap, .int .i64 (len : Int), .bool (decide (30 < (len : Int))), .bool (decide (30 < (len : Int))), .bool (decide (30 < (len : Int))), .slice (some ⟨rb, ro, none⟩) len4 cap4, .int .i64 (len4 : Int), .bool (decide (60 < (len4 : Int))), .bool (decide (30 < (len : Int)) || decide (60 < (len4 : Int))), undef, undef, undef, undef, undef, undef, undef, undef, undef, undef, undef, undef, .slice a2 len cap, .int .i64 (len : Int), .int .i64 (len : Int), .bool false, u63, u64, u65, u66, u67, u68, u69, u70, u71, u72, u73, u74, u75, u76, u77, u78, .tuple #[.agg L.toArray, .int .i64 0], .pointer (some ⟨B, 0, none⟩), .int .i64 idx, .tuple #[.agg L.toArray, .int .i64 0], .agg L.toArray, .int .i64 0, .int .i64 0, .bool false, undef, undef, .slice (some ⟨rb, ro, none⟩) len4 cap4, .int .i64 (len4 : Int), .int .i64 (t : Int), .bool true, .int .i64 (t : Int), .pointer (some ⟨rb, ro + t, none⟩), .bool rd, .int .i64 idx, .agg #[.int .i64 idx, .bool false], .int .i64 (t : Int), .slice (some ⟨g9, 0, none⟩) cnt c9, .int .i64 (cnt : Int), .bool true, .bool true, .slice (some ⟨g9, 0, none⟩) cnt c9, .int .i64 (t : Int), .pointer (some ⟨g9, t * 8, none⟩), .pointer (some ⟨g9, t * 8, none⟩), .int .i64 z0, .bool (z0 == 7), .bool (z0 == 7), u110, .int .i64 (t : Int), .slice (some ⟨g9, 0, none⟩) cnt c9, .int .i64 (cnt : Int), .bool true, u115, .agg #[.int .i64 r, .int .i64 s, .int .i64 b, .int .i64 o, .int .i64 d], .slice (some ⟨g9, 0, none⟩) cnt c9, .int .i64 (t : Int), .pointer (some ⟨g9, t * 8, none⟩), .pointer (some ⟨g9, t * 8 + 1, none⟩), .agg #[.int .i64 p1, .int .i64 p2, .int .i64 p3, .int .i64 p4], .tuple #[.int .i64 z, .int .i64 0], u123, u124, u125, u126, u127, u128, u129, u130, u131, u132, u133, u134, u135, u136, u137, u138, u139, u140, undef, undef, undef, undef, undef, undef, undef, undef, undef, undef], defers := [] } : Act) _
                have hb9 : Below W5.heap.size W5 W' := (below_drew1 W5).trans (b2.mono (below_drew1 W5).size)
                refine take_pure 7 (v := .tuple #[.int .i64 z, .int .i64 0]) rfl (by kernel_rfl) rfl (fun w' hw => by simp [execOp, go_sem]) hH ?_
                show wpAnyH _ _ _ _ _ _ _ ({ tmps := #[.agg #[.int .i64 r, .int .i64 s, .int .i64 b, .int .i64 o, .int .i64 d], .int .i64 m, .slice a2 len cap, .int .i64 idx, .slice (some ⟨rb, ro, none⟩) len4 cap4, .pointer (some ⟨A, 0, none⟩), undef, undef, undef, undef, u10, .pointer (some ⟨B, 0, none⟩), .int .i64 0, .slice (some ⟨g9, 0, none⟩) cnt c9, undef, u15, .pointer (some ⟨K, 0, none⟩), .int .i64 0, .int .i64 (t : Int), .bool rd, .pointer (some ⟨C, 0, none⟩), u21, u22, .bool true, .bool false, .tuple #[.pointer (some ⟨B, 0, none⟩), .int .i64 0], .agg #[.int .i64 r, .int .i64 s, .int .i64 b, .int .i64 o, .int .i64 d], .int .i64 m, .tuple #[.pointer (some ⟨B, 0, none⟩), .int .i64 0], .pointer (some ⟨B, 0, none⟩), .int .i64 0, .int .i64 0, .bool false, .bool false, .pointer (some ⟨B, 0, none⟩), .bool false, .bool false, .bool false, .slice a2 len cap, .int .i64 (len : Int), .bool (decide (30 < (len : Int))), .bool (decide (30 < (len : Int))), .bool (decide (30 < (len : Int))), .slice (some ⟨rb, ro, none⟩) len4 cap4, .int .i64 (len4 : Int), .bool (decide (60 < (len4 : Int))), .bool (decide (30 < (len : Int)) || decide (60 < (len4 : Int))), undef, undef, undef, undef, undef, undef, undef, undef, undef, undef, undef, undef, .slice a2 len cap, .int .i64 (len : Int), .int .i64 (len : Int), .bool false, u63, u64, u65, u66, u67, u68, u69, u70, u71, u72, u73, u74, u75, u76, u77, u78, .tuple #[.agg L.toArray, .int .i64 0], .pointer (some ⟨B, 0, none⟩), .int .i64 idx, .tuple #[.agg L.toArray, .int .i64 0], .agg L.toArray, .int .i64 0, .int .i64 0, .bool false, undef, undef, .slice (some ⟨rb, ro, none⟩) len4 cap4, .int .i64 (len4 : Int), .int .i64 (t : Int), .bool true, .int .i64 (t : Int), .pointer (some ⟨rb, ro + t, none⟩), .bool rd, .int .i64 idx, .agg #[.int .i64 idx, .bool false], .int .i64 (t : Int), .slice (some ⟨g9, 0, none⟩) cnt c9, .int .i64 (cnt : Int), .bool true, .bool true, .slice (some ⟨g9, 0, none⟩) cnt c9, .int .i64 (t : Int), .pointer (some ⟨g9, t * 8, none⟩), .pointer (some ⟨g9, t * 8, none⟩), .int .i64 z0, .bool (z0 == 7), .bool (z0 == 7), u110, .int .i64 (t : Int), .slice (some ⟨g9, 0, none⟩) cnt c9, .int .i64 (cnt : Int), .bool true, .tuple #[.int .i64 z, .int .i64 0], .agg #[.int .i64 r, .int .i64 s, .int .i64 b, .int .i64 o, .int .i64 d], .slice (some ⟨g9, 0, none⟩) cnt c9, .int .i64 (t : Int), .pointer (some ⟨g9, t * 8, none⟩), .pointer (some ⟨g9, t * 8 + 1, none⟩), .agg #[.int .i64 p1, .int .i64 p2, .int .i64 p3, .int .i64 p4], .tuple #[.int .i64 z, .int .i64 0], u123, u124, u125, u126, u127, u128, u129, u130, u131, u132, u133, u134, u135, u136, u137, u138, u139, u140, undef, undef, undef, undef, undef, undef, undef, undef, undef, undef], defers := [] } : Act) _
                refine take_pure 8 (v := .int .i64 z) rfl (by kernel_rfl) rfl (fun w' hw => by simp [execOp, go_sem]) hH ?_
                show wpAnyH _ _ _ _ _ _ _ ({ tmps := #[.agg #[.int .i64 r, .int .i64 s, .int .i64 b, .int .i64 o, .int .i64 d], .int .i64 m, .slice a2 len cap, .int .i64 idx, .slice (some ⟨rb, ro, none⟩) len4 cap4, .pointer (some ⟨A, 0, none⟩), undef, undef, undef, undef, u10, .pointer (some ⟨B, 0, none⟩), .int .i64 0, .slice (some ⟨g9, 0, none⟩) cnt c9, undef, u15, .pointer (some ⟨K, 0, none⟩), .int .i64 0, .int .i64 (t : Int), .bool rd, .pointer (some ⟨C, 0, none⟩), u21, u22, .bool true, .bool false, .tuple #[.pointer (some ⟨B, 0, none⟩), .int .i64 0], .agg #[.int .i64 r, .int .i64 s, .int .i64 b, .int .i64 o, .int .i64 d], .int .i64 m, .tuple #[.pointer (some ⟨B, 0, none⟩), .int .i64 0], .pointer (some ⟨B, 0, none⟩), .int .i64 0, .int .i64 0, .bool false, .bool false, .pointer (some ⟨B, 0, none⟩), .bool false, .bool false, .bool false, .slice a2 len cap, .int .i64 (len : Int), .bool (decide (30 < (len : Int))), .bool (decide (30 < (len : Int))), .bool (decide (30 < (len : Int))), .slice (some ⟨rb, ro, none⟩) len4 cap4, .int .i64 (len4 : Int), .bool (decide (60 < (len4 : Int))), .bool (decide (30 < (len : Int)) || decide (60 < (len4 : Int))), undef, undef, undef, undef, undef, undef, undef, undef, undef, undef, undef, undef, .slice a2 len cap, .int .i64 (len : Int), .int .i64 (len : Int), .bool false, u63, u64, u65, u66, u67, u68, u69, u70, u71, u72, u73, u74, u75, u76, u77, u78, .tuple #[.agg L.toArray, .int .i64 0], .pointer (some ⟨B, 0, none⟩), .int .i64 idx, .tuple #[.agg L.toArray, .int .i64 0], .agg L.toArray, .int .i64 0, .int .i64 0, .bool false, undef, undef, .slice (some ⟨rb, ro, none⟩) len4 cap4, .int .i64 (len4 : Int), .int .i64 (t : Int), .bool true, .int .i64 (t : Int), .pointer (some ⟨rb, ro + t, none⟩), .bool rd, .int .i64 idx, .agg #[.int .i64 idx, .bool false], .int .i64 (t : Int), .slice (some ⟨g9, 0, none⟩) cnt c9, .int .i64 (cnt : Int), .bool true, .bool true, .slice (some ⟨g9, 0, none⟩) cnt c9, .int .i64 (t : Int), .pointer (some ⟨g9, t * 8, none⟩), .pointer (some ⟨g9, t * 8, none⟩), .int .i64 z0, .bool (z0 == 7), .bool (z0 == 7), u110, .int .i64 (t : Int), .slice (some ⟨g9, 0, none⟩) cnt c9, .int .i64 (cnt : Int), .bool true, .tuple #[.int .i64 z, .int .i64 0], .agg #[.int .i64 r, .int .i64 s, .int .i64 b, .int .i64 o, .int .i64 d], .slice (some ⟨g9, 0, none⟩) cnt c9, .int .i64 (t : Int), .pointer (some ⟨g9, t * 8, none⟩), .pointer (some ⟨g9, t * 8 + 1, none⟩), .agg #[.int .i64 p1, .int .i64 p2, .int .i64 p3, .int .i64 p4], .tuple #[.int .i64 z, .int .i64 0], .int .i64 z, u124, u125, u126, u127, u128, u129, u130, u131, u132, u133, u134, u135, u136, u137, u138, u139, u140, undef, undef, undef, undef, undef, undef, undef, undef, undef, undef], defers := [] } : Act) _
                refine take_pure 9 (v := .int .i64 0) rfl (by kernel_rfl) rfl (fun w' hw => by simp [execOp, go_sem]) hH ?_
                show wpAnyH _ _ _ _ _ _ _ ({ tmps := #[.agg #[.int .i64 r, .int .i64 s, .int .i64 b, .int .i64 o, .int .i64 d], .int .i64 m, .slice a2 len cap, .int .i64 idx, .slice (some ⟨rb, ro, none⟩) len4 cap4, .pointer (some ⟨A, 0, none⟩), undef, undef, undef, undef, u10, .pointer (some ⟨B, 0, none⟩), .int .i64 0, .slice (some ⟨g9, 0, none⟩) cnt c9, undef, u15, .pointer (some ⟨K, 0, none⟩), .int .i64 0, .int .i64 (t : Int), .bool rd, .pointer (some ⟨C, 0, none⟩), u21, u22, .bool true, .bool false, .tuple #[.pointer (some ⟨B, 0, none⟩), .int .i64 0], .agg #[.int .i64 r, .int .i64 s, .int .i64 b, .int .i64 o, .int .i64 d], .int .i64 m, .tuple #[.pointer (some ⟨B, 0, none⟩), .int .i64 0], .pointer (some ⟨B, 0, none⟩), .int .i64 0, .int .i64 0, .bool false, .bool false, .pointer (some ⟨B, 0, none⟩), .bool false, .bool false, .bool false, .slice a2 len cap, .int .i64 (len : Int), .bool (decide (30 < (len : Int))), .bool (decide (30 < (len : Int))), .bool (decide (30 < (len : Int))), .slice (some ⟨rb, ro, none⟩) len4 cap4, .int .i64 (len4 : Int), .bool (decide (60 < (len4 : Int))), .bool (decide (30 < (len : Int)) || decide (60 < (len4 : Int))), undef, undef, undef, undef, undef, undef, undef, undef, undef, undef, undef, undef, .slice a2 len cap, .int .i64 (len : Int), .int .i64 (len : Int), .bool false, u63, u64, u65, u66, u67, u68, u69, u70, u71, u72, u73, u74, u75, u76, u77, u78, .tuple #[.agg L.toArray, .int .i64 0], .pointer (some ⟨B, 0, none⟩), .int .i64 idx, .tuple #[.agg L.toArray, .int .i64 0], .agg L.toArray, .int .i64 0, .int .i64 0, .bool false, undef, undef, .slice (some ⟨rb, ro, none⟩) len4 cap4, .int .i64 (len4 : Int), .int .i64 (t : Int), .bool true, .int .i64 (t : Int), .pointer (some ⟨rb, ro + t, none⟩), .bool rd, .int .i64 idx, .agg #[.int .i64 idx, .bool false], .int .i64 (t : Int), .slice (some ⟨g9, 0, none⟩) cnt c9, .int .i64 (cnt : Int), .bool true, .bool true, .slice (some ⟨g9, 0, none⟩) cnt c9, .int .i64 (t : Int), .pointer (some ⟨g9, t * 8, none⟩), .pointer (some ⟨g9, t * 8, none⟩), .int .i64 z0, .bool (z0 == 7), .bool (z0 == 7), u110, .int .i64 (t : Int), .slice (some ⟨g9, 0, none⟩) cnt c9, .int .i64 (cnt : Int), .bool true, .tuple #[.int .i64 z, .int .i64 0], .agg #[.int .i64 r, .int .i64 s, .int .i64 b, .int .i64 o, .int .i64 d], .slice (some ⟨g9, 0, none⟩) cnt c9, .int .i64 (t : Int), .pointer (some ⟨g9, t * 8, none⟩), .pointer (some ⟨g9, t * 8 + 1, none⟩), .agg #[.int .i64 p1, .int .i64 p2, .int .i64 p3, .int .i64 p4], .tuple #[.int .i64 z, .int .i64 0], .int .i64 z, .int .i64 0, u125, u126, u127, u128, u129, u130, u131, u132, u133, u134, u135, u136, u137, u138, u139, u140, undef, undef, undef, undef, undef, undef, undef, undef, undef, undef], defers := [] } : Act) _
                refine take_pure 10 (v := .pointer (some ⟨C, 0, none⟩)) rfl (by kernel_rfl) rfl (fun w' hw => by simp [execOp, go_sem]) hH ?_
                show wpAnyH _ _ _ _ _ _ _ ({ tmps := #[.agg #[.int .i64 r, .int .i64 s, .int .i64 b, .int .i64 o, .int .i64 d], .int .i64 m, .slice a2 len cap, .int .i64 idx, .slice (some ⟨rb, ro, none⟩) len4 cap4, .pointer (some ⟨A, 0, none⟩), undef, undef, undef, undef, u10, .pointer (some ⟨B, 0, none⟩), .int .i64 0, .slice (some ⟨g9, 0, none⟩) cnt c9, undef, u15, .pointer (some ⟨K, 0, none⟩), .int .i64 0, .int .i64 (t : Int), .bool rd, .pointer (some ⟨C, 0, none⟩), u21, u22, .bool true, .bool false, .tuple #[.pointer (some ⟨B, 0, none⟩), .int .i64 0], .agg #[.int .i64 r, .int .i64 s, .int .i64 b, .int .i64 o, .int .i64 d], .int .i64 m, .tuple #[.pointer (some ⟨B, 0, none⟩), .int .i64 0], .pointer (some ⟨B, 0, none⟩), .int .i64 0, .int .i64 0, .bool false, .bool false, .pointer (some ⟨B, 0, none⟩), .bool false, .bool false, .bool false, .slice a2 len cap, .int .i64 (len : Int), .bool (decide (30 < (len : Int))), .bool (decide (30 < (len : Int))), .bool (decide (30 < (len : Int))), .slice (some ⟨rb, ro, none⟩) len4 cap4, .int .i64 (len4 : Int), .bool (decide (60 < (len4 : Int))), .bool (decide (30 < (len : Int)) || decide (60 < (len4 : Int))), undef, undef, undef, undef, undef, undef, undef, undef, undef, undef, undef, undef, .slice a2 len cap, .int .i64 (len : Int), .int .i64 (len : Int), .bool false, u63, u64, u65, u66, u67, u68, u69, u70, u71, u72, u73, u74, u75, u76, u77, u78, .tuple #[.agg L.toArray, .int .i64 0], .pointer (some ⟨B, 0, none⟩), .int .i64 idx, .tuple #[.agg L.toArray, .int .i64 0], .agg L.toArray, .int .i64 0, .int .i64 0, .bool false, undef, undef, .slice (some ⟨rb, ro, none⟩) len4 cap4, .int .i64 (len4 : Int), .int .i64 (t : Int), .bool true, .int .i64 (t : Int), .pointer (some ⟨rb, ro + t, none⟩), .bool rd, .int .i64 idx, .agg #[.int .i64 idx, .bool false], .int .i64 (t : Int), .slice (some ⟨g9, 0, none⟩) cnt c9, .int .i64 (cnt : Int), .bool true, .bool true, .slice (some ⟨g9, 0, none⟩) cnt c9, .int .i64 (t : Int), .pointer (some ⟨g9, t * 8, none⟩), .pointer (some ⟨g9, t * 8, none⟩), .int .i64 z0, .bool (z0 == 7), .bool (z0 == 7), u110, .int .i64 (t : Int), .slice (some ⟨g9, 0, none⟩) cnt c9, .int .i64 (cnt : Int), .bool true, .tuple #[.int .i64 z, .int .i64 0], .agg #[.int .i64 r, .int .i64 s, .int .i64 b, .int .i64 o, .int .i64 d], .slice (some ⟨g9, 0, none⟩) cnt c9, .int .i64 (t : Int), .pointer (some ⟨g9, t * 8, none⟩), .pointer (some ⟨g9, t * 8 + 1, none⟩), .agg #[.int .i64 p1, .int .i64 p2, .int .i64 p3, .int .i64 p4], .tuple #[.int .i64 z, .int .i64 0], .int .i64 z, .int .i64 0, .pointer (some ⟨C, 0, none⟩), u126, u127, u128, u129, u130, u131, u132, u133, u134, u135, u136, u137, u138, u139, u140, undef, undef, undef, undef, undef, undef, undef, undef, undef, undef], defers := [] } : Act) _
                refine take_one 11 rfl rfl (by kernel_rfl) ?_
                refine wp_store_int12 (.tmp 125) (.tmp 123) rfl C 0 rfl z rfl _ ((HQ.out.next hb9).b0.cell (i := 0) rfl) ((HQ.out.next hb9).b0.free 0) ?_
                refine ⟨?_, fun hH => ?_⟩
                · have h6 := (HQ.out.next hb9).set0 HLC.out 0 (.int .i64 z)
                  have h8 := HWN.out.next hb9
                  refine ⟨h6.e0.range, HFS.out _ ⟨own_kept h8.o fun g hg => Below.heap_setCell W' ⟨C, 0, none⟩ _ g ?_, h8.m⟩⟩
                  have h99 := HWC.out g hg
                  show g ≠ C
                  omega
                exact wpAnyH_done (by kernel_rfl) ⟨rfl, W', hb9, rfl⟩ _
              case aft =>
                obtain ⟨rfl, W6', hb6, hw6⟩ := hr
                have HQ6 : Hid (Lw w [(A, [.int .i64 r, .int .i64 s, .int .i64 b, .int .i64 o, .int .i64 d])] [(C, [.int .i64 z, .bool false])] lo B M r s b o d m n G vb 0 (fun _ _ => 0) vc (cnt - t) (dropZ Zc t) V3) := by rw [hw6]; exact (HQ.out.next hb6).set0 HLC.out 0 (.int .i64 z)
                have HWN6 : Hid (Wn lo B M vb vc (.slice (some ⟨g9, 0, none⟩) cnt c9) cnt Zc V3) := by
                  rw [hw6]
                  have h8 := HWN.out.next hb6
                  refine ⟨own_kept h8.o fun g hg => Below.heap_setCell W6' ⟨C, 0, none⟩ _ g ?_, h8.m⟩
                  have h99 := HWC.out g hg
                  show g ≠ C
                  omega
                clear hb6 hw6 HQ HWN HFS CX
                have HQ6b : Hid (Lw w [(A, [.int .i64 r, .int .i64 s, .int .i64 b, .int .i64 o, .int .i64 d])] [(C, [.int .i64 z, .bool false])] lo B M r s b o d m n G vb 0 (fun _ _ => 0) vc (cnt - t) (dropZ Zc t) V3) := HQ6.out
                clear HQ6
                go_wp2_with fail
                refine (dTouch_any HQ6b.out.d HM.out idx (by have := HN.out; omega) HX9.out rd).mono ?_
                rintro e W7 ⟨rfl, vc7, G7, hd7, hown7, hmv7⟩
                rw [HJ.out.1, HJ.out.2]
                have HQ7 : Hid (Lw w [(A, [.int .i64 r, .int .i64 s, .int .i64 b, .int .i64 o, .int .i64 d])] [(C, [.int .i64 z, .bool false])] lo B M r s b o d m (n + 1) G7 vb 0 (fun _ _ => 0) vc7 (cnt - t - 1) (tlZ (dropZ Zc t)) W7) := HQ6b.out.mo hd7 ⟨fun g hg => .inl ((own_eq hown7 g).1 hg), hmv7⟩
                have HWN7 : Hid (Wn lo B M vb vc7 (.slice (some ⟨g9, 0, none⟩) cnt c9) cnt Zc W7) := HWN6.out.own hown7 hmv7
                clear hd7 hown7 hmv7 HQ6b HWN6 HJ
                go_upto_region 25 with (fail)
                obtain ⟨D, hD⟩ : ∃ D, W7.heap.size = D := ⟨_, rfl⟩
                obtain ⟨W8, hW8⟩ : ∃ W, W7.alloc (.cells #[.int .i64 z, .bool false] 59) = W := ⟨_, rfl⟩
                have HQ8 : Hid (Lw w [(A, [.int .i64 r, .int .i64 s, .int .i64 b, .int .i64 o, .int .i64 d])] [(D, [.int .i64 z, .bool false]), (C, [.int .i64 z, .bool false])] lo B M r s b o d m (n + 1) G7 vb 0 (fun _ _ => 0) vc7 (cnt - t - 1) (tlZ (dropZ Zc t)) W8) := by rw [← hW8, ← hD]; exact HQ7.out.lay [.int .i64 z, .bool false] _
                have HWN8 : Hid (Wn lo B M vb vc7 (.slice (some ⟨g9, 0, none⟩) cnt c9) cnt Zc W8) := by rw [← hW8]; exact HWN7.out.next ((Below.refl _ _).alloc (Nat.le_refl _) _)
                rw [hW8, hD]
                clear hW8 hD HQ7 HWN7
                have qd : W8.rangeAt D 0 [.int .i64 z, .bool false] := HQ8.out.b0.range
                have qc : W8.rangeAt C 0 [.int .i64 z, .bool false] := HQ8.out.b1.range
                have hne : ∀ w, (binOp .neq 59 (.agg #[.int .i64 z, .bool false]) (.agg #[.int .i64 z, .bool false])).run Try.prog w = .ok (.bool false) w := fun w => eqW_neq_self z false w
                have HR2 : Hid (∃ vb vc n G, n ≤ t + 1 ∧ Lw w [(A, [.int .i64 r, .int .i64 s, .int .i64 b, .int .i64 o, .int .i64 d])] [] lo B M r s b o d m n G vb 0 (fun _ _ => 0) vc (cnt - (t + 1)) (dropZ Zc (t + 1)) W8 ∧ Wn lo B M vb vc (.slice (some ⟨g9, 0, none⟩) cnt c9) cnt Zc W8) := by
                  have h := HQ8.out.drop.drop
                  rw [show cnt - t - 1 = cnt - (t + 1) by omega, dropZ_tl] at h
                  exact ⟨vb, vc7, n + 1, G7, by have := HN.out; omega, h, HWN8.out⟩
                clear HQ8 HWN8
                go_wp2_with (first
                  | refine wpList_load_mid rfl 59 _ rfl D 0 rfl [.int .i64 z, .bool false] _ qd Try.underlying59 rfl infoWe ?_
                  | refine wpList_load_mid rfl 59 _ rfl C 0 rfl [.int .i64 z, .bool false] _ qc Try.underlying59 rfl infoWe ?_
                  | refine wpList_known rfl (.bool false) (exec_neqA 59 _ _ _ rfl _ _ _ rfl rfl gdW12 hne _) ?_)
                go_roundw
                case rel => exact ⟨t + 1, by omega, by go_num, HR2⟩
                case measure => simp [intOf]; omega
          · have HJ : Hid (wI (cnt - t) (dropZ Zc t) idx = idx ∧ wD (cnt - t) (dropZ Zc t) = false) := by
              rw [show cnt - t = 0 by omega]
              exact ⟨rfl, rfl⟩
            have HQ6 : Hid (Lw w [(A, [.int .i64 r, .int .i64 s, .int .i64 b, .int .i64 o, .int .i64 d])] [(C, [.int .i64 idx, .bool false])] lo B M r s b o d m n G vb 0 (fun _ _ => 0) vc (cnt - t) (dropZ Zc t) W5) := HQ.out
            have HWN6 : Hid (Wn lo B M vb vc (.slice a9 cnt c9) cnt Zc W5) := HWN.out
            clear HQ HWN
            go_upto_region 24 with (fail)
            have HQ6b : Hid (Lw w [(A, [.int .i64 r, .int .i64 s, .int .i64 b, .int .i64 o, .int .i64 d])] [(C, [.int .i64 idx, .bool false])] lo B M r s b o d m n G vb 0 (fun _ _ => 0) vc (cnt - t) (dropZ Zc t) W5) := HQ6.out
            clear HQ6
            go_wp2_with fail
            refine (dTouch_any HQ6b.out.d HM.out idx (by have := HN.out; omega) HX9.out rd).mono ?_
            rintro e W7 ⟨rfl, vc7, G7, hd7, hown7, hmv7⟩
            rw [HJ.out.1, HJ.out.2]
            have HQ7 : Hid (Lw w [(A, [.int .i64 r, .int .i64 s, .int .i64 b, .int .i64 o, .int .i64 d])] [(C, [.int .i64 idx, .bool false])] lo B M r s b o d m (n + 1) G7 vb 0 (fun _ _ => 0) vc7 (cnt - t - 1) (tlZ (dropZ Zc t)) W7) := HQ6b.out.mo hd7 ⟨fun g hg => .inl ((own_eq hown7 g).1 hg), hmv7⟩
            have HWN7 : Hid (Wn lo B M vb vc7 (.slice a9 cnt c9) cnt Zc W7) := HWN6.out.own hown7 hmv7
            clear hd7 hown7 hmv7 HQ6b HWN6 HJ
            go_upto_region 25 with (fail)
            obtain ⟨D, hD⟩ : ∃ D, W7.heap.size = D := ⟨_, rfl⟩
            obtain ⟨W8, hW8⟩ : ∃ W, W7.alloc (.cells #[.int .i64 idx, .bool false] 59) = W := ⟨_, rfl⟩
            have HQ8 : Hid (Lw w [(A, [.int .i64 r, .int .i64 s, .int .i64 b, .int .i64 o, .int .i64 d])] [(D, [.int .i64 idx, .bool false]), (C, [.int .i64 idx, .bool false])] lo B M r s b o d m (n + 1) G7 vb 0 (fun _ _ => 0) vc7 (cnt - t - 1) (tlZ (dropZ Zc t)) W8) := by rw [← hW8, ← hD]; exact HQ7.out.lay [.int .i64 idx, .bool false] _
            have HWN8 : Hid (Wn lo B M vb vc7 (.slice a9 cnt c9) cnt Zc W8) := by rw [← hW8]; exact HWN7.out.next ((Below.refl _ _).alloc (Nat.le_refl _) _)
            rw [hW8, hD]
            clear hW8 hD HQ7 HWN7
            have qd : W8.rangeAt D 0 [.int .i64 idx, .bool false] := HQ8.out.b0.range
            have qc : W8.rangeAt C 0 [.int .i64 idx, .bool false] := HQ8.out.b1.range
            have hne : ∀ w, (binOp .neq 59 (.agg #[.int .i64 idx, .bool false]) (.agg #[.int .i64 idx, .bool false])).run Try.prog w = .ok (.bool false) w := fun w => eqW_neq_self idx false w
            have HR2 : Hid (∃ vb vc n G, n ≤ t + 1 ∧ Lw w [(A, [.int .i64 r, .int .i64 s, .int .i64 b, .int .i64 o, .int .i64 d])] [] lo B M r s b o d m n G vb 0 (fun _ _ => 0) vc (cnt - (t + 1)) (dropZ Zc (t + 1)) W8 ∧ Wn lo B M vb vc (.slice a9 cnt c9) cnt Zc W8) := by
              have h := HQ8.out.drop.drop
              rw [show cnt - t - 1 = cnt - (t + 1) by omega, dropZ_tl] at h
              exact ⟨vb, vc7, n + 1, G7, by have := HN.out; omega, h, HWN8.out⟩
            clear HQ8 HWN8
            go_wp2_with (first
              | refine wpList_load_mid rfl 59 _ rfl D 0 rfl [.int .i64 idx, .bool false] _ qd Try.underlying59 rfl infoWe ?_
              | refine wpList_load_mid rfl 59 _ rfl C 0 rfl [.int .i64 idx, .bool false] _ qc Try.underlying59 rfl infoWe ?_
              | refine wpList_known rfl (.bool false) (exec_neqA 59 _ _ _ rfl _ _ _ rfl rfl gdW12 hne _) ?_)
            go_roundw
            case rel => exact ⟨t + 1, by omega, by go_num, HR2⟩
            case measure => simp [intOf]; omega
        · obtain rfl : t = len4 := by omega
          have HQ0 : Hid (Lw w [(A, [.int .i64 r, .int .i64 s, .int .i64 b, .int .i64 o, .int .i64 d])] [] lo B M r s b o d m n G vb 0 (fun _ _ => 0) vc (cnt - t) (dropZ Zc t) wr) := hq
          have hmx := run_maxI12 (P := Try.prog) ((cnt : Int) - (t : Int)) (cnt - t) (by omega)
          have hcN := HQ0.out.d.le.2
          have hc60 := HN.out.2
          clear hq hwn HR hnt
          go_wp2_with fail
          refine (dComing_any HQ0.out.d).mono ?_
          rintro e W5 ⟨a7, c7, rfl, _, hb7⟩
          have HZ : Hid (Below w.heap.size w W5) := (HQ0.out.next hb7).n
          clear hb7 HQ0
          go_wp2
          go_ret
          exact ⟨rfl, by first | exact HZ.out | (rw [hA] at HZ; exact HZ.out)⟩
theorem dramStrays_walk (a0 : Nat → Int) (a1 : Int) (a2 : Option Addr) (len2 cap2 : Nat) (Z2 : Nat → Nat → Int) (a3 : Int) (a4 : Option Addr) (len4 cap4 : Nat) (Z4 : Nat → Bool) (_w0 : ∀ i, i < 5 → (Lit.int .i64 (a0 i)).wf = true) (_w1 : (Lit.int .i64 a1).wf = true) (w3 : (Lit.int .i64 a3).wf = true) (w : World) (w2 : IsFlat .i64 8 w a2 len2 cap2 Z2) (w4 : IsBo w a4 len4 cap4 Z4) :
    Calls Try.prog 6 #[.agg (ints .i64 5 a0).toArray, .int .i64 a1, .slice a2 len2 cap2, .int .i64 a3, .slice a4 len4 cap4] w fun e w' => e = .returned (.bool true) ∧ Below w.heap.size w w' :=
  dramStrays_core (a0 0) (a0 1) (a0 2) (a0 3) (a0 4) a1 a2 len2 cap2 Z2 a3 (by have := bounds_i64 w3; exact ⟨this.1, by omega⟩) a4 len4 cap4 Z4 w w2 w4
end Go.Proofs.Ytcpjmfemgdgplaa
