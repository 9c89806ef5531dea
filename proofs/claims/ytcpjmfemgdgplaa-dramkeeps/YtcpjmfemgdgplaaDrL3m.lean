/-
  The law DramKeeps: without faults what was written last is read.
-/
import Derived.Test.YtcpjmfemgdgplaaM17
import Derived.Test.YtcpjmfemgdgplaaM18
namespace Go.Proofs.Ytcpjmfemgdgplaa
open Go.RowKit Go.Shelf
open Ge (pw rt hd ix)
attribute [local go_sem] Oper.semAt_some

/-- the cells of a step of a law -/
def oc12 (F : Nat → Int) : List Value := ints .i64 11 F ++ ints .u8 72 fun j => F (j + 11)
abbrev KS12 : List IntKind := List.replicate 11 IntKind.i64 ++ List.replicate 72 IntKind.u8
theorem oc12_len (F : Nat → Int) : (oc12 F).length = 83 := by simp [oc12, ints_len]
theorem oc12_is (F : Nat → Int) : mints KS12 F = oc12 F := by
  unfold mints oc12 ints
  rfl
theorem oc12_one (F : Nat → Int) : ∀ v ∈ oc12 F, v.oneCell' = true := by
  intro v hv
  rcases List.mem_append.1 hv with h | h
  · exact ints_one' _ _ _ v h
  · exact ints_one' _ _ _ v h
theorem mix_open {w : World} {a2 : Option Addr} {len cap : Nat} {Z : Nat → Nat → Int} (h : IsMix KS12 w a2 len cap Z) : 0 < len → ∃ pb po, a2 = some ⟨pb, po, none⟩ ∧ ∀ W, Below w.heap.size w W → ∀ t, t < len → W.rangeAt pb (po + t * 83) (oc12 (Z t)) ∧ (∀ j, j < 11 → I64 (Z t j)) ∧ Byts 72 fun j => Z t (j + 11) := by
  intro h0
  rcases h with ⟨_, h1, _⟩ | ⟨x, rfl, h1, h2, h3⟩
  · omega
  · obtain ⟨pb, po, st⟩ := x
    have hks : ∀ j, j < 83 → ∃ k, KS12[j]? = some k := fun j hj => ⟨_, List.getElem?_eq_getElem (by simpa using hj)⟩
    obtain ⟨k0, hk0⟩ := hks 0 (by omega)
    have hc0 := (h3 0 (by omega) 0 k0 hk0).1
    obtain rfl : st = none := by simpa [Addr.add] using World.cell?_spot hc0
    have hpb : pb < w.heap.size := by
      have := World.block_lt_of_cell? w _ hc0
      rwa [Addr.add_lit] at this
    refine ⟨pb, po, rfl, fun W hW t ht => ⟨fun j v hv => ?_, fun j hj => ?_, fun j hj => ?_⟩⟩
    · have hj : j < 83 := by have := (List.getElem?_eq_some_iff.1 hv).1; rwa [oc12_len] at this
      obtain ⟨k, hk⟩ := hks j hj
      have h4 := (h3 t (by omega) j k hk).1
      rw [Addr.add_lit] at h4
      have h5 : (oc12 (Z t))[j]? = some (.int k (Z t j)) := by rw [← oc12_is]; exact mints_at _ _ _ _ hk
      rw [hv] at h5
      cases h5
      have e : po + t * 83 + j = po + (t * KS12.length + j) := by simp; omega
      rw [e]
      exact (hW.cell (p := ⟨pb, po + (t * KS12.length + j), none⟩) hpb).trans h4
    · have hk : KS12[j]? = some .i64 := by
        rw [List.getElem?_append_left (by simpa using hj), List.getElem?_replicate, if_pos hj]
      have := bounds_i64 (h3 t (by omega) j _ hk).2
      exact ⟨this.1, by omega⟩
    · have hk : KS12[j + 11]? = some .u8 := by
        rw [List.getElem?_append_right (by simp), List.getElem?_replicate, if_pos (by simp; omega)]
      have := bounds_u8 (h3 t (by omega) (j + 11) _ hk).2
      exact ⟨this.1, by show Z t (j + 11) < 256; omega⟩
theorem infoOp : (Try.prog.info? 42).map (·.size) = some 83 := by kernel_rfl
theorem zeroOp (w : World) : (zeroValue 42).run Try.prog w = .ok (.agg (oc12 fun _ => 0).toArray) w := by kernel_rfl
theorem wpList_known_g {P : Program} {ops : Array Oper} {rest : List Oper} {op : Oper} {a : Act} {w : World} {Q : Exit → Act → World → Prop} (hw : Region.wanted op (yielded ops a.tmps) = true) (v : Value) (hx : (execOp a.eval op).run P w = .ok (.value v) w) (h : wpList P ops Q rest (a.put op.dst v) w) : wpList P ops Q (op :: rest) a w :=
  wpList_step fun K hK => by rw [if_pos hw]; unfold Oper.wp; rw [hx]; exact hK _ _ h
section
variable {w0 W W' : World} {es ls : List (Nat × List Value)} {lo B M : Nat} {r s b o d m : Int} {n : Nat} {G : Int → Nat → Int} {l1 : Nat} {Y : Nat → Nat → Int}
theorem Lq.drop {x : Nat × List Value} (h : Lq w0 es (x :: ls) lo B M r s b o d m n G l1 Y W) : Lq w0 es ls lo B M r s b o d m n G l1 Y W := by
  obtain ⟨vb, vc, Z, h⟩ := h
  exact ⟨vb, vc, Z, h.d, h.n, h.l, h.e, fun y hy => h.b y (by simp [hy])⟩
theorem Lq.put1 {K : Nat} {X L : List Value} (h : Lq w0 es [(K, X)] lo B M r s b o d m n G l1 Y W) (hK : lo ≤ K) (hl : L.length = X.length) : Lq w0 es [(K, L)] lo B M r s b o d m n G l1 Y (W.setCells K 0 L) ∧ W.there K 0 L.toArray.size := by
  obtain ⟨vb, vc, Z, h⟩ := h
  obtain ⟨hm, hc⟩ := h.b (K, X) (by simp)
  refine ⟨⟨vb, vc, Z, h.d.of fun g hg => heap_puts K L 0 W g (fun e => hm (e ▸ hg)), belows_put (by have := h.l; omega) _ 0 h.n, h.l, fun x hx => ⟨(h.e x hx).1, (h.e x hx).2.putOther (by have := (h.e x hx).1; omega) 0 L⟩, fun x hx => ?_⟩, ?_⟩
  · rcases List.mem_cons.1 hx with rfl | hx
    · exact ⟨hm, hc.all hl⟩
    · simp at hx
  · have := hc.thereAt 0 L.length (by simp only [hl]; omega)
    simpa using this
theorem Lq.lo_le (h : Lq w0 es ls lo B M r s b o d m n G l1 Y W) : lo ≤ W.heap.size := by
  obtain ⟨vb, vc, Z, h⟩ := h
  exact h.d.lo_le
/-- another bound of the map's entries -/
theorem Lq.mono {k : Nat} (h : Lq w0 es ls lo B M r s b o d m n G l1 Y W) (hk : n ≤ k) : Lq w0 es ls lo B M r s b o d m k G l1 Y W := by
  obtain ⟨vb, vc, Z, h⟩ := h
  exact ⟨vb, vc, Z, h.d.mono hk, h.n, h.l, h.e, h.b⟩
/-- a block with other blocks behind it: the rest of the row -/
theorem Lq.second {x y : Nat × List Value} (h : Lq w0 es (x :: y :: ls) lo B M r s b o d m n G l1 Y W) : Lq w0 es (y :: ls) lo B M r s b o d m n G l1 Y W := h.drop
end
set_option maxRecDepth 100000 in
set_option maxHeartbeats 8000000 in
theorem dramKeeps_core (r s b o d m : Int) (a2 : Option Addr) (len cap : Nat) (Z : Nat → Nat → Int) (idx : Int) (hidx : I64 idx) (F : Nat → Int) (hF : Byts 72 F) (w : World) (hz2 : IsMix KS12 w a2 len cap Z) :
    Calls Try.prog 4 #[.agg #[.int .i64 r, .int .i64 s, .int .i64 b, .int .i64 o, .int .i64 d], .int .i64 m, .slice a2 len cap, .int .i64 idx, .agg (ints .u8 72 F).toArray] w fun e w' => e = .returned (.bool true) ∧ Below w.heap.size w w' := by
  obtain ⟨k8, j8, hm⟩ := md_any m
  obtain ⟨L, hL⟩ : ∃ L, ints .u8 72 F = L := ⟨_, rfl⟩
  have HL : Hid (ints .u8 72 F = L) := hL
  have HF : Hid (Byts 72 F) := hF
  have HM : Hid (Md m k8 j8) := hm
  have HI : Hid (I64 idx) := hidx
  have HS : Hid (IsMix KS12 w a2 len cap Z) := hz2
  have ll : L.length = 72 := by rw [← hL]; exact ints_len _ _ _
  have iL : (Try.prog.info? 40).map (·.size) = some L.length := by rw [ll]; exact infoR
  rw [hL]
  clear hL hF hm hidx hz2
  go_enter Try.func4, Try.ntmps4
  go_upto_region 1 with (fail)
  obtain ⟨A, hA⟩ : ∃ A, w.heap.size = A := ⟨_, rfl⟩
  obtain ⟨A1, hA1⟩ : ∃ A1, A + 1 = A1 := ⟨_, rfl⟩
  obtain ⟨V, hV⟩ : ∃ V, (w.alloc (.cells #[.int .i64 r, .int .i64 s, .int .i64 b, .int .i64 o, .int .i64 d] 23)).alloc (.cells L.toArray 40) = V := ⟨_, rfl⟩
  have HP : Hid (Pre w [(A1, L), (A, [.int .i64 r, .int .i64 s, .int .i64 b, .int .i64 o, .int .i64 d])] V) := by
    have h := ((Pre.start w).lay [.int .i64 r, .int .i64 s, .int .i64 b, .int .i64 o, .int .i64 d] 23).lay L 40
    simp only [World.size_alloc] at h
    rw [hV, hA, hA1] at h
    exact h
  rw [hV, hA, hA1]
  clear hV
  go_wp2_with fail
  refine (anchor12_any _).mono ?_
  rintro e W1 ⟨rfl, b1⟩
  replace HP : Hid (Pre w [(A1, L), (A, [.int .i64 r, .int .i64 s, .int .i64 b, .int .i64 o, .int .i64 d])] W1) := HP.out.next b1
  clear b1
  by_cases hlen : (len : Int) > 40
  · have HZ : Hid (Below w.heap.size w W1) := HP.out.n
    clear HP
    go_wp2
    go_ret
    exact ⟨rfl, by first | exact HZ.out | (rw [hA] at HZ; exact HZ.out)⟩
  have hlen2 : len ≤ 40 := by omega
  have hg : W1.rangeAt A 0 [.int .i64 r, .int .i64 s, .int .i64 b, .int .i64 o, .int .i64 d] := HP.out.c1.range
  go_wp2_with (first | refine wpList_load_mid rfl 23 _ rfl A 0 rfl [.int .i64 r, .int .i64 s, .int .i64 b, .int .i64 o, .int .i64 d] _ hg Try.underlying23 rfl infoGm ?_)
  by_cases hr : rt r s b o d = true
  case neg =>
    refine (dNew_geom r s b o d m (by simpa using hr) _).mono ?_
    rintro e W2 ⟨rfl, b2⟩
    have HZ : Hid (Below w.heap.size w W2) := (HP.out.next b2).n
    clear HP hg b2
    go_wp2
    go_ret
    exact ⟨rfl, by first | exact HZ.out | (rw [hA] at HZ; exact HZ.out)⟩
  by_cases hk : 0 < k8
  case neg =>
    have hk0 : Md m 0 0 := by rcases HM.out with ⟨_, h, _⟩ | ⟨_, h, _⟩ | ⟨h1, h2, _⟩; omega; omega; exact Md.none m h1 h2
    refine (dNew_mode r s b o d m hr hk0 _).mono ?_
    rintro e W2 ⟨rfl, b2⟩
    have HZ : Hid (Below w.heap.size w W2) := (HP.out.next b2).n
    clear HP hg b2
    go_wp2
    go_ret
    exact ⟨rfl, by first | exact HZ.out | (rw [hA] at HZ; exact HZ.out)⟩
  refine (lwNew HP.out hr HM.out hk).mono ?_
  rintro e W2 ⟨B, M, rfl, h2⟩
  obtain ⟨lo, hlo⟩ : ∃ lo, W1.heap.size = lo := ⟨_, rfl⟩
  rw [hlo] at h2
  have HQ : Hid (Lq w [(A1, L), (A, [.int .i64 r, .int .i64 s, .int .i64 b, .int .i64 o, .int .i64 d])] [] lo B M r s b o d m (0) (fun _ _ => 0) 0 (fun _ _ => 0) W2) := h2.quiet
  clear h2 HP hg
  have hx7 : W2.rangeAt A1 0 L := (HQ.out.ce (A1, L) (by simp)).range
  go_wp2_with (first | refine wpList_load_mid rfl 40 _ rfl A1 0 rfl L _ hx7 Try.underlying40 rfl iL ?_)
  have hrv : rawV F = .agg L.toArray := by unfold rawV; rw [HL.out]
  rw [← hrv]
  by_cases hx9 : hx r s b o d idx = true
  case neg =>
    refine (lqWrite_no HQ.out idx F (by simpa using hx9)).mono ?_
    rintro e W3 ⟨rfl, h3⟩
    have HZ : Hid (Below w.heap.size w W3) := h3.bel
    clear HQ hx7 h3
    rw [hrv]
    go_wp2
    go_ret
    exact ⟨rfl, by
      have h9 : Below w.heap.size w W3 := by first | exact HZ.out | (rw [hA]; exact HZ.out)
      first | exact h9.alloc h9.size _ | (rw [← hA]; exact h9.alloc h9.size _)⟩
  have HX9 : Hid (hx r s b o d idx = true) := hx9
  refine (lqWrite HQ.out idx F HF.out (by omega) hx9).mono ?_
  rintro e W3 ⟨rfl, h3⟩
  rw [hrv]
  replace HQ : Hid (Lq w [(A1, L), (A, [.int .i64 r, .int .i64 s, .int .i64 b, .int .i64 o, .int .i64 d])] [] lo B M r s b o d m (0 + 1) (gput (fun _ _ => 0) idx F) 0 (fun _ _ => 0) W3) := h3
  clear h3 hx7 hx9 hrv hr hk
  have hz := zeroR
  obtain ⟨T0, hT0⟩ : ∃ Z, (ints .u8 72 fun _ => 0) = Z := ⟨_, rfl⟩
  have lt0 : T0.length = 72 := by rw [← hT0]; exact ints_len _ _ _
  rw [hT0] at hz
  have I72 : Hid ((Try.prog.info? 40).map (·.size) = some 72) := infoR
  have hzo := zeroOp
  obtain ⟨O0, hO0⟩ : ∃ Z, (oc12 fun _ => 0) = Z := ⟨_, rfl⟩
  have lo0 : O0.length = 83 := by rw [← hO0]; exact oc12_len _
  rw [hO0] at hzo
  clear hT0 hO0
  go_upto_region 11 with (fail)
  obtain ⟨W4, hW4⟩ : ∃ W, W3.alloc (.cells #[.int .i64 idx, .bool false] 59) = W := ⟨_, rfl⟩
  replace HQ : Hid (Lq w [(A1, L), (A, [.int .i64 r, .int .i64 s, .int .i64 b, .int .i64 o, .int .i64 d])] [] lo B M r s b o d m (0 + 1) (gput (fun _ _ => 0) idx F) 0 (fun _ _ => 0) W4) := by rw [← hW4]; exact HQ.out.next ((Below.refl _ _).alloc (Nat.le_refl _) _)
  rw [hW4]
  clear hW4
  have hx7 : W4.rangeAt A1 0 L := (HQ.out.ce (A1, L) (by simp)).range
  obtain ⟨h9, ht⟩ := HQ.out.layA L T0 40 (by rw [ll, lt0])
  obtain ⟨K, hK⟩ : ∃ K, W4.heap.size = K := ⟨_, rfl⟩
  have HLK : Hid (lo ≤ K) := by rw [← hK]; exact HQ.out.lo_le
  rw [hK] at h9 ht
  have iX : (Try.prog.info? 40).map (·.size) = some L.toArray.size := by rw [List.size_toArray, ll]; exact I72.out
  have one1 : L.toArray.all (·.oneCell') = true := by rw [← HL.out]; exact ints_one .u8 72 _
  go_upto_region 12 with (first
    | refine wpList_load_mid rfl 40 _ rfl A1 0 rfl L _ hx7 Try.underlying40 rfl iL ?_
    | refine wpList_store_mid rfl 40 _ _ rfl K 0 L.toArray rfl rfl ht iX one1 ?_)
  obtain ⟨W5, hW5⟩ : ∃ W, (W4.alloc (.cells T0.toArray 40)).setCells K 0 L = W := ⟨_, rfl⟩
  have HK5 : Hid (∃ (G : Int → Nat → Int) (X : Nat → Int), G idx = X ∧ Byts 72 X ∧ Lq w [(A1, L), (A, [.int .i64 r, .int .i64 s, .int .i64 b, .int .i64 o, .int .i64 d])] [(K, ints .u8 72 X)] lo B M r s b o d m (0 + 1) G 0 (fun _ _ => 0) W5) := by
    refine ⟨gput (fun _ _ => 0) idx F, F, gput_same _ _ _, HF.out, ?_⟩
    rw [← hW5, HL.out]
    exact h9
  rw [hW5]
  clear hW5 h9 ht hK iX one1 hx7 HQ
  have HSL : Hid (0 < len → ∃ pb po, a2 = some ⟨pb, po, none⟩ ∧ ∀ W, Below w.heap.size w W → ∀ t, t < len → W.rangeAt pb (po + t * 83) (oc12 (Z t)) ∧ (∀ j, j < 11 → I64 (Z t j)) ∧ Byts 72 fun j => Z t (j + 11)) := mix_open HS.out
  clear HS HF
  go_wp2
  go_loopw [56] (fun i wr => ∃ t : Nat, t ≤ len ∧ i = .int .i64 (t : Int) ∧ Hid (∃ (G : Int → Nat → Int) (X : Nat → Int), G idx = X ∧ Byts 72 X ∧ Lq w [(A1, L), (A, [.int .i64 r, .int .i64 s, .int .i64 b, .int .i64 o, .int .i64 d])] [(K, ints .u8 72 X)] lo B M r s b o d m (t + 1) G 0 (fun _ _ => 0) wr)) (fun i _ => len - (intOf i).toNat)
  case atStart => exact ⟨0, by omega, rfl, HK5⟩
  case round =>
    clear HK5
    obtain ⟨t, ht, rfl, HR⟩ := hrel
    obtain ⟨G, X, hGX, hXB, hq⟩ := HR.out
    by_cases hlt : t < len
    · obtain ⟨pb, po, rfl, HO⟩ := HSL.out (by omega)
      obtain ⟨hop, hi11, hrb⟩ := HO wr (hq.bel) t hlt
      obtain ⟨O, hO⟩ : ∃ O, oc12 (Z t) = O := ⟨_, rfl⟩
      obtain ⟨R, hR⟩ : ∃ R, (fun j => Z t (j + 11)) = R := ⟨_, rfl⟩
      obtain ⟨LR, hLR⟩ : ∃ L, ints .u8 72 R = L := ⟨_, rfl⟩
      obtain ⟨z0, hz0⟩ : ∃ z, Z t 0 = z := ⟨_, rfl⟩
      obtain ⟨z1, hz1⟩ : ∃ z, Z t 1 = z := ⟨_, rfl⟩
      have HOF : Hid (O[0]? = some (.int .i64 z0) ∧ O[1]? = some (.int .i64 z1) ∧ (O.drop 11).take LR.length = LR ∧ O.length = 83 ∧ (∀ v ∈ O, v.oneCell' = true) ∧ I64 z1 ∧ Byts 72 R) := by
        rw [← hO, ← hLR, ← hR, ← hz0, ← hz1]
        refine ⟨rfl, rfl, ?_, oc12_len _, oc12_one _, hi11 1 (by omega), hrb⟩
        rw [ints_len]
        unfold oc12
        rw [List.drop_append_of_le_length (by rw [ints_len]; omega), List.drop_eq_nil_of_le (by rw [ints_len]; omega), List.nil_append, List.take_of_length_le (by rw [ints_len]; omega)]
      rw [hO] at hop
      have HRL : Hid (rawV R = .agg LR.toArray ∧ LR.length = 72 ∧ ints .u8 72 R = LR) := ⟨by rw [← hLR]; rfl, by rw [← hLR]; exact ints_len _ _ _, hLR⟩
      have iO : (Try.prog.info? 42).map (·.size) = some O.length := by rw [HOF.out.2.2.2.1]; exact infoOp
      have iOX : (Try.prog.info? 42).map (·.size) = some O.toArray.size := by rw [List.size_toArray, HOF.out.2.2.2.1]; exact infoOp
      have oneO : O.toArray.all (·.oneCell') = true := all_oneCell_toArray HOF.out.2.2.2.2.1
      have iLR : (Try.prog.info? 40).map (·.size) = some LR.length := by rw [HRL.out.2.1]; exact infoR
      have iLX : (Try.prog.info? 40).map (·.size) = some LR.toArray.size := by rw [List.size_toArray, HRL.out.2.1]; exact infoR
      have oneR : LR.toArray.all (·.oneCell') = true := by rw [← hLR]; exact ints_one .u8 72 _
      obtain ⟨h9, htO⟩ := hq.layA O O0 42 (by rw [HOF.out.2.2.2.1, lo0])
      obtain ⟨C, hC⟩ : ∃ C, wr.heap.size = C := ⟨_, rfl⟩
      rw [hC] at h9 htO
      have HC : Hid (C ≠ K) := by
        have := (hq.cl (K, ints .u8 72 X) (by simp)).lt
        simp only at this
        exact (by omega : C ≠ K)
      clear hO hR hLR hz0 hz1 hi11 hrb HO HR
      go_upto_region 15 with (first
        | refine wpList_load_mid rfl 42 _ rfl pb (po + t * 83) rfl O _ hop Try.underlying42 rfl iO ?_
        | refine wpList_store_mid rfl 42 _ _ rfl C 0 O.toArray rfl rfl htO iOX oneO ?_)
      obtain ⟨W6, hW6⟩ : ∃ W, (wr.alloc (.cells O0.toArray 42)).setCells C 0 O = W := ⟨_, rfl⟩
      have HQ : Hid (Lq w [(A1, L), (A, [.int .i64 r, .int .i64 s, .int .i64 b, .int .i64 o, .int .i64 d])] [(C, O), (K, ints .u8 72 X)] lo B M r s b o d m (t + 1) G 0 (fun _ _ => 0) W6) := by rw [← hW6]; exact h9
      have HG : Hid (G idx = X ∧ Byts 72 X) := ⟨hGX, hXB⟩
      rw [hW6]
      clear hW6 h9 htO hC hq hGX hXB hop
      have cO := HQ.out.cl (C, O) (by simp)
      have c0 : W6.cell? ⟨C, 0, none⟩ = some (.int .i64 z0) := cO.cell HOF.out.1
      have c1 : W6.cell? ⟨C, 1, none⟩ = some (.int .i64 z1) := cO.cell HOF.out.2.1
      have cR : W6.rangeAt C 11 LR := cO.rangeAt 11 LR HOF.out.2.2.1
      clear cO
      by_cases e2 : z0 = 2
      · subst e2
        go_wp2_with (first | refine wpList_load_mid rfl 40 _ rfl C 11 rfl LR _ cR Try.underlying40 rfl iLR ?_)
        rw [← HRL.out.1]
        by_cases hy : hx r s b o d z1 = true
        · refine (lqWrite HQ.out z1 R HOF.out.2.2.2.2.2.2 (by omega) hy).mono ?_
          rintro e W7 ⟨rfl, h7⟩
          rw [HRL.out.1]
          have HQ7 : Hid (Lq w [(A1, L), (A, [.int .i64 r, .int .i64 s, .int .i64 b, .int .i64 o, .int .i64 d])] [(C, O), (K, ints .u8 72 X)] lo B M r s b o d m (t + 1 + 1) (gput G z1 R) 0 (fun _ _ => 0) W7) := h7
          clear h7 c0 c1 cR hy HQ
          go_upto_region 17 with (fail)
          obtain ⟨W8, hW8⟩ : ∃ W, W7.alloc (.cells #[.int .i64 z1, .bool false] 59) = W := ⟨_, rfl⟩
          have HQ : Hid (Lq w [(A1, L), (A, [.int .i64 r, .int .i64 s, .int .i64 b, .int .i64 o, .int .i64 d])] [(C, O), (K, ints .u8 72 X)] lo B M r s b o d m (t + 1 + 1) (gput G z1 R) 0 (fun _ _ => 0) W8) := by rw [← hW8]; exact HQ7.out.next ((Below.refl _ _).alloc (Nat.le_refl _) _)
          rw [hW8]
          clear hW8 HQ7
          have cO := HQ.out.cl (C, O) (by simp)
          have c1 : W8.cell? ⟨C, 1, none⟩ = some (.int .i64 z1) := cO.cell HOF.out.2.1
          have cR : W8.rangeAt C 11 LR := cO.rangeAt 11 LR HOF.out.2.2.1
          clear cO
          by_cases ei : z1 = idx
          · subst ei
            obtain ⟨h9, ht9⟩ := HQ.out.drop.put1 (L := LR) HLK.out (by rw [HRL.out.2.1, ints_len])
            go_upto_region 21 with (first
              | refine wpList_load_mid rfl 40 _ rfl C 11 rfl LR _ cR Try.underlying40 rfl iLR ?_
              | refine wpList_store_mid rfl 40 _ _ rfl K 0 LR.toArray rfl rfl ht9 iLX oneR ?_)
            have HR2 : Hid (∃ (G : Int → Nat → Int) (X : Nat → Int), G z1 = X ∧ Byts 72 X ∧ Lq w [(A1, L), (A, [.int .i64 r, .int .i64 s, .int .i64 b, .int .i64 o, .int .i64 d])] [(K, ints .u8 72 X)] lo B M r s b o d m (t + 1 + 1) G 0 (fun _ _ => 0) (W8.setCells K 0 LR)) := by
              refine ⟨gput G z1 R, R, gput_same _ _ _, HOF.out.2.2.2.2.2.2, ?_⟩
              rw [HRL.out.2.2]
              exact h9
            clear h9 ht9 HQ cR c1
            go_wp2
            go_roundw
            case rel => exact ⟨t + 1, by omega, by go_num, HR2⟩
            case measure => simp [intOf]; omega
          · have HR2 : Hid (∃ (G : Int → Nat → Int) (X : Nat → Int), G idx = X ∧ Byts 72 X ∧ Lq w [(A1, L), (A, [.int .i64 r, .int .i64 s, .int .i64 b, .int .i64 o, .int .i64 d])] [(K, ints .u8 72 X)] lo B M r s b o d m (t + 1 + 1) G 0 (fun _ _ => 0) W8) :=
              ⟨_, X, (gput_other G z1 idx R (fun e => ei e.symm)).trans HG.out.1, HG.out.2, HQ.out.drop⟩
            clear HQ cR
            go_wp2
            go_roundw
            case rel => exact ⟨t + 1, by omega, by go_num, HR2⟩
            case measure => simp [intOf]; omega
        · refine (lqWrite_no HQ.out z1 R (by simpa using hy)).mono ?_
          rintro e W7 ⟨rfl, h7⟩
          rw [HRL.out.1]
          have HQ7 : Hid (Lq w [(A1, L), (A, [.int .i64 r, .int .i64 s, .int .i64 b, .int .i64 o, .int .i64 d])] [(C, O), (K, ints .u8 72 X)] lo B M r s b o d m (t + 1) G 0 (fun _ _ => 0) W7) := h7
          clear h7 c0 c1 cR hy HQ
          go_upto_region 17 with (fail)
          obtain ⟨W8, hW8⟩ : ∃ W, W7.alloc (.cells #[.int .i64 0, .bool false] 59) = W := ⟨_, rfl⟩
          have HR2 : Hid (∃ (G : Int → Nat → Int) (X : Nat → Int), G idx = X ∧ Byts 72 X ∧ Lq w [(A1, L), (A, [.int .i64 r, .int .i64 s, .int .i64 b, .int .i64 o, .int .i64 d])] [(K, ints .u8 72 X)] lo B M r s b o d m (t + 1 + 1) G 0 (fun _ _ => 0) W8) := by
            refine ⟨G, X, HG.out.1, HG.out.2, ?_⟩
            rw [← hW8]
            exact ((HQ7.out.next ((Below.refl _ _).alloc (Nat.le_refl _) _)).drop).mono (by omega)
          rw [hW8]
          clear hW8 HQ7
          go_wp2
          go_roundw
          case rel => exact ⟨t + 1, by omega, by go_num, HR2⟩
          case measure => simp [intOf]; omega
      · by_cases e3 : z0 = 3
        · subst e3
          go_wp2_with fail
          by_cases hy : hx r s b o d z1 = true
          · refine (lqRead HQ.out HM.out z1 hy).mono ?_
            rintro e W7 ⟨rfl, h7⟩
            have HR2 : Hid (∃ (G : Int → Nat → Int) (X : Nat → Int), G idx = X ∧ Byts 72 X ∧ Lq w [(A1, L), (A, [.int .i64 r, .int .i64 s, .int .i64 b, .int .i64 o, .int .i64 d])] [(K, ints .u8 72 X)] lo B M r s b o d m (t + 1 + 1) G 0 (fun _ _ => 0) W7) := ⟨G, X, HG.out.1, HG.out.2, (h7.drop).mono (by omega)⟩
            clear h7 c0 c1 cR hy HQ
            go_wp2
            go_roundw
            case rel => exact ⟨t + 1, by omega, by go_num, HR2⟩
            case measure => simp [intOf]; omega
          · refine (lqRead_no HQ.out z1 (by simpa using hy)).mono ?_
            rintro e W7 ⟨rfl, h7⟩
            have HR2 : Hid (∃ (G : Int → Nat → Int) (X : Nat → Int), G idx = X ∧ Byts 72 X ∧ Lq w [(A1, L), (A, [.int .i64 r, .int .i64 s, .int .i64 b, .int .i64 o, .int .i64 d])] [(K, ints .u8 72 X)] lo B M r s b o d m (t + 1 + 1) G 0 (fun _ _ => 0) W7) := ⟨G, X, HG.out.1, HG.out.2, (h7.drop).mono (by omega)⟩
            clear h7 c0 c1 cR hy HQ
            go_wp2
            go_roundw
            case rel => exact ⟨t + 1, by omega, by go_num, HR2⟩
            case measure => simp [intOf]; omega
        · have HR2 : Hid (∃ (G : Int → Nat → Int) (X : Nat → Int), G idx = X ∧ Byts 72 X ∧ Lq w [(A1, L), (A, [.int .i64 r, .int .i64 s, .int .i64 b, .int .i64 o, .int .i64 d])] [(K, ints .u8 72 X)] lo B M r s b o d m (t + 1 + 1) G 0 (fun _ _ => 0) W6) := ⟨G, X, HG.out.1, HG.out.2, (HQ.out.drop).mono (by omega)⟩
          clear c1 cR HQ
          go_wp2
          go_roundw
          case rel => exact ⟨t + 1, by omega, by go_num, HR2⟩
          case measure => simp [intOf]; omega
    · obtain rfl : t = len := by omega
      clear HSL HR
      have HQ : Hid (Lq w [(A1, L), (A, [.int .i64 r, .int .i64 s, .int .i64 b, .int .i64 o, .int .i64 d])] [(K, ints .u8 72 X)] lo B M r s b o d m (t + 1) G 0 (fun _ _ => 0) wr) := hq
      have HG : Hid (G idx = X ∧ Byts 72 X) := ⟨hGX, hXB⟩
      obtain ⟨LX, hLX⟩ : ∃ L, ints .u8 72 X = L := ⟨_, rfl⟩
      have lx : LX.length = 72 := by rw [← hLX]; exact ints_len _ _ _
      have HRX : Hid (rawV X = .agg LX.toArray) := by rw [← hLX]; rfl
      have heq : ∀ w, (binOp .eql 40 (.agg LX.toArray) (.agg LX.toArray)).run Try.prog w = .ok (.bool true) w := fun w => by rw [← hLX]; exact eqlR X X HG.out.2 HG.out.2 true (by simp) w
      have hew : ∀ w, (binOp .eql 59 (.agg #[.int .i64 idx, .bool false]) (.agg #[.int .i64 idx, .bool false])).run Try.prog w = .ok (.bool true) w := fun w => by rw [eqW_eql]; simp
      have iLX2 : (Try.prog.info? 40).map (·.size) = some LX.toArray.size := by rw [List.size_toArray, lx]; exact infoR
      have iLX3 : (Try.prog.info? 40).map (·.size) = some LX.length := by rw [lx]; exact infoR
      have oneX : LX.toArray.all (·.oneCell') = true := by rw [← hLX]; exact ints_one .u8 72 _
      rw [hLX] at HQ
      clear hq hGX hXB hLX
      go_wp2_with fail
      refine (lqRead HQ.out HM.out idx HX9.out).mono ?_
      rintro e W6 ⟨rfl, h6⟩
      rw [show ovF k8 (fun _ _ => 0) (idx / 1048576) (idx / 65536 % 16) (idx / 64 % 1024) (idx % 64) (G idx) 0 = G idx from rfl, HG.out.1, HRX.out]
      obtain ⟨h7, ht, ht2⟩ := h6.layRW LX T0 40 59 idx false (by rw [lx, lt0])
      have on : (#[.int .i64 idx, .bool false] : Array Value).all (·.oneCell') = true := one_we _ _
      obtain ⟨R, hR⟩ : ∃ R, W6.heap.size = R := ⟨_, rfl⟩
      rw [hR] at ht ht2 h7
      have HL7 : Hid (Lq w [(A1, L), (A, [.int .i64 r, .int .i64 s, .int .i64 b, .int .i64 o, .int .i64 d])] [(R + 1, [.int .i64 idx, .bool false]), (R, LX), (K, LX)] lo B M r s b o d m (t + 1) G 0 (fun _ _ => 0) ((((W6.alloc (.cells T0.toArray 40)).alloc (.cells #[.int .i64 0, .bool false] 59)).setCells R 0 LX).setCells (R + 1) 0 [.int .i64 idx, .bool false])) := h7
      clear h6 h7 HQ
      go_upto_region 23 with (first
        | refine wpList_store_mid rfl 40 _ _ rfl R 0 LX.toArray rfl rfl ht iLX2 oneX ?_
        | refine wpList_store_mid rfl 59 _ _ rfl (R + 1) 0 #[.int .i64 idx, .bool false] rfl rfl ht2 infoWe on ?_)
      obtain ⟨W9, hW9⟩ : ∃ W, ((((W6.alloc (.cells T0.toArray 40)).alloc (.cells #[.int .i64 0, .bool false] 59)).setCells R 0 LX).setCells (R + 1) 0 [.int .i64 idx, .bool false]) = W := ⟨_, rfl⟩
      replace HL7 : Hid (Lq w [(A1, L), (A, [.int .i64 r, .int .i64 s, .int .i64 b, .int .i64 o, .int .i64 d])] [(R + 1, [.int .i64 idx, .bool false]), (R, LX), (K, LX)] lo B M r s b o d m (t + 1) G 0 (fun _ _ => 0) W9) := by rw [← hW9]; exact HL7.out
      rw [hW9]
      clear hW9 ht ht2 hR
      have q1 : W9.rangeAt R 0 LX := (HL7.out.cl (R, LX) (by simp)).range
      have q2 : W9.rangeAt K 0 LX := (HL7.out.cl (K, LX) (by simp)).range
      have q3 : W9.rangeAt (R + 1) 0 [.int .i64 idx, .bool false] := (HL7.out.cl (R + 1, [.int .i64 idx, .bool false]) (by simp)).range
      have HZ : Hid (Below w.heap.size w W9) := HL7.out.bel
      clear HL7
      go_wp2_with (first
        | refine wpList_load_g (by rfl) 40 _ rfl R 0 rfl LX _ q1 Try.underlying40 rfl iLX3 ?_
        | refine wpList_load_g (by rfl) 40 _ rfl K 0 rfl LX _ q2 Try.underlying40 rfl iLX3 ?_
        | refine wpList_load_g (by rfl) 59 _ rfl (R + 1) 0 rfl [.int .i64 idx, .bool false] _ q3 Try.underlying59 rfl infoWe ?_
        | refine wpList_known_g (by rfl) (.bool true) (exec_eqlA 40 _ _ _ rfl LX.toArray LX.toArray _ rfl rfl gdR12 heq _) ?_
        | refine wpList_known_g (by rfl) (.bool true) (exec_eqlA 59 _ _ _ rfl _ _ _ rfl rfl gdW12 hew _) ?_)
      go_ret
      exact ⟨rfl, by first | exact HZ.out | (rw [hA] at HZ; exact HZ.out)⟩
theorem dramKeeps_walk (a0 : Nat → Int) (a1 : Int) (a2 : Option Addr) (len2 cap2 : Nat) (Z2 : Nat → Nat → Int) (a3 : Int) (a4 : Nat → Int) (_w0 : ∀ i, i < 5 → (Lit.int .i64 (a0 i)).wf = true) (_w1 : (Lit.int .i64 a1).wf = true) (w3 : (Lit.int .i64 a3).wf = true) (w4 : ∀ i, i < 72 → (Lit.int .u8 (a4 i)).wf = true) (w : World) (w2 : IsMix (List.replicate 11 IntKind.i64 ++ List.replicate 72 IntKind.u8) w a2 len2 cap2 Z2) :
    Calls Try.prog 4 #[.agg (ints .i64 5 a0).toArray, .int .i64 a1, .slice a2 len2 cap2, .int .i64 a3, .agg (ints .u8 72 a4).toArray] w fun e w' => e = .returned (.bool true) ∧ Below w.heap.size w w' :=
  dramKeeps_core (a0 0) (a0 1) (a0 2) (a0 3) (a0 4) a1 a2 len2 cap2 Z2 a3 (by have := bounds_i64 w3; exact ⟨this.1, by omega⟩) a4 (fun i hi => by have := bounds_u8 (w4 i hi); omega) w w2
end Go.Proofs.Ytcpjmfemgdgplaa
