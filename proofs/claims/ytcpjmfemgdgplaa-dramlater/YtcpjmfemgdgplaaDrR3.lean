/-
  The document's cells: what is stored at an index.
-/
import Derived.Test.YtcpjmfemgdgplaaDrR1
namespace Go.Proofs.Ytcpjmfemgdgplaa
open Go.RowKit Go.Shelf
attribute [local go_sem] Oper.semAt_some

theorem exec_build12 {P : Program} {op : Oper} {a : Act} (ty : TypeId) (ho : op.op = .build ty #[]) (v : Value) (h : ∀ w, (Instr.build ty #[]).run P w = .ok v w) (w : World) : (execOp a.eval op).run P w = .ok (.value v) w := by
  simp [execOp, ho, h]
/-- an entry: an index, 72 bytes -/
abbrev En := Int × (Nat → Int)
def ecell (e : En) : List Value := .int .i64 e.1 :: ints .u8 72 e.2
def ecells (E : List En) : List Value := E.flatMap ecell
theorem ecell_len (e : En) : (ecell e).length = 73 := by simp [ecell, ints_len]
theorem ecells_len (E : List En) : (ecells E).length = E.length * 73 := by
  induction E with
  | nil => rfl
  | cons e E ih =>
    have : ecells (e :: E) = ecell e ++ ecells E := rfl
    rw [this, List.length_append, ecell_len, ih, List.length_cons]
    omega
theorem ecells_snoc (E : List En) (e : En) : ecells E ++ ecell e = ecells (E ++ [e]) := by simp [ecells]
theorem ecells_at (E : List En) (i : Nat) (e : En) (h : E[i]? = some e) (j : Nat) (hj : j < 73) : (ecells E)[i * 73 + j]? = (ecell e)[j]? := by
  induction E generalizing i with
  | nil => simp at h
  | cons x E ih =>
    have hx : ecells (x :: E) = ecell x ++ ecells E := rfl
    rw [hx]
    cases i with
    | zero =>
      simp at h
      subst h
      rw [List.getElem?_append_left (by rw [ecell_len]; omega)]
      simp
    | succ i =>
      rw [List.getElem?_append_right (by rw [ecell_len]; omega), ecell_len, show (i + 1) * 73 + j - 73 = i * 73 + j by omega]
      exact ih i (by simpa using h)
theorem ecell_one (e : En) : ∀ u ∈ ecell e, u.oneCell' = true := by
  intro u hu
  rcases List.mem_cons.1 hu with rfl | h
  · rfl
  · exact ints_one' .u8 72 e.2 u h
theorem ecells_one (E : List En) : ∀ u ∈ ecells E, u.oneCell' = true := by
  intro u hu
  obtain ⟨e, _, h⟩ := List.mem_flatMap.1 hu
  exact ecell_one e u h
/-- what is stored at an index -/
def gE : List En → Int → Nat → Int
  | [], _ => fun _ => 0
  | e :: E, i => if e.1 = i then e.2 else gE E i
theorem gE_hit (E : List En) (t : Nat) (e : En) (h : E[t]? = some e) (i : Int) (hi : e.1 = i) : gE (E.drop t) i = e.2 := by
  have hl : t < E.length := (List.getElem?_eq_some_iff.1 h).1
  rw [List.drop_eq_getElem_cons hl]
  have he : E[t] = e := (List.getElem?_eq_some_iff.1 h).2
  rw [he]
  simp [gE, hi]
theorem gE_miss (E : List En) (t : Nat) (e : En) (h : E[t]? = some e) (i : Int) (hi : e.1 ≠ i) : gE (E.drop t) i = gE (E.drop (t + 1)) i := by
  have hl : t < E.length := (List.getElem?_eq_some_iff.1 h).1
  rw [List.drop_eq_getElem_cons hl]
  have he : E[t] = e := (List.getElem?_eq_some_iff.1 h).2
  rw [he]
  simp [gE, hi]
/-- the entries unlike an index -/
def fE (E : List En) (i : Int) : List En := E.filter fun e => decide (e.1 ≠ i)
/-- an index has some bytes -/
def pE (E : List En) (i : Int) (F : Nat → Int) : List En := (i, F) :: fE E i
theorem gE_fE (E : List En) (i j : Int) (h : i ≠ j) : gE (fE E i) j = gE E j := by
  induction E with
  | nil => rfl
  | cons e E ih =>
    unfold fE at ih ⊢
    by_cases he : e.1 = i
    · rw [List.filter_cons_of_neg (by simp [he]), ih]
      simp [gE, show e.1 ≠ j by rw [he]; exact h]
    · rw [List.filter_cons_of_pos (by simp [he])]
      simp only [gE, ih]
theorem gE_pE (E : List En) (i j : Int) (F : Nat → Int) : gE (pE E i F) j = if i = j then F else gE E j := by
  unfold pE
  simp only [gE]
  split
  · rfl
  · rename_i h
    exact gE_fE E i j h
theorem gE_byt (E : List En) (h : ∀ e ∈ E, Byts 72 e.2) (i : Int) : Byts 72 (gE E i) := by
  induction E with
  | nil => exact fun j hj => ⟨by simp [gE], by simp [gE]⟩
  | cons e E ih =>
    simp only [gE]
    split
    · exact h e (by simp)
    · exact ih fun x hx => h x (by simp [hx])
/-- entries in a slice -/
structure Er (W : World) (a : Option Addr) (len cap : Nat) (E : List En) : Prop where
  ln : len = E.length
  le : len ≤ cap
  cm : cap ≤ maxLen
  at_ : 0 < len → ∃ b o, a = some ⟨b, o, none⟩ ∧ b < W.heap.size ∧ W.rangeAt b o (ecells E)
  wf : ∀ e ∈ E, I64 e.1 ∧ Byts 72 e.2
  nil : a = none → len = 0 ∧ cap = 0
theorem Er.below {w W : World} {a : Option Addr} {len cap : Nat} {E : List En} (h : Er w a len cap E) (k : Below w.heap.size w W) : Er W a len cap E :=
  ⟨h.ln, h.le, h.cm, fun h0 => by
    obtain ⟨b, o, h1, h2, h3⟩ := h.at_ h0
    exact ⟨b, o, h1, Nat.lt_of_lt_of_le h2 k.size, fun j v hv => (k.cell (p := ⟨b, o + j, none⟩) h2).trans (h3 j v hv)⟩, h.wf, h.nil⟩
theorem er_none (w : World) : Er w none 0 0 [] := ⟨rfl, Nat.le_refl _, Nat.zero_le _, fun h => absurd h (by omega), fun e h => by simp at h, fun _ => ⟨rfl, rfl⟩⟩
theorem er_part {w : World} {b o : Nat} {E : List En} (h : w.rangeAt b o (ecells E)) (t : Nat) (e : En) (he : E[t]? = some e) : w.cell? ⟨b, o + t * 73, none⟩ = some (.int .i64 e.1) ∧ w.rangeAt b (o + t * 73 + 1) (ints .u8 72 e.2) ∧ w.rangeAt b (o + t * 73) (ecell e) := by
  have hp : ∀ j v, (ecell e)[j]? = some v → w.cell? ⟨b, o + t * 73 + j, none⟩ = some v := fun j v hv => by
    have hj : j < 73 := by
      have := (List.getElem?_eq_some_iff.1 hv).1
      rwa [ecell_len] at this
    have := h (t * 73 + j) v (by rw [ecells_at E t e he j hj]; exact hv)
    rwa [← Nat.add_assoc] at this
  refine ⟨hp 0 _ rfl, fun j v hv => ?_, hp⟩
  have := hp (j + 1) v (by simpa [ecell] using hv)
  rwa [show o + t * 73 + (j + 1) = o + t * 73 + 1 + j by omega] at this
/-- at work in Get -/
structure Gt12 (B C : Nat) (r s b o d m : Int) (va vb vc : Value) (w W : World) : Prop where
  c : Cb W B (dl r s b o d m va vb vc)
  e : Bk .u8 W C 72 (fun _ => 0)
  n : Below B w W
theorem Gt12.next {B C : Nat} {r s b o d m : Int} {va vb vc : Value} {w W W' : World} (h : Gt12 B C r s b o d m va vb vc w W) (k : Below W.heap.size W W') : Gt12 B C r s b o d m va vb vc w W' := ⟨h.c.next k, h.e.next k, h.n.trans (k.mono (Nat.le_of_lt h.c.lt))⟩
set_option maxRecDepth 100000 in
set_option maxHeartbeats 4000000 in
theorem get12_any (r s b o d m : Int) (a : Option Addr) (len cap : Nat) (vb vc : Value) (E : List En) (idx : Int) (w : World) (hs : Er w a len cap E) :
    Calls Try.prog 45 #[.agg #[.int .i64 r, .int .i64 s, .int .i64 b, .int .i64 o, .int .i64 d, .int .i64 m, .slice a len cap, vb, vc], .int .i64 idx] w fun e w' => e = .returned (.agg (ints .u8 72 (gE E idx)).toArray) ∧ Below w.heap.size w w' := by
  have hlm : len ≤ maxLen := Nat.le_trans hs.le hs.cm
  unfold maxLen at hlm
  obtain ⟨va, hva⟩ : ∃ va, Value.slice a len cap = va := ⟨_, rfl⟩
  have hn := hs.ln
  have HR : Hid (0 < len → ∃ b o, a = some ⟨b, o, none⟩ ∧ ∀ W, Below w.heap.size w W → W.rangeAt b o (ecells E)) := fun h0 => by
    obtain ⟨b, o, h1, h2, h3⟩ := hs.at_ h0
    exact ⟨b, o, h1, fun W hW j v hv => (hW.cell (p := ⟨b, o + j, none⟩) h2).trans (h3 j v hv)⟩
  clear hs
  have hz := zeroA9
  obtain ⟨T, hT⟩ : ∃ Z, (ints .u8 72 fun _ => 0).toArray = Z := ⟨_, rfl⟩
  rw [hT] at hz
  rw [hva]
  go_enter Try.func45, Try.ntmps45
  go_upto_region 1 with (fail)
  obtain ⟨B, hB⟩ : ∃ B, w.heap.size = B := ⟨_, rfl⟩
  obtain ⟨C, hC⟩ : ∃ C, B + 1 = C := ⟨_, rfl⟩
  obtain ⟨V, hV⟩ : ∃ V, (w.alloc (.cells #[.int .i64 r, .int .i64 s, .int .i64 b, .int .i64 o, .int .i64 d, .int .i64 m, va, vb, vc] 34)).alloc (.cells T 39) = V := ⟨_, rfl⟩
  have HS : Hid (Gt12 B C r s b o d m va vb vc w V) := by
    have a2 := Bk.new .u8 (w.alloc (.cells #[.int .i64 r, .int .i64 s, .int .i64 b, .int .i64 o, .int .i64 d, .int .i64 m, va, vb, vc] 34)) 72 (fun _ => 0) 39
    rw [hT] at a2
    simp only [World.size_alloc] at a2
    rw [← hV, ← hC, ← hB]
    exact ⟨(Cb.new w (dl r s b o d m va vb vc) _).alloc _, a2, ((Below.refl _ w).alloc (Nat.le_refl _) _).alloc (by simp) _⟩
  rw [hB] at HR
  have oC : B < C := by omega
  rw [hV, hB, hC]
  clear hV hC hT hz
  go_wp2
  go_loopw [5] (fun i wr => ∃ t : Nat, t ≤ len ∧ i = .int .i64 (t : Int) ∧ Hid (gE E idx = gE (E.drop t) idx) ∧ Hid (Gt12 B C r s b o d m va vb vc w wr)) (fun i _ => len - (intOf i).toNat)
  case atStart => exact ⟨0, by omega, rfl, rfl, HS⟩
  case round =>
    clear HS
    obtain ⟨t, ht, rfl, HG, HS⟩ := hrel
    have hc := HS.out.c.cell (i := 6) (v := va) rfl
    rw [← hva] at hc
    by_cases hlt : t < len
    · obtain ⟨pb, po, rfl, HQ⟩ := HR.out (by omega)
      obtain ⟨⟨x, F⟩, he⟩ : ∃ e, E[t]? = some e := ⟨E[t]'(by omega), List.getElem?_eq_getElem (by omega)⟩
      obtain ⟨hx, hF, _⟩ := er_part (HQ wr HS.out.n) t (x, F) he
      simp only at hx hF
      clear HQ
      by_cases hi : x = idx
      · have HE : Hid (gE E idx = F) := HG.out.trans (gE_hit E t _ he idx hi)
        obtain ⟨L, hL⟩ : ∃ L, ints .u8 72 F = L := ⟨_, rfl⟩
        have i0 : (Try.prog.info? 39).map (·.size) = some L.length := by rw [← hL, ints_len]; exact infoA9
        have j9 : (Try.prog.info? 39).map (·.size) = some L.toArray.size := by simpa using i0
        have one1 : L.toArray.all (·.oneCell') = true := by rw [← hL]; exact ints_one .u8 72 F
        have ht2 := Bk.there HS.out.e .u8 F
        have HLL : Hid (ints .u8 72 F = L) := hL
        rw [hL] at hF ht2
        clear hL HG he HR
        go_wp2_with (first
          | refine wpList_load_mid rfl 39 _ rfl pb (po + t * 73 + 1) rfl L _ hF Try.underlying39 rfl i0 ?_
          | refine wpList_store_mid rfl 39 _ _ rfl C 0 L.toArray rfl rfl ht2 j9 one1 ?_)
        have hs2 : (World.setCells wr C 0 L).rangeAt C 0 L := World.rangeAt_setCells_same wr _ 0 L (by simpa using ht2)
        have hld := run_loadVar_mid (P := Try.prog) (World.setCells wr C 0 L) C 0 39 L _ hs2 Try.underlying39 rfl i0
        refine bodyPost_ret (v := .agg L.toArray) ?_ rfl ⟨by rw [HE.out, HLL.out], by first | exact belows_put (by omega) _ 0 HS.out.n | (rw [hB]; exact belows_put (by omega) _ 0 HS.out.n)⟩
        simp [results, Try.f45, Act.put, asAddr, hld]
      · have HE : Hid (gE E idx = gE (E.drop (t + 1)) idx) := HG.out.trans (gE_miss E t _ he idx hi)
        clear hF he HG HR
        go_wp2
        go_roundw
        case rel => exact ⟨t + 1, by omega, by go_num, HE, HS⟩
        case measure => simp [intOf]; omega
    · obtain rfl : t = len := by omega
      have HE : Hid (gE E idx = fun _ => 0) := HG.out.trans (by rw [List.drop_of_length_le (by omega)]; rfl)
      clear HG HR
      obtain ⟨L, hL⟩ : ∃ L, ints .u8 72 (fun _ => 0) = L := ⟨_, rfl⟩
      have i0 : (Try.prog.info? 39).map (·.size) = some L.length := by rw [← hL, ints_len]; exact infoA9
      have j9 : (Try.prog.info? 39).map (·.size) = some L.toArray.size := by simpa using i0
      have one1 : L.toArray.all (·.oneCell') = true := by rw [← hL]; exact ints_one .u8 72 _
      have ht2 := Bk.there HS.out.e .u8 (fun _ => 0)
      have hb0 : ∀ w, (Instr.build 39 #[]).run Try.prog w = .ok (.agg L.toArray) w := fun w => by rw [← hL]; exact run_build w _ _ _ (by kernel_rfl)
      have HLL : Hid (ints .u8 72 (fun _ => 0) = L) := hL
      rw [hL] at ht2
      clear hL
      go_wp2_with (first
        | refine wpList_known rfl _ (exec_build12 39 rfl _ hb0 _) ?_
        | refine wpList_store_mid rfl 39 _ _ rfl C 0 L.toArray rfl rfl ht2 j9 one1 ?_)
      have hs2 : (World.setCells wr C 0 L).rangeAt C 0 L := World.rangeAt_setCells_same wr _ 0 L (by simpa using ht2)
      have hld := run_loadVar_mid (P := Try.prog) (World.setCells wr C 0 L) C 0 39 L _ hs2 Try.underlying39 rfl i0
      refine bodyPost_ret (v := .agg L.toArray) ?_ rfl ⟨by rw [HE.out, HLL.out], by first | exact belows_put (by omega) _ 0 HS.out.n | (rw [hB]; exact belows_put (by omega) _ 0 HS.out.n)⟩
      simp [results, Try.f45, Act.put, asAddr, hld]
end Go.Proofs.Ytcpjmfemgdgplaa
