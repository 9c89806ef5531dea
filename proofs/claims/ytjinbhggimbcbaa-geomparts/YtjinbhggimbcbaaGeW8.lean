/-
  The iterators of package geom: all indices; the iterator ranges over another one, rank by rank.
-/
import Derived.Test.YtjinbhggimbcbaaGeW7
namespace Go.Proofs.Ytjinbhggimbcbaa
open Go.RowKit
open Ge (pw rt hd ix)
attribute [local go_sem] Oper.semAt_some

theorem keep_stay7 {M : World → Nat → Prop} {C : Nat} {X Y Z : World} (hm : Ok M Y) (h : KeepD M X Y) (k : Stay C Y Z) (hC : X.heap.size ≤ C) : KeepD M X Z :=
  ⟨Nat.le_trans h.1 k.size, fun b hb hn => ⟨(k.low b (by omega)).trans (h.2 b hb hn).1, hm.not k (h.2 b hb hn).2⟩⟩
/-- the marks of the ranges that are over -/
def marks7 (ds : List Nat) : List Deferred := ds.map fun D => { target := .collected D, args := #[] }
/-- between two ranks -/
structure AlS (J : Nat → World → Prop) (M : World → Nat → Prop) (W0 : World) (l yb m per : Nat) (i : Nat) (ds : List Nat) (W : World) : Prop where
  le : i ≤ m
  j : J (i * per) W
  keep : KeepD M W0 W
  box : Box W yb (.func (.yield l) #[] #[])
  nb : ¬ M W yb
  nd : ds.Nodup
  ds : ∀ D ∈ ds, W0.heap.size ≤ D ∧ W.heap[D]? = some (.deferred (some [])) ∧ ¬ M W D
/-- between two places of one rank -/
structure AlI (J : Nat → World → Prop) (M : World → Nat → Prop) (W0 : World) (l yb per i : Nat) (ds : List Nat) (q : Nat) (W : World) : Prop where
  j : J (i * per + q) W
  keep : KeepD M W0 W
  box : Box W yb (.func (.yield l) #[] #[])
  nb : ¬ M W yb
  ds : ∀ D ∈ ds, W0.heap.size ≤ D ∧ W.heap[D]? = some (.deferred (some [])) ∧ ¬ M W D
structure AlX (Jx : Nat → World → Prop) (W0 : World) (per i : Nat) (ds : List Nat) (c : Code) (q : Nat) (W : World) : Prop where
  c : c = .ret
  j : Jx (i * per + q) W
  ds : ∀ D ∈ ds, W0.heap.size ≤ D ∧ W.heap[D]? = some (.deferred (some []))

/-- the x-th index of all -/
def aix (no nc per x : Nat) : Nat := rix no nc (x / per) (x % per)
theorem aix_at (no nc per i q : Nat) (hq : q < per) : aix no nc per (i * per + q) = rix no nc i q := by
  unfold aix
  rw [Nat.add_comm, Nat.add_mul_div_right _ _ (by omega), Nat.div_eq_of_lt hq, Nat.zero_add, Nat.add_mul_mod_self_right, Nat.mod_eq_of_lt hq]
theorem in_all {i m q per : Nat} (hi : i < m) (hq : q < per) : i * per + q < m * per := by
  have := Nat.mul_le_mul_right per (show i + 1 ≤ m by omega)
  rw [Nat.succ_mul] at this
  omega

set_option maxRecDepth 100000 in
set_option maxHeartbeats 4000000 in
theorem all1_seq (gb : Nat) (r s b o c : Int) (hr : rt r s b o c = true) (w : World) (hG : Gm w gb r s b o c) :
    SeqD Try.prog 36 #[.pointer (some ⟨gb, 0, none⟩)] (fun x => #[.int .i64 (aix o.toNat c.toNat (b.toNat * o.toNat * c.toNat) x : Int)]) ((r + s).toNat * (b.toNat * o.toNat * c.toNat)) (fun y => y = gb) w := by
  intro l M J Jx W hMi hW hM hJ hJx hY h0
  have HMi : Hid ((∀ x W, J x W → Ok M W) ∧ ∀ x W, Jx x W → Ok M W) := hMi
  have HMw : Hid (Ok M W) := hMi.1 _ _ h0
  clear hMi
  have ha := Ge.rt_all hr
  obtain ⟨m, hm⟩ := Int.eq_ofNat_of_zero_le (show 0 ≤ r + s by omega)
  have hm8 : m ≤ 8 := by omega
  rw [show (r + s).toNat = m from by omega] at hY ⊢
  obtain ⟨per, Hper⟩ : ∃ per, Hid (b.toNat * o.toNat * c.toNat = per) := ⟨_, rfl⟩
  rw [Hper.out] at hY ⊢
  have HRk : Hid (∀ (i : Nat), i < m → ∀ w : World, Calls Try.prog 18 #[.agg #[.int .i64 r, .int .i64 s, .int .i64 b, .int .i64 o, .int .i64 c], .int .i64 (i : Int)] w fun e w' => ∃ v, e = .returned v ∧ Below w.heap.size w w' ∧ Tells w.heap.size v w' (fun x => #[.int .i64 (rix o.toNat c.toNat i x : Int)]) per) := fun i hi w => by
    have := rank_any r s b o c i w
    rw [if_pos (by unfold hd; rw [hr, decide_eq_true (show 0 ≤ (i : Int) ∧ (i : Int) < r + s by omega), decide_eq_true (show (0 : Int) ≤ 0 ∧ 0 < b by omega), decide_eq_true (show (0 : Int) ≤ 0 ∧ 0 < o by omega), decide_eq_true (show (0 : Int) ≤ 0 ∧ 0 < c by omega)]; rfl), Hper.out] at this
    exact this
  have HA : Hid (∀ w : World, Calls Try.prog 28 #[.agg #[.int .i64 r, .int .i64 s, .int .i64 b, .int .i64 o, .int .i64 c]] w fun e w' => e = .returned (.int .i64 (m : Int)) ∧ Below w.heap.size w w') := fun w => by
    have := allRanks_any r s b o c (by omega) (by omega) w
    rw [hm] at this
    exact this
  clear ha hr
  have hGW : Gm W gb r s b o c := Bk.below hG hW hG.lt
  have hgW := hGW.lt
  have HG : Hid (Gm W gb r s b o c) := hGW
  have hMg : Hid (¬ M W gb) := hM gb rfl
  have HJ : Hid (Abide W.heap.size J) := hJ
  have HJx : Hid (Abide W.heap.size Jx) := hJx
  have HY : Hid (∀ (x : Nat) (W1 : World), x < m * per → J x W1 → YieldAt Fence.wide 8 Try.prog l #[.int .i64 (aix o.toNat c.toNat per x : Int)] W1 fun e W' => (e = .returned (.bool true) ∧ J (x + 1) W' ∧ KeepD M W1 W') ∨ (e = .returned (.bool false) ∧ Jx x W' ∧ KeepD M W1 W')) := hY
  have hEnd : Hid (∀ Wa Wb : World, ((∃ v, Ending.returned (.tuple #[]) = .returned v) ∧ (J (m * per) Wa ∨ ∃ x, x < m * per ∧ Jx x Wa)) → Stay W.heap.size Wa Wb → ((∃ v, Ending.returned (.tuple #[]) = .returned v) ∧ (J (m * per) Wb ∨ ∃ x, x < m * per ∧ Jx x Wb))) :=
    fun _ _ h hs => ⟨⟨_, rfl⟩, h.2.imp (fun h => HJ.out _ _ _ h hs) (fun ⟨x, a, b⟩ => ⟨x, a, HJx.out _ _ _ b hs⟩)⟩
  clear hW hM hJ hJx hY hG hm
  refine callsIn_of_wp_marks Try.func36 rfl trivial ?_ rfl
  simp only [Try.ntmps36, List.size_toArray, List.length_cons, List.length_nil, Nat.reduceAdd, Nat.reduceSub, Array.replicate_succ, Array.replicate_zero, List.push_toArray, List.append_toArray, List.nil_append, List.cons_append]
  have d0 := hGW.c0; have d1 := hGW.c1; have d2 := hGW.c2; have d3 := hGW.c3; have d4 := hGW.c4
  clear hGW
  gi_wp2_with (first | (refine ⟨trivial, ?_⟩; gi_at_call 28; refine (callsIn_wide.2 (HA.out _)).mono ?_; rintro e V ⟨rfl, bV⟩))
  clear d0 d1 d2 d3 d4
  have hsV : Stay W.heap.size W V := (Stay.alloc _ W _ (Nat.le_refl _)).trans ((stay_below bV).mono (by simp))
  have hal : AlS J M W l W.heap.size m per 0 [] V :=
    ⟨by omega, by rw [Nat.zero_mul]; exact HJ.out _ _ _ h0 hsV, keep_stay7 HMw.out (KeepD.refl _ _) hsV (Nat.le_refl _), (Box.new W _ _).below bV (by simp), HMw.out.fresh hsV (Nat.le_refl _), List.nodup_nil, fun D hD => by cases hD⟩
  clear bV h0 hsV
  refine wpIn_loop (fun act Wx => ∃ (i : Nat) (ds : List Nat) (u3 u4 u8 u9 u10 u11 u12 u13 u14 u15 u16 u17 u18 : Value), act = { tmps := #[.func (.yield l) #[] #[], .pointer (some ⟨gb, 0, none⟩), .pointer (some ⟨W.heap.size, 0, none⟩), u3, u4, .agg #[.int .i64 r, .int .i64 s, .int .i64 b, .int .i64 o, .int .i64 c], .int .i64 (m : Int), .int .i64 (i : Int), u8, u9, u10, u11, u12, u13, u14, u15, u16, u17, u18], defers := marks7 ds } ∧ AlS J M W l W.heap.size m per i ds Wx) (fun act _ => m - (intOf (act.tmps.getD 7 undef)).toNat) ⟨0, [], undef, undef, undef, undef, undef, undef, undef, undef, undef, undef, undef, undef, undef, rfl, hal⟩ ?_
  rintro act wr ⟨i, ds, u3, u4, u8, u9, u10, u11, u12, u13, u14, u15, u16, u17, u18, rfl, hP⟩
  clear hal
  by_cases hlt : i < m
  · have hGr := HG.out.keep hP.keep hMg.out
    have d0 := hGr.c0; have d1 := hGr.c1; have d2 := hGr.c2; have d3 := hGr.c3; have d4 := hGr.c4
    have HP : Hid (AlS J M W l W.heap.size m per i ds wr) := hP
    have hWr := hP.keep.1
    have cR := HRk.out i hlt
    clear hP hGr
    gi_wp2_with (first | (refine ⟨trivial, ?_⟩; gi_at_call 18; refine (callsIn_wide.2 (cR _)).mono ?_; rintro e V2 ⟨v, rfl, bV, gf, lb, T, rfl, heg, hseq, hT⟩))
    clear d0 d1 d2 d3 d4 cR
    have hds : ∀ D ∈ ds, D < wr.heap.size := fun D hD => (Array.getElem?_eq_some_iff.1 (HP.out.ds D hD).2.1).1
    have hSV : Stay wr.heap.size wr V2 := stay_below bV
    have hsz := bV.size
    have dsS : ∀ (B : Nat) (A A' : World), Ok M A → wr.heap.size ≤ B → Stay B A A' → (∀ D ∈ ds, W.heap.size ≤ D ∧ A.heap[D]? = some (.deferred (some [])) ∧ ¬ M A D) → ∀ D ∈ ds, W.heap.size ≤ D ∧ A'.heap[D]? = some (.deferred (some [])) ∧ ¬ M A' D :=
      fun B A A' ok hB hs h D hD => ⟨(h D hD).1, (hs.low D (by have := hds D hD; omega)).trans (h D hD).2.1, ok.not hs (h D hD).2.2⟩
    have okP : Ok M wr := HMi.out.1 _ _ HP.out.j
    refine rangeD rfl heg hseq (fun _ => rfl)
      M (fun b hb => ⟨(hT b hb).2, fun e => okP.fresh hSV (hT b hb).1 e⟩)
      (AlI J M W l W.heap.size per i ds) (AlX Jx W per i ds) ⟨fun q W h => HMi.out.1 _ _ h.j, fun cc q W h => HMi.out.2 _ _ h.j⟩
      (fun q A B h hs => ⟨HJ.out _ _ _ h.j (hs.mono (by omega)), keep_stay7 (HMi.out.1 _ _ h.j) h.keep hs (by omega), h.box.stay hs, (HMi.out.1 _ _ h.j).not hs h.nb, dsS _ A B (HMi.out.1 _ _ h.j) (by omega) hs h.ds⟩)
      (fun cc q A B h hs => ⟨h.c, HJx.out _ _ _ h.j (hs.mono (by omega)), fun D hD => ⟨(h.ds D hD).1, (hs.low D (by have := hds D hD; omega)).trans (h.ds D hD).2⟩⟩)
      ⟨HJ.out _ _ _ HP.out.j (hSV.mono (by omega)), keep_stay7 okP HP.out.keep hSV (by omega), HP.out.box.stay hSV, okP.not hSV HP.out.nb, dsS _ wr V2 okP (Nat.le_refl _) hSV HP.out.ds⟩
      ?round ?done ?stop
    case round =>
      intro l2 q Wz hq hIz _
      have HIz : Hid (∀ W2, Stay V2.heap.size Wz W2 → AlI J M W l W.heap.size per i ds q W2) := fun W2 hs => ⟨HJ.out _ _ _ hIz.j (hs.mono (by omega)), keep_stay7 (HMi.out.1 _ _ hIz.j) hIz.keep hs (by omega), hIz.box.stay hs, (HMi.out.1 _ _ hIz.j).not hs hIz.nb, dsS _ Wz W2 (HMi.out.1 _ _ hIz.j) (by omega) hs hIz.ds⟩
      have HOz : Hid (Ok M Wz) := HMi.out.1 _ _ hIz.j
      clear hIz
      gi_wp2
      refine ⟨KeepD.refl _ _, HOz.out, fun W2 hs2 _ _ => ?_⟩
      have hI := HIz.out W2 hs2
      have hyx := HY.out (i * per + q) W2 (in_all hlt hq) hI.j
      rw [aix_at _ _ per i q hq] at hyx
      obtain ⟨y, Hy⟩ : ∃ y, Hid (rix o.toNat c.toNat i q = y) := ⟨_, rfl⟩
      rw [Hy.out] at hyx
      simp only [Hy.out]
      obtain ⟨fn, tmps, assign, body, hyl, hR⟩ := yieldAt_any (m' := 7) hyx
      have q0 := hI.box.1
      have HI : Hid (AlI J M W l W.heap.size per i ds q W2) := hI
      clear hI hyx
      gi_wp2
      refine RoundIn.mono (show RoundIn (Fence.wide.inRound l2) 7 _ _ _ _ _ _ _ _ from hR) ?_
      rintro e W3 hE
      obtain ⟨ans, rfl, hE2⟩ := yields7 hE
      have hdk : ∀ Wk, KeepD M W2 Wk → ∀ D ∈ ds, W.heap.size ≤ D ∧ Wk.heap[D]? = some (.deferred (some [])) ∧ ¬ M Wk D := fun Wk hk D hD => by
        have h1 := HI.out.ds D hD
        have h2 := hk.2 D (Array.getElem?_eq_some_iff.1 h1.2.1).1 h1.2.2
        exact ⟨h1.1, h2.1.trans h1.2.1, h2.2⟩
      rcases hE2.out with ⟨rfl, hJ3, hK3⟩ | ⟨rfl, hJ3, hK3⟩
      · have HF : Hid (KeepD M W2 W3 ∧ AlI J M W l W.heap.size per i ds (q + 1) W3) := ⟨hK3, hJ3, HI.out.keep.trans hK3, hK3.box HI.out.box HI.out.nb, (hK3.2 _ HI.out.box.lt HI.out.nb).2, hdk _ hK3⟩
        clear hdk hE hE2
        gi_wp2
        exact HF.out
      · have HF : Hid (KeepD M W2 W3 ∧ AlX Jx W per i ds .ret q W3) := ⟨hK3, rfl, hJ3, fun D hD => ⟨(hdk _ hK3 D hD).1, (hdk _ hK3 D hD).2.1⟩⟩
        clear hdk hE hE2
        gi_wp2
        exact HF.out
    case done =>
      rintro D W3 hD hI hK
      have HI : Hid (AlI J M W l W.heap.size per i ds per W3) := hI
      clear hI
      gi_wp2
      refine ⟨⟨i + 1, D :: ds, _, _, _, _, _, _, _, _, _, _, _, _, _, rfl, by omega, ?_, HI.out.keep, HI.out.box, HI.out.nb, List.nodup_cons.2 ⟨fun h => by have := hds D h; omega, HP.out.nd⟩, ?_⟩, ?_⟩
      · have := HI.out.j
        rw [Nat.succ_mul]; exact this
      · intro E hE
        rcases List.mem_cons.1 hE with rfl | hE
        · exact ⟨by omega, hK⟩
        · exact HI.out.ds E hE
      · simp [intOf]; omega
    case stop =>
      rintro D cc q W3 hD hq hX hK
      obtain ⟨rfl, hj, hds3⟩ := hX
      gi_wp2
      show LeavesInM Fence.wide 9 Try.prog Try.f36 _ _ (marks7 (D :: ds)) .returning W3
      exact leaves_all (B := W.heap.size) rfl hEnd.out (D :: ds) W3 (List.nodup_cons.2 ⟨fun h => by have := hds D h; omega, HP.out.nd⟩)
        (fun E hE => by
          rcases List.mem_cons.1 hE with rfl | hE
          · exact ⟨by omega, hK.1⟩
          · exact hds3 E hE)
        ⟨⟨_, rfl⟩, .inr ⟨i * per + q, in_all hlt hq, hj⟩⟩
  · have hPle := hP.le
    obtain rfl : i = m := by omega
    have HP : Hid (AlS J M W l W.heap.size i per i ds wr) := hP
    clear hP
    gi_wp2
    show LeavesInM Fence.wide 9 Try.prog Try.f36 _ _ (marks7 ds) .returning wr
    exact leaves_all (B := W.heap.size) rfl (fun _ _ h hs => ⟨⟨_, rfl⟩, h.2.imp (fun h => HJ.out _ _ _ h hs) (fun ⟨x, a, b⟩ => ⟨x, a, HJx.out _ _ _ b hs⟩)⟩) ds wr HP.out.nd (fun D hD => ⟨(HP.out.ds D hD).1, (HP.out.ds D hD).2.1⟩) ⟨⟨_, rfl⟩, .inl HP.out.j⟩

/-- how many indices there are -/
def cnt (r s b o c : Int) : Nat := if rt r s b o c = true then (r + s).toNat * (b.toNat * o.toNat * c.toNat) else 0
set_option maxRecDepth 100000 in
set_option maxHeartbeats 1000000 in
theorem all_any (r s b o c : Int) (w : World) :
    Calls Try.prog 20 #[.agg #[.int .i64 r, .int .i64 s, .int .i64 b, .int .i64 o, .int .i64 c]] w fun e w' => ∃ v, e = .returned v ∧ Below w.heap.size w w' ∧
      Tells w.heap.size v w' (fun x => #[.int .i64 (aix o.toNat c.toNat (b.toNat * o.toNat * c.toNat) x : Int)]) (cnt r s b o c) := by
  obtain ⟨z, Z⟩ : ∃ z, Hid (rt r s b o c = z) := ⟨_, rfl⟩
  have HH : Hid (∀ w, Calls Try.prog 10 #[.agg #[.int .i64 r, .int .i64 s, .int .i64 b, .int .i64 o, .int .i64 c]] w fun e w' => e = .returned (.bool z) ∧ Below w.heap.size w w') := fun w => by rw [← Z.out]; exact right_any r s b o c w
  obtain ⟨N, HN⟩ : ∃ N, Hid (cnt r s b o c = N) := ⟨_, rfl⟩
  rw [HN.out]
  go_enter Try.func20, Try.ntmps20
  go_wp2_with fail
  have h0 := Gm.new w r s b o c 23
  have h2 : Below w.heap.size w (w.alloc (.cells #[.int .i64 r, .int .i64 s, .int .i64 b, .int .i64 o, .int .i64 c] 23)) := (Below.refl _ w).alloc (Nat.le_refl _) _
  refine (HH.out _).mono ?_
  rintro e W1 ⟨rfl, bW⟩
  have H : Hid (Gm W1 w.heap.size r s b o c ∧ Below w.heap.size w W1) := ⟨h0.next bW, h2.trans (bW.mono h2.size)⟩
  clear h0 h2 bW
  cases z with
  | false =>
    go_wp2
    go_ret
    refine ⟨_, rfl, H.out.2, ?_⟩
    rw [← HN.out, cnt, if_neg (by rw [Z.out]; decide)]
    exact none_tells _ _ _
  | true =>
    go_wp2
    go_ret
    refine ⟨_, rfl, H.out.2, _, _, fun b => b = w.heap.size, rfl, enters_of Try.func36 (by kernel_rfl) rfl, ?_, ?_⟩
    · rw [← HN.out, cnt, if_pos Z.out]
      exact all1_seq w.heap.size r s b o c Z.out W1 H.out.1
    · rintro b rfl
      exact ⟨Nat.le_refl _, H.out.1.lt⟩
end Go.Proofs.Ytjinbhggimbcbaa
