/-
  The iterators of package geom: none, Rank, Page.
-/
import Derived.Test.YtjinbhggimbcbaaGeW6
import Derived.Test.YtjinbhggimbcbaaGeL3
import Derived.Shelf.Abstract
namespace Go.Proofs.Ytjinbhggimbcbaa
open Go.RowKit
open Ge (pw rt hd ix)
attribute [local go_sem] Oper.semAt_some

/-- what a function that tells an iterator tells: it hands on the numbers 'enc x', x below N; it reads new blocks alone -/
def Tells (B : Nat) (v : Value) (W : World) (enc : Nat → Array Value) (N : Nat) : Prop :=
  ∃ gf lb T, v = .func (.func gf) #[] lb ∧ (∀ args w, (callFunc gf args).run Try.prog w = .ok (.enter gf args) w) ∧ SeqD Try.prog gf lb enc N T W ∧ ∀ b, T b → B ≤ b ∧ b < W.heap.size

theorem none_seq (enc : Nat → Array Value) (w : World) : SeqD Try.prog 32 #[] enc 0 (fun _ => False) w := by
  intro l M J Jx W hMi hW hM hJ hJx hY h0
  clear hJ hJx hY hM hW hMi
  refine callsIn_of_wp Try.func32 rfl trivial ?_ rfl
  simp only [Try.ntmps32, List.size_toArray, List.length_cons, List.length_nil, Nat.reduceAdd, Nat.reduceSub, Array.replicate_succ, Array.replicate_zero, List.push_toArray, List.append_toArray, List.nil_append, List.cons_append]
  gi_wp2
  go_end0
  exact ⟨⟨_, rfl⟩, .inl h0⟩
theorem none_tells (B : Nat) (W : World) (enc : Nat → Array Value) : Tells B (.func (.func 32) #[] #[]) W enc 0 :=
  ⟨_, _, _, rfl, enters_of Try.func32 (by kernel_rfl) rfl, none_seq enc W, fun _ h => h.elim⟩

set_option maxRecDepth 100000 in
set_option maxHeartbeats 1000000 in
theorem page1_seq (gb fb : Nat) (r s b o : Int) (nc F : Nat) (hc : nc ≤ 64) (hF : F < 8388608) (w : World) (hG : Gm w gb r s b o (nc : Int)) (hB : Box w fb (.int .i64 (F : Int))) :
    SeqD Try.prog 35 #[.pointer (some ⟨gb, 0, none⟩), .pointer (some ⟨fb, 0, none⟩)] (fun x => #[.int .i64 ((F + x : Nat) : Int)]) nc (fun y => y = gb ∨ y = fb) w := by
  intro l M J Jx W hMi hW hM hJ hJx hY h0
  have hGW : Gm W gb r s b o (nc : Int) := Bk.below hG hW hG.lt
  have hBW : Box W fb (.int .i64 (F : Int)) := hB.below hW hB.lt
  have d0 := hGW.c0; have d1 := hGW.c1; have d2 := hGW.c2; have d3 := hGW.c3; have d4 := hGW.c4
  have d5 := hBW.1
  have HC : Hid (CallsIn Fence.wide 8 Try.prog 34 #[.agg #[.int .i64 r, .int .i64 s, .int .i64 b, .int .i64 o, .int .i64 (nc : Int)], .int .i64 (F : Int), .func (.yield l) #[] #[]] W fun e W' =>
      (e = .returned (.bool true) ∧ J nc W' ∧ KeepD M W W') ∨ (e = .returned (.bool false) ∧ ∃ x, x < nc ∧ Jx x W' ∧ KeepD M W W')) :=
    columns_seq r s b o nc hc F hF l M J Jx W (hMi.1 _ _ h0) (fun A hA => hJ _ W A h0 (stay_below hA)) hY
  clear hMi hJ hJx hY hM hW hG hB hGW hBW h0
  refine callsIn_of_wp Try.func35 rfl trivial ?_ rfl
  simp only [Try.ntmps35, List.size_toArray, List.length_cons, List.length_nil, Nat.reduceAdd, Nat.reduceSub, Array.replicate_succ, Array.replicate_zero, List.push_toArray, List.append_toArray, List.nil_append, List.cons_append]
  gi_wp2_with (first | (refine ⟨trivial, ?_⟩; gi_at_call 34; refine HC.out.mono ?_; rintro e W3 hE; obtain ⟨ans, rfl, hE2⟩ := yields7 hE))
  go_end0
  refine ⟨⟨_, rfl⟩, ?_⟩
  rcases hE2.out with ⟨_, hJ3, _⟩ | ⟨_, x, hx, hJ3, _⟩
  · exact .inl hJ3
  · exact .inr ⟨x, hx, hJ3⟩

set_option maxRecDepth 100000 in
set_option maxHeartbeats 1000000 in
theorem rank_any (r s b o c k : Int) (w : World) :
    Calls Try.prog 18 #[.agg #[.int .i64 r, .int .i64 s, .int .i64 b, .int .i64 o, .int .i64 c], .int .i64 k] w fun e w' => ∃ v, e = .returned v ∧ Below w.heap.size w w' ∧
      Tells w.heap.size v w' (fun x => #[.int .i64 (rix o.toNat c.toNat k.toNat x : Int)]) (if hd r s b o c k 0 0 0 = true then b.toNat * o.toNat * c.toNat else 0) := by
  obtain ⟨z, Z⟩ : ∃ z, Hid (hd r s b o c k 0 0 0 = z) := ⟨_, rfl⟩
  have HH : Hid (∀ w, Calls Try.prog 12 #[.agg #[.int .i64 r, .int .i64 s, .int .i64 b, .int .i64 o, .int .i64 c], .agg #[.int .i64 k, .int .i64 0, .int .i64 0, .int .i64 0]] w fun e w' => e = .returned (.bool z) ∧ Below w.heap.size w w') := fun w => by rw [← Z.out]; exact holds_any r s b o c k 0 0 0 w
  rw [Z.out]
  go_enter Try.func18, Try.ntmps18
  go_wp2_with fail
  obtain ⟨B, hB⟩ : ∃ B, w.heap.size = B := ⟨_, rfl⟩
  obtain ⟨V, hV⟩ : ∃ V, (w.alloc (.cells #[.int .i64 r, .int .i64 s, .int .i64 b, .int .i64 o, .int .i64 c] 23)).alloc (.cells #[.int .i64 k] 3) = V := ⟨_, rfl⟩
  have h0 : Gm V B r s b o c := by rw [← hV, ← hB]; exact (Gm.new w r s b o c 23).alloc _
  have h1 : Box V (B + 1) (.int .i64 k) := by
    have := Box.new (w.alloc (.cells #[.int .i64 r, .int .i64 s, .int .i64 b, .int .i64 o, .int .i64 c] 23)) 3 (.int .i64 k)
    rw [hV, World.size_alloc, hB] at this
    exact this
  have h2 : Below B w V := by rw [← hV, ← hB]; exact ((Below.refl _ w).alloc (Nat.le_refl _) _).alloc (by simp) _
  rw [hV, hB]
  clear hV
  refine (HH.out _).mono ?_
  rintro e W1 ⟨rfl, bW⟩
  have H : Hid (Gm W1 B r s b o c ∧ Box W1 (B + 1) (.int .i64 k) ∧ Below B w W1) := ⟨h0.next bW, h1.below bW h1.lt, h2.trans (bW.mono (Nat.le_of_lt h0.lt))⟩
  clear h0 h1 h2 bW
  cases z with
  | false =>
    go_wp2
    go_ret
    exact ⟨_, rfl, by first | exact H.out.2.2 | (rw [hB]; exact H.out.2.2), none_tells _ _ _⟩
  | true =>
    go_wp2
    go_ret
    refine ⟨_, rfl, by first | exact H.out.2.2 | (rw [hB]; exact H.out.2.2), _, _, fun b => b = B ∨ b = B + 1, rfl, enters_of Try.func33 (by kernel_rfl) rfl, ?_, ?_⟩
    · obtain ⟨hr, hk, _⟩ := Ge.hd_all Z.out
      have ha := Ge.rt_all hr
      obtain ⟨nb, rfl⟩ := Int.eq_ofNat_of_zero_le (show 0 ≤ b by omega)
      obtain ⟨no, rfl⟩ := Int.eq_ofNat_of_zero_le (show 0 ≤ o by omega)
      obtain ⟨nc, rfl⟩ := Int.eq_ofNat_of_zero_le (show 0 ≤ c by omega)
      obtain ⟨nr, rfl⟩ := Int.eq_ofNat_of_zero_le (show 0 ≤ k by omega)
      exact rank1_seq B (B + 1) r s nb no nc nr (by omega) (by omega) (by omega) (by omega) W1 H.out.1 H.out.2.1
    · rintro b (rfl | rfl)
      · exact ⟨by omega, H.out.1.lt⟩
      · exact ⟨by omega, H.out.2.1.lt⟩

/-- a page's first index, if there is such a page -/
def pgOk (r s b o c k : Int) : Bool := decide (0 ≤ k ∧ k < 131072) && hx r s b o c (k * 64)
set_option maxRecDepth 100000 in
set_option maxHeartbeats 1000000 in
theorem page_any (r s b o c k : Int) (w : World) :
    Calls Try.prog 19 #[.agg #[.int .i64 r, .int .i64 s, .int .i64 b, .int .i64 o, .int .i64 c], .int .i64 k] w fun e w' => ∃ v, e = .returned v ∧ Below w.heap.size w w' ∧
      Tells w.heap.size v w' (fun x => #[.int .i64 (((k * 64).toNat + x : Nat) : Int)]) (if pgOk r s b o c k = true then c.toNat else 0) := by
  obtain ⟨y, Y⟩ : ∃ y, Hid (decide (0 ≤ k ∧ k < 131072) = y) := ⟨_, rfl⟩
  have HL : Hid (∀ w, Calls Try.prog 30 #[.int .i64 k, .int .i64 131072] w fun e w' => e = .returned (.bool y) ∧ w' = w) := fun w => by rw [← Y.out]; exact isBelow_any k 131072 w
  unfold pgOk
  rw [Y.out]
  cases y with
  | false =>
    go_enter Try.func19, Try.ntmps19
    go_wp2_with (go_at_call 30; refine (HL.out _).mono ?_; rintro e w' ⟨rfl, rfl⟩)
    go_ret
    exact ⟨_, rfl, (Below.refl _ w).alloc (Nat.le_refl _) _, none_tells _ _ _⟩
  | true =>
    have hk : 0 ≤ k ∧ k < 131072 := of_decide_eq_true Y.out
    obtain ⟨hk0, hk1⟩ := hk
    rw [Bool.true_and]
    obtain ⟨p1, q1, u1, v1, f, Hf, CA⟩ := at_told_any r s b o c (k * 64)
    obtain ⟨F, HF⟩ : ∃ F, Hid (k * 64 = F) := ⟨_, rfl⟩
    rw [HF.out] at CA Hf ⊢
    have hF : k * 64 = F := HF.out
    obtain ⟨N, HN⟩ : ∃ N, Hid ((if hx r s b o c F = true then c.toNat else 0) = N) := ⟨_, rfl⟩
    rw [HN.out]
    go_enter Try.func19, Try.ntmps19
    go_wp2_with (go_at_call 30; refine (HL.out _).mono ?_; rintro e w' ⟨rfl, rfl⟩)
    clear hF
    obtain ⟨B, hB⟩ : ∃ B, w.heap.size = B := ⟨_, rfl⟩
    obtain ⟨V, hV⟩ : ∃ V, (w.alloc (.cells #[.int .i64 r, .int .i64 s, .int .i64 b, .int .i64 o, .int .i64 c] 23)).alloc (.cells #[.int .i64 F] 3) = V := ⟨_, rfl⟩
    have h0 : Gm V B r s b o c := by rw [← hV, ← hB]; exact (Gm.new w r s b o c 23).alloc _
    have h1 : Box V (B + 1) (.int .i64 F) := by
      have := Box.new (w.alloc (.cells #[.int .i64 r, .int .i64 s, .int .i64 b, .int .i64 o, .int .i64 c] 23)) 3 (.int .i64 F)
      rw [hV, World.size_alloc, hB] at this
      exact this
    have h2 : Below B w V := by rw [← hV, ← hB]; exact ((Below.refl _ w).alloc (Nat.le_refl _) _).alloc (by simp) _
    rw [hV, hB]
    clear hV
    refine (CA.out _).mono ?_
    rintro e W1 ⟨rfl, bW⟩
    have H : Hid (Gm W1 B r s b o c ∧ Box W1 (B + 1) (.int .i64 F) ∧ Below B w W1) := ⟨h0.next bW, h1.below bW h1.lt, h2.trans (bW.mono (Nat.le_of_lt h0.lt))⟩
    clear h0 h1 h2 bW
    have hb2 : Hid (∀ x, Below B w (W1.alloc x) ∧ Gm (W1.alloc x) B r s b o c ∧ Box (W1.alloc x) (B + 1) (.int .i64 F)) := fun x => ⟨H.out.2.2.alloc (by have := H.out.1.lt; omega) _, H.out.1.alloc _, H.out.2.1.alloc _⟩
    rcases Hf.out with ⟨hxF, rfl, _⟩ | ⟨hxF, rfl, _⟩
    · have hxG := hxF
      clear hxF
      have HX : Hid (hx r s b o c F = true) := hxG
      clear hxG
      go_wp2
      go_ret
      have hxF := HX.out
      rw [← HN.out, if_pos hxF]
      refine ⟨_, rfl, by first | exact (hb2.out _).1 | (rw [hB]; exact (hb2.out _).1), _, _, fun b => b = B ∨ b = B + 1, rfl, enters_of Try.func35 (by kernel_rfl) rfl, ?_, ?_⟩
      · have hbd := hd_bounds hxF
        have ha := Ge.rt_all (Ge.hd_all hxF).1
        obtain ⟨nc, rfl⟩ := Int.eq_ofNat_of_zero_le (show 0 ≤ c by omega)
        obtain ⟨nF, rfl⟩ := Int.eq_ofNat_of_zero_le (show 0 ≤ F by have := HF.out; omega)
        exact page1_seq B (B + 1) r s b o nc nF (by omega) (by have := HF.out; omega) _ (hb2.out _).2.1 (hb2.out _).2.2
      · rintro b (rfl | rfl)
        · exact ⟨by omega, (hb2.out _).2.1.lt⟩
        · exact ⟨by omega, (hb2.out _).2.2.lt⟩
    · have hxG := hxF
      clear hxF
      have HX : Hid (hx r s b o c F = false) := hxG
      clear hxG
      go_wp2
      go_ret
      rw [← HN.out, if_neg (by rw [HX.out]; decide)]
      exact ⟨_, rfl, by first | exact (hb2.out _).1 | (rw [hB]; exact (hb2.out _).1), none_tells _ _ _⟩
end Go.Proofs.Ytjinbhggimbcbaa
