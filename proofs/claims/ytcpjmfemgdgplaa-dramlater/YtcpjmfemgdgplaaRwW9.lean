/-
  Bits turned and forced, by the program.
-/
import Derived.Test.YtcpjmfemgdgplaaRwW8
import Derived.Test.YtcpjmfemgdgplaaRound2
namespace Go.Proofs.Ytcpjmfemgdgplaa
open Go.RowKit Go.Shelf
attribute [local go_sem] Oper.semAt_some

theorem cut0R (b : Nat) (w : World) : (Instr.sliceAt 40 (.pointer (some ⟨b, 0, none⟩)) none none none).run Try.prog w = .ok (.slice (some ⟨b, 0, none⟩) 72 72) w := by
  simp [Instr.sliceAt, go_sem]
theorem exec_sliceR {P : Program} {o : Oper} {a : Act} (t : TypeId) (x : Operand) (ho : o.op = .slice t x none none none) (vx v : Value) (hx : a.eval x = vx)
    (h : ∀ w, (Instr.sliceAt t vx none none none).run P w = .ok v w) (w : World) : (execOp a.eval o).run P w = .ok (.value v) w := by
  simp [execOp, ho, hx, h]
/-- a slice of all of a block, as functions of Nat -/
theorem all_sl (F : Nat → Int) (w : World) (B : Nat) (hF : Byts 72 F) (h : Bk .u8 w B 72 F) : Sl w (some ⟨B, 0, none⟩) 72 72 (pc F 0 72) := pc_sl F w B 0 72 72 hF h (by omega) (by omega)
theorem pc_at (F : Nat → Int) (hF : Byts 72 F) (j : Nat) (hj : j < 72) : ((pc F 0 72 j : Nat) : Int) = F j := by
  have := hF j hj
  unfold pc
  rw [if_pos hj, Nat.zero_add]; omega

set_option maxRecDepth 100000 in
set_option maxHeartbeats 1000000 in
theorem flipR_core (F : Nat → Int) (b : Int) (G : Nat → Nat) (hcall : ∀ (B : Nat) (W : World), Bk .u8 W B 72 F → Calls Try.prog 63 #[.slice (some ⟨B, 0, none⟩) 72 72, .int .i64 b] W fun e w' => ∃ a' c', e = .returned (.slice a' 72 c') ∧ NewSl W w' a' 72 c' G) (w : World) :
    Calls Try.prog 33 #[.agg (ints .u8 72 F).toArray, .int .i64 b] w fun e w' => e = .returned (.agg (ints .u8 72 fun j => (G j : Int)).toArray) ∧ Below w.heap.size w w' := by
  have hz := zeroR
  obtain ⟨A0, hA0⟩ : ∃ A, (ints .u8 72 F).toArray = A := ⟨_, rfl⟩
  obtain ⟨Z, hZ⟩ : ∃ A, (ints .u8 72 fun _ => 0).toArray = A := ⟨_, rfl⟩
  rw [hA0]
  rw [hZ] at hz
  have HC : Hid (∀ (B : Nat) (W : World), Bk .u8 W B 72 F → Calls Try.prog 63 #[.slice (some ⟨B, 0, none⟩) 72 72, .int .i64 b] W fun e w' => ∃ a' c', e = .returned (.slice a' 72 c') ∧ NewSl W w' a' 72 c' G) := hcall
  clear hcall
  go_enter Try.func33, Try.ntmps33
  go_upto_region 1 with (fail)
  obtain ⟨V, hV⟩ : ∃ V, (w.alloc (.cells A0 40)).alloc (.cells Z 40) = V := ⟨_, rfl⟩
  have HI : Hid (Bk .u8 V w.heap.size 72 F ∧ Bk .u8 V (w.heap.size + 1) 72 (fun _ => 0) ∧ Below w.heap.size w V) := by
    rw [← hV, ← hA0, ← hZ]
    have h1 := Bk.new .u8 (w.alloc (.cells (ints .u8 72 F).toArray 40)) 72 (fun _ => 0) 40
    simp only [World.size_alloc] at h1
    exact ⟨(Bk.new .u8 w 72 F _).alloc _, h1, ((Below.refl _ w).alloc (Nat.le_refl _) _).alloc (by simp) _⟩
  obtain ⟨B, hB⟩ : ∃ B, w.heap.size = B := ⟨_, rfl⟩
  obtain ⟨D, hD⟩ : ∃ D, B + 1 = D := ⟨_, rfl⟩
  rw [hV]
  rw [hB, hD] at HI ⊢
  have lD : B ≤ D := by omega
  have nD : D ≠ B := by omega
  clear hV hZ hA0 hz
  refine region_ends (by kernel_rfl) (fun _ => True) (fun a' w' => (∃ v8, a' = ({ tmps := #[.agg A0, .int .i64 b, .pointer (some ⟨B, 0, none⟩), undef, .pointer (some ⟨D, 0, none⟩), .slice (some ⟨B, 0, none⟩) 72 72, .slice (some ⟨B, 0, none⟩) 72 72, .int .i64 b, v8, goInt 72, undef], defers := [] } : Act)) ∧ Bk .u8 w' B 72 (fun j => (G j : Int)) ∧ Bk .u8 w' D 72 (fun _ => 0) ∧ Below B w w') trivial (fun hH => ?_) ?_
  · refine take_pure 0 (v := .slice (some ⟨B, 0, none⟩) 72 72) rfl (by kernel_rfl) rfl (fun w' hw => exec_sliceR _ _ rfl _ _ rfl (cut0R B) w') hH ?_
    refine take_pure 1 (v := .slice (some ⟨B, 0, none⟩) 72 72) rfl (by kernel_rfl) rfl (fun w' hw => exec_sliceR _ _ rfl _ _ rfl (cut0R B) w') hH ?_
    refine take_pure 2 (v := .int .i64 b) rfl (by kernel_rfl) rfl (fun w' hw => by simp [execOp, go_sem]) hH ?_
    refine take_one 3 rfl rfl (by kernel_rfl) ?_
    refine wp_contract 63 [.tmp 6, .tmp 7] _ rfl (enters_of Try.func63 (by kernel_rfl) rfl) [.slice (some ⟨B, 0, none⟩) 72 72, .int .i64 b] rfl (HC.out B V.drew HI.out.1.drew) ?_
    rintro e W' ⟨a', c', rfl, hN⟩
    refine ⟨_, rfl, trivial, fun hH => ?_⟩
    obtain ⟨g, rfl, hg, _⟩ := hN.fresh (by omega)
    obtain ⟨g', o', e', hc⟩ := hN.sl.cells (by omega)
    cases e'
    have hbl : Below V.heap.size V W' := (below_drew1 V).trans hN.below
    refine take_one 4 rfl rfl (by kernel_rfl) ?_
    refine wp_cpy _ _ rfl B 0 72 72 g 0 72 c' 72 72 F (fun j => (G j : Int)) rfl rfl (HI.out.1.next hbl) rfl (fun j hj => hc j hj) (by omega) ?_
    intro V2 g2 k2
    refine ⟨trivial, fun hH2 => ?_⟩
    exact wpAnyH_done (by kernel_rfl) ⟨⟨_, rfl⟩, g2.out.congr fun i hi => by unfold lay; rw [if_pos (by omega), Nat.sub_zero], (HI.out.2.1.next hbl).of (k2.out.block D nD), k2.out.below _ _ (HI.out.2.2.trans (hbl.mono (Nat.le_of_lt HI.out.1.lt))) (Nat.le_refl _)⟩ _
  rintro a' V2 ⟨⟨v8, rfl⟩, h2⟩
  obtain ⟨X, hX⟩ : ∃ X, (fun j => (G j : Int)) = X := ⟨_, rfl⟩
  rw [hX] at h2
  have HE : Hid (Bk .u8 V2 B 72 X ∧ Bk .u8 V2 D 72 (fun _ => 0) ∧ Below B w V2) := h2
  clear h2 HI nD HC
  have hr := HE.out.1.range
  have ht := HE.out.2.1.there .u8 X
  have hi9 : (Try.prog.info? 40).map (·.size) = some (ints .u8 72 X).length := by rw [ints_len]; exact infoR
  have hone := ints_one .u8 72 X
  have HBl := HE.out.2.2
  obtain ⟨L, hL⟩ : ∃ L, ints .u8 72 X = L := ⟨_, rfl⟩
  rw [hL] at hr ht hi9 hone
  have HL : Hid (ints .u8 72 X = L) := hL
  have HB9 : Hid (Below B w V2) := HBl
  clear hL HBl HE
  go_wp2_with (first | refine wpList_load_mid rfl 40 _ rfl _ 0 rfl L _ hr Try.underlying40 rfl hi9 ?_ | refine wpList_store_mid rfl 40 _ _ rfl _ 0 L.toArray rfl rfl ht hi9 hone ?_)
  have hs : (V2.setCells D 0 L).rangeAt D 0 L := World.rangeAt_setCells_same V2 _ 0 L (by simpa using ht)
  have hld := run_loadVar_mid (P := Try.prog) (V2.setCells D 0 L) D 0 40 L _ hs Try.underlying40 rfl hi9
  refine bodyPost_ret (v := .agg L.toArray) ?_ rfl ⟨by rw [hX, HL.out], by rw [hB]; exact belows_put lD L 0 HB9.out⟩
  simp [results, Try.f33, Act.put, asAddr, hld]
/-- F with the bit i turned -/
def flR (F : Nat → Int) (i : Nat) : Nat → Int := fun j => ((flp (pc F 0 72) i j : Nat) : Int)
theorem flR_at (F : Nat → Int) (hF : Byts 72 F) (i j : Nat) (hj : j < 72) : flR F i j = if j = i / 8 then (((F j).toNat ^^^ 2 ^ (i % 8) : Nat) : Int) else F j := by
  have h := pc_at F hF j hj
  unfold flR flp
  by_cases e : j = i / 8
  · rw [if_pos e, if_pos e]; congr 2; omega
  · rw [if_neg e, if_neg e]; exact h
theorem flipR_yes (F : Nat → Int) (hF : Byts 72 F) (i : Nat) (hi : i < 576) (w : World) :
    Calls Try.prog 33 #[.agg (ints .u8 72 F).toArray, .int .i64 (i : Int)] w fun e w' => e = .returned (.agg (ints .u8 72 (flR F i)).toArray) ∧ Below w.heap.size w w' :=
  flipR_core F i (flp (pc F 0 72) i) (fun B W h => flip_yes _ 72 72 (pc F 0 72) i (by omega) (by omega) W (all_sl F W B hF h)) w
theorem flipR_no (F : Nat → Int) (hF : Byts 72 F) (b : Int) (hb : b < 0 ∨ 576 ≤ b) (hb2 : b ≤ 9223372036854775807) (w : World) :
    Calls Try.prog 33 #[.agg (ints .u8 72 F).toArray, .int .i64 b] w fun e w' => e = .returned (.agg (ints .u8 72 F).toArray) ∧ Below w.heap.size w w' := by
  have := flipR_core F b (pc F 0 72) (fun B W h => flip_no _ 72 72 (pc F 0 72) b (by omega) hb2 (by omega) W (all_sl F W B hF h)) w
  rwa [ints_congr .u8 72 _ F (fun j hj => pc_at F hF j hj)] at this
end Go.Proofs.Ytcpjmfemgdgplaa
