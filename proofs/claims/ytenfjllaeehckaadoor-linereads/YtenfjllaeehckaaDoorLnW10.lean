/-
  A line out of its digits.
-/
import Derived.Test.YtenfjllaeehckaaDoorLnW9
import Derived.Lib.OthersKept
namespace Go.Proofs.YtenfjllaeehckaaDoor
open Go.RowKit Go.Shelf
open Go.Lib (iterAt_other iterAt_heap iterAt_size run_next_any_at run_next_end_at)
attribute [local go_sem] Oper.semAt_some

/-- a sign is a digit -/
def isd (c : Int) : Prop := (48 ≤ c ∧ c ≤ 57) ∨ (97 ≤ c ∧ c ≤ 102)
/-- what it stands for -/
def dv (c : Int) : Int := if c ≤ 57 then c - 48 else c - 87
theorem dv_bd (c : Int) (h : isd c) : 0 ≤ dv c ∧ dv c < 16 := by
  unfold isd at h; unfold dv; split <;> omega
/-- the byte i of a text -/
def byt (s : ByteArray) (i : Nat) : Int := ((s.data[i]?.getD 0).toNat : Int)
theorem by_get (s : ByteArray) (i : Nat) (h : i < s.size) : ((s[i]'h).toNat : Int) = byt s i := by
  unfold byt
  have : s.data[i]? = some (s[i]'h) := by
    rw [Array.getElem?_eq_getElem (by exact h)]; rfl
  rw [this]; rfl
theorem by_bd (s : ByteArray) (i : Nat) : 0 ≤ byt s i ∧ byt s i < 256 := by
  have := (s.data[i]?.getD 0).toNat_lt; unfold byt; omega
/-- the line of a text's digits -/
def rdl (s : ByteArray) (j : Nat) : Int := 16 * dv (byt s (2 * j)) + dv (byt s (2 * j + 1))

set_option maxHeartbeats 1000000 in
theorem valueOf_yes (c : Int) (h : isd c) (w : World) : Calls Tryd.prog 26 #[.int .i32 c] w fun e w' => e = .returned (.tuple #[.int .u8 (dv c), .bool true]) ∧ w' = w := by
  unfold isd at h
  by_cases h1 : c ≤ 57
  · have e : dv c = c - 48 := by unfold dv; rw [if_pos h1]
    rw [e]
    have g1 : 48 ≤ c := by omega
    go_enter Tryd.func26, Tryd.ntmps26
    go_wp2
    exact bodyPost_ret (v := .tuple #[.int .u8 (c - 48), .bool true]) (by simp [results, Tryd.f26]) rfl ⟨rfl, rfl⟩
  · have e : dv c = c - 87 := by unfold dv; rw [if_neg h1]
    rw [e]
    have g1 : 97 ≤ c := by omega
    have g2 : c ≤ 102 := by omega
    have g3 : 48 ≤ c := by omega
    have g4 : decide (c ≤ 57) = false := by simpa using h1
    have g5 : c - 97 + 10 = c - 87 := by omega
    go_enter Tryd.func26, Tryd.ntmps26
    go_wp2
    exact bodyPost_ret (v := .tuple #[.int .u8 (c - 87), .bool true]) (by simp [results, Tryd.f26]) rfl ⟨rfl, rfl⟩
set_option maxHeartbeats 1000000 in
theorem valueOf_no (c : Int) (h : ¬ isd c) (w : World) : Calls Tryd.prog 26 #[.int .i32 c] w fun e w' => e = .returned (.tuple #[.int .u8 0, .bool false]) ∧ w' = w := by
  unfold isd at h
  by_cases h1 : 48 ≤ c
  · have h2 : decide (c ≤ 57) = false := by simp; omega
    by_cases h3 : 97 ≤ c
    · have h4 : decide (c ≤ 102) = false := by simp; omega
      go_enter Tryd.func26, Tryd.ntmps26
      go_wp2
      exact bodyPost_ret (v := .tuple #[.int .u8 0, .bool false]) (by simp [results, Tryd.f26]) rfl ⟨rfl, rfl⟩
    · have h4 : decide (97 ≤ c) = false := by simpa using h3
      go_enter Tryd.func26, Tryd.ntmps26
      go_wp2
      exact bodyPost_ret (v := .tuple #[.int .u8 0, .bool false]) (by simp [results, Tryd.f26]) rfl ⟨rfl, rfl⟩
  · have h2 : decide (48 ≤ c) = false := by simpa using h1
    have h4 : decide (97 ≤ c) = false := by simp; omega
    go_enter Tryd.func26, Tryd.ntmps26
    go_wp2
    exact bodyPost_ret (v := .tuple #[.int .u8 0, .bool false]) (by simp [results, Tryd.f26]) rfl ⟨rfl, rfl⟩

/-- between two rounds of Read: i digits were read; the iterator lies behind the line -/
structure RdI (B E : Nat) (s : ByteArray) (w : World) (i : Nat) (wr : World) : Prop where
  wk : Wk B B E (fun j => if 2 * j + 1 < i then rdl s j else if 2 * j < i then dv (byt s (2 * j)) else 0) w wr
  it : wr.heap[E + 1]? = some (.stringIter s i)
theorem RdI.iter {B E : Nat} {s : ByteArray} {w wr : World} {i : Nat} (h : RdI B E s w i wr) (hB : B < E) (k : Nat) :
    Wk B B E (fun j => if 2 * j + 1 < i then rdl s j else if 2 * j < i then dv (byt s (2 * j)) else 0) w (wr.iterAt (E + 1) s k) ∧ (wr.iterAt (E + 1) s k).heap[E + 1]? = some (.stringIter s k) := by
  have ho : ∀ c, c ≠ E + 1 → (wr.iterAt (E + 1) s k).heap[c]? = wr.heap[c]? := fun c hc => iterAt_other wr (E + 1) c s k hc
  refine ⟨⟨h.wk.r.of (ho B (by omega)), h.wk.o.of (ho E (by omega)), ?_⟩, iterAt_heap wr (E + 1) s i k h.it⟩
  exact ⟨h.wk.below.os, h.wk.below.tape, h.wk.below.output, by rw [iterAt_size]; exact h.wk.below.size, fun b hb => (ho b (by omega)).trans (h.wk.below.block b hb)⟩
/-- a digit is put behind what is there -/
theorem rd_step (s : ByteArray) (i j : Nat) (o : Int) (ho : (if 2 * (i / 2) + 1 < i then rdl s (i / 2) else if 2 * (i / 2) < i then dv (byt s (2 * (i / 2))) else 0) = o) :
    (if j = i / 2 then 16 * o + dv (byt s i) else if 2 * j + 1 < i then rdl s j else if 2 * j < i then dv (byt s (2 * j)) else 0) = if 2 * j + 1 < i + 1 then rdl s j else if 2 * j < i + 1 then dv (byt s (2 * j)) else 0 := by
  rw [if_neg (by omega)] at ho
  by_cases h : j = i / 2
  · rw [if_pos h]
    by_cases h2 : 2 * (i / 2) < i
    · rw [if_pos h2] at ho
      rw [if_pos (by omega), ← ho, h]
      unfold rdl
      rw [show 2 * (i / 2) + 1 = i from by omega]
    · rw [if_neg h2] at ho
      rw [if_neg (by omega), if_pos (by omega), ← ho, show 2 * j = i from by omega]
      omega
  · rw [if_neg h]
    by_cases h2 : 2 * j + 1 < i
    · rw [if_pos h2, if_pos (by omega)]
    · rw [if_neg h2, if_neg (by omega), if_neg (by omega), if_neg (by omega)]
theorem or_nib (h v : Int) (h0 : 0 ≤ h ∧ h < 16) (v0 : 0 ≤ v ∧ v < 16) : bits .or .u8 (h * 16 % 256) v = 16 * h + v := by
  obtain ⟨a, rfl⟩ : ∃ a : Nat, h = (a : Int) := ⟨h.toNat, by omega⟩
  obtain ⟨b, rfl⟩ : ∃ a : Nat, v = (a : Int) := ⟨v.toNat, by omega⟩
  have e : (a : Int) * 16 % 256 = ((a * 16 : Nat) : Int) := by omega
  rw [e, u8_or_nat (a * 16) b (by omega) (by omega), show a * 16 = 2 ^ 4 * a by omega, ← Nat.two_pow_add_eq_or_of_lt (by omega)]
  omega

set_option maxRecDepth 100000 in
set_option maxHeartbeats 1000000 in
theorem read_core (s : ByteArray) (hs : s.size = 128) (p : Nat) (hp : p ≤ 128) (hd : ∀ j, j < p → isd (byt s j)) (hb : p < 128 → ¬ isd (byt s p)) (w : World) :
    Calls Tryd.prog 16 #[.string s] w fun e w' => ((p = 128 ∧ e = .returned (.tuple #[.agg (ints .u8 64 (rdl s)).toArray, .int .i64 0])) ∨ (p < 128 ∧ e = .returned (.tuple #[.agg (ints .u8 64 fun _ => 0).toArray, .int .i64 10]))) ∧ Below w.heap.size w w' := by
  have hz := zeroL
  obtain ⟨Z, hZ⟩ : ∃ A, (ints .u8 64 fun _ => 0).toArray = A := ⟨_, rfl⟩
  rw [hZ] at hz
  have HZ : Hid ((ints .u8 64 fun _ => 0).toArray = Z) := hZ
  go_enter Tryd.func16, Tryd.ntmps16
  go_wp2
  obtain ⟨V, hV⟩ : ∃ V, ((w.alloc (.cells Z 23)).alloc (.cells Z 23)).iter s 0 = V := ⟨_, rfl⟩
  have HI : Hid (RdI w.heap.size (w.heap.size + 1) s w 0 V) := by
    have h0 := Bk.new .u8 w 64 (fun _ => 0) 23
    have h1 := Bk.new .u8 (w.alloc (.cells Z 23)) 64 (fun _ => 0) 23
    simp only [World.size_alloc] at h1
    rw [HZ.out] at h0 h1
    have hi := World.iter_heap ((w.alloc (.cells Z 23)).alloc (.cells Z 23)) s 0
    simp only [World.size_alloc] at hi
    rw [← hV]
    refine ⟨⟨(h0.alloc _).alloc _, (h1.alloc _).congr fun j _ => by rw [if_neg (by omega), if_neg (by omega)], ?_⟩, hi⟩
    exact (((Below.refl _ w).alloc (Nat.le_refl _) _).alloc (by simp) _).alloc (by simp; omega) _
  obtain ⟨B, hB⟩ : ∃ B, w.heap.size = B := ⟨_, rfl⟩
  obtain ⟨E, hE⟩ : ∃ E, B + 1 = E := ⟨_, rfl⟩
  rw [hV]
  rw [hB, hE] at HI ⊢
  have nB : B < E := by omega
  have nE : B ≠ E := by omega
  clear hV hE hZ
  go_loopw [15] (fun _ wr => ∃ i : Nat, i ≤ p ∧ Hid (RdI B E s w i wr)) (fun _ wr => 128 - wr.iterPos (E + 1))
  case atStart => exact ⟨0, by omega, HI⟩
  case round =>
    obtain ⟨i, hi, HK⟩ := hrel
    have hpos : wr.iterPos (E + 1) = i := by simp [World.iterPos, HK.out.it]
    by_cases hlt : i < 128
    · have hnx : ∀ ty, (Instr.next (.pointer (some ⟨E + 1, 0, none⟩)) true ty).run Tryd.prog wr = .ok (.tuple #[.bool true, .int .i64 i, .int .i32 (Utf8.decode s i).1]) (wr.iterAt (E + 1) s (i + (Utf8.decode s i).2)) := fun ty => run_next_any_at (P := Tryd.prog) wr (E + 1) s i ty HK.out.it (by omega)
      by_cases hpi : i < p
      · have hdi := hd i hpi
        have hbg := by_get s i (by omega)
        have ha : (s[i]'(by omega)).toNat < 128 := by
          unfold isd at hdi; omega
        rw [decode_ascii s i (by omega) ha] at hnx
        simp only at hnx
        rw [hbg] at hnx
        obtain ⟨hI, hJ⟩ := HK.out.iter nB (i + 1)
        obtain ⟨W2, hW2⟩ : ∃ V, wr.iterAt (E + 1) s (i + 1) = V := ⟨_, rfl⟩
        rw [hW2] at hnx hI hJ
        obtain ⟨c, hc⟩ : ∃ c, byt s i = c := ⟨_, rfl⟩
        have hvl : Hid (∀ W : World, Calls Tryd.prog 26 #[.int .i32 c] W fun e w' => e = .returned (.tuple #[.int .u8 (dv c), .bool true]) ∧ w' = W) := fun W => valueOf_yes c (by rw [← hc]; exact hdi) W
        rw [hc] at hnx
        obtain ⟨v, hv⟩ : ∃ v, dv c = v := ⟨_, rfl⟩
        have hvb : 0 ≤ v ∧ v < 16 := by rw [← hv, ← hc]; exact dv_bd _ hdi
        rw [hv] at hvl
        have q0 := hI.o.cell (i / 2) (by omega)
        have q1 := hI.o.free (i / 2)
        obtain ⟨o, ho⟩ : ∃ o, (if 2 * (i / 2) + 1 < i then rdl s (i / 2) else if 2 * (i / 2) < i then dv (byt s (2 * (i / 2))) else 0) = o := ⟨_, rfl⟩
        have hob : 0 ≤ o ∧ o < 16 := by
          rw [← ho, if_neg (by omega)]
          split
          · exact dv_bd _ (hd _ (by omega))
          · omega
        have hor := or_nib o v hob hvb
        have hr : Hid (RdI B E s w (i + 1) (W2.setCell ⟨E, i / 2, none⟩ (.int .u8 (16 * o + v)))) := by
          refine ⟨(hI.set nE (by omega) (i / 2) (16 * o + v)).congr fun j _ => ?_, (Below.heap_setCell W2 ⟨E, i / 2, none⟩ _ (E + 1) (by simp)).trans hJ⟩
          rw [← hv, ← hc]
          exact rd_step s i j o ho
        have hps : (W2.setCell ⟨E, i / 2, none⟩ (.int .u8 (16 * o + v))).iterPos (E + 1) = i + 1 := by simp [World.iterPos, hr.out.it]
        rw [ho] at q0
        clear hI hJ hW2 hdi hbg ha hc hv ho HI HK hob
        go_wp2_with (go_at_call 26; refine (hvl.out _).mono ?_; rintro e w' ⟨rfl, rfl⟩)
        go_roundw
        case rel => exact ⟨i + 1, by omega, by first | exact hr | (rw [hor]; exact hr)⟩
        case measure => first | (rw [hps, hpos]; omega) | (rw [hor, hps, hpos]; omega)
      · obtain rfl : i = p := by omega
        have hbad := hb hlt
        obtain ⟨c, hc⟩ : ∃ c : Int, ((Utf8.decode s i).1 : Int) = c := ⟨_, rfl⟩
        have hnc : ¬ isd c := by
          have hbg := by_get s i (by omega)
          rw [← hc]
          by_cases ha : (s[i]'(by omega)).toNat < 128
          · rw [decode_ascii s i (by omega) ha]
            show ¬ isd (((s[i]'(by omega)).toNat : Nat) : Int)
            rw [hbg]; exact hbad
          · have := (decode_high s i (by omega) (by omega)).1
            unfold isd; omega
        obtain ⟨n, hn⟩ : ∃ n, i + (Utf8.decode s i).2 = n := ⟨_, rfl⟩
        rw [hc, hn] at hnx
        obtain ⟨hI, _⟩ := HK.out.iter nB n
        obtain ⟨W2, hW2⟩ : ∃ V, wr.iterAt (E + 1) s n = V := ⟨_, rfl⟩
        rw [hW2] at hnx hI
        have hvl : Hid (∀ W : World, Calls Tryd.prog 26 #[.int .i32 c] W fun e w' => e = .returned (.tuple #[.int .u8 0, .bool false]) ∧ w' = W) := fun W => valueOf_no c hnc W
        have ht := hI.r.there .u8 (fun _ => 0)
        have i9 : (Tryd.prog.info? 23).map (·.size) = some (ints .u8 64 fun _ => 0).length := by rw [ints_len]; exact infoL
        have hone := ints_one .u8 64 (fun _ => 0)
        have HB : Hid (Below B w W2) := hI.below
        obtain ⟨L, hL⟩ : ∃ L, (ints .u8 64 fun _ => 0) = L := ⟨_, rfl⟩
        rw [hL] at ht i9 hone
        have eZ : Z = L.toArray := by rw [← HZ.out, hL]
        have HL : Hid ((ints .u8 64 fun _ => 0) = L) := hL
        subst eZ
        clear hI hW2 HI HK hL hbad hnc hc hn
        go_wp2_with (first | (go_at_call 26; refine (hvl.out _).mono ?_; rintro e w' ⟨rfl, rfl⟩) | (refine wpList_store_mid rfl 23 _ _ rfl _ 0 L.toArray rfl rfl ht i9 hone ?_))
        have hs2 : (w'.setCells B 0 L).rangeAt B 0 L := World.rangeAt_setCells_same w' _ 0 L (by simpa using ht)
        have hld := run_loadVar_mid (P := Tryd.prog) (w'.setCells B 0 L) B 0 23 L _ hs2 Tryd.underlying23 rfl i9
        refine bodyPost_ret (v := .tuple #[.agg L.toArray, .int .i64 10]) ?_ rfl ⟨.inr ⟨hlt, by rw [HL.out]⟩, by rw [hB]; exact belows_put (Nat.le_refl _) L 0 HB.out⟩
        simp [results, Tryd.f16, asAddr, hld]
    · obtain rfl : p = 128 := by omega
      obtain rfl : i = 128 := by omega
      have hnx : ∀ ty, (Instr.next (.pointer (some ⟨E + 1, 0, none⟩)) true ty).run Tryd.prog wr = .ok (.tuple #[.bool false]) wr := fun ty => run_next_end_at (P := Tryd.prog) wr (E + 1) s 128 ty HK.out.it (by omega)
      have HE : Wk B B E (rdl s) w wr := HK.out.wk.congr fun j hj => by rw [if_pos (by omega)]
      have hr := HE.o.range
      have ht := HE.r.there .u8 (rdl s)
      have i9 : (Tryd.prog.info? 23).map (·.size) = some (ints .u8 64 (rdl s)).length := by rw [ints_len]; exact infoL
      have hone := ints_one .u8 64 (rdl s)
      have HB : Hid (Below B w wr) := HE.below
      obtain ⟨L, hL⟩ : ∃ L, ints .u8 64 (rdl s) = L := ⟨_, rfl⟩
      rw [hL] at hr ht i9 hone
      have HL : Hid (ints .u8 64 (rdl s) = L) := hL
      clear HK HE hL HI
      go_wp2_with (first | refine wpList_load_mid rfl 23 _ rfl _ 0 rfl L _ hr Tryd.underlying23 rfl i9 ?_ | refine wpList_store_mid rfl 23 _ _ rfl _ 0 L.toArray rfl rfl ht i9 hone ?_)
      have hs2 : (wr.setCells B 0 L).rangeAt B 0 L := World.rangeAt_setCells_same wr _ 0 L (by simpa using ht)
      have hld := run_loadVar_mid (P := Tryd.prog) (wr.setCells B 0 L) B 0 23 L _ hs2 Tryd.underlying23 rfl i9
      refine bodyPost_ret (v := .tuple #[.agg L.toArray, .int .i64 0]) ?_ rfl ?_
      · simp [results, Tryd.f16, asAddr, hld]
      · first | exact ⟨.inl ⟨rfl, by rw [HL.out]⟩, by rw [hB]; exact belows_put (Nat.le_refl _) L 0 HB.out⟩ | exact ⟨by rw [HL.out], belows_put (Nat.le_refl _) L 0 HB.out⟩
end Go.Proofs.YtenfjllaeehckaaDoor
