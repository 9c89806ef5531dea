/-
  A play: the program's calls, the document's chips beside.
-/
import Derived.Test.YtcpjmfemgdgplaaDrP1m
namespace Go.Proofs.Ytcpjmfemgdgplaa
open Go.RowKit Go.Shelf
open Ge (pw rt hd ix)
attribute [local go_sem] Oper.semAt_some

section
variable {W W' w0 : World} {es ls : List (Nat × List Value)} {lo B M : Nat} {r s b o d m : Int} {n : Nat} {G : Int → Nat → Int} {l1 l2 k1 k2 : Nat} {Y Z Y' Z' : Nat → Nat → Int} {E : List En} {LD : List Value} {k8 j8 : Int}
theorem Pm.up {n' : Nat} (h : Pm w0 es ls lo B M r s b o d m n G l1 Y l2 Z E k1 Y' k2 Z' LD W) (hn : n ≤ n') : Pm w0 es ls lo B M r s b o d m n' G l1 Y l2 Z E k1 Y' k2 Z' LD W := by
  obtain ⟨vb, vc, a, len, cap, a1, c1, a2, c2, h1, h2, h3, h4⟩ := h
  exact ⟨vb, vc, a, len, cap, a1, c1, a2, c2, h1, by omega, h3.mono hn, h4⟩
theorem pmWrite_no (h : Pm w0 es ls lo B M r s b o d m n G l1 Y l2 Z E k1 Y' k2 Z' LD W) (i : Int) (F : Nat → Int) (hi : hx r s b o d i = false) :
    Calls Try.prog 20 #[.pointer (some ⟨B, 0, none⟩), .int .i64 i, rawV F] W fun e w' => e = .returned (.tuple #[.agg #[.int .i64 0, .bool false], .int .i64 12]) ∧ Pm w0 es ls lo B M r s b o d m n G l1 Y l2 Z E k1 Y' k2 Z' LD w' := by
  have h0 := h
  obtain ⟨vb, vc, a, len, cap, a1, c1, a2, c2, h1, h2, h3, h4⟩ := h
  refine (dWrite_no h3.d i F hi).mono ?_
  rintro e w' ⟨rfl, hb⟩
  exact ⟨rfl, h0.next hb⟩
theorem pmRead_no (h : Pm w0 es ls lo B M r s b o d m n G l1 Y l2 Z E k1 Y' k2 Z' LD W) (i : Int) (hi : hx r s b o d i = false) :
    Calls Try.prog 21 #[.pointer (some ⟨B, 0, none⟩), .int .i64 i] W fun e w' => e = .returned (.tuple #[rawV fun _ => 0, .agg #[.int .i64 0, .bool false], .int .i64 12]) ∧ Pm w0 es ls lo B M r s b o d m n G l1 Y l2 Z E k1 Y' k2 Z' LD w' := by
  have h0 := h
  obtain ⟨vb, vc, a, len, cap, a1, c1, a2, c2, h1, h2, h3, h4⟩ := h
  refine (dRead_no h3.d i hi).mono ?_
  rintro e w' ⟨rfl, hb⟩
  exact ⟨rfl, h0.next hb⟩
theorem pmLook_no (h : Pm w0 es ls lo B M r s b o d m n G l1 Y l2 Z E k1 Y' k2 Z' LD W) (i : Int) (hi : hx r s b o d i = false) :
    Calls Try.prog 17 #[.pointer (some ⟨B, 0, none⟩), .int .i64 i] W fun e w' => e = .returned (.tuple #[rawV fun _ => 0, .int .i64 12]) ∧ Pm w0 es ls lo B M r s b o d m n G l1 Y l2 Z E k1 Y' k2 Z' LD w' := by
  have h0 := h
  obtain ⟨vb, vc, a, len, cap, a1, c1, a2, c2, h1, h2, h3, h4⟩ := h
  refine (dLook_no h3.d i hi).mono ?_
  rintro e w' ⟨rfl, hb⟩
  exact ⟨rfl, h0.next hb⟩
theorem pmLook (h : Pm w0 es ls lo B M r s b o d m n G l1 Y l2 Z E k1 Y' k2 Z' LD W) (hm : Md m k8 j8) (i : Int) (hi64 : I64 i) (hi : hx r s b o d i = true) :
    Calls Try.prog 17 #[.pointer (some ⟨B, 0, none⟩), .int .i64 i] W fun e w' => e = .returned (.tuple #[rawV (ovF k8 Y (i / 1048576) (i / 65536 % 16) (i / 64 % 1024) (i % 64) (G i) l1), .int .i64 0]) ∧ Pm w0 es ls lo B M r s b o d m n G l1 Y l2 Z E k1 Y' k2 Z' LD w' := by
  have h0 := h
  obtain ⟨vb, vc, a, len, cap, a1, c1, a2, c2, h1, h2, h3, h4⟩ := h
  refine (dLook_yes h3.d hm i hi64 hi).mono ?_
  rintro e w' ⟨rfl, hb⟩
  exact ⟨rfl, h0.next hb⟩
theorem pmGeom (h : Pm w0 es ls lo B M r s b o d m n G l1 Y l2 Z E k1 Y' k2 Z' LD W)  :
    Calls Try.prog 14 #[.pointer (some ⟨B, 0, none⟩)] W fun e w' => e = .returned (.agg #[.int .i64 r, .int .i64 s, .int .i64 b, .int .i64 o, .int .i64 d]) ∧ Pm w0 es ls lo B M r s b o d m n G l1 Y l2 Z E k1 Y' k2 Z' LD w' := by
  have h0 := h
  obtain ⟨vb, vc, a, len, cap, a1, c1, a2, c2, h1, h2, h3, h4⟩ := h
  refine (dGeom_any h3.d).mono ?_
  rintro e w' ⟨rfl, hb⟩
  exact ⟨rfl, h0.next hb⟩
theorem pmMode (h : Pm w0 es ls lo B M r s b o d m n G l1 Y l2 Z E k1 Y' k2 Z' LD W)  :
    Calls Try.prog 15 #[.pointer (some ⟨B, 0, none⟩)] W fun e w' => e = .returned (.int .i64 m) ∧ Pm w0 es ls lo B M r s b o d m n G l1 Y l2 Z E k1 Y' k2 Z' LD w' := by
  have h0 := h
  obtain ⟨vb, vc, a, len, cap, a1, c1, a2, c2, h1, h2, h3, h4⟩ := h
  refine (dMode_any h3.d).mono ?_
  rintro e w' ⟨rfl, hb⟩
  exact ⟨rfl, h0.next hb⟩
theorem pmWrite (h : Pm w0 es ls lo B M r s b o d m n G l1 Y l2 Z E k1 Y' k2 Z' LD W) (i : Int) (F : Nat → Int) (hF : Byts 72 F) (hn : n < 1000000) (hi : hx r s b o d i = true) :
    Calls Try.prog 20 #[.pointer (some ⟨B, 0, none⟩), .int .i64 i, rawV F] W fun e w' => e = .returned (.tuple #[.agg #[.int .i64 (wI l2 Z i), .bool (wD l2 Z)], .int .i64 0]) ∧ Pm w0 es ls lo B M r s b o d m (n + 1) (if wD l2 Z = true then G else gput G (wI l2 Z i) F) l1 Y (l2 - 1) (tlZ Z) E k1 Y' k2 Z' LD w' := by
  obtain ⟨vb, vc, a, len, cap, a1, c1, a2, c2, h1, h2, h3, h4⟩ := h
  refine (dWrite_any h3.d i F hF hn hi).mono ?_
  rintro e w' ⟨rfl, vc', t1, t2, t3⟩
  have k : Mo lo B M vb vc vb vc' W w' := ⟨fun g hg => .inl ((own_eq t2 g).1 hg), t3⟩
  exact ⟨rfl, vb, vc', a, len, cap, a1, c1, a2, c2, h1, by omega, h3.mo t1 k, h4.mo k⟩
theorem pmRead (h : Pm w0 es ls lo B M r s b o d m n G l1 Y l2 Z E k1 Y' k2 Z' LD W) (hm : Md m k8 j8) (i : Int) (hi : hx r s b o d i = true) :
    Calls Try.prog 21 #[.pointer (some ⟨B, 0, none⟩), .int .i64 i] W fun e w' => e = .returned (.tuple #[rawV (if wD l2 Z = true then (fun _ => 0) else ovF k8 Y (wI l2 Z i / 1048576) (wI l2 Z i / 65536 % 16) (wI l2 Z i / 64 % 1024) (wI l2 Z i % 64) (G (wI l2 Z i)) l1), .agg #[.int .i64 (wI l2 Z i), .bool (wD l2 Z)], .int .i64 0]) ∧ Pm w0 es ls lo B M r s b o d m n G l1 Y (l2 - 1) (tlZ Z) E k1 Y' k2 Z' LD w' := by
  obtain ⟨vb, vc, a, len, cap, a1, c1, a2, c2, h1, h2, h3, h4⟩ := h
  refine (dRead_any h3.d hm i hi).mono ?_
  rintro e w' ⟨rfl, vc', t1, t2, t3⟩
  have k : Mo lo B M vb vc vb vc' W w' := ⟨fun g hg => .inl ((own_eq t2 g).1 hg), t3⟩
  exact ⟨rfl, vb, vc', a, len, cap, a1, c1, a2, c2, h1, by omega, h3.mo t1 k, h4.mo k⟩
theorem pmFaults (h : Pm w0 es ls lo B M r s b o d m n G l1 Y l2 Z E k1 Y' k2 Z' LD W) :
    Calls Try.prog 12 #[.pointer (some ⟨B, 0, none⟩)] W fun e w' => ∃ a c, e = .returned (.slice a l1 c) ∧ Fs w' a l1 c Y ∧ Below W.heap.size W w' ∧ Pm w0 es ls lo B M r s b o d m n G l1 Y l2 Z E k1 Y' k2 Z' LD w' := by
  have h0 := h
  obtain ⟨vb, vc, a, len, cap, a1, c1, a2, c2, h1, h2, h3, h4⟩ := h
  refine (dFaults_any h3.d).mono ?_
  rintro e w' ⟨x, y, rfl, hf, hb⟩
  exact ⟨x, y, rfl, hf, hb, h0.next hb⟩
theorem pmComing (h : Pm w0 es ls lo B M r s b o d m n G l1 Y l2 Z E k1 Y' k2 Z' LD W) :
    Calls Try.prog 13 #[.pointer (some ⟨B, 0, none⟩)] W fun e w' => ∃ a c, e = .returned (.slice a l2 c) ∧ Fs w' a l2 c Z ∧ Below W.heap.size W w' ∧ Pm w0 es ls lo B M r s b o d m n G l1 Y l2 Z E k1 Y' k2 Z' LD w' := by
  have h0 := h
  obtain ⟨vb, vc, a, len, cap, a1, c1, a2, c2, h1, h2, h3, h4⟩ := h
  refine (dComing_any h3.d).mono ?_
  rintro e w' ⟨x, y, rfl, hf, hb⟩
  exact ⟨x, y, rfl, hf, hb, h0.next hb⟩
theorem Pm.wihx (h : Pm w0 es ls lo B M r s b o d m n G l1 Y l2 Z E k1 Y' k2 Z' LD W) {i : Int} (hi : hx r s b o d i = true) : hx r s b o d (wI l2 Z i) = true := by
  obtain ⟨vb, vc, a, len, cap, a1, c1, a2, c2, h1, h2, h3, h4⟩ := h
  exact wI_hx h3.d hi
theorem Pm.okc (h : Pm w0 es ls lo B M r s b o d m n G l1 Y l2 Z E k1 Y' k2 Z' LD W) : Okc r s b o d l2 Z := by
  obtain ⟨vb, vc, a, len, cap, a1, c1, a2, c2, h1, h2, h3, h4⟩ := h
  exact h3.d.ok
theorem Pm.le (h : Pm w0 es ls lo B M r s b o d m n G l1 Y l2 Z E k1 Y' k2 Z' LD W) : l1 ≤ 256 ∧ l2 ≤ 256 := by
  obtain ⟨vb, vc, a, len, cap, a1, c1, a2, c2, h1, h2, h3, h4⟩ := h
  exact h3.d.le
theorem Pm.layA (h : Pm w0 es ls lo B M r s b o d m n G l1 Y l2 Z E k1 Y' k2 Z' LD W) (L L0 : List Value) (t : TypeId) (hl : L.length = L0.length) : Pm w0 es ((W.heap.size, L) :: ls) lo B M r s b o d m n G l1 Y l2 Z E k1 Y' k2 Z' LD ((W.alloc (.cells L0.toArray t)).setCells W.heap.size 0 L) ∧ (W.alloc (.cells L0.toArray t)).there W.heap.size 0 L.toArray.size :=
  (h.lay L0 t).put h.lo_le.1 (fun x hx => by have := (h.cl x hx).lt; omega) hl
theorem Pm.layRW (h : Pm w0 es ls lo B M r s b o d m n G l1 Y l2 Z E k1 Y' k2 Z' LD W) (L L0 : List Value) (tR tW : TypeId) (i : Int) (t : Bool) (hl : L.length = L0.length) :
    Pm w0 es ((W.heap.size + 1, [.int .i64 i, .bool t]) :: (W.heap.size, L) :: ls) lo B M r s b o d m n G l1 Y l2 Z E k1 Y' k2 Z' LD ((((W.alloc (.cells L0.toArray tR)).alloc (.cells #[.int .i64 0, .bool false] tW)).setCells W.heap.size 0 L).setCells (W.heap.size + 1) 0 [.int .i64 i, .bool t]) ∧
    ((W.alloc (.cells L0.toArray tR)).alloc (.cells #[.int .i64 0, .bool false] tW)).there W.heap.size 0 L.toArray.size ∧ (((W.alloc (.cells L0.toArray tR)).alloc (.cells #[.int .i64 0, .bool false] tW)).setCells W.heap.size 0 L).there (W.heap.size + 1) 0 2 := by
  have hlo := h.lo_le.1
  have hlt : ∀ x ∈ ls, x.1 < W.heap.size := fun x hx => (h.cl x hx).lt
  have h2 := (h.lay L0 tR).lay [.int .i64 0, .bool false] tW
  rw [World.size_alloc] at h2
  obtain ⟨h3, t3⟩ := (h2.sub (ls' := (W.heap.size, L0) :: (W.heap.size + 1, [.int .i64 0, .bool false]) :: ls) fun x hx => by
    simp only [List.mem_cons] at hx ⊢
    rcases hx with h | h | h
    · exact .inr (.inl h)
    · exact .inl h
    · exact .inr (.inr h)).put hlo (fun x hx => by
    rcases List.mem_cons.1 hx with rfl | hx
    · simp
    · have := hlt x hx; omega) hl
  obtain ⟨h5, t5⟩ := (h3.sub (ls' := (W.heap.size + 1, [.int .i64 0, .bool false]) :: (W.heap.size, L) :: ls) fun x hx => by
    simp only [List.mem_cons] at hx ⊢
    rcases hx with h | h | h
    · exact .inr (.inl h)
    · exact .inl h
    · exact .inr (.inr h)).put (L := [.int .i64 i, .bool t]) (by omega) (fun x hx => by
    rcases List.mem_cons.1 hx with rfl | hx
    · simp
    · have := hlt x hx; omega) rfl
  exact ⟨h5, t3, t5⟩
theorem Pq.layA (h : Pq w0 es ls lo B M r s b o d m n LD W) (L L0 : List Value) (t : TypeId) (hl : L.length = L0.length) : Pq w0 es ((W.heap.size, L) :: ls) lo B M r s b o d m n LD ((W.alloc (.cells L0.toArray t)).setCells W.heap.size 0 L) ∧ (W.alloc (.cells L0.toArray t)).there W.heap.size 0 L.toArray.size := by
  obtain ⟨l1, Y, l2, Z, E, h⟩ := h
  obtain ⟨h1, h2⟩ := h.layA L L0 t hl
  exact ⟨⟨l1, Y, l2, Z, E, h1⟩, h2⟩
/-- three boxes of a step : the one behind has other cells -/
theorem Pm.put3 {A A1 A2 : Nat} {X O L0 L : List Value} (h : Pm w0 es ((A2, X) :: (A1, O) :: (A, L0) :: ls) lo B M r s b o d m n G l1 Y l2 Z E k1 Y' k2 Z' LD W) (h1 : A + 1 = A1) (h2 : A1 + 1 = A2) (hls : ∀ x ∈ ls, x.1 < A) (hlo : lo ≤ A) (hl : L.length = X.length) : Pm w0 es ((A2, L) :: (A1, O) :: (A, L0) :: ls) lo B M r s b o d m n G l1 Y l2 Z E k1 Y' k2 Z' LD (W.setCells A2 0 L) ∧ W.there A2 0 L.toArray.size :=
  h.put (by omega) (fun x hx => by
    simp only [List.mem_cons] at hx
    rcases hx with rfl | rfl | hx
    · show A1 ≠ A2; omega
    · show A ≠ A2; omega
    · have := hls x hx; omega) hl
theorem Pq.put3 {A A1 A2 : Nat} {X O L0 L : List Value} (h : Pq w0 es ((A2, X) :: (A1, O) :: (A, L0) :: ls) lo B M r s b o d m n LD W) (h1 : A + 1 = A1) (h2 : A1 + 1 = A2) (hls : ∀ x ∈ ls, x.1 < A) (hlo : lo ≤ A) (hl : L.length = X.length) : Pq w0 es ((A2, L) :: (A1, O) :: (A, L0) :: ls) lo B M r s b o d m n LD (W.setCells A2 0 L) ∧ W.there A2 0 L.toArray.size := by
  obtain ⟨l1, Y, l2, Z, E, h⟩ := h
  obtain ⟨g1, g2⟩ := h.put3 h1 h2 hls hlo hl
  exact ⟨⟨l1, Y, l2, Z, E, g1⟩, g2⟩
end
end Go.Proofs.Ytcpjmfemgdgplaa
