/- L8 L9, one behind the other. -/
import Derived.Test.YtgmjjhmnchefbaaGreatDoorM27
import Derived.Test.YtgmjjhmnchefbaaGreatDoorM28
set_option linter.unusedVariables false
set_option linter.unusedSimpArgs false
/- The document's own reader of patterns: the numbers of a count. -/
namespace Go.Proofs.YtgmjjhmnchefbaaGreatDoor.G
open Go.RowKit

theorem RA.step {w : World} {p r base : Nat} {t : ByteArray} {s : RS} {bad : Bool} {hv : Int} {n : Nat} (h : RA w p r base t s bad hv n) :
    RA (w.setCell ⟨p, 1, none⟩ (.int .i64 ((s.k : Int) + 1))) p r base t s.up bad hv n ∧ KS w (w.setCell ⟨p, 1, none⟩ (.int .i64 ((s.k : Int) + 1))) ∧ EB base [] w (w.setCell ⟨p, 1, none⟩ (.int .i64 ((s.k : Int) + 1))) :=
  h.setCell (s' := s.up) (bad' := bad) (hv' := hv) 1 (.int .i64 ((s.k : Int) + 1)) (by simp [RS.up]) rfl rfl
theorem RA.gives {w : World} {p r base : Nat} {t : ByteArray} {s : RS} {bad : Bool} {hv : Int} {n : Nat} (h : RA w p r base t s bad hv n) :
    RA (w.setCell ⟨p, 2, none⟩ (.bool true)) p r base t s true hv n ∧ KS w (w.setCell ⟨p, 2, none⟩ (.bool true)) ∧ EB base [] w (w.setCell ⟨p, 2, none⟩ (.bool true)) :=
  h.setCell (s' := s) (bad' := true) (hv' := hv) 2 (.bool true) rfl rfl rfl
structure Fr (w w' : World) (base : Nat) : Prop where
  ks : KS w w'
  eb : EB base [] w w'
theorem Fr.refl (w : World) (base : Nat) : Fr w w base := ⟨KS.refl _, EB.refl _ _ _⟩
theorem Fr.trans {a b c : World} {base : Nat} (h : Fr a b base) (k : Fr b c base) : Fr a c base := ⟨h.ks.trans k.ks, h.eb.trans k.eb⟩
theorem Fr.drewN (w : World) (base k : Nat) : Fr w (w.drewN k) base := ⟨fun _ _ h => h, (EB.refl _ _ _).drewN k⟩
theorem Fr.ex {w w' : World} {base : Nat} (h : Ex [] w w') (hb : base ≤ w.heap.size) : Fr w w' base := ⟨KS.ex h, EB.ofEx h hb⟩
theorem RA.up {w : World} {p r base : Nat} {t : ByteArray} {s : RS} {bad : Bool} {hv : Int} {n : Nat} (h : RA w p r base t s bad hv n) (W : World) (hW : w.setCell ⟨p, 1, none⟩ (.int .i64 ((s.k : Int) + 1)) = W) : RA W p r base t s.up bad hv n ∧ Fr w W base := by
  obtain ⟨a, b, c⟩ := h.step
  rw [hW] at a b c
  exact ⟨a, b, c⟩
theorem RA.bads {w : World} {p r base : Nat} {t : ByteArray} {s : RS} {bad : Bool} {hv : Int} {n : Nat} (h : RA w p r base t s bad hv n) (W : World) (hW : w.setCell ⟨p, 2, none⟩ (.bool true) = W) : RA W p r base t s true hv n ∧ Fr w W base := by
  obtain ⟨a, b, c⟩ := h.gives
  rw [hW] at a b c
  exact ⟨a, b, c⟩
theorem RA.up2 {w : World} {p r base : Nat} {t : ByteArray} {s : RS} {bad : Bool} {hv : Int} {n : Nat} (h : RA w p r base t s bad hv n) (W : World) {v : Int} (hW : w.setCell ⟨p, 1, none⟩ (.int .i64 v) = W) (e : v = (s.k : Int) + 1) : RA W p r base t s.up bad hv n ∧ Fr w W base := h.up W (by rw [← e]; exact hW)
theorem RA.facts {w : World} {p r base : Nat} {t : ByteArray} {s : RS} {bad : Bool} {hv : Int} {n : Nat} (h : RA w p r base t s bad hv n) :
    w.cell? ⟨p, 0, none⟩ = some (.string t) ∧ w.cell? ⟨p, 1, none⟩ = some (.int .i64 (s.k : Int)) ∧ w.cell? ⟨p, 2, none⟩ = some (.bool bad) ∧ w.frozen? ⟨p, 1, none⟩ = false ∧ w.frozen? ⟨p, 2, none⟩ = false ∧ p < w.heap.size :=
  ⟨h.rk.all.1 0, h.rk.all.1 1, h.rk.all.1 2, h.rk.all.2 1, h.rk.all.2 2, h.rk.lt⟩
theorem nextN_lt (t : ByteArray) (k : Nat) : nextN t k < 256 := by
  unfold nextN
  split
  · exact UInt8.toNat_lt _
  · decide

def digN (c : Nat) : Bool := decide (48 ≤ c ∧ c ≤ 57)
inductive TimesR (t : ByteArray) (k : Nat) : Option (Nat × Int) → Nat → Prop
  | noDig : digN (nextN t (k + 1)) = false → TimesR t k none (k + 1)
  | one : digN (nextN t (k + 1)) = true → nextN t (k + 2) = 125 → TimesR t k (some (nextN t (k + 1) - 48, ((nextN t (k + 1) - 48 : Nat) : Int))) (k + 2)
  | oneBad : digN (nextN t (k + 1)) = true → nextN t (k + 2) ≠ 44 → nextN t (k + 2) ≠ 125 → TimesR t k none (k + 2)
  | more : digN (nextN t (k + 1)) = true → nextN t (k + 2) = 44 → nextN t (k + 3) = 125 → TimesR t k (some (nextN t (k + 1) - 48, -1)) (k + 3)
  | twoBad : digN (nextN t (k + 1)) = true → nextN t (k + 2) = 44 → nextN t (k + 3) ≠ 125 → (digN (nextN t (k + 3)) = false ∨ nextN t (k + 3) < nextN t (k + 1)) → TimesR t k none (k + 3)
  | two : digN (nextN t (k + 1)) = true → nextN t (k + 2) = 44 → digN (nextN t (k + 3)) = true → nextN t (k + 1) ≤ nextN t (k + 3) → nextN t (k + 4) = 125 → TimesR t k (some (nextN t (k + 1) - 48, ((nextN t (k + 3) - 48 : Nat) : Int))) (k + 4)
  | endBad : digN (nextN t (k + 1)) = true → nextN t (k + 2) = 44 → digN (nextN t (k + 3)) = true → nextN t (k + 1) ≤ nextN t (k + 3) → nextN t (k + 4) ≠ 125 → TimesR t k none (k + 4)
def TimesPost (w : World) (p r base : Nat) (t : ByteArray) (s : RS) (hv : Int) (n : Nat) (e : Ending) (w' : World) : Prop := ∃ o k', TimesR t s.k o k' ∧ Fr w w' base ∧ match o with
  | some x => e = .returned (.tuple #[.int .i64 (x.1 : Int), .int .i64 x.2]) ∧ RA w' p r base t { s with k := k' } false hv n
  | none => (∃ a b : Int, e = .returned (.tuple #[.int .i64 a, .int .i64 b])) ∧ RA w' p r base t { s with k := k' } true hv n
set_option maxHeartbeats 8000000 in
theorem times_any {w : World} {p r base : Nat} {t : ByteArray} {s : RS} {hv : Int} {n : Nat} (h : RA w p r base t s false hv n) (ht : t.size ≤ 60) (hlt : s.k < t.size) :
    Calls Tryz.prog 72 #[.pointer (some ⟨p, 0, none⟩)] w fun e w' => TimesPost w p r base t s hv n e w' := by
  obtain ⟨k, d, f, g, nm⟩ := s
  dsimp only at hlt
  have Hw := hide h
  have Fw := hide (Fr.refl w base)
  clear h
  obtain ⟨a, ha⟩ : ∃ c, c = nextN t (k + 1) := ⟨_, rfl⟩
  have HCa := hide ha
  have a256 : a < 256 := by rw [ha]; exact nextN_lt _ _
  clear ha
  obtain ⟨b, hb⟩ : ∃ c, c = nextN t (k + 2) := ⟨_, rfl⟩
  have HCb := hide hb
  have b256 : b < 256 := by rw [hb]; exact nextN_lt _ _
  clear hb
  obtain ⟨c, hc⟩ : ∃ c, c = nextN t (k + 3) := ⟨_, rfl⟩
  have HCc := hide hc
  have c256 : c < 256 := by rw [hc]; exact nextN_lt _ _
  clear hc
  obtain ⟨x, hx⟩ : ∃ c, c = nextN t (k + 4) := ⟨_, rfl⟩
  have HCx := hide hx
  have x256 : x < 256 := by rw [hx]; exact nextN_lt _ _
  clear hx
  have c1 : w.cell? ⟨p, 1, none⟩ = some (.int .i64 ((k : Int))) := by have h9 := Hw.out.facts.2.1; simpa using h9
  have c2 := Hw.out.facts.2.2.1
  have f1 := Hw.out.facts.2.2.2.1
  have f2 := Hw.out.facts.2.2.2.2.1
  have hl := Hw.out.facts.2.2.2.2.2
  go_enter Tryz.func72, Tryz.ntmps72
  go_wp2_with fail
  generalize hw9 : World.setCell _ _ _ = w1
  have Hw1 : Hid (RA w1 p r base t ⟨k + 1, d, f, g, nm⟩ false hv n) := (Hw.out.up2 w1 hw9 (by simp)).1
  have Fw1 := hide (Fw.out.trans (Hw.out.up2 w1 hw9 (by simp)).2)
  clear hw9
  clear c1 c2 f1 f2 hl
  have KN := hide (next_any Hw1.out.rk)
  dsimp only at KN
  rw [← show a = nextN t (k + 1) from HCa.out] at KN
  refine KN.out.mono ?_
  rintro e w2 ⟨rfl, q9, hq9⟩
  have Hw2 : Hid (RA w2 p r base t ⟨k + 1, d, f, g, nm⟩ false hv n) := by rw [hq9]; exact Hw1.out.drewN q9
  have Fw2 : Hid (Fr w w2 base) := Fw1.out.trans (by rw [hq9]; exact Fr.drewN _ _ q9)
  clear hq9 KN
  have c1 : w2.cell? ⟨p, 1, none⟩ = some (.int .i64 ((k : Int) + 1)) := by have h9 := Hw2.out.facts.2.1; simpa using h9
  have c2 := Hw2.out.facts.2.2.1
  have f1 := Hw2.out.facts.2.2.2.1
  have f2 := Hw2.out.facts.2.2.2.2.1
  have hl := Hw2.out.facts.2.2.2.2.2
  by_cases ha : 48 ≤ a ∧ a ≤ 57
  · have HD : Hid (digN (nextN t (k + 1)) = true) := by show _ = _; rw [← HCa.out]; unfold digN; exact decide_eq_true ha
    have ha1 : ¬ (a : Int) < 48 := by omega
    have ha2 : ¬ (57 : Int) < (a : Int) := by omega
    obtain ⟨A, hA⟩ : ∃ A, A = a - 48 := ⟨_, rfl⟩
    have HA := hide hA
    have ha3 : IntKind.u8.wrap ((a : Int) - 48) = (A : Int) := by rw [IntKind.wrap_u8]; omega
    go_wp2_with fail
    generalize hw9 : World.setCell _ _ _ = w3
    have Hw3 : Hid (RA w3 p r base t ⟨k + 2, d, f, g, nm⟩ false hv n) := (Hw2.out.up2 w3 hw9 (by simp)).1
    have Fw3 := hide (Fw2.out.trans (Hw2.out.up2 w3 hw9 (by simp)).2)
    clear hw9
    clear c1 c2 f1 f2 hl
    have KN := hide (next_any Hw3.out.rk)
    dsimp only at KN
    rw [← show b = nextN t (k + 2) from HCb.out] at KN
    refine KN.out.mono ?_
    rintro e w4 ⟨rfl, q9, hq9⟩
    have Hw4 : Hid (RA w4 p r base t ⟨k + 2, d, f, g, nm⟩ false hv n) := by rw [hq9]; exact Hw3.out.drewN q9
    have Fw4 : Hid (Fr w w4 base) := Fw3.out.trans (by rw [hq9]; exact Fr.drewN _ _ q9)
    clear hq9 KN
    have c1 : w4.cell? ⟨p, 1, none⟩ = some (.int .i64 ((k : Int) + 2)) := by have h9 := Hw4.out.facts.2.1; simpa using h9
    have c2 := Hw4.out.facts.2.2.1
    have f1 := Hw4.out.facts.2.2.2.1
    have f2 := Hw4.out.facts.2.2.2.2.1
    have hl := Hw4.out.facts.2.2.2.2.2
    by_cases hb1 : b = 44
    · have hb44 : (((b : Nat) : Int) == 44) = true := by rw [beq_iff_eq]; omega
      go_wp2_with fail
      generalize hw9 : World.setCell _ _ _ = w5
      have Hw5 : Hid (RA w5 p r base t ⟨k + 3, d, f, g, nm⟩ false hv n) := (Hw4.out.up2 w5 hw9 (by simp)).1
      have Fw5 := hide (Fw4.out.trans (Hw4.out.up2 w5 hw9 (by simp)).2)
      clear hw9
      clear c1 c2 f1 f2 hl
      have KN := hide (next_any Hw5.out.rk)
      dsimp only at KN
      rw [← show c = nextN t (k + 3) from HCc.out] at KN
      refine KN.out.mono ?_
      rintro e w6 ⟨rfl, q9, hq9⟩
      have Hw6 : Hid (RA w6 p r base t ⟨k + 3, d, f, g, nm⟩ false hv n) := by rw [hq9]; exact Hw5.out.drewN q9
      have Fw6 : Hid (Fr w w6 base) := Fw5.out.trans (by rw [hq9]; exact Fr.drewN _ _ q9)
      clear hq9 KN
      have c1 : w6.cell? ⟨p, 1, none⟩ = some (.int .i64 ((k : Int) + 3)) := by have h9 := Hw6.out.facts.2.1; simpa using h9
      have c2 := Hw6.out.facts.2.2.1
      have f1 := Hw6.out.facts.2.2.2.1
      have f2 := Hw6.out.facts.2.2.2.2.1
      have hl := Hw6.out.facts.2.2.2.2.2
      by_cases hcq : c = 125
      · have hc125 : (((c : Nat) : Int) == 125) = true := by rw [beq_iff_eq]; omega
        go_wp2_with fail
        have KN := hide (next_any Hw6.out.rk)
        dsimp only at KN
        rw [← show c = nextN t (k + 3) from HCc.out] at KN
        refine KN.out.mono ?_
        rintro e w7 ⟨rfl, q9, hq9⟩
        have Hw7 : Hid (RA w7 p r base t ⟨k + 3, d, f, g, nm⟩ false hv n) := by rw [hq9]; exact Hw6.out.drewN q9
        have Fw7 : Hid (Fr w w7 base) := Fw6.out.trans (by rw [hq9]; exact Fr.drewN _ _ q9)
        clear hq9 KN
        clear c1 c2 f1 f2 hl
        go_wp2_with fail
        go_ret2
        have ho := TimesR.more (t := t) (k := k) HD.out (by rw [← HCb.out]; exact hb1) (by rw [← HCc.out]; exact hcq)
        rw [← show a = nextN t (k + 1) from HCa.out] at ho
        exact ⟨_, _, ho, Fw7.out, rfl, Hw7.out⟩
      · have hc125 : (((c : Nat) : Int) == 125) = false := by rw [beq_eq_false_iff_ne]; omega
        by_cases hcd : (48 ≤ c ∧ c ≤ 57) ∧ a ≤ c
        · have hc1 : ¬ (c : Int) < 48 := by omega
          have hc2 : ¬ (57 : Int) < (c : Int) := by omega
          obtain ⟨C, hC⟩ : ∃ C, C = c - 48 := ⟨_, rfl⟩
          have HCC := hide hC
          have hc3 : IntKind.u8.wrap ((c : Int) - 48) = (C : Int) := by rw [IntKind.wrap_u8]; omega
          have hc4 : ¬ (C : Int) < (A : Int) := by omega
          have HD3 : Hid (digN (nextN t (k + 3)) = true) := by show _ = _; rw [← HCc.out]; unfold digN; exact decide_eq_true hcd.1
          have HLE : Hid (nextN t (k + 1) ≤ nextN t (k + 3)) := by show _ ≤ _; rw [← HCc.out, ← HCa.out]; exact hcd.2
          go_wp2_with fail
          generalize hw9 : World.setCell _ _ _ = w7
          have Hw7 : Hid (RA w7 p r base t ⟨k + 4, d, f, g, nm⟩ false hv n) := (Hw6.out.up2 w7 hw9 (by simp)).1
          have Fw7 := hide (Fw6.out.trans (Hw6.out.up2 w7 hw9 (by simp)).2)
          clear hw9
          clear c1 c2 f1 f2 hl
          have KN := hide (next_any Hw7.out.rk)
          dsimp only at KN
          rw [← show x = nextN t (k + 4) from HCx.out] at KN
          refine KN.out.mono ?_
          rintro e w8 ⟨rfl, q9, hq9⟩
          have Hw8 : Hid (RA w8 p r base t ⟨k + 4, d, f, g, nm⟩ false hv n) := by rw [hq9]; exact Hw7.out.drewN q9
          have Fw8 : Hid (Fr w w8 base) := Fw7.out.trans (by rw [hq9]; exact Fr.drewN _ _ q9)
          clear hq9 KN
          have c1 : w8.cell? ⟨p, 1, none⟩ = some (.int .i64 ((k : Int) + 4)) := by have h9 := Hw8.out.facts.2.1; simpa using h9
          have c2 := Hw8.out.facts.2.2.1
          have f1 := Hw8.out.facts.2.2.2.1
          have f2 := Hw8.out.facts.2.2.2.2.1
          have hl := Hw8.out.facts.2.2.2.2.2
          by_cases hx2 : x = 125
          · have hx125 : (((x : Nat) : Int) == 125) = true := by rw [beq_iff_eq]; omega
            clear c1 c2 f1 f2 hl
            go_wp2_with fail
            go_ret2
            have ho := TimesR.two (t := t) (k := k) HD.out (by rw [← HCb.out]; exact hb1) HD3.out HLE.out (by rw [← HCx.out]; exact hx2)
            rw [← show a = nextN t (k + 1) from HCa.out, ← show c = nextN t (k + 3) from HCc.out] at ho
            exact ⟨_, _, ho, Fw8.out, rfl, Hw8.out⟩
          · have hx125 : (((x : Nat) : Int) == 125) = false := by rw [beq_eq_false_iff_ne]; omega
            go_wp2_with fail
            generalize hw9 : World.setCell _ _ _ = wz
            have HZ := hide (Hw8.out.bads wz hw9)
            clear hw9
            clear c1 c2 f1 f2 hl
            go_wp2_with fail
            go_ret2
            exact ⟨none, _, .endBad HD.out (by rw [← HCb.out]; exact hb1) HD3.out HLE.out (by rw [← HCx.out]; exact hx2), Fw8.out.trans HZ.out.2, ⟨_, _, rfl⟩, HZ.out.1⟩
        · by_cases hq1 : c < 48
          · have hc1 : (c : Int) < 48 := by omega
            go_wp2_with fail
            generalize hw9 : World.setCell _ _ _ = wz
            have HZ := hide (Hw6.out.bads wz hw9)
            clear hw9
            clear c1 c2 f1 f2 hl
            go_wp2_with fail
            go_ret2
            exact ⟨none, _, .twoBad HD.out (by rw [← HCb.out]; exact hb1) (by rw [← HCc.out]; exact hcq) (by rw [← HCc.out, ← HCa.out]; unfold digN; simp; omega), Fw6.out.trans HZ.out.2, ⟨_, _, rfl⟩, HZ.out.1⟩
          · by_cases hq2 : 57 < c
            · have hc1 : ¬ (c : Int) < 48 := by omega
              have hc2 : (57 : Int) < (c : Int) := by omega
              go_wp2_with fail
              generalize hw9 : World.setCell _ _ _ = wz
              have HZ := hide (Hw6.out.bads wz hw9)
              clear hw9
              clear c1 c2 f1 f2 hl
              go_wp2_with fail
              go_ret2
              exact ⟨none, _, .twoBad HD.out (by rw [← HCb.out]; exact hb1) (by rw [← HCc.out]; exact hcq) (by rw [← HCc.out, ← HCa.out]; unfold digN; simp; omega), Fw6.out.trans HZ.out.2, ⟨_, _, rfl⟩, HZ.out.1⟩
            · have hc1 : ¬ (c : Int) < 48 := by omega
              have hc2 : ¬ (57 : Int) < (c : Int) := by omega
              have hc3 : IntKind.u8.wrap ((c : Int) - 48) = ((c - 48 : Nat) : Int) := by rw [IntKind.wrap_u8]; omega
              have hc4 : ((c - 48 : Nat) : Int) < (A : Int) := by omega
              obtain ⟨C, hC⟩ : ∃ C, C = c - 48 := ⟨_, rfl⟩
              rw [← hC] at hc3 hc4
              clear hC
              go_wp2_with fail
              generalize hw9 : World.setCell _ _ _ = wz
              have HZ := hide (Hw6.out.bads wz hw9)
              clear hw9
              clear c1 c2 f1 f2 hl
              go_wp2_with fail
              go_ret2
              exact ⟨none, _, .twoBad HD.out (by rw [← HCb.out]; exact hb1) (by rw [← HCc.out]; exact hcq) (by rw [← HCc.out, ← HCa.out]; unfold digN; simp; omega), Fw6.out.trans HZ.out.2, ⟨_, _, rfl⟩, HZ.out.1⟩
    · have hb44 : (((b : Nat) : Int) == 44) = false := by rw [beq_eq_false_iff_ne]; omega
      go_wp2_with fail
      have KN := hide (next_any Hw4.out.rk)
      dsimp only at KN
      rw [← show b = nextN t (k + 2) from HCb.out] at KN
      refine KN.out.mono ?_
      rintro e w5 ⟨rfl, q9, hq9⟩
      have Hw5 : Hid (RA w5 p r base t ⟨k + 2, d, f, g, nm⟩ false hv n) := by rw [hq9]; exact Hw4.out.drewN q9
      have Fw5 : Hid (Fr w w5 base) := Fw4.out.trans (by rw [hq9]; exact Fr.drewN _ _ q9)
      clear hq9 KN
      clear c1 c2 f1 f2 hl
      have c1 : w5.cell? ⟨p, 1, none⟩ = some (.int .i64 ((k : Int) + 2)) := by have h9 := Hw5.out.facts.2.1; simpa using h9
      have c2 := Hw5.out.facts.2.2.1
      have f1 := Hw5.out.facts.2.2.2.1
      have f2 := Hw5.out.facts.2.2.2.2.1
      have hl := Hw5.out.facts.2.2.2.2.2
      by_cases hb2 : b = 125
      · have hb125 : (((b : Nat) : Int) == 125) = true := by rw [beq_iff_eq]; omega
        clear c1 c2 f1 f2 hl
        go_wp2_with fail
        go_ret2
        have ho := TimesR.one (t := t) (k := k) HD.out (by rw [← HCb.out]; exact hb2)
        rw [← show a = nextN t (k + 1) from HCa.out] at ho
        exact ⟨_, _, ho, Fw5.out, rfl, Hw5.out⟩
      · have hb125 : (((b : Nat) : Int) == 125) = false := by rw [beq_eq_false_iff_ne]; omega
        go_wp2_with fail
        generalize hw9 : World.setCell _ _ _ = wz
        have HZ := hide (Hw5.out.bads wz hw9)
        clear hw9
        clear c1 c2 f1 f2 hl
        go_wp2_with fail
        go_ret2
        exact ⟨none, _, .oneBad HD.out (by rw [← HCb.out]; exact hb1) (by rw [← HCb.out]; exact hb2), Fw5.out.trans HZ.out.2, ⟨_, _, rfl⟩, HZ.out.1⟩
  · have HD : Hid (digN (nextN t (k + 1)) = false) := by show _ = _; rw [← HCa.out]; unfold digN; exact decide_eq_false ha
    by_cases ha1 : (a : Int) < 48
    · go_wp2_with fail
      generalize hw9 : World.setCell _ _ _ = wz
      have HZ := hide (Hw2.out.bads wz hw9)
      clear hw9
      clear c1 c2 f1 f2 hl
      go_wp2_with fail
      go_ret2
      exact ⟨none, _, .noDig HD.out, Fw2.out.trans HZ.out.2, ⟨_, _, rfl⟩, HZ.out.1⟩
    · have ha2 : (57 : Int) < (a : Int) := by omega
      go_wp2_with fail
      generalize hw9 : World.setCell _ _ _ = wz
      have HZ := hide (Hw2.out.bads wz hw9)
      clear hw9
      clear c1 c2 f1 f2 hl
      go_wp2_with fail
      go_ret2
      exact ⟨none, _, .noDig HD.out, Fw2.out.trans HZ.out.2, ⟨_, _, rfl⟩, HZ.out.1⟩
end Go.Proofs.YtgmjjhmnchefbaaGreatDoor.G

/- The document's own reader of patterns: rounds; the numbers of a count, as the plain reader tells them. -/
namespace Go.Proofs.YtgmjjhmnchefbaaGreatDoor.G
open Go.RowKit

theorem sees_nx {t : ByteArray} {s : RS} {b : UInt8} (hb : b.toNat ≠ 0) : seesM t s b = decide (nextN t s.k = b.toNat) := by
  rw [sees_next]
  by_cases h : s.k < t.size
  · rw [decide_eq_true h, Bool.true_and]
  · rw [decide_eq_false h, Bool.false_and]
    have : nextN t s.k = 0 := by unfold nextN byteAt; rw [Array.getElem?_eq_none (by show t.size ≤ s.k; omega)]
    rw [this]
    exact (decide_eq_false (fun e => hb e.symm)).symm
theorem timesM_nx (t : ByteArray) (least : Nat) (s : RS) : timesM t least s = if 48 + least ≤ nextN t s.k ∧ nextN t s.k ≤ 57 then .ok (nextN t s.k - 48) s.up else .bad s := by
  unfold timesM nextN
  cases h : byteAt t s.k with
  | none => dsimp only; rw [if_neg (by omega)]
  | some b =>
    dsimp only
    by_cases hc : 48 + least ≤ b.toNat ∧ b.toNat ≤ 57
    · rw [if_neg (by omega), if_pos hc]
    · rw [if_pos (by omega), if_neg hc]
theorem times_mirror {t : ByteArray} {k d g : Nat} {f : Bool} {nm : List (ByteArray × Nat)} {o : Option (Nat × Int)} {k' : Nat} (h : TimesR t k o k') : match o with
    | some x => bracesM t ⟨k + 1, d, f, g, nm⟩ = .ok x ⟨k' + 1, d, f, g, nm⟩ ∧ nextN t k' = 125
    | none => bracesM t ⟨k + 1, d, f, g, nm⟩ = .bad ⟨k', d, f, g, nm⟩ := by
  have s125 : ∀ s : RS, seesM t s 125 = decide (nextN t s.k = 125) := fun s => sees_nx (by decide)
  have s44 : ∀ s : RS, seesM t s 44 = decide (nextN t s.k = 44) := fun s => sees_nx (by decide)
  have hz : ∀ a : Nat, 48 + 0 ≤ a ∧ a ≤ 57 ↔ 48 ≤ a ∧ a ≤ 57 := fun a => by omega
  cases h with
  | noDig h1 =>
    have hd := of_decide_eq_false h1
    simp [bracesM, timesM_nx, Res.bind, hd]
  | one h1 h2 =>
    have hd := of_decide_eq_true h1
    refine ⟨?_, h2⟩
    simp [bracesM, timesM_nx, s125, Res.bind, RS.up, hd, h2]
  | oneBad h1 h2 h3 =>
    have hd := of_decide_eq_true h1
    simp [bracesM, mustM, timesM_nx, s125, s44, Res.bind, RS.up, hd, h2, h3]
  | more h1 h2 h3 =>
    have hd := of_decide_eq_true h1
    refine ⟨?_, h3⟩
    simp [bracesM, mustM, timesM_nx, s125, s44, Res.bind, RS.up, hd, h2, h3]
  | twoBad h1 h2 h3 h4 =>
    have hd := of_decide_eq_true h1
    have h5 : ¬ (48 + (nextN t (k + 1) - 48) ≤ nextN t (k + 3) ∧ nextN t (k + 3) ≤ 57) := by
      rcases h4 with h4 | h4
      · have := of_decide_eq_false h4; omega
      · omega
    simp [bracesM, mustM, timesM_nx, s125, s44, Res.bind, RS.up, hd, h2, h3, h5]
    rw [if_neg (show ¬ (nextN t (k + 1) ≤ nextN t (k + 3) ∧ nextN t (k + 3) ≤ 57) by omega)]
  | two h1 h2 h3 h4 h5 =>
    have hd := of_decide_eq_true h1
    have hd3 := of_decide_eq_true h3
    refine ⟨?_, h5⟩
    have h6 : 48 + (nextN t (k + 1) - 48) ≤ nextN t (k + 3) ∧ nextN t (k + 3) ≤ 57 := by omega
    have h7 : nextN t (k + 3) ≠ 125 := by omega
    simp [bracesM, mustM, timesM_nx, s125, s44, Res.bind, RS.up, hd, h2, h5, h6, h7]
    rw [if_pos (show nextN t (k + 1) ≤ nextN t (k + 3) from h4)]
    dsimp only
    rw [if_pos (show nextN t (k + 4) = 125 from h5)]
  | endBad h1 h2 h3 h4 h5 =>
    have hd := of_decide_eq_true h1
    have hd3 := of_decide_eq_true h3
    have h6 : 48 + (nextN t (k + 1) - 48) ≤ nextN t (k + 3) ∧ nextN t (k + 3) ≤ 57 := by omega
    have h7 : nextN t (k + 3) ≠ 125 := by omega
    simp [bracesM, mustM, timesM_nx, s125, s44, Res.bind, RS.up, hd, h2, h5, h6, h7]
    rw [if_pos (show nextN t (k + 1) ≤ nextN t (k + 3) from h4)]
    dsimp only
    rw [if_neg (show ¬ nextN t (k + 4) = 125 from h5)]

def exprL (k a b n : Int) (z : Bool) (bs : List Bool) : List Value := [.int .i64 k, .int .i64 a, .int .i64 b, .int .i64 n, .bool z] ++ sB bs
theorem node_ex {w : World} {p r base : Nat} {t : ByteArray} {s : RS} {bad : Bool} {hv : Int} {n : Nat} (k a b m : Int) (z : Bool) (bs : List Bool) (hb : bs.length = 129) (h : RA w p r base t s bad hv n) (hn : n ≤ 100000) :
    Calls Tryz.prog 35 #[.pointer (some ⟨p, 0, none⟩), .agg (exprL k a b m z bs).toArray] w fun e w' => e = .returned (.int .i64 (n : Int)) ∧ RA w' p r base t s bad hv (n + 1) ∧ Fr w w' base := by
  refine (node_any (exprL k a b m z bs) (by simp [exprL, sB_len, hb]) (fun u hu => ?_) h hn).mono ?_
  · unfold exprL at hu
    rcases List.mem_append.1 hu with hu | hu
    · simp at hu
      rcases hu with rfl | rfl | rfl | rfl | rfl <;> rfl
    · exact sB_plain bs u hu
  · rintro e w' ⟨h1, h2, h3, h4⟩
    exact ⟨h1, h2, h3, h4⟩
set_option maxHeartbeats 8000000 in
set_option maxRecDepth 100000 in
theorem rounds_any {w : World} {p r base : Nat} {t : ByteArray} {s : RS} {bad : Bool} {hv : Int} {n : Nat} (x : Int) (le : Nat) (mo : Int) (z : Bool) (h : RA w p r base t s bad hv n) (hn : n ≤ 90000) (hle : le ≤ 9) (hmo : mo = -1 ∨ ((le : Int) ≤ mo ∧ mo ≤ 9)) :
    Calls Tryz.prog 74 #[.pointer (some ⟨p, 0, none⟩), .int .i64 x, .int .i64 (le : Int), .int .i64 mo, .bool z] w fun e w' => ∃ (y : Int) (n' : Nat), e = .returned (.int .i64 y) ∧ n' ≤ n + 30 ∧ RA w' p r base t s bad hv n' ∧ Fr w w' base := by
  have H := hide h
  clear h
  go_enter Tryz.func74, Tryz.ntmps74
  go_wp2_with fail
  refine (node_ex 1 0 0 0 false noB rfl H.out (by omega)).mono ?_
  rintro e w1 ⟨rfl, h1, fr1⟩
  have H1 := hide h1
  have F1 := hide fr1
  clear h1 fr1
  by_cases hm : mo = -1
  · subst hm
    go_wp2_with fail
    refine (node_ex 5 x 0 0 z noB rfl H1.out (by omega)).mono ?_
    rintro e w2 ⟨rfl, h2, fr2⟩
    have H2 := hide h2
    have F2 := hide (F1.out.trans fr2)
    clear h2 fr2
    have hno : ¬ (le : Int) < -1 := by omega
    go_wp2_with fail
    go_loopg [11, 12] 0 (fun gk o i wr => wr = w2 ∧ i = .int .i64 (le : Int) ∧ ∃ y : Int, o = .int .i64 y)
    case atStart => exact ⟨rfl, rfl, _, rfl⟩
    case round =>
      obtain ⟨rfl, rfl, y0, rfl⟩ := hrel
      go_wp2_with fail
      go_loopg [11, 13] le (fun gk o i wr => ∃ (j : Nat) (y : Int), j + gk = le ∧ i = .int .i64 (j : Int) ∧ o = .int .i64 y ∧ RA wr p r base t s bad hv (n + 2 + j) ∧ Fr w wr base)
      case atStart => exact ⟨0, _, by omega, rfl, rfl, H2.out, F2.out⟩
      case round =>
        obtain ⟨j, y, hj, rfl, rfl, h3, fr3⟩ := hrel
        have H3 := hide h3
        have F3 := hide fr3
        clear h3 fr3
        cases gk with
        | zero =>
          have hjl : ¬ (j : Int) < (le : Int) := by omega
          go_wp2_with fail
          go_ret
          exact ⟨⟨_, rfl⟩, n + 2 + j, by omega, H3.out, F3.out⟩
        | succ g =>
          have hjl : (j : Int) < (le : Int) := by omega
          go_wp2_with fail
          refine (node_ex 3 x y 0 false noB rfl H3.out (by omega)).mono ?_
          rintro e w4 ⟨rfl, h4, fr4⟩
          have H4 := hide h4
          have F4 := hide (F3.out.trans fr4)
          clear h4 fr4
          go_wp2_with fail
          go_roundg g
          case measure => omega
          case rel => exact ⟨j + 1, _, by omega, by simp, rfl, H4.out, F4.out⟩
  · obtain ⟨m, hmm⟩ : ∃ m : Nat, (m : Int) = mo := ⟨mo.toNat, by omega⟩
    subst hmm
    have hlem : le ≤ m ∧ m ≤ 9 := by omega
    have hneg : ¬ (m : Int) < 0 := by omega
    go_wp2_with fail
    go_loopg [11, 12] (m - le) (fun gk o i wr => ∃ (j : Nat) (y : Int), j + gk = m - le ∧ i = .int .i64 ((le + j : Nat) : Int) ∧ o = .int .i64 y ∧ RA wr p r base t s bad hv (n + 1 + 2 * j) ∧ Fr w wr base)
    case atStart => exact ⟨0, _, by omega, rfl, rfl, H1.out, F1.out⟩
    case round =>
      obtain ⟨j, y, hj, rfl, rfl, h2, fr2⟩ := hrel
      have H2 := hide h2
      have F2 := hide fr2
      clear h2 fr2
      cases gk with
      | succ g =>
        have hjl : ((le + j : Nat) : Int) < (m : Int) := by omega
        have hjl2 : (le : Int) + (j : Int) < (m : Int) := by omega
        go_wp2_with fail
        refine (node_ex 3 x y 0 false noB rfl H2.out (by omega)).mono ?_
        rintro e w3 ⟨rfl, h3, fr3⟩
        have H3 := hide h3
        have F3 := hide (F2.out.trans fr3)
        clear h3 fr3
        go_wp2_with fail
        refine (node_ex 6 _ 0 0 z noB rfl H3.out (by omega)).mono ?_
        rintro e w4 ⟨rfl, h4, fr4⟩
        have H4 := hide h4
        have F4 := hide (F3.out.trans fr4)
        clear h4 fr4
        go_wp2_with fail
        go_roundg g
        case measure => omega
        case rel => exact ⟨j + 1, _, by omega, by simp; omega, rfl, H4.out, F4.out⟩
      | zero =>
        have hjl : ¬ ((le + j : Nat) : Int) < (m : Int) := by omega
        have hjl2 : ¬ (le : Int) + (j : Int) < (m : Int) := by omega
        go_wp2_with fail
        go_loopg [11, 13] le (fun gk o i wr => ∃ (i' : Nat) (y : Int), i' + gk = le ∧ i = .int .i64 (i' : Int) ∧ o = .int .i64 y ∧ RA wr p r base t s bad hv (n + 1 + 2 * j + i') ∧ Fr w wr base)
        case atStart => exact ⟨0, _, by omega, rfl, rfl, H2.out, F2.out⟩
        case round =>
          obtain ⟨i', y', hj', rfl, rfl, h3, fr3⟩ := hrel
          have H3 := hide h3
          have F3 := hide fr3
          clear h3 fr3
          cases gk with
          | zero =>
            have hjl9 : ¬ (i' : Int) < (le : Int) := by omega
            go_wp2_with fail
            go_ret
            exact ⟨⟨_, rfl⟩, n + 1 + 2 * j + i', by omega, H3.out, F3.out⟩
          | succ g =>
            have hjl9 : (i' : Int) < (le : Int) := by omega
            go_wp2_with fail
            refine (node_ex 3 x y' 0 false noB rfl H3.out (by omega)).mono ?_
            rintro e w4 ⟨rfl, h4, fr4⟩
            have H4 := hide h4
            have F4 := hide (F3.out.trans fr4)
            clear h4 fr4
            go_wp2_with fail
            go_roundg g
            case measure => omega
            case rel => exact ⟨i' + 1, _, by omega, by simp, rfl, H4.out, F4.out⟩
end Go.Proofs.YtgmjjhmnchefbaaGreatDoor.G
