/- Contracts of the pattern reader: a byte that stands for itself, bare or behind a backslash. -/
import Derived.Test.YtmeffeigamaipabGreatDoorM37
set_option linter.unusedVariables false
set_option linter.unusedSimpArgs false
namespace Go.Proofs.YtmeffeigamaipabGreatDoor.Rx.Q
open Go.RowKit

def specL : List UInt8 := [92, 46, 43, 42, 63, 40, 41, 124, 91, 93, 123, 125, 94, 36]
def escL : List UInt8 := [92, 46, 43, 42, 63, 40, 41, 124, 91, 93, 123, 125, 94, 36, 45, 34]

/-- What a single rune is read as. -/
def sing (f : Bool) (c : Cls) : Cls := if f then bothC c else c
def partV (c : Cls) : Value := .agg #[.int .i64 0, .slice none 0 0, .int .u64 c.lo, .int .u64 c.hi, .bool c.hg, .int .i64 0, .int .i64 0, .int .i64 0, .bool false]

set_option maxHeartbeats 1000000 in
set_option maxRecDepth 100000 in
theorem singleOf_any (r : Nat) (t : ByteArray) (k : Nat) (mv : Rest) (c : Cls) (w : World) (hr : RD w r t k mv) :
    Calls Tryz.prog 182 #[.pointer (some ⟨r, 0, none⟩), clsV c] w fun e w' => e = .returned (partV (sing mv.f c)) ∧ Ex [] w w' := by
  have h3 := hr.c3
  have hlt := hr.lt
  have KB := hide (fun w => bothCases_any c w)
  clear hr
  unfold clsV sing
  obtain ⟨d, f, g, m⟩ := mv
  simp only at h3
  cases f with
  | false =>
    go_enter Tryz.func182, Tryz.ntmps182
    go_wp2_with fail
    refine bodyPost_ret (v := partV c) (by simp [results, Tryz.results182, go_sem, partV]) rfl ⟨by simp, ?_⟩
    repeat (first | exact Ex.refl _ _ | refine Ex.setCell ?_ (Or.inr (by simp)) _ | refine Ex.alloc ?_ _)
  | true =>
    obtain ⟨b, hb⟩ : ∃ b, bothC c = b := ⟨_, rfl⟩
    rw [hb] at KB ⊢
    go_enter Tryz.func182, Tryz.ntmps182
    go_wp2_with fail
    refine (KB.out _).mono ?_
    rintro e w1 ⟨rfl, hx1⟩
    have hB0 := BK.ex ((BK.new w (Obj.cells #[.int .u64 c.lo, .int .u64 c.hi, .bool c.hg] 141)).alloc (Obj.cells #[.int .i64 0, .slice none 0 0, .int .u64 0, .int .u64 0, .bool false, .int .i64 0, .int .i64 0, .int .i64 0, .bool false] 143)) hx1 (by simp)
    have hB1 := BK.ex (BK.new (w.alloc (Obj.cells #[.int .u64 c.lo, .int .u64 c.hi, .bool c.hg] 141)) (Obj.cells #[.int .i64 0, .slice none 0 0, .int .u64 0, .int .u64 0, .bool false, .int .i64 0, .int .i64 0, .int .i64 0, .bool false] 143)) hx1 (by simp)
    simp only [World.size_alloc] at hB1
    obtain ⟨hc0, hf0⟩ := hB0.all
    obtain ⟨hc1, hf1⟩ := hB1.all
    have hl0 := hB0.lt
    have hl1 := hB1.lt
    have HX1 := hide hx1
    clear hB0 hB1 hx1
    unfold clsV
    go_wp2_with fail
    refine bodyPost_ret (v := partV b) (by simp [results, Tryz.results182, go_sem, partV, hc1, hl1]) rfl ⟨by simp, ?_⟩
    repeat (refine Ex.setCell ?_ (Or.inr (by simp)) _)
    exact (((Ex.refl _ _).alloc _).alloc _).trans HX1.out

theorem spec_no : ∀ b : Fin 128, (b.val.toUInt8 ∉ specL) → Lib.indexByte specL b.val.toUInt8 = -1 := by decide +kernel
theorem esc_yes : ∀ b : Fin 128, (b.val.toUInt8 ∈ escL) → 0 ≤ Lib.indexByte escL b.val.toUInt8 := by decide +kernel

set_option maxHeartbeats 1000000 in
set_option maxRecDepth 100000 in
theorem plain_yes (r : Nat) (t : ByteArray) (k : Nat) (mv : Rest) (w : World) (hr : RD w r t k mv) (hk : k < t.size) (ht : t.size ≤ 60) (hb : (t[k]'hk).toNat < 128) (hn : (t[k]'hk) ∉ specL) :
    Calls Tryz.prog 183 #[.pointer (some ⟨r, 0, none⟩), .string ⟨#[92, 46, 43, 42, 63, 40, 41, 124, 91, 93, 123, 125, 94, 36]⟩] w fun e w' => e = .returned (.int .u8 ((t[k]'hk).toNat : Int)) ∧ RD w' r t (k + 1) mv ∧ Ex [r] w w' := by
  have HR := hide hr
  have h1 := hr.c1
  have hf1 := hr.f1
  have hlt := hr.lt
  have hix : Lib.indexByte specL (t[k]'hk) = -1 := by
    have h2 := spec_no ⟨(t[k]'hk).toNat, hb⟩
    simp at h2
    exact h2 hn
  clear hr
  obtain ⟨b, hbb⟩ : ∃ b, (t[k]'hk) = b := ⟨_, rfl⟩
  have HBB := hide hbb
  rw [hbb] at hb hn hix ⊢
  have hix2 : Lib.indexByte [92, 46, 43, 42, 63, 40, 41, 124, 91, 93, 123, 125, 94, 36] b = -1 := hix
  clear hbb
  go_enter Tryz.func183, Tryz.ntmps183
  go_wp2_with fail
  refine (look_any r t k mv _ HR.out hk ht).mono ?_
  rintro e w1 ⟨rfl, n1, rfl⟩
  rw [HBB.out]
  go_wp2_with fail
  refine (Tryz.strings_IndexByte _ _ _).mono ?_
  rintro e w2 ⟨rfl, rfl⟩
  simp only [Int.toNat_natCast, UInt8.ofNat_toNat, hix2]
  go_wp2_with fail
  go_ret
  refine ⟨rfl, ?_, ?_⟩
  · have := (HR.out.drew n1).step
    simpa using this
  · exact ((Ex.refl _ _).drewN _).setCell (Or.inl (by simp)) _

set_option maxHeartbeats 1000000 in
set_option maxRecDepth 100000 in
theorem escape_yes (r : Nat) (t : ByteArray) (k : Nat) (mv : Rest) (w : World) (hr : RD w r t k mv) (hk : k < t.size) (ht : t.size ≤ 60) (hb : (t[k]'hk).toNat < 128) (hn : (t[k]'hk) ∈ escL) :
    Calls Tryz.prog 181 #[.pointer (some ⟨r, 0, none⟩)] w fun e w' => e = .returned (.tuple #[clsV (oneC (t[k]'hk).toNat), .int .u8 ((t[k]'hk).toNat : Int), .bool true]) ∧ RD w' r t (k + 1) mv ∧ Ex [r] w w' := by
  have HR := hide hr
  have h1 := hr.c1
  have hf1 := hr.f1
  have hlt := hr.lt
  have hix : 0 ≤ Lib.indexByte escL (t[k]'hk) := by
    have h2 := esc_yes ⟨(t[k]'hk).toNat, hb⟩
    simp at h2
    exact h2 hn
  clear hr
  obtain ⟨b, hbb⟩ : ∃ b, (t[k]'hk) = b := ⟨_, rfl⟩
  have HBB := hide hbb
  rw [hbb] at hb hn hix ⊢
  obtain ⟨ix, hix2⟩ : ∃ ix, Lib.indexByte [92, 46, 43, 42, 63, 40, 41, 124, 91, 93, 123, 125, 94, 36, 45, 34] b = ix := ⟨_, rfl⟩
  have hix3 : 0 ≤ ix := by rw [← hix2]; exact hix
  clear hbb hix
  have KB := hide (fun w => between_one b.toNat w hb)
  obtain ⟨c, hc⟩ : ∃ c, oneC b.toNat = c := ⟨_, rfl⟩
  rw [hc] at KB ⊢
  clear hc
  go_enter Tryz.func181, Tryz.ntmps181
  go_wp2_with fail
  refine (look_any r t k mv _ (HR.out.alloc _) hk ht).mono ?_
  rintro e w1 ⟨rfl, n1, rfl⟩
  rw [HBB.out]
  go_wp2_with fail
  refine (Tryz.strings_IndexByte _ _ _).mono ?_
  rintro e w2 ⟨rfl, rfl⟩
  simp only [Int.toNat_natCast, UInt8.ofNat_toNat, hix2]
  go_wp2_with fail
  refine (KB.out _).mono ?_
  rintro e w2 ⟨rfl, hx2⟩
  have hA := BK.ex (BK.set ((BK.new w (Obj.cells #[.int .u64 0, .int .u64 0, .bool false] 141)).drewN n1) (p := ⟨r, 1, none⟩) (by simp; omega) (.int .i64 ((k : Int) + 1))) hx2 (by simp)
  have hR2 : RD w2 r t (k + 1) mv := by
    have h3 := ((HR.out.alloc (Obj.cells #[.int .u64 0, .int .u64 0, .bool false] 141)).drew n1).step
    simp only [Int.natCast_add, Int.natCast_one] at h3
    exact h3.ex hx2 (by simp)
  have hX2 : Ex [r] w w2 := ((((Ex.refl [r] w).alloc _).drewN _).setCell (Or.inl (by simp)) _).trans (hx2.drop (by simp))
  obtain ⟨hcA, hfA⟩ := hA.all
  have hlA := hA.lt
  have HR2 := hide hR2
  have HX2 := hide hX2
  clear hA hR2 hX2 hx2
  unfold clsV
  go_wp2_with fail
  refine bodyPost_ret (v := .tuple #[clsV c, .int .u8 b.toNat, .bool true]) (by simp [results, Tryz.results181, go_sem, clsV, hcA, hlA]) rfl ⟨rfl, ?_, ?_⟩
  · repeat (refine RD.set ?_ (by simp; omega) _)
    exact HR2.out
  · repeat (refine Ex.setCell ?_ (Or.inr (by simp)) _)
    exact HX2.out

theorem not_in_spec {b : UInt8} (h : b ∉ specL) : b ≠ 92 ∧ b ≠ 46 ∧ b ≠ 43 ∧ b ≠ 42 ∧ b ≠ 63 ∧ b ≠ 40 ∧ b ≠ 41 ∧ b ≠ 124 ∧ b ≠ 91 ∧ b ≠ 93 ∧ b ≠ 123 ∧ b ≠ 125 ∧ b ≠ 94 ∧ b ≠ 36 := by
  simpa [specL] using h
theorem byte_ne {b : UInt8} (n : Nat) (h : b ≠ n.toUInt8) (hn : n < 256) : ((b.toNat : Int) == (n : Int)) = false := by
  rw [beq_eq_false_iff_ne]
  intro e
  apply h
  have e2 : b.toNat = n := by omega
  rw [← e2]; simp

set_option maxHeartbeats 1000000 in
set_option maxRecDepth 100000 in
theorem atom_plain (r : Nat) (t : ByteArray) (k : Nat) (mv : Rest) (w : World) (hr : RD w r t k mv) (hk : k < t.size) (ht : t.size ≤ 60) (hb : (t[k]'hk).toNat < 128) (hn : (t[k]'hk) ∉ specL) :
    Calls Tryz.prog 168 #[.pointer (some ⟨r, 0, none⟩)] w fun e w' => e = .returned (partV (sing mv.f (oneC (t[k]'hk).toNat))) ∧ RD w' r t (k + 1) mv ∧ Ex [r] w w' := by
  have HR := hide hr
  have hlt := hr.lt
  have KP := hide (fun w hr => plain_yes r t k mv w hr hk ht hb hn)
  obtain ⟨b, hbb⟩ : ∃ b, (t[k]'hk) = b := ⟨_, rfl⟩
  have HBB := hide hbb
  rw [hbb] at hb hn KP ⊢
  clear hbb hr
  obtain ⟨n1, n2, n3, n4, n5, n6, n7, n8, n9, n10, n11, n12, n13, n14⟩ := not_in_spec hn
  have e40 := byte_ne 40 n6 (by decide)
  have e91 := byte_ne 91 n9 (by decide)
  have e46 := byte_ne 46 n2 (by decide)
  have e92 := byte_ne 92 n1 (by decide)
  simp only [Int.cast_ofNat_Int] at e40 e91 e46 e92
  have KB := hide (fun w => between_one b.toNat w hb)
  obtain ⟨c, hc⟩ : ∃ c, oneC b.toNat = c := ⟨_, rfl⟩
  rw [hc] at KB ⊢
  clear hc n1 n2 n3 n4 n5 n6 n7 n8 n9 n10 n11 n12 n13 n14 hn
  go_enter Tryz.func168, Tryz.ntmps168
  go_wp2_with fail
  refine (look_any r t k mv _ (HR.out.alloc _) hk ht).mono ?_
  rintro e w1 ⟨rfl, n1, rfl⟩
  rw [HBB.out]
  go_wp2_with fail
  refine (KP.out _ ((HR.out.alloc _).drew _)).mono ?_
  rintro e w2 ⟨rfl, hr2, hx2⟩
  have hx02 : Ex [r] w w2 := (((Ex.refl [r] w).alloc _).drewN _).trans hx2
  have hA2 := BK.ex ((BK.new w (Obj.cells #[.int .i64 0, .slice none 0 0, .int .u64 0, .int .u64 0, .bool false, .int .i64 0, .int .i64 0, .int .i64 0, .bool false] 143)).drewN n1) hx2 (by simp; omega)
  have HR2 := hide hr2
  have HX2 := hide hx02
  have HA2 := hide hA2
  clear hr2 hx2 hx02 hA2
  go_wp2_with fail
  refine (KB.out _).mono ?_
  rintro e w3 ⟨rfl, hx3⟩
  have HR3 := hide (HR2.out.ex hx3 (by simp))
  have HX3 := hide (HX2.out.trans (hx3.drop (by simp)))
  have HA3 := hide (HA2.out.ex hx3 (by simp))
  clear hx3
  unfold clsV
  go_wp2_with fail
  refine (singleOf_any r t (k + 1) mv c _ HR3.out).mono ?_
  rintro e w4 ⟨rfl, hx4⟩
  have HR4 := hide (HR3.out.ex hx4 (by simp))
  have HX4 := hide (HX3.out.trans (hx4.drop (by simp)))
  obtain ⟨hcA, hfA⟩ := (HA3.out.ex hx4 (by simp)).all
  have hlA := (HA3.out.ex hx4 (by simp)).lt
  obtain ⟨d, hd⟩ : ∃ d, sing mv.f c = d := ⟨_, rfl⟩
  rw [hd]
  have HDD := hide hd
  clear hx4 hd
  unfold partV
  go_wp2_with fail
  refine bodyPost_ret (v := partV d) (by simp [results, Tryz.results168, go_sem, partV, hcA, hlA]) rfl ⟨by rw [HDD.out], ?_, ?_⟩
  · repeat (refine RD.set ?_ (by simp; omega) _)
    exact HR4.out
  · repeat (refine Ex.setCell ?_ (Or.inr (by simp)) _)
    exact HX4.out

set_option maxHeartbeats 1000000 in
set_option maxRecDepth 100000 in
theorem atom_esc (r : Nat) (t : ByteArray) (k : Nat) (mv : Rest) (w : World) (hr : RD w r t k mv) (hk : k + 1 < t.size) (ht : t.size ≤ 60) (h92 : (t[k]'(by omega)) = 92) (hb : (t[k + 1]'hk).toNat < 128) (hn : (t[k + 1]'hk) ∈ escL) :
    Calls Tryz.prog 168 #[.pointer (some ⟨r, 0, none⟩)] w fun e w' => e = .returned (partV (sing mv.f (oneC (t[k + 1]'hk).toNat))) ∧ RD w' r t (k + 2) mv ∧ Ex [r] w w' := by
  have HR := hide hr
  have hlt := hr.lt
  have h1 := hr.c1
  have hf1 := hr.f1
  have KP := hide (fun w hr => escape_yes r t (k + 1) mv w hr hk ht hb hn)
  have HBB := hide h92
  obtain ⟨c, hc⟩ : ∃ c, oneC (t[k + 1]'hk).toNat = c := ⟨_, rfl⟩
  rw [hc] at KP ⊢
  clear hc hr hn hb h92
  go_enter Tryz.func168, Tryz.ntmps168
  go_wp2_with fail
  refine (look_any r t k mv _ (HR.out.alloc _) (by omega) ht).mono ?_
  rintro e w1 ⟨rfl, n1, rfl⟩
  rw [HBB.out]
  go_wp2_with fail
  have hr1 : RD (World.setCell ((w.alloc (Obj.cells #[.int .i64 0, .slice none 0 0, .int .u64 0, .int .u64 0, .bool false, .int .i64 0, .int .i64 0, .int .i64 0, .bool false] 143)).drewN n1) ⟨r, 1, none⟩ (.int .i64 ((k : Int) + 1))) r t (k + 1) mv := by
    have h3 := ((HR.out.alloc (Obj.cells #[.int .i64 0, .slice none 0 0, .int .u64 0, .int .u64 0, .bool false, .int .i64 0, .int .i64 0, .int .i64 0, .bool false] 143)).drew n1).step
    simpa using h3
  refine (KP.out _ hr1).mono ?_
  rintro e w2 ⟨rfl, hr2, hx2⟩
  have hx02 : Ex [r] w w2 := ((((Ex.refl [r] w).alloc _).drewN _).setCell (Or.inl (by simp)) _).trans hx2
  have hA2 := BK.ex (BK.set ((BK.new w (Obj.cells #[.int .i64 0, .slice none 0 0, .int .u64 0, .int .u64 0, .bool false, .int .i64 0, .int .i64 0, .int .i64 0, .bool false] 143)).drewN n1) (p := ⟨r, 1, none⟩) (by simp; omega) (.int .i64 ((k : Int) + 1))) hx2 (by simp; omega)
  have HR2 := hide hr2
  have HX2 := hide hx02
  have HA2 := hide hA2
  clear hr2 hx2 hx02 hA2 hr1 h1 hf1
  unfold clsV
  go_wp2_with fail
  refine (singleOf_any r t (k + 1 + 1) mv c _ (HR2.out.alloc _)).mono ?_
  rintro e w4 ⟨rfl, hx4⟩
  have HR4 := hide ((HR2.out.alloc _).ex hx4 (by simp))
  have HX4 := hide ((HX2.out.alloc _).trans (hx4.drop (by simp)))
  obtain ⟨hcA, hfA⟩ := ((HA2.out.alloc _).ex hx4 (by simp)).all
  have hlA := ((HA2.out.alloc _).ex hx4 (by simp)).lt
  obtain ⟨d, hd⟩ : ∃ d, sing mv.f c = d := ⟨_, rfl⟩
  rw [hd]
  have HDD := hide hd
  clear hx4 hd
  unfold partV
  go_wp2_with fail
  refine bodyPost_ret (v := partV d) (by simp [results, Tryz.results168, go_sem, partV, hcA, hlA]) rfl ⟨by rw [HDD.out], ?_, ?_⟩
  · repeat (refine RD.set ?_ (by simp; omega) _)
    exact HR4.out
  · repeat (refine Ex.setCell ?_ (Or.inr (by simp)) _)
    exact HX4.out

/-- No count, no end of a branch lies here. -/
def NX (t : ByteArray) (k : Nat) : Prop := ∀ h : k < t.size, (t[k]'h) ≠ 42 ∧ (t[k]'h) ≠ 43 ∧ (t[k]'h) ≠ 63 ∧ (t[k]'h) ≠ 123 ∧ (t[k]'h) ≠ 124 ∧ (t[k]'h) ≠ 41

/-- From here on the text is bytes that stand for themselves, those that are special behind a backslash. -/
def Items (t : ByteArray) : Nat → List UInt8 → Prop
  | k, [] => k = t.size
  | k, b :: l => b.toNat < 128 ∧ ((b ∉ specL ∧ ∃ h : k < t.size, (t[k]'h) = b ∧ Items t (k + 1) l) ∨ (b ∈ specL ∧ ∃ h : k + 1 < t.size, (t[k]'(Nat.lt_of_succ_lt h)) = 92 ∧ (t[k + 1]'h) = b ∧ Items t (k + 2) l))

theorem Items.nx {t : ByteArray} {k : Nat} {l : List UInt8} (h : Items t k l) : NX t k := by
  intro hk
  cases l with
  | nil => simp only [Items] at h; omega
  | cons b l =>
    rcases h.2 with ⟨h1, h2, h3, _⟩ | ⟨h1, h2, h3, _⟩
    · obtain ⟨n1, n2, n3, n4, n5, n6, n7, n8, n9, n10, n11, n12, n13, n14⟩ := not_in_spec h1
      rw [h3]
      exact ⟨n4, n3, n5, n11, n8, n7⟩
    · rw [h3]; decide
theorem Items.le {t : ByteArray} {k : Nat} {l : List UInt8} (h : Items t k l) : k ≤ t.size := by
  cases l with
  | nil => simp only [Items] at h; omega
  | cons b l =>
    rcases h.2 with ⟨h1, h2, h3, _⟩ | ⟨h1, h2, h3, _⟩ <;> omega
theorem Items.lt {t : ByteArray} {k : Nat} {b : UInt8} {l : List UInt8} (h : Items t k (b :: l)) : k < t.size := by
  rcases h.2 with ⟨h1, h2, h3, _⟩ | ⟨h1, h2, h3, _⟩ <;> omega

theorem takes_nx (r : Nat) (t : ByteArray) (k : Nat) (mv : Rest) (w : World) (b : Nat) (hr : RD w r t k mv) (hk : k ≤ t.size) (ht : t.size ≤ 60) (hb : ∀ h : k < t.size, (t[k]'h) ≠ b.toUInt8) (hb2 : b < 256) :
    Calls Tryz.prog 134 #[.pointer (some ⟨r, 0, none⟩), .int .u8 b] w fun e w' => e = .returned (.bool false) ∧ ∃ n, w' = w.drewN n := by
  by_cases h : k < t.size
  · exact takes_no r t k mv w b hr h ht (byte_ne b (hb h) hb2)
  · exact takes_end r t k mv w b hr (by omega)
theorem sees_nx (r : Nat) (t : ByteArray) (k : Nat) (mv : Rest) (w : World) (b : Nat) (hr : RD w r t k mv) (hk : k ≤ t.size) (ht : t.size ≤ 60) (hb : ∀ h : k < t.size, (t[k]'h) ≠ b.toUInt8) (hb2 : b < 256) :
    Calls Tryz.prog 151 #[.pointer (some ⟨r, 0, none⟩), .int .u8 b] w fun e w' => e = .returned (.bool false) ∧ ∃ n, w' = w.drewN n := by
  by_cases h : k < t.size
  · exact sees_no r t k mv w b hr h ht (byte_ne b (hb h) hb2)
  · exact sees_end r t k mv w b hr (by omega)

set_option maxHeartbeats 400000 in
theorem count_nx (r : Nat) (t : ByteArray) (k : Nat) (mv : Rest) (w : World) (hr : RD w r t k mv) (hd : NX t k) (hk : k ≤ t.size) (ht : t.size ≤ 60) :
    Calls Tryz.prog 169 #[.pointer (some ⟨r, 0, none⟩)] w fun e w' => e = .returned (.tuple #[.int .i64 0, .int .i64 0, .bool false]) ∧ ∃ n, w' = w.drewN n := by
  have HR : ∀ n, Hid (RD (w.drewN n) r t k mv) := fun n => hr.drew n
  have HD : Hid (NX t k) := hd
  clear hr hd
  go_enter Tryz.func169, Tryz.ntmps169
  go_wp2_with fail
  refine (takes_nx r t k mv _ 42 (HR 0).out hk ht (fun h => (HD.out h).1) (by decide)).mono ?_
  rintro e w' ⟨rfl, n1, rfl⟩
  go_wp2_with fail
  refine (takes_nx r t k mv _ 43 (HR n1).out hk ht (fun h => (HD.out h).2.1) (by decide)).mono ?_
  rintro e w' ⟨rfl, n2, rfl⟩
  rw [World.drewN_drewN]
  go_wp2_with fail
  refine (takes_nx r t k mv _ 63 (HR _).out hk ht (fun h => (HD.out h).2.2.1) (by decide)).mono ?_
  rintro e w' ⟨rfl, n3, rfl⟩
  rw [World.drewN_drewN]
  go_wp2_with fail
  refine (takes_nx r t k mv _ 123 (HR _).out hk ht (fun h => (HD.out h).2.2.2.1) (by decide)).mono ?_
  rintro e w' ⟨rfl, n4, rfl⟩
  rw [World.drewN_drewN]
  go_wp2_with fail
  go_ret3
  exact ⟨rfl, _, rfl⟩

theorem spec_esc {b : UInt8} (h : b ∈ specL) : b ∈ escL := by
  have e : escL = specL ++ [45, 34] := rfl
  rw [e]; exact List.mem_append_left _ h

theorem atom_item (r : Nat) (t : ByteArray) (k : Nat) (mv : Rest) (b : UInt8) (l : List UInt8) (w : World) (hr : RD w r t k mv) (hi : Items t k (b :: l)) (ht : t.size ≤ 60) :
    Calls Tryz.prog 168 #[.pointer (some ⟨r, 0, none⟩)] w fun e w' => e = .returned (partV (sing mv.f (oneC b.toNat))) ∧ (∃ k', Items t k' l ∧ RD w' r t k' mv) ∧ Ex [r] w w' := by
  obtain ⟨hb, hi⟩ := hi
  rcases hi with ⟨h1, h2, h3, h4⟩ | ⟨h1, h2, h3, h4, h5⟩
  · subst h3
    exact (atom_plain r t k mv w hr h2 ht hb h1).mono fun e w' ⟨he, hr', hx⟩ => ⟨he, ⟨_, h4, hr'⟩, hx⟩
  · subst h4
    exact (atom_esc r t k mv w hr h2 ht h3 hb (spec_esc h1)).mono fun e w' ⟨he, hr', hx⟩ => ⟨he, ⟨_, h5, hr'⟩, hx⟩

set_option maxHeartbeats 400000 in
theorem piece_item (r : Nat) (t : ByteArray) (k : Nat) (mv : Rest) (b : UInt8) (l : List UInt8) (w : World) (hr : RD w r t k mv) (hi : Items t k (b :: l)) (ht : t.size ≤ 60) :
    Calls Tryz.prog 152 #[.pointer (some ⟨r, 0, none⟩)] w fun e w' => e = .returned (partV (sing mv.f (oneC b.toNat))) ∧ (∃ k', Items t k' l ∧ RD w' r t k' mv) ∧ Ex [r] w w' := by
  have HR : Hid (RD w r t k mv) := hr
  have HD := hide hi
  have hlt := hr.lt
  obtain ⟨c, hc⟩ : ∃ c, sing mv.f (oneC b.toNat) = c := ⟨_, rfl⟩
  have KA := hide (fun w hr => atom_item r t k mv b l w hr hi ht)
  rw [hc] at KA ⊢
  clear hr hi hc
  go_enter Tryz.func152, Tryz.ntmps152
  go_wp2_with fail
  refine (KA.out _ (HR.out.alloc _)).mono ?_
  rintro e w1 ⟨rfl, ⟨k', hi1, hr1⟩, hx1⟩
  obtain ⟨hc, hf⟩ := hx1.cell1
  have hz : w.heap.size < w1.heap.size := by have := hx1.size; simp at this; omega
  have HR1 := hide hr1
  have HI1 := hide hi1
  clear hr1 hi1
  unfold partV
  have hne : w.heap.size ≠ r := by omega
  go_wp2_with fail
  refine (count_nx r t k' mv _ (HR1.out.alloc _) HI1.out.nx HI1.out.le ht).mono ?_
  rintro e w2 ⟨rfl, n2, rfl⟩
  go_wp2_with fail
  refine bodyPost_ret (v := partV c) (by simp [results, Tryz.results152, go_sem, partV, hc, hne, hz]) rfl ⟨rfl, ⟨k', HI1.out, ?_⟩, ?_⟩
  · repeat (refine RD.set ?_ (by simp; omega) _)
    exact (HR1.out.alloc _).drew _
  · repeat (refine Ex.setCell ?_ (Or.inr (by simp)) _)
    exact (((((Ex.refl _ _).alloc _).trans hx1).alloc _).drewN _)
end Go.Proofs.YtmeffeigamaipabGreatDoor.Rx.Q
