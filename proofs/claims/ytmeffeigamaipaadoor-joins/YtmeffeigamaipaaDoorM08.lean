/- The pattern reader: bytes that stand for themselves, what lies behind a backslash, the items of a set. -/
import Derived.Test.YtmeffeigamaipaaDoorM06
import Derived.Test.YtmeffeigamaipaaDoorM07
set_option linter.unusedVariables false
set_option linter.unusedSimpArgs false
namespace Go.Proofs.YtmeffeigamaipaaDoor.G
open Go.RowKit

theorem indexByte_mem (l : List UInt8) (b : UInt8) : 0 ≤ Lib.indexByte l b ↔ b ∈ l := by
  induction l with
  | nil => simp [Lib.indexByte]
  | cons a l ih =>
    have hg := Lib.indexByte_ge l b
    unfold Lib.indexByte
    by_cases h : a = b
    · subst h; simp
    · rw [if_neg (by simpa using h)]
      rw [List.mem_cons, ← ih]
      by_cases h2 : Lib.indexByte l b = -1
      · simp [h2]; exact fun e => h e.symm
      · rw [if_neg (by simpa using h2)]
        constructor
        · intro _; right; omega
        · rintro (e | e)
          · exact absurd e.symm h
          · omega

theorem gIndex (l : List UInt8) (b : UInt8) (w : World) : Calls Tryd.prog 69 #[.string ⟨l.toArray⟩, .int .u8 (b.toNat : Int)] w fun e w' => (∃ ix : Int, e = .returned (.int .i64 ix) ∧ (0 ≤ ix ↔ b ∈ l)) ∧ w' = w := by
  refine (Tryd.strings_IndexByte _ _ _).mono ?_
  rintro e w' ⟨rfl, rfl⟩
  refine ⟨⟨_, rfl, ?_⟩, rfl⟩
  simp only [Int.toNat_natCast, UInt8.ofNat_toNat]
  exact indexByte_mem l b

theorem gLookS {w : World} {r mb : Nat} {t : ByteArray} {x : EV} {s : RS} {b : UInt8} (h : RG w r mb t x s) (hb : byteAt t s.k = some b) :
    Calls Tryd.prog 56 #[.pointer (some ⟨r, 0, none⟩)] w fun e w' => e = .returned (.int .u8 b.toNat) ∧ ∃ n, w' = w.drewN n := by
  refine (gLook h).mono ?_
  rintro e w' ⟨hn, hp⟩
  rcases hp.split with ⟨b', s', v, hm, rfl, hv, hg, hx⟩ | ⟨s', hm, rfl, hg, hx⟩
  · rw [lookM_some hb] at hm; cases hm; exact ⟨by rw [hv], hn⟩
  · rw [lookM_some hb] at hm; cases hm
theorem gLookN {w : World} {r mb : Nat} {t : ByteArray} {x : EV} {s : RS} (h : RG w r mb t x s) (hb : byteAt t s.k = none) :
    Calls Tryd.prog 56 #[.pointer (some ⟨r, 0, none⟩)] w fun e w' => e = .panicked [{ v := .iface x.1 x.2, recovered := false }] ∧ ∃ n, w' = w.drewN n := by
  refine (gLook h).mono ?_
  rintro e w' ⟨hn, hp⟩
  rcases hp.split with ⟨b', s', v, hm, rfl, hv, hg, hx⟩ | ⟨s', hm, rfl, hg, hx⟩
  · rw [lookM_none hb] at hm; cases hm
  · exact ⟨rfl, hn⟩

set_option maxHeartbeats 1000000 in
set_option maxRecDepth 100000 in
theorem gPlain {w : World} {r mb : Nat} {t : ByteArray} {x : EV} {s : RS} (h : RG w r mb t x s) (but : List UInt8) :
    Calls Tryd.prog 62 #[.pointer (some ⟨r, 0, none⟩), .string ⟨but.toArray⟩] w fun e w' => Post [r] r mb t x w (fun _ v (b : UInt8) => v = .int .u8 (b.toNat : Int) ∧ b.toNat < 128) (plainM t but s) e w' := by
  have hlt := h.lt
  have ht := h.ht
  obtain ⟨ba, hba⟩ : ∃ ba, (⟨but.toArray⟩ : ByteArray) = ba := ⟨_, rfl⟩
  have KI := hide (fun b w => gIndex but b w)
  rw [hba] at KI ⊢
  clear hba
  cases hb : byteAt t s.k with
  | none =>
    have HM : Hid (plainM t but s = .bad s) := by show plainM t but s = _; simp [plainM, hb]
    have HB := hide hb
    have H := hide h
    clear h hb
    go_enter Tryd.func62, Tryd.ntmps62
    go_wp2_with fail
    refine (gLookN H.out HB.out).mono ?_
    rintro e w1 ⟨rfl, n1, rfl⟩
    exact body_panic rfl (Post.mkBad HM.out (H.out.drewN _) ((Ex.refl _ _).drewN _))
  | some b =>
    have hks := (byteAt_some hb).1
    have hb256 := b.toNat_lt
    have HB := hide hb
    have h1 := h.rd.c1
    have hf1 := h.rd.f1
    have hev := h.ev
    have H := hide h
    by_cases h128 : 128 ≤ b.toNat
    · have HM : Hid (plainM t but s = .bad s) := by show plainM t but s = _; simp [plainM, hb]; intro h; omega
      have e1 : (128 : Int) ≤ (b.toNat : Int) := by omega
      clear h hb
      go_enter Tryd.func62, Tryd.ntmps62
      go_wp2_with fail
      refine (gLookS H.out HB.out).mono ?_
      rintro e w1 ⟨rfl, n1, rfl⟩
      go_wp2_with fail
      exact body_panic rfl (Post.mkBad HM.out (H.out.drewN _) ((Ex.refl _ _).drewN _))
    · have e1 : ¬ (128 : Int) ≤ (b.toNat : Int) := by omega
      have hb128 : b.toNat < 128 := by omega
      by_cases hin : b ∈ but
      · have HM : Hid (plainM t but s = .bad s) := by show plainM t but s = _; simp [plainM, hb, hin]
        have HIN := hide hin
        clear h hb hin
        go_enter Tryd.func62, Tryd.ntmps62
        go_wp2_with fail
        refine (gLookS H.out HB.out).mono ?_
        rintro e w1 ⟨rfl, n1, rfl⟩
        go_wp2_with fail
        refine (KI.out b _).mono ?_
        rintro e w2 ⟨⟨ix, rfl, hix⟩, rfl⟩
        have hix0 : 0 ≤ ix := hix.2 HIN.out
        clear hix
        go_wp2_with fail
        exact body_panic rfl (Post.mkBad HM.out (H.out.drewN _) ((Ex.refl _ _).drewN _))
      · have HM : Hid (plainM t but s = .ok b s.up) := by show plainM t but s = _; simp [plainM, hb, hin]; omega
        have HIN := hide hin
        clear h hb hin
        go_enter Tryd.func62, Tryd.ntmps62
        go_wp2_with fail
        refine (gLookS H.out HB.out).mono ?_
        rintro e w1 ⟨rfl, n1, rfl⟩
        go_wp2_with fail
        refine (KI.out b _).mono ?_
        rintro e w2 ⟨⟨ix, rfl, hix⟩, rfl⟩
        have hix0 : ¬ 0 ≤ ix := fun h => HIN.out (hix.1 h)
        clear hix
        go_wp2_with fail
        go_ret
        refine Post.mkOk HM.out ⟨rfl, hb128⟩ ?_ (((Ex.refl _ _).drewN _).setCell (Or.inl (by simp)) _)
        have := (H.out.drewN n1).up hks
        simpa using this

theorem three {cs : Array Value} (h : cs.size = 3) : ∃ x0 x1 x2, cs = #[x0, x1, x2] := by
  obtain ⟨l⟩ := cs
  match l, h with
  | [x0, x1, x2], _ => exact ⟨x0, x1, x2, rfl⟩
theorem fill3 {w : World} {b : Nat} {cs : Array Value} {e : TypeId} (h : BK w b (.cells cs e (0, 0))) (hs : cs.size = 3) (a0 a1 a2 : Value) :
    BK (((w.setCell ⟨b, 0, none⟩ a0).setCell ⟨b, 1, none⟩ a1).setCell ⟨b, 2, none⟩ a2) b (.cells #[a0, a1, a2] e (0, 0)) := by
  obtain ⟨x0, x1, x2, rfl⟩ := three hs
  have h0 := h.self 0 a0; simp only [List.setIfInBounds_toArray, List.set_cons_zero] at h0
  have h1 := h0.self 1 a1; simp only [List.setIfInBounds_toArray, List.set_cons_zero, List.set_cons_succ] at h1
  have h2 := h1.self 2 a2; simp only [List.setIfInBounds_toArray, List.set_cons_zero, List.set_cons_succ] at h2
  exact h2

def escV (y : Cls × UInt8 × Bool) : Value := .tuple #[clsV y.1, .int .u8 (y.2.1.toNat : Int), .bool y.2.2]
theorem esc128 : ∀ b ∈ escL, b.toNat < 128 := by decide

set_option maxHeartbeats 1000000 in
set_option maxRecDepth 100000 in
theorem gEscape {w : World} {r mb : Nat} {t : ByteArray} {x : EV} {s : RS} (h : RG w r mb t x s) :
    Calls Tryd.prog 60 #[.pointer (some ⟨r, 0, none⟩)] w fun e w' => Post [r] r mb t x w (fun _ v y => v = escV y ∧ (y.2.2 = true → y.2.1.toNat < 128)) (escapeM t s) e w' := by
  have hlt := h.lt
  have hmlt := h.mlt
  have helt := h.elt
  have ht := h.ht
  cases hb : byteAt t s.k with
  | none =>
    have HM : Hid (escapeM t s = .bad s) := by show escapeM t s = _; simp [escapeM, hb]
    have HB := hide hb
    have H := hide h
    clear h hb
    go_enter Tryd.func60, Tryd.ntmps60
    go_wp2_with fail
    refine (gLookN (H.out.alloc _) HB.out).mono ?_
    rintro e w1 ⟨rfl, n1, rfl⟩
    exact body_panic rfl (Post.mkBad HM.out ((H.out.alloc _).drewN _) (((Ex.refl _ _).alloc _).drewN _))
  | some b =>
    have hks := (byteAt_some hb).1
    have hb256 := b.toNat_lt
    have HB := hide hb
    have H := hide h
    by_cases hin : b ∈ escL
    · obtain ⟨c, hc⟩ : ∃ c, oneC b.toNat = c := ⟨_, rfl⟩
      have hb128 := esc128 b hin
      have KB := hide (fun w => between_one b.toNat w hb128)
      rw [hc] at KB
      have HM : Hid (escapeM t s = .ok (c, b, true) s.up) := by show escapeM t s = _; simp [escapeM, hb, hin, hc]
      have HIN := hide hin
      clear h hb hin hc
      go_enter Tryd.func60, Tryd.ntmps60
      go_wp2_with fail
      refine (gLookS (H.out.alloc _) HB.out).mono ?_
      rintro e w1 ⟨rfl, n1, hw1⟩
      have hg1 : RG w1 r mb t x s := by rw [hw1]; exact (H.out.alloc _).drewN _
      have hx1 : Ex [] (w.alloc (Obj.cells #[.int .u64 0, .int .u64 0, .bool false] 57)) w1 := by rw [hw1]; exact (Ex.refl _ _).drewN _
      have h1 := hg1.rd.c1
      have hf1 := hg1.rd.f1
      have hl1 := hg1.lt
      have G1 := hide hg1
      have X1 := hide hx1
      clear hg1 hx1 hw1
      go_wp2_with fail
      refine (gIndex escL b _).mono ?_
      rintro e w2 ⟨⟨ix, rfl, hix⟩, rfl⟩
      have hix0 : 0 ≤ ix := hix.2 HIN.out
      clear hix
      go_wp2_with fail
      refine (KB.out _).mono ?_
      rintro e w3 ⟨rfl, hx3⟩
      have hg3 : RG w3 r mb t x s.up := by
        have h9 := G1.out.up hks
        refine RG.ex0 ?_ hx3
        simpa using h9
      have X3 : Hid (Ex [r] (w.alloc (Obj.cells #[.int .u64 0, .int .u64 0, .bool false] 57)) w3) := ((X1.out.drop (by simp)).setCell (Or.inl (by simp)) _).trans (hx3.drop (by simp))
      have hb3 := (BK.new w (Obj.cells #[.int .u64 0, .int .u64 0, .bool false] 57)).ex X3.out (by simp; omega)
      obtain ⟨hc, hf⟩ := hb3.all
      have hl := hb3.lt
      have G3 := hide hg3
      clear hb3 hx3 hg3 h1 hf1 G1 X1
      unfold clsV
      go_wp2_with fail
      refine bodyPost_ret (v := escV (c, b, true)) (by simp [results, Tryd.results60, go_sem, clsV, escV, hc]) rfl (Post.mkOk HM.out ⟨rfl, fun _ => hb128⟩ ?_ ?_)
      · repeat (refine RG.setN (B := w.heap.size) ?_ hlt hmlt helt (by simp) _)
        exact G3.out
      · repeat (refine Ex.setCell ?_ (Or.inr (by simp)) _)
        exact ((Ex.refl _ _).alloc _).trans X3.out
    · have KS := hide (fun w => shorthand_any b w)
      obtain ⟨o, ho⟩ : ∃ o, shortM b = o := ⟨_, rfl⟩
      rw [ho] at KS
      have HIN := hide hin
      cases o with
      | none =>
        have HM : Hid (escapeM t s = .bad s) := by show escapeM t s = _; simp [escapeM, hb, hin, ho]
        clear h hb hin ho
        go_enter Tryd.func60, Tryd.ntmps60
        go_wp2_with fail
        refine (gLookS (H.out.alloc _) HB.out).mono ?_
        rintro e w1 ⟨rfl, n1, hw1⟩
        have hg1 : RG w1 r mb t x s := by rw [hw1]; exact (H.out.alloc _).drewN _
        have hx1 : Ex [] (w.alloc (Obj.cells #[.int .u64 0, .int .u64 0, .bool false] 57)) w1 := by rw [hw1]; exact (Ex.refl _ _).drewN _
        have G1 := hide hg1
        have X1 := hide hx1
        clear hg1 hx1 hw1
        go_wp2_with fail
        refine (gIndex escL b _).mono ?_
        rintro e w2 ⟨⟨ix, rfl, hix⟩, rfl⟩
        have hix0 : ¬ 0 ≤ ix := fun h => HIN.out (hix.1 h)
        clear hix
        go_wp2_with fail
        refine (KS.out _).mono ?_
        rintro e w3 ⟨rfl, hx3⟩
        have X3 := hide (X1.out.trans hx3)
        have hb3 := (BK.new w (Obj.cells #[.int .u64 0, .int .u64 0, .bool false] 57)).ex X3.out (by simp)
        obtain ⟨hc, hf⟩ := hb3.all
        have hl := hb3.lt
        have hg3 := G1.out.ex0 hx3
        have hev := hg3.ev
        have hne : w.heap.size ≠ 0 := by omega
        have G3 := hide hg3
        clear hb3 hx3 hg3 G1 X1
        unfold shortV clsV
        go_wp2_with fail
        refine body_panic rfl (Post.mkBad HM.out ?_ ?_)
        · repeat (refine RG.setN (B := w.heap.size) ?_ hlt hmlt helt (by simp) _)
          exact G3.out
        · repeat (refine Ex.setCell ?_ (Or.inr (by simp)) _)
          exact (((Ex.refl _ _).alloc _).trans X3.out).drop (by simp)
      | some c =>
        have HM : Hid (escapeM t s = .ok (c, 0, false) s.up) := by show escapeM t s = _; simp [escapeM, hb, hin, ho]
        clear h hb hin ho
        go_enter Tryd.func60, Tryd.ntmps60
        go_wp2_with fail
        refine (gLookS (H.out.alloc _) HB.out).mono ?_
        rintro e w1 ⟨rfl, n1, hw1⟩
        have hg1 : RG w1 r mb t x s := by rw [hw1]; exact (H.out.alloc _).drewN _
        have hx1 : Ex [] (w.alloc (Obj.cells #[.int .u64 0, .int .u64 0, .bool false] 57)) w1 := by rw [hw1]; exact (Ex.refl _ _).drewN _
        have G1 := hide hg1
        have X1 := hide hx1
        clear hg1 hx1 hw1
        go_wp2_with fail
        refine (gIndex escL b _).mono ?_
        rintro e w2 ⟨⟨ix, rfl, hix⟩, rfl⟩
        have hix0 : ¬ 0 ≤ ix := fun h => HIN.out (hix.1 h)
        clear hix
        go_wp2_with fail
        refine (KS.out _).mono ?_
        rintro e w3 ⟨rfl, hx3⟩
        have X3 := hide (X1.out.trans hx3)
        have hb3 := (BK.new w (Obj.cells #[.int .u64 0, .int .u64 0, .bool false] 57)).ex X3.out (by simp)
        obtain ⟨hc, hf⟩ := hb3.all
        have hl := hb3.lt
        have hg3 := G1.out.ex0 hx3
        have h1 := hg3.rd.c1
        have hf1 := hg3.rd.f1
        have hl1 := hg3.lt
        have hne : r ≠ w.heap.size := by omega
        have G3 := hide hg3
        have B3 := hide hb3
        clear hb3 hx3 hg3 G1 X1
        unfold shortV clsV
        go_wp2_with fail
        refine bodyPost_ret (v := escV (c, 0, false)) ?_ rfl (Post.mkOk HM.out ⟨rfl, fun h => by cases h⟩ ?_ ?_)
        · have hB := fill3 (((fill3 (unhide B3) rfl (.int .u64 c.lo) (.int .u64 c.hi) (.bool c.hg))).set (p := ⟨r, 1, none⟩) (Ne.symm hne) (.int .i64 ((s.k : Int) + 1))) rfl (.int .u64 c.lo) (.int .u64 c.hi) (.bool c.hg)
          generalize World.setCell _ ⟨w.heap.size, 2, none⟩ _ = W at hB ⊢
          obtain ⟨hcW, hfW⟩ := hB.all
          simp [results, Tryd.results60, go_sem, clsV, escV, hcW]
        · iterate 3 (refine RG.setN (B := w.heap.size) ?_ hlt hmlt helt (by simp) _)
          have h9 : RG ((((w3.setCell ⟨w.heap.size, 0, none⟩ (.int .u64 c.lo)).setCell ⟨w.heap.size, 1, none⟩ (.int .u64 c.hi)).setCell ⟨w.heap.size, 2, none⟩ (.bool c.hg))) r mb t x s := by
            repeat (refine RG.setN (B := w.heap.size) ?_ hlt hmlt helt (by simp) _)
            exact G3.out
          have h10 := h9.up hks
          simpa using h10
        · iterate 3 (refine Ex.setCell ?_ (Or.inr (by simp)) _)
          refine Ex.setCell ?_ (Or.inl (by simp)) _
          iterate 3 (refine Ex.setCell ?_ (Or.inr (by simp)) _)
          exact (((Ex.refl _ _).alloc _).trans X3.out).drop (by simp)
end Go.Proofs.YtmeffeigamaipaaDoor.G
