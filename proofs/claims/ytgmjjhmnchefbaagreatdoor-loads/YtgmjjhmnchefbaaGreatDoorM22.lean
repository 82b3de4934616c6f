/- I2 L12, one behind the other. -/
import Derived.Test.YtgmjjhmnchefbaaGreatDoorM21
import Derived.Test.YtgmjjhmnchefbaaGreatDoorM18
set_option linter.unusedVariables false
set_option linter.unusedSimpArgs false
/- Every pattern that is read and not too heavy is good. -/
namespace Go.Proofs.YtgmjjhmnchefbaaGreatDoor.G

mutual
theorem isz_wt : ∀ p : Pt, POK p → isz p ≤ 6 * wt p ∧ (1 ≤ wt p → isz p + 1 ≤ 6 * wt p)
  | .single c, _ => ⟨by show 1 ≤ 6 * 1; decide, fun _ => by show 2 ≤ 6 * 1; decide⟩
  | .seq l, h => isz_wtL l h
  | .alt l, h => by
    obtain ⟨h1, h2⟩ := isz_wtL l h.1
    have h3 := h.2
    show iszL l + 2 * (l.length - 1) ≤ 6 * (wtL l + l.length - 1) ∧ (1 ≤ wtL l + l.length - 1 → iszL l + 2 * (l.length - 1) + 1 ≤ 6 * (wtL l + l.length - 1))
    by_cases h0 : wtL l = 0
    · omega
    · have := h2 (by omega)
      omega
  | .wrap q g, h => by
    obtain ⟨h1, h2⟩ := isz_wt q h.1
    show (if g = 0 then isz q else isz q + 2) ≤ 6 * (wt q + 1) ∧ (1 ≤ wt q + 1 → (if g = 0 then isz q else isz q + 2) + 1 ≤ 6 * (wt q + 1))
    split <;> omega
  | .count q le mo z, h => by
    obtain ⟨h1, h2⟩ := isz_wt q h.1
    have h3 := h2 h.2.1
    obtain ⟨_, c2⟩ := h.2.2
    dsimp only at c2
    show (if mo = -1 then isz q * le + (isz q + 4) else isz q * le + (isz q + 1) * more le mo) ≤ 6 * (wt q * (if mo = -1 then le + 1 else mo.toNat) + 1) ∧ (1 ≤ wt q * (if mo = -1 then le + 1 else mo.toNat) + 1 → (if mo = -1 then isz q * le + (isz q + 4) else isz q * le + (isz q + 1) * more le mo) + 1 ≤ 6 * (wt q * (if mo = -1 then le + 1 else mo.toNat) + 1))
    by_cases hm : mo = -1
    · rw [if_pos hm, if_pos hm]
      have h4 := Nat.mul_le_mul_right (le + 1) h3
      simp only [Nat.add_mul, Nat.mul_add, Nat.mul_one, Nat.one_mul, Nat.mul_assoc] at h4 ⊢
      omega
    · rw [if_neg hm, if_neg hm]
      obtain ⟨d, hd⟩ : ∃ d, d = more le mo := ⟨_, rfl⟩
      have e : mo.toNat = le + d := by rw [hd]; unfold more; omega
      rw [← hd, e]
      have h4 := Nat.mul_le_mul_right d h3
      have h5 := Nat.mul_le_mul_right le h3
      simp only [Nat.add_mul, Nat.mul_add, Nat.mul_one, Nat.one_mul, Nat.mul_assoc] at h4 h5 ⊢
      omega
theorem isz_wtL : ∀ l : List Pt, POKL l → iszL l ≤ 6 * wtL l ∧ (1 ≤ wtL l → iszL l + 1 ≤ 6 * wtL l)
  | [], _ => ⟨Nat.zero_le _, fun h => absurd h (by show ¬ 1 ≤ 0; omega)⟩
  | p :: l, h => by
    obtain ⟨h1, h2⟩ := isz_wt p h.1
    obtain ⟨h3, h4⟩ := isz_wtL l h.2
    show isz p + iszL l ≤ 6 * (wt p + wtL l) ∧ (1 ≤ wt p + wtL l → isz p + iszL l + 1 ≤ 6 * (wt p + wtL l))
    by_cases h0 : wt p = 0
    · by_cases h5 : wtL l = 0
      · omega
      · have := h4 (by omega); omega
    · have := h2 (by omega); omega
end

structure IOK (n : Nat) (i : Ins) : Prop where
  t0 : 0 ≤ i.t0 ∧ i.t0 ≤ n
  t1 : 0 ≤ i.t1 ∧ i.t1 ≤ n
  sl : 0 ≤ i.sl ∧ i.sl < 64
  op : i.op = 0 ∨ i.op = 1 ∨ i.op = 2 ∨ i.op = 3 ∨ i.op = 4 ∨ i.op = 5
def COK (l : List Ins) : Prop := ∀ (j : Nat) (i : Ins), l[j]? = some i → IOK l.length i
theorem IOK.up {n m : Nat} {i : Ins} (h : IOK n i) (hm : n ≤ m) : IOK m i := ⟨by have := h.t0; omega, by have := h.t1; omega, h.sl, h.op⟩
theorem COK.snoc {l : List Ins} {i : Ins} (h : COK l) (hi : IOK (l.length + 1) i) : COK (l ++ [i]) := fun j x hx => by
  rw [List.length_append]
  show IOK (l.length + 1) x
  rcases Nat.lt_or_ge j l.length with hj | hj
  · rw [List.getElem?_append_left hj] at hx
    exact (h j x hx).up (Nat.le_succ _)
  · rw [List.getElem?_append_right hj] at hx
    have hm := List.mem_of_getElem? hx
    rw [List.mem_singleton] at hm
    rw [hm]; exact hi
theorem COK.way {l : List Ins} (h : COK l) (k : Nat) (s : Bool) (n : Nat) (hn : n ≤ l.length) : COK (wayAt l k s n) := fun j x hx => by
  rw [wayAt_len]
  unfold wayAt at hx
  rw [List.getElem?_modify] at hx
  cases hj : l[j]? with
  | none => rw [hj] at hx; simp at hx
  | some i =>
    rw [hj] at hx
    have hi := h j i hj
    have hx2 : (if k = j then i.way s n else i) = x := by simpa using hx
    clear hx
    split at hx2
    · subst hx2
      unfold Ins.way
      split
      · exact ⟨hi.t0, ⟨by show (0 : Int) ≤ (n : Int); omega, by show (n : Int) ≤ _; omega⟩, hi.sl, hi.op⟩
      · exact ⟨⟨by show (0 : Int) ≤ (n : Int); omega, by show (n : Int) ≤ _; omega⟩, hi.t1, hi.sl, hi.op⟩
    · subst hx2; exact hi
theorem bare_iok (n : Nat) (op : Int) (h : op = 0 ∨ op = 1 ∨ op = 2 ∨ op = 3 ∨ op = 4 ∨ op = 5) : IOK n (bare op) := ⟨⟨Int.le_refl _, by show (0 : Int) ≤ n; omega⟩, ⟨Int.le_refl _, by show (0 : Int) ≤ n; omega⟩, by show (0 : Int) ≤ 0 ∧ (0 : Int) < 64; omega, h⟩
theorem COK.fork {l : List Ins} (h : COK l) (z : Bool) : COK (forkM z l) := (h.snoc (bare_iok _ 1 (by simp))).way _ _ _ (by simp)
theorem COK.leave {l : List Ins} (h : COK l) (z : Bool) (k : Nat) : COK (leaveM z k l) := h.way _ _ _ (Nat.le_refl _)
theorem COK.land {l : List Ins} (h : COK l) (k : Nat) : COK (landM k l) := h.way _ _ _ (Nat.le_refl _)
theorem COK.leaves (z : Bool) : ∀ (ks : List Nat) (l : List Ins), COK l → COK (ks.foldl (fun l k => leaveM z k l) l)
  | [], l, h => h
  | k :: ks, l, h => COK.leaves z ks _ (h.leave z k)
theorem COK.lands : ∀ (ks : List Nat) (l : List Ins), COK l → COK (ks.foldl (fun l k => landM k l) l)
  | [], l, h => h
  | k :: ks, l, h => COK.lands ks _ (h.land k)
theorem COK.iters {f : List Ins → List Ins} (hf : ∀ l, COK l → COK (f l)) : ∀ (n : Nat) (l : List Ins), COK l → COK (iter f n l)
  | 0, l, h => h
  | n + 1, l, h => COK.iters hf n _ (hf l h)
theorem COK.itersF {f : List Ins → List Ins} (hf : ∀ l, COK l → COK (f l)) (z : Bool) : ∀ (n : Nat) (ks : List Nat) (l : List Ins), COK l → COK (iterF f z n ks l).2
  | 0, ks, l, h => h
  | n + 1, ks, l, h => COK.itersF hf z n _ _ (hf _ (h.fork z))
theorem note_iok (n g : Nat) (hg : g < 64) : IOK n (noteI g) := ⟨⟨Int.le_refl _, by show (0 : Int) ≤ n; omega⟩, ⟨Int.le_refl _, by show (0 : Int) ≤ n; omega⟩, by show (0 : Int) ≤ (g : Int) ∧ (g : Int) < 64; omega, by simp [noteI]⟩
mutual
theorem addM_cok : ∀ p : Pt, POK p → ∀ l, COK l → COK (addM p l)
  | .single c, _, l, h => by
    rw [addM]
    exact h.snoc ⟨⟨Int.le_refl _, by show (0 : Int) ≤ _; omega⟩, ⟨Int.le_refl _, by show (0 : Int) ≤ _; omega⟩, by show (0 : Int) ≤ 0 ∧ (0 : Int) < 64; omega, .inl rfl⟩
  | .seq ps, hp, l, h => by rw [addM]; exact addsM_cok ps hp l h
  | .alt ps, hp, l, h => by rw [addM]; exact COK.lands _ _ (altsM_cok ps hp.1 [] l h)
  | .wrap p g, hp, l, h => by
    rw [addM]
    have hg := hp.2
    split
    · exact addM_cok p hp.1 l h
    · exact (addM_cok p hp.1 _ (h.snoc (note_iok _ _ (by omega)))).snoc (note_iok _ _ (by omega))
  | .count p le mo z, hp, l, h => by
    rw [addM]
    have hf := addM_cok p hp.1
    have hi := COK.iters hf le l h
    split
    · unfold loopM
      have h1 := (hf _ ((hi.fork z).snoc (bare_iok _ 4 (by simp)))).snoc (bare_iok _ 5 (by simp))
      have hlen : (iter (addM p) le l).length ≤ (addM p (forkM z (iter (addM p) le l) ++ [bare 4]) ++ [bare 5]).length := by
        rw [List.length_append, addM_len, List.length_append, forkM_len]
        omega
      refine (h1.snoc ⟨⟨?_, ?_⟩, ⟨Int.le_refl _, by show (0 : Int) ≤ _; omega⟩, by show (0 : Int) ≤ 0 ∧ (0 : Int) < 64; omega, by simp [jumpTo]⟩).leave z _
      · show (0 : Int) ≤ ((iter (addM p) le l).length : Int)
        omega
      · show ((iter (addM p) le l).length : Int) ≤ _
        omega
    · exact COK.leaves z _ _ (COK.itersF hf z _ _ _ hi)
theorem addsM_cok : ∀ ps : List Pt, POKL ps → ∀ l, COK l → COK (addsM ps l)
  | [], _, l, h => by rw [addsM]; exact h
  | p :: ps, hp, l, h => by rw [addsM]; exact addsM_cok ps hp.2 _ (addM_cok p hp.1 l h)
theorem altsM_cok : ∀ ps : List Pt, POKL ps → ∀ js l, COK l → COK (altsM ps js l).2
  | [], _, js, l, h => by rw [altsM]; exact h
  | [p], hp, js, l, h => by rw [altsM]; exact addM_cok p hp.1 l h
  | p :: q :: ps, hp, js, l, h => by
    rw [altsM]
    exact altsM_cok (q :: ps) hp.2 _ _ (((addM_cok p hp.1 _ (h.fork false)).snoc (bare_iok _ 2 (by simp))).leave false _)
end
theorem prog_ok (p : Pt) (hp : POK p) : CodeOK (progM p) ∧ TakeOK (progM p) := by
  have hc := addM_cok p hp [] (fun j i h => by simp at h)
  have hl : (progM p).length = (addM p []).length + 1 := by simp [progM]
  have key : ∀ k i, (progM p)[k]? = some i → (k < (addM p []).length ∧ IOK (addM p []).length i) ∨ i = bare 6 := fun k i hi => by
    unfold progM at hi
    rcases Nat.lt_or_ge k (addM p []).length with hk | hk
    · rw [List.getElem?_append_left hk] at hi
      exact .inl ⟨hk, hc k i hi⟩
    · rw [List.getElem?_append_right hk] at hi
      have hm := List.mem_of_getElem? hi
      rw [List.mem_singleton] at hm
      exact .inr hm
  refine ⟨fun k i hi => ?_, fun k i hi h0 => ?_⟩
  · rcases key k i hi with ⟨hk, h⟩ | rfl
    · have a0 := h.t0
      have a1 := h.t1
      have a2 := h.sl
      rcases h.op with h1 | h1 | h1 | h1 | h1 | h1
      · exact .inl h1
      · exact .inr (.inr (.inl ⟨h1, ⟨i.t0.toNat, by omega, by omega⟩, i.t1.toNat, by omega, by omega⟩))
      · exact .inr (.inr (.inr (.inl ⟨h1, i.t0.toNat, by omega, by omega⟩)))
      · exact .inr (.inr (.inr (.inr (.inl ⟨h1, by omega, i.sl.toNat, by omega, by omega⟩))))
      · exact .inr (.inr (.inr (.inr (.inr (.inl ⟨h1, by omega⟩)))))
      · exact .inr (.inr (.inr (.inr (.inr (.inr ⟨h1, by omega⟩)))))
    · exact .inr (.inl rfl)
  · rcases key k i hi with ⟨hk, h⟩ | rfl
    · omega
    · cases h0
theorem codeOK_to {code : List Ins} (h : CodeOK code) (h2 : TakeOK code) : codeOKB code = true := by
  unfold codeOKB
  rw [List.all_eq_true]
  intro k hk
  cases hc : code[k]? with
  | none => rfl
  | some i =>
    dsimp only
    rw [Bool.and_eq_true]
    constructor
    · simp only [insOKB, Bool.or_eq_true, Bool.and_eq_true, beq_iff_eq, decide_eq_true_eq]
      rcases h k i hc with h1 | h1 | ⟨h1, ⟨a, ha, hal⟩, b, hb, hbl⟩ | ⟨h1, a, ha, hal⟩ | ⟨h1, hk1, a, ha, hal⟩ | ⟨h1, hk1⟩ | ⟨h1, hk1⟩
      · exact .inl (.inl (.inl (.inl (.inl (.inl h1)))))
      · exact .inl (.inl (.inl (.inl (.inl (.inr h1)))))
      · exact .inl (.inl (.inl (.inl (.inr ⟨⟨⟨⟨h1, by omega⟩, by omega⟩, by omega⟩, by omega⟩))))
      · exact .inl (.inl (.inl (.inr ⟨⟨h1, by omega⟩, by omega⟩)))
      · exact .inl (.inl (.inr ⟨⟨⟨h1, hk1⟩, by omega⟩, by omega⟩))
      · exact .inl (.inr ⟨h1, hk1⟩)
      · exact .inr ⟨h1, hk1⟩
    · by_cases h0 : i.op = 0
      · rw [Bool.or_eq_true]
        exact .inr (decide_eq_true (h2 k i hc h0))
      · rw [Bool.or_eq_true]
        exact .inl (by simpa using h0)
mutual
theorem wok_to : ∀ q : Pt, WOK q → wokB q = true
  | .single _, _ => rfl
  | .seq l, h => by simp only [wokB, Bool.and_eq_true, decide_eq_true_eq]; exact ⟨⟨wokL_to l h.1, h.2.1⟩, h.2.2⟩
  | .alt l, h => by simp only [wokB, Bool.and_eq_true, decide_eq_true_eq]; exact ⟨⟨⟨wokL_to l h.1, h.2.1⟩, h.2.2.1⟩, h.2.2.2⟩
  | .wrap q k, h => by simp only [wokB, Bool.and_eq_true, decide_eq_true_eq]; exact ⟨⟨wok_to q h.1, h.2.1⟩, h.2.2⟩
  | .count q le mo z, h => by simp only [wokB, Bool.and_eq_true, decide_eq_true_eq]; exact ⟨⟨⟨⟨⟨wok_to q h.1, h.2.1⟩, h.2.2.1⟩, h.2.2.2.1⟩, h.2.2.2.2.1⟩, h.2.2.2.2.2⟩
theorem wokL_to : ∀ l : List Pt, WOKL l → wokLB l = true
  | [], _ => rfl
  | q :: l, h => by simp only [wokLB, Bool.and_eq_true]; exact ⟨wok_to q h.1, wokL_to l h.2⟩
end
theorem good_all {t : ByteArray} (ht : t.size ≤ 60) {p : Pt} {s : RS} (h : readM t = .ok p s) (hw : wt p ≤ 120) : goodP t = true := by
  obtain ⟨h1, h2, h3⟩ := read_fine ht h
  obtain ⟨c1, c2⟩ := prog_ok p h2
  have hz := (isz_wt p h2).1
  unfold goodP goodB patN
  rw [h]
  simp only [Bool.and_eq_true, decide_eq_true_eq]
  exact ⟨⟨⟨⟨⟨wok_to p h1, hw⟩, by omega⟩, codeOK_to c1 c2⟩, h3⟩, ht⟩
end Go.Proofs.YtgmjjhmnchefbaaGreatDoor.G

/- retag.Match at a text that is no pattern: too long, not of the form, too heavy. -/
namespace Go.Proofs.YtgmjjhmnchefbaaGreatDoor.G
open Go.RowKit

set_option maxHeartbeats 1000000 in
theorem gRead_long {w : World} {t : ByteArray} (ht : 60 < t.size) :
    Calls Tryz.prog 10 #[.string t] w fun e w' => e = .returned (.tuple #[.pointer none, .int .i64 60, .bool false]) ∧ Ex [] w w' := by
  have ht' : (t.size : Int) > 60 := by omega
  have ht2 : (60 : Int) < (t.size : Int) := by omega
  go_enter Tryz.func10, Tryz.ntmps10
  go_wp2_with fail
  refine bodyPost_ret (v := .tuple #[.pointer none, .int .i64 60, .bool false]) (by simp [results, Tryz.results10, go_sem]) rfl ⟨rfl, Ex.refl _ _⟩
set_option maxHeartbeats 4000000 in
set_option maxRecDepth 100000 in
theorem gRead_heavy {w : World} {t : ByteArray} {x : EV} {s : RS} {p : Pt} (hev : w.cell? ⟨0, 0, none⟩ = some (.iface x.1 x.2)) (ht : t.size ≤ 60) (hnp : NP t) (hb : readM t = .ok p s) (hw : WOK p) (hwt : 120 < wt p) :
    Calls Tryz.prog 10 #[.string t] w fun e w' => e = .returned (.tuple #[.pointer none, .int .i64 (t.size : Int), .bool false]) ∧ Ex [] w w' := by
  have HEV := hide hev
  have HNP := hide hnp
  have HB := hide hb
  have ht' : ¬ (t.size : Int) > 60 := by omega
  clear hev hnp hb
  go_enter Tryz.func10, Tryz.ntmps10
  go_wp2_with fail
  refine (gReadForm HEV.out ht HNP.out).mono ?_
  rintro e w1 ⟨r, mb, hr, hp⟩
  rw [HB.out] at hp
  obtain ⟨⟨u, rfl, hpr⟩, hg, hx⟩ := hp
  have HPR := hide hpr
  have HG := hide hg
  have HX := hide hx
  have hz1 := hx.size
  have hrlt := hg.lt
  clear hpr hg hx
  obtain ⟨kd', p', n', c', lo', hi', hg', gr', l', m', z'⟩ := u
  have HWT := hide (fun (w' : World) (hx : Ex [] w1 w') => weight_any (Btw w.heap.size w1.heap.size) p ⟨kd', p', n', c', lo', hi', hg', gr', l', m', z'⟩ w' (HPR.out.frame (fun _ h => h) hx.size (fun b _ hlt => hx.block b hlt (by simp)) _ _) hw)
  unfold PV.val at HWT ⊢
  dsimp only at HWT ⊢
  go_wp2_with fail
  refine (HWT.out _ ((Ex.refl _ _).alloc _)).mono ?_
  rintro e w2 ⟨rfl, hx2⟩
  have hx12 : Ex [] w1 w2 := ((Ex.refl _ _).alloc _).trans hx2
  have hA := BK.ex (BK.new w1 (Obj.cells #[.int .i64 kd', .slice p' n' c', .int .u64 lo', .int .u64 hi', .bool hg', .int .i64 gr', .int .i64 l', .int .i64 m', .bool z'] 76)) hx2 (by simp)
  obtain ⟨hcA, hfA⟩ := hA.all
  have HX12 := hide hx12
  have hz2 := hx12.size
  have hwt' : (wt p : Int) > 120 := by omega
  have hwt2 : (120 : Int) < (wt p : Int) := by omega
  clear hx2 hx12 hA
  go_wp2_with fail
  refine bodyPost_ret (v := .tuple #[.pointer none, .int .i64 (t.size : Int), .bool false]) (by simp [results, Tryz.results10, go_sem]) rfl ⟨rfl, ?_⟩
  exact HX.out.trans HX12.out
def placeM (t : ByteArray) : Option Nat := if 60 < t.size then some 60 else match readM t with
  | .bad s => some s.k
  | .ok p _ => if 120 < wt p then some t.size else none
set_option maxHeartbeats 2000000 in
set_option maxRecDepth 100000 in
theorem RMatch_no (t s : ByteArray) (k : Nat) (w : World) (hr : Calls Tryz.prog 10 #[.string t] w fun e w' => e = .returned (.tuple #[.pointer none, .int .i64 (k : Int), .bool false]) ∧ Ex [] w w') :
    Calls Tryz.prog 5 #[.string t, .string s] w fun e w' => e = .returned (.tuple #[.slice none 0 0, .bool false, .int .i64 4, .int .i64 (k : Int)]) ∧ Ex [] w w' := by
  have KR := hide hr
  clear hr
  go_enter Tryz.func5, Tryz.ntmps5
  go_wp2_with fail
  refine KR.out.mono ?_
  rintro e w1 ⟨rfl, hx1⟩
  have HX1 := hide hx1
  clear hx1
  go_wp2_with fail
  refine bodyPost_ret (v := .tuple #[.slice none 0 0, .bool false, .int .i64 4, .int .i64 (k : Int)]) (by simp [results, Tryz.results5, go_sem]) rfl ⟨rfl, HX1.out⟩
theorem RMatch_refused (t s : ByteArray) (x : EV) (k : Nat) (w : World) (hev : w.cell? ⟨0, 0, none⟩ = some (.iface x.1 x.2)) (hk : placeM t = some k) :
    Calls Tryz.prog 5 #[.string t, .string s] w fun e w' => e = .returned (.tuple #[.slice none 0 0, .bool false, .int .i64 4, .int .i64 (k : Int)]) ∧ Ex [] w w' := by
  unfold placeM at hk
  refine RMatch_no t s k w ?_
  by_cases h60 : 60 < t.size
  · rw [if_pos h60] at hk
    cases hk
    exact gRead_long h60
  · rw [if_neg h60] at hk
    cases hr : readM t with
    | bad s' =>
      rw [hr] at hk
      cases hk
      exact gRead_bad hev (by omega) (NP.all t) hr
    | ok p s' =>
      rw [hr] at hk
      dsimp only at hk
      split at hk
      · next hw =>
        cases hk
        exact gRead_heavy hev (by omega) (NP.all t) hr (read_fine (by omega) hr).1 hw
      · cases hk
theorem place_good {t : ByteArray} (h : placeM t = none) : goodP t = true := by
  unfold placeM at h
  by_cases h60 : 60 < t.size
  · rw [if_pos h60] at h; cases h
  · rw [if_neg h60] at h
    cases hr : readM t with
    | bad s => rw [hr] at h; cases h
    | ok p s =>
      rw [hr] at h
      dsimp only at h
      split at h
      · cases h
      · exact good_all (by omega) hr (by omega)
end Go.Proofs.YtgmjjhmnchefbaaGreatDoor.G
