/- I2 A5 A6, one behind the other. -/
import Derived.Test.YtmeffeigamaipaaDoorM32
import Derived.Test.YtmeffeigamaipaaDoorM37
import Derived.Test.YtmeffeigamaipaaDoorM36
import Derived.Test.YtmeffeigamaipaaDoorM29
import Derived.Test.YtmeffeigamaipaaDoorM27
set_option linter.unusedVariables false
set_option linter.unusedSimpArgs false
/- Every pattern that is read and not too heavy is good. -/
namespace Go.Proofs.YtmeffeigamaipaaDoor.G

mutual
theorem isz_wt : ∀ p : Pt, POK p → isz p ≤ 6 * wt p ∧ (1 ≤ wt p → isz p + 1 ≤ 6 * wt p)
  | .single c, _ => ⟨by show 1 ≤ 6 * 1; decide, fun _ => by show 2 ≤ 6 * 1; decide⟩
  | .seq l, h => isz_wtL l h
  | .alt l, h => by
    obtain ⟨h1, h2⟩ := isz_wtL l h.1
    have h3 := h.2
    show iszL l + 2 * (l.length - 1) ≤ 6 * (wtL l + l.length - 1) ∧ (1 ≤ wtL l + l.length - 1 → iszL l + 2 * (l.length - 1) + 1 ≤ 6 * (wtL l + l.length - 1))
    by_cases h0 : wtL l = 0
    · omega
    · have := h2 (by omega)
      omega
  | .wrap q g, h => by
    obtain ⟨h1, h2⟩ := isz_wt q h.1
    show (if g = 0 then isz q else isz q + 2) ≤ 6 * (wt q + 1) ∧ (1 ≤ wt q + 1 → (if g = 0 then isz q else isz q + 2) + 1 ≤ 6 * (wt q + 1))
    split <;> omega
  | .count q le mo z, h => by
    obtain ⟨h1, h2⟩ := isz_wt q h.1
    have h3 := h2 h.2.1
    obtain ⟨_, c2⟩ := h.2.2
    dsimp only at c2
    show (if mo = -1 then isz q * le + (isz q + 4) else isz q * le + (isz q + 1) * more le mo) ≤ 6 * (wt q * (if mo = -1 then le + 1 else mo.toNat) + 1) ∧ (1 ≤ wt q * (if mo = -1 then le + 1 else mo.toNat) + 1 → (if mo = -1 then isz q * le + (isz q + 4) else isz q * le + (isz q + 1) * more le mo) + 1 ≤ 6 * (wt q * (if mo = -1 then le + 1 else mo.toNat) + 1))
    by_cases hm : mo = -1
    · rw [if_pos hm, if_pos hm]
      have h4 := Nat.mul_le_mul_right (le + 1) h3
      simp only [Nat.add_mul, Nat.mul_add, Nat.mul_one, Nat.one_mul, Nat.mul_assoc] at h4 ⊢
      omega
    · rw [if_neg hm, if_neg hm]
      obtain ⟨d, hd⟩ : ∃ d, d = more le mo := ⟨_, rfl⟩
      have e : mo.toNat = le + d := by rw [hd]; unfold more; omega
      rw [← hd, e]
      have h4 := Nat.mul_le_mul_right d h3
      have h5 := Nat.mul_le_mul_right le h3
      simp only [Nat.add_mul, Nat.mul_add, Nat.mul_one, Nat.one_mul, Nat.mul_assoc] at h4 h5 ⊢
      omega
theorem isz_wtL : ∀ l : List Pt, POKL l → iszL l ≤ 6 * wtL l ∧ (1 ≤ wtL l → iszL l + 1 ≤ 6 * wtL l)
  | [], _ => ⟨Nat.zero_le _, fun h => absurd h (by show ¬ 1 ≤ 0; omega)⟩
  | p :: l, h => by
    obtain ⟨h1, h2⟩ := isz_wt p h.1
    obtain ⟨h3, h4⟩ := isz_wtL l h.2
    show isz p + iszL l ≤ 6 * (wt p + wtL l) ∧ (1 ≤ wt p + wtL l → isz p + iszL l + 1 ≤ 6 * (wt p + wtL l))
    by_cases h0 : wt p = 0
    · by_cases h5 : wtL l = 0
      · omega
      · have := h4 (by omega); omega
    · have := h2 (by omega); omega
end

structure IOK (n : Nat) (i : Ins) : Prop where
  t0 : 0 ≤ i.t0 ∧ i.t0 ≤ n
  t1 : 0 ≤ i.t1 ∧ i.t1 ≤ n
  sl : 0 ≤ i.sl ∧ i.sl < 64
  op : i.op = 0 ∨ i.op = 1 ∨ i.op = 2 ∨ i.op = 3 ∨ i.op = 4 ∨ i.op = 5
def COK (l : List Ins) : Prop := ∀ (j : Nat) (i : Ins), l[j]? = some i → IOK l.length i
theorem IOK.up {n m : Nat} {i : Ins} (h : IOK n i) (hm : n ≤ m) : IOK m i := ⟨by have := h.t0; omega, by have := h.t1; omega, h.sl, h.op⟩
theorem COK.snoc {l : List Ins} {i : Ins} (h : COK l) (hi : IOK (l.length + 1) i) : COK (l ++ [i]) := fun j x hx => by
  rw [List.length_append]
  show IOK (l.length + 1) x
  rcases Nat.lt_or_ge j l.length with hj | hj
  · rw [List.getElem?_append_left hj] at hx
    exact (h j x hx).up (Nat.le_succ _)
  · rw [List.getElem?_append_right hj] at hx
    have hm := List.mem_of_getElem? hx
    rw [List.mem_singleton] at hm
    rw [hm]; exact hi
theorem COK.way {l : List Ins} (h : COK l) (k : Nat) (s : Bool) (n : Nat) (hn : n ≤ l.length) : COK (wayAt l k s n) := fun j x hx => by
  rw [wayAt_len]
  unfold wayAt at hx
  rw [List.getElem?_modify] at hx
  cases hj : l[j]? with
  | none => rw [hj] at hx; simp at hx
  | some i =>
    rw [hj] at hx
    have hi := h j i hj
    have hx2 : (if k = j then i.way s n else i) = x := by simpa using hx
    clear hx
    split at hx2
    · subst hx2
      unfold Ins.way
      split
      · exact ⟨hi.t0, ⟨by show (0 : Int) ≤ (n : Int); omega, by show (n : Int) ≤ _; omega⟩, hi.sl, hi.op⟩
      · exact ⟨⟨by show (0 : Int) ≤ (n : Int); omega, by show (n : Int) ≤ _; omega⟩, hi.t1, hi.sl, hi.op⟩
    · subst hx2; exact hi
theorem bare_iok (n : Nat) (op : Int) (h : op = 0 ∨ op = 1 ∨ op = 2 ∨ op = 3 ∨ op = 4 ∨ op = 5) : IOK n (bare op) := ⟨⟨Int.le_refl _, by show (0 : Int) ≤ n; omega⟩, ⟨Int.le_refl _, by show (0 : Int) ≤ n; omega⟩, by show (0 : Int) ≤ 0 ∧ (0 : Int) < 64; omega, h⟩
theorem COK.fork {l : List Ins} (h : COK l) (z : Bool) : COK (forkM z l) := (h.snoc (bare_iok _ 1 (by simp))).way _ _ _ (by simp)
theorem COK.leave {l : List Ins} (h : COK l) (z : Bool) (k : Nat) : COK (leaveM z k l) := h.way _ _ _ (Nat.le_refl _)
theorem COK.land {l : List Ins} (h : COK l) (k : Nat) : COK (landM k l) := h.way _ _ _ (Nat.le_refl _)
theorem COK.leaves (z : Bool) : ∀ (ks : List Nat) (l : List Ins), COK l → COK (ks.foldl (fun l k => leaveM z k l) l)
  | [], l, h => h
  | k :: ks, l, h => COK.leaves z ks _ (h.leave z k)
theorem COK.lands : ∀ (ks : List Nat) (l : List Ins), COK l → COK (ks.foldl (fun l k => landM k l) l)
  | [], l, h => h
  | k :: ks, l, h => COK.lands ks _ (h.land k)
theorem COK.iters {f : List Ins → List Ins} (hf : ∀ l, COK l → COK (f l)) : ∀ (n : Nat) (l : List Ins), COK l → COK (iter f n l)
  | 0, l, h => h
  | n + 1, l, h => COK.iters hf n _ (hf l h)
theorem COK.itersF {f : List Ins → List Ins} (hf : ∀ l, COK l → COK (f l)) (z : Bool) : ∀ (n : Nat) (ks : List Nat) (l : List Ins), COK l → COK (iterF f z n ks l).2
  | 0, ks, l, h => h
  | n + 1, ks, l, h => COK.itersF hf z n _ _ (hf _ (h.fork z))
theorem note_iok (n g : Nat) (hg : g < 64) : IOK n (noteI g) := ⟨⟨Int.le_refl _, by show (0 : Int) ≤ n; omega⟩, ⟨Int.le_refl _, by show (0 : Int) ≤ n; omega⟩, by show (0 : Int) ≤ (g : Int) ∧ (g : Int) < 64; omega, by simp [noteI]⟩
mutual
theorem addM_cok : ∀ p : Pt, POK p → ∀ l, COK l → COK (addM p l)
  | .single c, _, l, h => by
    rw [addM]
    exact h.snoc ⟨⟨Int.le_refl _, by show (0 : Int) ≤ _; omega⟩, ⟨Int.le_refl _, by show (0 : Int) ≤ _; omega⟩, by show (0 : Int) ≤ 0 ∧ (0 : Int) < 64; omega, .inl rfl⟩
  | .seq ps, hp, l, h => by rw [addM]; exact addsM_cok ps hp l h
  | .alt ps, hp, l, h => by rw [addM]; exact COK.lands _ _ (altsM_cok ps hp.1 [] l h)
  | .wrap p g, hp, l, h => by
    rw [addM]
    have hg := hp.2
    split
    · exact addM_cok p hp.1 l h
    · exact (addM_cok p hp.1 _ (h.snoc (note_iok _ _ (by omega)))).snoc (note_iok _ _ (by omega))
  | .count p le mo z, hp, l, h => by
    rw [addM]
    have hf := addM_cok p hp.1
    have hi := COK.iters hf le l h
    split
    · unfold loopM
      have h1 := (hf _ ((hi.fork z).snoc (bare_iok _ 4 (by simp)))).snoc (bare_iok _ 5 (by simp))
      have hlen : (iter (addM p) le l).length ≤ (addM p (forkM z (iter (addM p) le l) ++ [bare 4]) ++ [bare 5]).length := by
        rw [List.length_append, addM_len, List.length_append, forkM_len]
        omega
      refine (h1.snoc ⟨⟨?_, ?_⟩, ⟨Int.le_refl _, by show (0 : Int) ≤ _; omega⟩, by show (0 : Int) ≤ 0 ∧ (0 : Int) < 64; omega, by simp [jumpTo]⟩).leave z _
      · show (0 : Int) ≤ ((iter (addM p) le l).length : Int)
        omega
      · show ((iter (addM p) le l).length : Int) ≤ _
        omega
    · exact COK.leaves z _ _ (COK.itersF hf z _ _ _ hi)
theorem addsM_cok : ∀ ps : List Pt, POKL ps → ∀ l, COK l → COK (addsM ps l)
  | [], _, l, h => by rw [addsM]; exact h
  | p :: ps, hp, l, h => by rw [addsM]; exact addsM_cok ps hp.2 _ (addM_cok p hp.1 l h)
theorem altsM_cok : ∀ ps : List Pt, POKL ps → ∀ js l, COK l → COK (altsM ps js l).2
  | [], _, js, l, h => by rw [altsM]; exact h
  | [p], hp, js, l, h => by rw [altsM]; exact addM_cok p hp.1 l h
  | p :: q :: ps, hp, js, l, h => by
    rw [altsM]
    exact altsM_cok (q :: ps) hp.2 _ _ (((addM_cok p hp.1 _ (h.fork false)).snoc (bare_iok _ 2 (by simp))).leave false _)
end
theorem prog_ok (p : Pt) (hp : POK p) : CodeOK (progM p) ∧ TakeOK (progM p) := by
  have hc := addM_cok p hp [] (fun j i h => by simp at h)
  have hl : (progM p).length = (addM p []).length + 1 := by simp [progM]
  have key : ∀ k i, (progM p)[k]? = some i → (k < (addM p []).length ∧ IOK (addM p []).length i) ∨ i = bare 6 := fun k i hi => by
    unfold progM at hi
    rcases Nat.lt_or_ge k (addM p []).length with hk | hk
    · rw [List.getElem?_append_left hk] at hi
      exact .inl ⟨hk, hc k i hi⟩
    · rw [List.getElem?_append_right hk] at hi
      have hm := List.mem_of_getElem? hi
      rw [List.mem_singleton] at hm
      exact .inr hm
  refine ⟨fun k i hi => ?_, fun k i hi h0 => ?_⟩
  · rcases key k i hi with ⟨hk, h⟩ | rfl
    · have a0 := h.t0
      have a1 := h.t1
      have a2 := h.sl
      rcases h.op with h1 | h1 | h1 | h1 | h1 | h1
      · exact .inl h1
      · exact .inr (.inr (.inl ⟨h1, ⟨i.t0.toNat, by omega, by omega⟩, i.t1.toNat, by omega, by omega⟩))
      · exact .inr (.inr (.inr (.inl ⟨h1, i.t0.toNat, by omega, by omega⟩)))
      · exact .inr (.inr (.inr (.inr (.inl ⟨h1, by omega, i.sl.toNat, by omega, by omega⟩))))
      · exact .inr (.inr (.inr (.inr (.inr (.inl ⟨h1, by omega⟩)))))
      · exact .inr (.inr (.inr (.inr (.inr (.inr ⟨h1, by omega⟩)))))
    · exact .inr (.inl rfl)
  · rcases key k i hi with ⟨hk, h⟩ | rfl
    · omega
    · cases h0
theorem codeOK_to {code : List Ins} (h : CodeOK code) (h2 : TakeOK code) : codeOKB code = true := by
  unfold codeOKB
  rw [List.all_eq_true]
  intro k hk
  cases hc : code[k]? with
  | none => rfl
  | some i =>
    dsimp only
    rw [Bool.and_eq_true]
    constructor
    · simp only [insOKB, Bool.or_eq_true, Bool.and_eq_true, beq_iff_eq, decide_eq_true_eq]
      rcases h k i hc with h1 | h1 | ⟨h1, ⟨a, ha, hal⟩, b, hb, hbl⟩ | ⟨h1, a, ha, hal⟩ | ⟨h1, hk1, a, ha, hal⟩ | ⟨h1, hk1⟩ | ⟨h1, hk1⟩
      · exact .inl (.inl (.inl (.inl (.inl (.inl h1)))))
      · exact .inl (.inl (.inl (.inl (.inl (.inr h1)))))
      · exact .inl (.inl (.inl (.inl (.inr ⟨⟨⟨⟨h1, by omega⟩, by omega⟩, by omega⟩, by omega⟩))))
      · exact .inl (.inl (.inl (.inr ⟨⟨h1, by omega⟩, by omega⟩)))
      · exact .inl (.inl (.inr ⟨⟨⟨h1, hk1⟩, by omega⟩, by omega⟩))
      · exact .inl (.inr ⟨h1, hk1⟩)
      · exact .inr ⟨h1, hk1⟩
    · by_cases h0 : i.op = 0
      · rw [Bool.or_eq_true]
        exact .inr (decide_eq_true (h2 k i hc h0))
      · rw [Bool.or_eq_true]
        exact .inl (by simpa using h0)
mutual
theorem wok_to : ∀ q : Pt, WOK q → wokB q = true
  | .single _, _ => rfl
  | .seq l, h => by simp only [wokB, Bool.and_eq_true, decide_eq_true_eq]; exact ⟨⟨wokL_to l h.1, h.2.1⟩, h.2.2⟩
  | .alt l, h => by simp only [wokB, Bool.and_eq_true, decide_eq_true_eq]; exact ⟨⟨⟨wokL_to l h.1, h.2.1⟩, h.2.2.1⟩, h.2.2.2⟩
  | .wrap q k, h => by simp only [wokB, Bool.and_eq_true, decide_eq_true_eq]; exact ⟨⟨wok_to q h.1, h.2.1⟩, h.2.2⟩
  | .count q le mo z, h => by simp only [wokB, Bool.and_eq_true, decide_eq_true_eq]; exact ⟨⟨⟨⟨⟨wok_to q h.1, h.2.1⟩, h.2.2.1⟩, h.2.2.2.1⟩, h.2.2.2.2.1⟩, h.2.2.2.2.2⟩
theorem wokL_to : ∀ l : List Pt, WOKL l → wokLB l = true
  | [], _ => rfl
  | q :: l, h => by simp only [wokLB, Bool.and_eq_true]; exact ⟨wok_to q h.1, wokL_to l h.2⟩
end
theorem good_all {t : ByteArray} (ht : t.size ≤ 60) {p : Pt} {s : RS} (h : readM t = .ok p s) (hw : wt p ≤ 120) : goodP t = true := by
  obtain ⟨h1, h2, h3⟩ := read_fine ht h
  obtain ⟨c1, c2⟩ := prog_ok p h2
  have hz := (isz_wt p h2).1
  unfold goodP goodB patN
  rw [h]
  simp only [Bool.and_eq_true, decide_eq_true_eq]
  exact ⟨⟨⟨⟨⟨wok_to p h1, hw⟩, by omega⟩, codeOK_to c1 c2⟩, h3⟩, ht⟩
end Go.Proofs.YtmeffeigamaipaaDoor.G

/- A pattern's run finds the first way of its expression. -/
namespace Go.Proofs.YtmeffeigamaipaaDoor.G

def rns (s : ByteArray) : Nat → Nat → List (Nat × Nat)
  | 0, _ => []
  | f + 1, a => if a < s.size then (rune s a, a + rsz s a) :: rns s f (a + rsz s a) else []
noncomputable def fstT (code : List Ins) (l : List (Nat × Nat)) (pl : Nat) (ts : List Th) : Option (List Int) := ts.findSome? fun t => (fut code l pl (t.pc, 1)).map (app t.sl)
theorem fstT_snoc (code : List Ins) (l : List (Nat × Nat)) (pl : Nat) (ts : List Th) (t : Th) : fstT code l pl (ts ++ [t]) = (fstT code l pl ts).or ((fut code l pl (t.pc, 1)).map (app t.sl)) := by
  unfold fstT
  rw [List.findSome?_append]
  congr 1
  simp
theorem fstT_none {code : List Ins} {l : List (Nat × Nat)} {pl : Nat} {ts : List Th} (h : fstT code l pl ts = none) {t : Th} (ht : t ∈ ts) : fut code l pl (t.pc, 1) = none := by
  unfold fstT at h
  rw [List.findSome?_eq_none_iff] at h
  have := h t ht
  simpa using this
structure ThOK (code : List Ins) (l : List (Nat × Nat)) (pl : Nat) (t : Th) : Prop where
  len : t.sl.length = 10
  ins : ∃ i, code[t.pc]? = some i ∧ (i.op = 0 ∨ i.op = 6)
  ev : ∃ n v, VEv code l pl (t.pc, 1) n v
def Rcd (pl : Nat) (ts : List Th) (rc : List Int) : Prop := ∀ k, rc[k]? = some (pl : Int) → ∃ t ∈ ts, t.pc = k
theorem follow_ev {code : List Ins} {l : List (Nat × Nat)} {pl : Nat} {sl : List Int} (hl : sl.length = 10) : ∀ (ws : List (Nat × Int)) (s : List Th × List Int), (∀ y ∈ ws, WOKw code l pl y) → Rcd pl s.1 s.2 → (∀ t ∈ s.1, ThOK code l pl t) → (∀ z ∈ s.2, z ≤ (pl : Int)) →
    fstT code l pl (followM sl pl (wys ws) s).1 = (fstT code l pl s.1).or (fstW code l pl sl ws) ∧ Rcd pl (followM sl pl (wys ws) s).1 (followM sl pl (wys ws) s).2 ∧ (∀ t ∈ (followM sl pl (wys ws) s).1, ThOK code l pl t) ∧ (∀ z ∈ (followM sl pl (wys ws) s).2, z ≤ (pl : Int))
  | [], s, _, h1, h2, h3 => ⟨by show fstT code l pl s.1 = _; simp [fstW], h1, h2, h3⟩
  | y :: ws, s, hw, h1, h2, h3 => by
    have hy := hw y (List.mem_cons_self ..)
    have hws : ∀ y ∈ ws, WOKw code l pl y := fun z hz => hw z (List.mem_cons_of_mem _ hz)
    have hf : fstW code l pl sl (y :: ws) = ((fut code l pl (y.1, 1)).map fun m => app (markM y.2 pl sl) m).or (fstW code l pl sl ws) := by
      unfold fstW
      rw [List.findSome?_cons]
      cases fut code l pl (y.1, 1) <;> rfl
    have hu : wys (y :: ws) = ⟨y.1, y.2⟩ :: wys ws := rfl
    rw [hu]
    unfold followM
    by_cases hc : s.2[y.1]? = some (pl : Int)
    · rw [if_pos hc]
      obtain ⟨g1, g2⟩ := follow_ev hl ws s hws h1 h2 h3
      refine ⟨?_, g2⟩
      rw [g1, hf]
      cases h9 : fstT code l pl s.1 with
      | some v => rfl
      | none =>
        obtain ⟨t, ht, e⟩ := h1 _ hc
        have := fstT_none h9 ht
        rw [e] at this
        rw [this]
        rfl
    · rw [if_neg hc]
      have g := follow_ev hl ws (s.1 ++ [⟨y.1, markM y.2 pl sl⟩], s.2.set y.1 pl) hws (fun k hk => ?_) (fun t ht => ?_) (fun z hz => ?_)
      · refine ⟨?_, g.2⟩
        rw [g.1, hf]
        show (fstT code l pl (s.1 ++ [⟨y.1, markM y.2 pl sl⟩])).or _ = _
        rw [fstT_snoc, Option.or_assoc]
      · by_cases he : y.1 = k
        · exact ⟨⟨y.1, markM y.2 pl sl⟩, by simp, he⟩
        · have hk2 : s.2[k]? = some (pl : Int) := by
            have : (s.2.set y.1 pl)[k]? = some (pl : Int) := hk
            rw [List.getElem?_set_ne he] at this
            exact this
          obtain ⟨t, ht, e⟩ := h1 k hk2
          exact ⟨t, List.mem_append_left _ ht, e⟩
      · rcases List.mem_append.1 ht with h9 | h9
        · exact h2 t h9
        · rw [List.mem_singleton] at h9
          subst h9
          exact ⟨by rw [markM_len]; exact hl, hy.1, hy.2⟩
      · rcases List.mem_or_eq_of_mem_set hz with h9 | h9
        · exact h3 z h9
        · omega
theorem step_ev {code : List Ins} (hok : CodeOK code) (htk : TakeOK code) (hso : SlotOK code) {r p a : Nat} {l : List (Nat × Nat)} : ∀ (ts : List Th) (s : List Th × List Int), (∀ t ∈ ts, ThOK code ((r, p) :: l) a t) → Rcd p s.1 s.2 → (∀ t ∈ s.1, ThOK code l p t) → (∀ z ∈ s.2, z ≤ (p : Int)) →
    fstT code l p (stepL code r p ts s).1 = (fstT code l p s.1).or (fstT code ((r, p) :: l) a ts) ∧ Rcd p (stepL code r p ts s).1 (stepL code r p ts s).2 ∧ (∀ t ∈ (stepL code r p ts s).1, ThOK code l p t) ∧ (∀ z ∈ (stepL code r p ts s).2, z ≤ (p : Int))
  | [], s, _, h1, h2, h3 => ⟨by show fstT code l p s.1 = _; simp [fstT], h1, h2, h3⟩
  | t :: ts, s, ht, h1, h2, h3 => by
    have ht0 := ht t (List.mem_cons_self ..)
    have hts : ∀ t ∈ ts, ThOK code ((r, p) :: l) a t := fun y hy => ht y (List.mem_cons_of_mem _ hy)
    obtain ⟨i, hi, hop⟩ := ht0.ins
    obtain ⟨n, v, hv⟩ := ht0.ev
    have hf : fstT code ((r, p) :: l) a (t :: ts) = (v.map (app t.sl)).or (fstT code ((r, p) :: l) a ts) := by
      unfold fstT
      rw [List.findSome?_cons, hv.fut]
      cases v <;> rfl
    unfold stepL
    rw [hi]
    dsimp only
    by_cases hta : i.takes (r : Int) = true
    · rw [if_pos hta]
      have h0 : i.op = 0 := by
        simp only [Ins.takes, Bool.and_eq_true, beq_iff_eq] at hta
        exact hta.1
      obtain ⟨n1, hv1⟩ : ∃ n1, VEv code l p (t.pc + 1, 1) n1 v := by
        cases hv with
        | takeN k1 k2 k3 => rw [hi] at k1; cases k1; rw [hta] at k3; cases k3
        | takeY k1 k2 k3 k4 => exact ⟨_, k4⟩
        | acc k1 k2 => rw [hi] at k1; cases k1; omega
        | split k1 k2 => rw [hi] at k1; cases k1; omega
        | jump k1 k2 => rw [hi] at k1; cases k1; omega
        | note k1 k2 => rw [hi] at k1; cases k1; omega
        | start k1 k2 => rw [hi] at k1; cases k1; omega
        | endN k1 k2 => rw [hi] at k1; cases k1; omega
        | endY k1 k2 => rw [hi] at k1; cases k1; omega
      obtain ⟨w1, w2⟩ := ways_ev hok hso (pl := p) ht0.len hv1 (htk _ _ hi h0) (by show 1 < 2; omega)
      obtain ⟨g1, g2, g3, g4⟩ := follow_ev ht0.len (waysM code (t.pc + 1, 1)) s w2 h1 h2 h3
      obtain ⟨k1, k2⟩ := step_ev hok htk hso ts _ hts g2 g3 g4
      refine ⟨?_, k2⟩
      rw [k1, g1, w1, hf, Option.or_assoc]
    · rw [if_neg hta]
      have hvn : v = none := by
        cases hv with
        | takeN k1 k2 k3 => rfl
        | takeY k1 k2 k3 k4 => rw [hi] at k1; cases k1; exact absurd k3 hta
        | acc k1 k2 => rfl
        | split k1 k2 => rw [hi] at k1; cases k1; omega
        | jump k1 k2 => rw [hi] at k1; cases k1; omega
        | note k1 k2 => rw [hi] at k1; cases k1; omega
        | start k1 k2 => rw [hi] at k1; cases k1; omega
        | endN k1 k2 => rfl
        | endY k1 k2 => rw [hi] at k1; cases k1; omega
      obtain ⟨k1, k2⟩ := step_ev hok htk hso ts s hts h1 h2 h3
      refine ⟨?_, k2⟩
      rw [k1, hf, hvn]
      rfl
theorem accept_ev {code : List Ins} {a : Nat} : ∀ (ts : List Th), (∀ t ∈ ts, ThOK code [] a t) → acceptM code ts = fstT code [] a ts
  | [], _ => rfl
  | t :: ts, ht => by
    have ht0 := ht t (List.mem_cons_self ..)
    have ih := accept_ev ts (fun y hy => ht y (List.mem_cons_of_mem _ hy))
    obtain ⟨i, hi, hop⟩ := ht0.ins
    have hf : fstT code [] a (t :: ts) = ((fut code [] a (t.pc, 1)).map (app t.sl)).or (fstT code [] a ts) := by
      unfold fstT
      rw [List.findSome?_cons]
      cases fut code [] a (t.pc, 1) <;> rfl
    unfold acceptM
    rw [hi, hf]
    rcases hop with h0 | h0
    · rw [(VEv.take0 (pl := a) (m := 1) hi h0).fut, if_neg (by simp [h0]), ih]
      rfl
    · rw [(VEv.acc (l := []) (pl := a) (m := 1) hi h0).fut, if_pos (by simp [h0])]
      rfl
theorem run_ev {code : List Ins} (hok : CodeOK code) (htk : TakeOK code) (hso : SlotOK code) (s : ByteArray) : ∀ (f a : Nat) (ts : List Th) (rc : List Int), (∀ t ∈ ts, ThOK code (rns s f a) a t) → (∀ z ∈ rc, z ≤ (a : Int)) → runM code s f a (ts, rc) = fstT code (rns s f a) a ts
  | 0, a, ts, rc, ht, hr => accept_ev ts ht
  | f + 1, a, ts, rc, ht, hr => by
    unfold runM
    by_cases ha : a < s.size
    · have hge := (rs_all s a ha).1
      have hrn : rns s (f + 1) a = (rune s a, a + rsz s a) :: rns s f (a + rsz s a) := by rw [rns, if_pos ha]
      rw [hrn] at ht ⊢
      rw [if_pos ha]
      obtain ⟨k1, k2, k3, k4⟩ := step_ev hok htk hso ts ([], rc) ht (fun k hk => by
        have := hr _ (List.mem_of_getElem? hk)
        omega) (fun t ht => by cases ht) (fun z hz => by have := hr z hz; omega)
      rw [show (fstT code (rns s f (a + rsz s a)) (a + rsz s a) ([], rc).1) = none from rfl, Option.none_or] at k1
      dsimp only
      split
      · next h0 =>
        rw [← k1, List.length_eq_zero_iff.1 h0]
        rfl
      · rw [← k1]
        exact run_ev hok htk hso s f _ _ _ k3 k4
    · rw [if_neg ha]
      have hrn : rns s (f + 1) a = [] := by rw [rns, if_neg ha]
      rw [hrn] at ht ⊢
      exact accept_ev ts ht

def NoteOK (c : List Ins) : Prop := ∀ i ∈ c, i.op = 3 → ∃ a : Nat, (a : Int) = i.sl ∧ a < 10
theorem NoteOK.app {a b : List Ins} (h : NoteOK a) (k : NoteOK b) : NoteOK (a ++ b) := fun i hi => (List.mem_append.1 hi).elim (h i) (k i)
theorem NoteOK.cons {i : Ins} {b : List Ins} (h : i.op = 3 → ∃ a : Nat, (a : Int) = i.sl ∧ a < 10) (k : NoteOK b) : NoteOK (i :: b) := fun j hj => by
  rcases List.mem_cons.1 hj with rfl | hj
  · exact h
  · exact k j hj
theorem NoteOK.nil : NoteOK [] := fun i hi => by cases hi
theorem split_not3 (z : Bool) (a b : Nat) : ¬ (splitI z a b).op = 3 := by cases z <;> exact (by decide : ¬ (1 : Int) = 3)
theorem note_ups {f : Nat → List Ins} (hf : ∀ n, NoteOK (f n)) (z : Bool) (s e : Nat) : ∀ m n, NoteOK (cdeF f z s e m n)
  | 0, n => .nil
  | m + 1, n => .cons (fun h => absurd h (split_not3 _ _ _)) ((hf _).app (note_ups hf z s e m _))
theorem note_its {f : Nat → List Ins} (hf : ∀ n, NoteOK (f n)) (s : Nat) : ∀ m n, NoteOK (cdeI f s m n)
  | 0, n => .nil
  | m + 1, n => (hf _).app (note_its hf s m _)
mutual
theorem note_cde : ∀ (p : Pt), POK p → ∀ n, NoteOK (cde p n)
  | .single c, _, n => by rw [cde]; exact .cons (fun h => absurd h (by show ¬ (0 : Int) = 3; decide)) .nil
  | .seq l, hp, n => by rw [cde]; exact note_cdeS l hp n
  | .alt l, hp, n => by rw [cde]; exact note_cdeA l hp.1 n _
  | .wrap p g, hp, n => by
    have hg := hp.2
    rw [cde]
    split
    · exact note_cde p hp.1 n
    · refine .cons (fun _ => ⟨2 * (g - 1), rfl, by omega⟩) ((note_cde p hp.1 _).app (.cons (fun _ => ⟨2 * (g - 1) + 1, rfl, by omega⟩) .nil))
  | .count p le mo z, hp, n => by
    have hf := note_cde p hp.1
    rw [cde]
    split
    · refine (note_its hf _ _ _).app (.cons (fun h => absurd h (split_not3 _ _ _)) (.cons (fun h => absurd h (by show ¬ (4 : Int) = 3; decide)) ((hf _).app (.cons (fun h => absurd h (by show ¬ (5 : Int) = 3; decide)) (.cons (fun h => absurd h (by show ¬ (2 : Int) = 3; decide)) .nil)))))
    · exact (note_its hf _ _ _).app (note_ups hf _ _ _ _ _)
theorem note_cdeS : ∀ (l : List Pt), POKL l → ∀ n, NoteOK (cdeS l n)
  | [], _, n => by rw [cdeS]; exact .nil
  | p :: l, hp, n => by rw [cdeS]; exact (note_cde p hp.1 n).app (note_cdeS l hp.2 _)
theorem note_cdeA : ∀ (l : List Pt), POKL l → ∀ n e, NoteOK (cdeA l n e)
  | [], _, n, e => by rw [cdeA]; exact .nil
  | [p], hp, n, e => by rw [cdeA]; exact note_cde p hp.1 n
  | p :: q :: l, hp, n, e => by
    rw [cdeA]
    exact .cons (fun h => absurd h (split_not3 _ _ _)) ((note_cde p hp.1 _).app (.cons (fun h => absurd h (by show ¬ (2 : Int) = 3; decide)) (note_cdeA (q :: l) hp.2 _ _)))
end
theorem prog_slot (q : Pt) (hq : POK q) : SlotOK (progM q) := fun k i hi ho => by
  have h : NoteOK (progM q) := by
    rw [progM_eq]
    exact (note_cde q hq 0).app (.cons (fun h => absurd h (by show ¬ (6 : Int) = 3; decide)) .nil)
  exact h i (List.mem_of_getElem? hi) ho
theorem match_ev (q : Pt) (hq : POK q) (s : ByteArray) : matchM (progM q) s = (ev (rns s s.size 0) 0 [.ex (den q)]).map (app unsetS) := by
  obtain ⟨hok, htk⟩ := prog_ok q hq
  have hso := prog_slot q hq
  obtain ⟨n, hv⟩ := prog_ev q hq (rns s s.size 0) 0
  have hpos : 0 < (progM q).length := by rw [progM_eq]; simp
  obtain ⟨w1, w2⟩ := ways_ev hok hso (pl := 0) (sl := unsetS) rfl hv hpos (by show 0 < 2; omega)
  obtain ⟨g1, g2, g3, g4⟩ := follow_ev (pl := 0) (sl := unsetS) rfl (waysM (progM q) (0, 0)) ([], List.replicate (progM q).length (-1)) w2 (fun k hk => by
    have := List.mem_of_getElem? hk
    rw [List.mem_replicate] at this
    exact absurd this.2 (by decide)) (fun t ht => by cases ht) (fun z hz => by
    rw [List.mem_replicate] at hz
    rw [hz.2]
    decide)
  unfold matchM
  have h1 := run_ev hok htk hso s s.size 0 (followM unsetS ((0 : Nat) : Int) (wys (waysM (progM q) (0, 0))) ([], List.replicate (progM q).length (-1))).1 (followM unsetS ((0 : Nat) : Int) (wys (waysM (progM q) (0, 0))) ([], List.replicate (progM q).length (-1))).2 g3 g4
  refine Eq.trans h1 ?_
  rw [g1, w1]
  rfl
end Go.Proofs.YtmeffeigamaipaaDoor.G

/- What the sets of runes hold. -/
namespace Go.Proofs.YtmeffeigamaipaaDoor.G

def hn (c : Cls) (r : Nat) : Bool := hasC c (r : Int)
theorem hn_high (c : Cls) (r : Nat) (h : 128 ≤ r) : hn c r = c.hg := by unfold hn hasC; rw [if_pos (by omega)]
def hB (bs : List Bool) (r : Nat) : Bool := bs.getD r false
end Go.Proofs.YtmeffeigamaipaaDoor.G
