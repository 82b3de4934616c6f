/- X8 Y1 Y4 X3, one behind the other. -/
import Derived.Test.YtmeffeigamaipabGreatDoorM43
import Derived.Test.YtmeffeigamaipabGreatDoorM05
import Derived.Test.YtmeffeigamaipabGreatDoorM31
import Derived.Test.YtmeffeigamaipabGreatDoorM28
import Derived.Test.YtmeffeigamaipabGreatDoorM37
import Derived.Test.YtmeffeigamaipabGreatDoorM01
set_option linter.unusedVariables false
set_option linter.unusedSimpArgs false
/- Package expand: a template, built. -/
namespace Go.Proofs.YtmeffeigamaipabGreatDoor.G
open Go.RowKit

def tempM (F : ByteArray → ByteArray) : Nat → ByteArray → List UInt8
  | 0, _ => []
  | f + 1, t => if t.size = 0 then [] else (firstM F t).1.data.toList ++ tempM F f (t.extract (firstM F t).2 t.size)
def tplM (F : ByteArray → ByteArray) (t : ByteArray) : ByteArray := ⟨(tempM F t.size t).toArray⟩
theorem temp_empty (F : ByteArray → ByteArray) (f : Nat) (t : ByteArray) (h : t.size = 0) : tempM F f t = [] := by
  cases f with
  | zero => rfl
  | succ f => simp [tempM, h]
theorem num_size (s : ByteArray) (l : List (Int × Int)) (k : Int) : (numM s l k).size ≤ s.size := by
  have h0 : (⟨#[]⟩ : ByteArray).size ≤ s.size := Nat.zero_le _
  unfold numM
  split
  · exact h0
  · split
    · split
      · exact h0
      · rw [Lib.size_eq, Lib.extract_data, List.length_take, List.length_drop, ← Lib.size_eq]; omega
    · exact h0
theorem stand_size (s : ByteArray) (l : List (Int × Int)) (nm : List (ByteArray × Nat)) (n : ByteArray) : (standM s l nm n).size ≤ s.size := by
  unfold standM namedM
  repeat' split
  all_goals first | exact num_size _ _ _ | exact Nat.zero_le _
theorem first_len (F : ByteArray → ByteArray) (t : ByteArray) (h1 : 1 ≤ t.size) : 1 ≤ (firstM F t).2 ∧ (firstM F t).2 ≤ t.size := by
  have hzx := size_ext1 t 1
  have hle := runN_le (t.extract 1 t.size)
  have hbe := braced_le (t.extract 1 t.size)
  unfold firstM
  split
  · next h =>
    have := plain_bound t h1 h
    dsimp only
    omega
  · split
    · next h =>
      have h2 : 2 ≤ t.size := by
        rw [← len_list]
        unfold Lib.hasPrefix at h
        exact (List.isPrefixOf_iff_prefix.1 h).length_le
      dsimp only
      omega
    · split
      · dsimp only; omega
      · split
        · next h => have := hbe h; dsimp only; omega
        · dsimp only; omega
theorem first_size (F : ByteArray → ByteArray) (t : ByteArray) (M : Nat) (hF : ∀ n, (F n).size ≤ M) (hM : t.size ≤ M) (h1 : 1 ≤ M) : (firstM F t).1.size ≤ M := by
  have h36 : (⟨#[36]⟩ : ByteArray).size = 1 := rfl
  unfold firstM
  repeat' split
  all_goals dsimp only
  · rw [Lib.size_eq, Lib.extract_data, List.length_take, List.length_drop, ← Lib.size_eq]; omega
  · omega
  · exact hF _
  · exact hF _
  · omega
theorem isb_ex {T e : TypeId} {B b : Nat} {bs : List Value} {w w' : World} (h : Lib.IsBuilderF T e B b bs w) (hx : Ex [] w w') : Lib.IsBuilderF T e B b bs w' := by
  have key : ∀ p, Lib.BuilderAtF T e B b p bs w → Lib.BuilderAtF T e B b p bs w' := by
    rintro p ⟨hB, v, hb, hown, hne⟩
    refine ⟨hB, v, (hx.block b (Array.getElem?_eq_some_iff.1 hb).1 (by simp)).trans hb, ⟨hown.1, ?_⟩, hne⟩
    rcases hown.2 with hn | ⟨g, cap, cur, fz, rfl, hb', hgg, rest⟩
    · exact .inl hn
    · exact .inr ⟨g, cap, cur, fz, rfl, hb', (hx.block g (Array.getElem?_eq_some_iff.1 hgg).1 (by simp)).trans hgg, rest⟩
  exact h.elim (fun h => .inl (key _ h)) (fun h => .inr (key _ h))
theorem _root_.Go.Proofs.YtmeffeigamaipabGreatDoor.Ex.trans2 {a w w' : World} (h : Ex [] a w) (hb : Below a.heap.size w w') : Ex [] a w' :=
  ⟨hb.os.trans h.os, hb.tape.trans h.tape, hb.output.trans h.output, Nat.le_trans h.size hb.size, fun k hk hn => (hb.block k hk).trans (h.block k hk hn)⟩
theorem writeString_k (B b : Nat) (bs : List Value) (s : ByteArray) (w : World) (h : Lib.IsBuilderF 214 5 B b bs w) (hlen : bs.length + s.size ≤ 140737488355328) (hBw : B ≤ w.heap.size) :
    Calls Tryz.prog 126 #[.pointer (some ⟨b, 0, none⟩), .string s] w fun e w' => e = .returned (.tuple #[.int .i64 s.size, .nilIface]) ∧ (Lib.BuilderAtF 214 5 B b (.pointer (some ⟨b, 0, none⟩)) (bs ++ Lib.strCells s) w' ∧ Below B w w' ∧ Lib.OthersKept 5 (some b) w w') :=
  Any.Builder_WriteString_k { Tryz.lays156 with } Tryz.Builder_Extra_156 B b bs s w h hlen hBw

set_option maxHeartbeats 4000000 in
set_option maxRecDepth 100000 in
theorem template_any (s : ByteArray) (mb g c : Nat) (l : List (Int × Int)) (nm : List (ByteArray × Nat)) (t : ByteArray) (w : World) (hd : FD w s mb g l nm) (ht : t.size ≤ 60) :
    Calls Tryz.prog 102 #[.string t, .agg #[.string s, .slice (some ⟨g, 0, none⟩) l.length c, .map (some mb)]] w fun e w' => e = .returned (.string (tplM (standM s l nm) t)) ∧ Ex [] w w' := by
  have KF := hide (fun (r : ByteArray) (W : World) (hx : Ex [] w W) (h1 : 1 ≤ r.size) (hr : r.size ≤ 60) => first_any s mb g c l nm r W (hd.ex hx) h1 hr)
  have hFs := fun r : ByteArray => fun hr : r.size ≤ 60 => first_size (standM s l nm) r 100000100 (fun n => by have := stand_size s l nm n; have := hd.sl; omega) (by omega) (by omega)
  obtain ⟨F, hF⟩ : ∃ F, F = standM s l nm := ⟨_, rfl⟩
  rw [← hF] at KF hFs ⊢
  obtain ⟨m, hm2⟩ : ∃ m, m = l.length := ⟨_, rfl⟩
  rw [← hm2] at KF ⊢
  have HFS := hide hFs
  obtain ⟨R, hR⟩ : ∃ R, R = tplM F t := ⟨_, rfl⟩
  rw [← hR]
  have HR := hide hR
  clear hd hF hm2 hFs hR
  obtain ⟨W1, hW1⟩ : ∃ W, W = w.alloc (Obj.cells #[.string s, .slice (some ⟨g, 0, none⟩) m c, .map (some mb)] 122) := ⟨_, rfl⟩
  have hx1 : Ex [] w W1 := by rw [hW1]; exact (Ex.refl _ _).alloc _
  have hb1 : BK W1 w.heap.size (.cells #[.string s, .slice (some ⟨g, 0, none⟩) m c, .map (some mb)] 122 (0, 0)) := by rw [hW1]; exact BK.new _ _
  have hs1 : W1.heap.size = w.heap.size + 1 := by rw [hW1]; simp
  have HX1 := hide hx1
  have HB1 := hide hb1
  have HS1 := hide hs1
  have HW1 := hide hW1
  clear hx1 hb1 hs1
  obtain ⟨n, hn⟩ : ∃ n, n = t.size := ⟨_, rfl⟩
  have HT := hide ht
  have HN := hide hn
  clear ht hn
  go_enter Tryz.func102, Tryz.ntmps102
  go_wp2_with fail
  rw [← HW1.out]
  clear hW1 HW1
  go_loopg [6] n (fun gk r6 wr => ∃ (r : ByteArray) (o : List UInt8), r6 = .string r ∧ r.size ≤ gk ∧ r.size ≤ 60 ∧ o ++ tempM F gk r = R.data.toList ∧ o.length + r.size * 100000100 ≤ 60 * 100000100 ∧ Lib.IsBuilderF 214 5 (w.heap.size + 1) (w.heap.size + 1) (Lib.byteCells o) wr ∧ Ex [] W1 wr)
  case atStart => exact ⟨t, [], rfl, by rw [HN.out]; exact Nat.le_refl _, HT.out, by rw [HR.out, HN.out]; simp [tplM], by have := HT.out; simp; omega, .inl ⟨Nat.le_refl _, _, by have h := BK.new W1 (.cells #[.pointer none, .slice none 0 0] 214); rw [HS1.out] at h; exact h, World.ownsRowF_nil _ _ _ _, by simp [Value.ownBlock]⟩, (Ex.refl _ _).alloc _⟩
  case round =>
    obtain ⟨r, o, rfl, hrg, hr60, hro, hol, hbd, hx⟩ := hrel
    have HRO := hide hro
    have HBD := hide hbd
    have HX := hide hx
    have hzz : w.heap.size + 1 ≤ wr.heap.size := by have := hx.size; have := HS1.out; omega
    clear hro hbd hx
    by_cases h0 : r.size = 0
    · obtain rfl : r = ⟨#[]⟩ := by apply ByteArray.ext; exact Array.eq_empty_of_size_eq_zero h0
      have KS := hide (fun W h1 h2 => Tryz.Builder_String_any_k (w.heap.size + 1) (w.heap.size + 1) o W h1 h2)
      have hres : (⟨o.toArray⟩ : ByteArray) = R := by
        have := HRO.out
        rw [temp_empty _ _ _ h0, List.append_nil] at this
        apply ByteArray.ext
        show o.toArray = R.data
        rw [this, Array.toArray_toList]
      rw [hres] at KS
      clear hres h0 hol hrg hr60
      go_wp2_with fail
      refine (KS.out _ HBD.out hzz).mono ?_
      rintro e w3 ⟨rfl, _, hbl, _⟩
      have hx3 : Ex [] W1 w3 := HX.out.trans2 (by rw [HS1.out]; exact hbl)
      have HX3 := hide (HX1.out.trans hx3)
      clear hx3 hbl
      go_wp2_with fail
      go_ret
      exact ⟨rfl, HX3.out⟩
    · have hem := nonempty_list h0
      have hpos : 1 ≤ r.size := by omega
      cases gk with
      | zero => exfalso; omega
      | succ gk =>
        obtain ⟨f1, f2⟩ := first_len F r hpos
        have f3 := HFS.out r hr60
        have K1 := hide (fun W hx => KF.out r W hx hpos hr60)
        have hstep : o ++ ((firstM F r).1.data.toList ++ tempM F gk (r.extract (firstM F r).2 r.size)) = R.data.toList := by
          have := HRO.out
          unfold tempM at this
          rw [if_neg h0] at this
          exact this
        obtain ⟨x, hx⟩ : ∃ x, x = (firstM F r).1 := ⟨_, rfl⟩
        obtain ⟨k, hk⟩ : ∃ k, k = (firstM F r).2 := ⟨_, rfl⟩
        rw [← hx, ← hk] at K1 hstep
        rw [← hk] at f1 f2
        rw [← hx] at f3
        have HST := hide hstep
        have hcr := (HB1.out.ex HX.out (by simp)).all.1
        have hlr := (HB1.out.ex HX.out (by simp)).lt
        have hkk : (k : Int) ≤ (r.size : Int) := by omega
        clear hx hk hstep HRO h0
        go_wp2_with fail
        refine (K1.out _ (HX1.out.trans HX.out)).mono ?_
        rintro e w3 ⟨rfl, hx3⟩
        have HX3 := hide (HX.out.trans hx3)
        have HBD3 := hide (isb_ex HBD.out hx3)
        have hz3 : w.heap.size + 1 ≤ w3.heap.size := by have := HX3.out.size; have := HS1.out; omega
        clear hx3 hcr
        go_wp2_with fail
        refine (writeString_k (w.heap.size + 1) (w.heap.size + 1) (Lib.byteCells o) x _ HBD3.out (by rw [Lib.byteCells_length]; omega) hz3).mono ?_
        rintro e w4 ⟨rfl, hat, hbl, _⟩
        have HX4 : Hid (Ex [] W1 w4) := HX3.out.trans2 (by rw [HS1.out]; exact hbl)
        have HBD4 : Hid (Lib.IsBuilderF 214 5 (w.heap.size + 1) (w.heap.size + 1) (Lib.byteCells (o ++ x.data.toList)) w4) := .inr (by
          have : Lib.byteCells (o ++ x.data.toList) = Lib.byteCells o ++ Lib.strCells x := by simp [Lib.byteCells, Lib.strCells]
          rw [this]; exact hat)
        clear hat hbl
        go_wp2_with fail
        have hse := Go.Proofs.YtmeffeigamaipabGreatDoor.G.size_extract r k r.size (Nat.le_refl _)
        go_roundg gk
        case measure => omega
        case rel => exact ⟨r.extract k r.size, o ++ x.data.toList, rfl, by omega, by omega, by rw [List.append_assoc]; exact HST.out, by rw [List.length_append, len_list, hse]; omega, HBD4.out, HX4.out⟩
end Go.Proofs.YtmeffeigamaipabGreatDoor.G

/- What a group stands for lies within the text, and ends no earlier than it begins. -/
namespace Go.Proofs.YtmeffeigamaipabGreatDoor.G

def clsB (code : List Ins) (k pc : Nat) : Bool := (code.take pc).countP (fun i => i.op == 3 && i.sl == ((2 * k : Nat) : Int)) == (code.take pc).countP (fun i => i.op == 3 && i.sl == ((2 * k + 1 : Nat) : Int))
def wayC (code : List Ins) (src : Nat → Bool) (y : Nat × Int) : Bool := (List.range 5).all fun k => !clsB code k y.1 || bitAt y.2 (2 * k + 1) || (!bitAt y.2 (2 * k) && src k)
def spanB (code : List Ins) : Bool := (waysM code (0, 0)).all (wayC code fun _ => true) && (List.range code.length).all fun pc => match code[pc]? with
  | none => true
  | some i => (i.op != 0 || (waysM code (pc + 1, 1)).all (wayC code fun k => clsB code k pc)) && (i.op != 6 || (List.range 5).all fun k => clsB code k pc)

def shutN (sl : List Int) (k : Nat) : Prop := sl.getD (2 * k) 0 < 0 ∨ sl.getD (2 * k) 0 ≤ sl.getD (2 * k + 1) 0
structure TI (code : List Ins) (pl : Int) (t : Th) : Prop where
  len : t.sl.length = 10
  bnd : ∀ z ∈ t.sl, -1 ≤ z ∧ z ≤ pl
  shut : ∀ k, k < 5 → clsB code k t.pc = true → shutN t.sl k
theorem TI.up {code : List Ins} {pl pl' : Int} {t : Th} (h : TI code pl t) (hp : pl ≤ pl') : TI code pl' t := ⟨h.len, fun z hz => ⟨(h.bnd z hz).1, by have := (h.bnd z hz).2; omega⟩, h.shut⟩
theorem markN_at (b pl : Int) (sl : List Int) : ∀ (n i : Nat), i < sl.length → (markN b pl n sl)[i]? = if i < n ∧ bitAt b i = true then some pl else sl[i]?
  | 0, i, hi => by simp [markN]
  | n + 1, i, hi => by
    have ih := markN_at b pl sl n i hi
    unfold markN
    by_cases hb : bitAt b n = true
    · rw [if_pos hb]
      by_cases hin : n = i
      · subst hin
        rw [List.getElem?_set_self (by rw [markN_len]; exact hi), if_pos ⟨by omega, hb⟩]
      · rw [List.getElem?_set_ne hin, ih]
        by_cases h : i < n ∧ bitAt b i = true
        · rw [if_pos h, if_pos ⟨by omega, h.2⟩]
        · rw [if_neg h, if_neg (fun e => h ⟨by omega, e.2⟩)]
    · rw [if_neg hb, ih]
      by_cases h : i < n ∧ bitAt b i = true
      · rw [if_pos h, if_pos ⟨by omega, h.2⟩]
      · rw [if_neg h, if_neg (fun e => h ⟨by
          have : i ≠ n := fun e2 => hb (e2 ▸ e.2)
          omega, e.2⟩)]
theorem markM_get (b pl : Int) (sl : List Int) (hl : sl.length = 10) (i : Nat) (hi : i < 10) : (markM b pl sl).getD i 0 = if bitAt b i = true then pl else sl.getD i 0 := by
  have h := markN_at b pl sl 10 i (by omega)
  unfold markM
  rw [List.getD_eq_getElem?_getD, h]
  by_cases hb : bitAt b i = true
  · rw [if_pos ⟨hi, hb⟩, if_pos hb]; rfl
  · rw [if_neg (fun e => hb e.2), if_neg hb, List.getD_eq_getElem?_getD]
theorem get_mem (sl : List Int) (i : Nat) (hi : i < sl.length) : sl.getD i 0 ∈ sl := by
  rw [List.getD_eq_getElem?_getD, List.getElem?_eq_getElem hi]
  exact List.getElem_mem hi
theorem mark_ti {code : List Ins} {pl : Int} {sl : List Int} {src : Nat → Bool} {y : Nat × Int} (h0 : 0 ≤ pl) (hl : sl.length = 10) (hz : ∀ z ∈ sl, -1 ≤ z ∧ z ≤ pl) (hs : ∀ k, k < 5 → src k = true → shutN sl k) (hw : wayC code src y = true) : TI code pl ⟨y.1, markM y.2 pl sl⟩ := by
  refine ⟨by rw [markM_len]; exact hl, fun z hm => ?_, fun k hk hc => ?_⟩
  · obtain ⟨i, hi, rfl⟩ := List.getElem_of_mem hm
    have hi' : i < 10 := by rw [markM_len, hl] at hi; exact hi
    have h := markM_get y.2 pl sl hl i hi'
    have e : (markM y.2 pl sl).getD i 0 = (markM y.2 pl sl)[i] := by rw [List.getD_eq_getElem?_getD, List.getElem?_eq_getElem hi]; rfl
    rw [← e, h]
    split
    · omega
    · exact hz _ (get_mem sl i (by omega))
  · have h1 := List.all_eq_true.1 hw k (List.mem_range.2 hk)
    dsimp only at hc
    rw [hc] at h1
    unfold shutN
    rw [markM_get _ _ _ hl _ (by omega), markM_get _ _ _ hl _ (by omega)]
    have b1 := hz _ (get_mem sl (2 * k) (by omega))
    have b2 := hz _ (get_mem sl (2 * k + 1) (by omega))
    by_cases hb : bitAt y.2 (2 * k + 1) = true
    · rw [if_pos hb]
      split
      · exact .inr (Int.le_refl _)
      · exact .inr b1.2
    · rw [if_neg hb]
      simp only [Bool.not_true, Bool.false_or, Bool.or_eq_true, Bool.and_eq_true, Bool.not_eq_true'] at h1
      rcases h1 with h1 | ⟨h1, h2⟩
      · exact absurd h1 hb
      · rw [if_neg (by rw [h1]; simp)]
        exact hs k hk h2
theorem follow_ti {code : List Ins} {pl : Int} {sl : List Int} {src : Nat → Bool} (h0 : 0 ≤ pl) (hl : sl.length = 10) (hz : ∀ z ∈ sl, -1 ≤ z ∧ z ≤ pl) (hs : ∀ k, k < 5 → src k = true → shutN sl k) : ∀ (ws : List (Nat × Int)) (s : List Th × List Int), ws.all (wayC code src) = true → (∀ t ∈ s.1, TI code pl t) → ∀ t ∈ (followM sl pl (wys ws) s).1, TI code pl t
  | [], s, _, hi => hi
  | y :: ws, s, hw, hi => by
    rw [List.all_cons, Bool.and_eq_true] at hw
    have e : wys (y :: ws) = ⟨y.1, y.2⟩ :: wys ws := rfl
    rw [e]
    unfold followM
    split
    · exact follow_ti h0 hl hz hs ws s hw.2 hi
    · refine follow_ti h0 hl hz hs ws _ hw.2 (fun t ht => ?_)
      rcases List.mem_append.1 ht with ht | ht
      · exact hi t ht
      · simp at ht; subst ht; exact mark_ti h0 hl hz hs hw.1
theorem step_ti {code : List Ins} (hB : spanB code = true) {r pl pl0 : Int} (h0 : 0 ≤ pl) (hp : pl0 ≤ pl) : ∀ (ts : List Th) (s : List Th × List Int), (∀ t ∈ ts, TI code pl0 t) → (∀ t ∈ s.1, TI code pl t) → ∀ t ∈ (stepL code r pl ts s).1, TI code pl t
  | [], s, _, hi => hi
  | t :: ts, s, ht, hi => by
    have ih : ∀ s, (∀ t ∈ s.1, TI code pl t) → ∀ t ∈ (stepL code r pl ts s).1, TI code pl t := fun s => step_ti hB h0 hp ts s (fun x hx => ht x (List.mem_cons_of_mem _ hx))
    have h1 := (ht t (List.mem_cons_self ..)).up hp
    unfold stepL
    split
    · next i hic =>
      split
      · next htk =>
        refine ih _ (follow_ti h0 h1.len h1.bnd h1.shut _ s ?_ hi)
        have hpc : t.pc < code.length := (List.getElem?_eq_some_iff.1 hic).1
        unfold spanB at hB
        rw [Bool.and_eq_true] at hB
        have h2 := List.all_eq_true.1 hB.2 t.pc (List.mem_range.2 hpc)
        rw [hic] at h2
        simp only [Bool.and_eq_true, Bool.or_eq_true] at h2
        unfold Ins.takes at htk
        rw [Bool.and_eq_true] at htk
        rcases h2.1 with h3 | h3
        · have e0 : i.op = 0 := by simpa using htk.1
          rw [e0] at h3; simp at h3
        · exact h3
      · exact ih s hi
    · exact ih s hi
theorem accept_ti {code : List Ins} (hB : spanB code = true) {pl : Int} : ∀ (ts : List Th), (∀ t ∈ ts, TI code pl t) → ∀ sl, acceptM code ts = some sl → sl.length = 10 ∧ (∀ z ∈ sl, -1 ≤ z ∧ z ≤ pl) ∧ ∀ k, k < 5 → shutN sl k
  | [], _, sl, h => by cases h
  | t :: ts, ht, sl, h => by
    unfold acceptM at h
    split at h
    · next h6 =>
      cases h
      have h1 := ht t (List.mem_cons_self ..)
      refine ⟨h1.len, h1.bnd, fun k hk => h1.shut k hk ?_⟩
      cases hic : code[t.pc]? with
      | none => rw [hic] at h6; cases h6
      | some i =>
        rw [hic] at h6
        have e6 : i.op = 6 := by simpa using h6
        have hpc : t.pc < code.length := (List.getElem?_eq_some_iff.1 hic).1
        unfold spanB at hB
        rw [Bool.and_eq_true] at hB
        have h2 := List.all_eq_true.1 hB.2 t.pc (List.mem_range.2 hpc)
        rw [hic] at h2
        simp only [Bool.and_eq_true, Bool.or_eq_true] at h2
        rcases h2.2 with h3 | h3
        · rw [e6] at h3; simp at h3
        · exact List.all_eq_true.1 h3 k (List.mem_range.2 hk)
    · exact accept_ti hB ts (fun x hx => ht x (List.mem_cons_of_mem _ hx)) sl h
theorem run_ti {code : List Ins} (hB : spanB code = true) (s : ByteArray) : ∀ (f a : Nat) (st : List Th × List Int), a ≤ s.size → (∀ t ∈ st.1, TI code (a : Int) t) → ∀ sl, runM code s f a st = some sl → sl.length = 10 ∧ (∀ z ∈ sl, -1 ≤ z ∧ z ≤ (s.size : Int)) ∧ ∀ k, k < 5 → shutN sl k
  | 0, a, st, ha, ht, sl, h => accept_ti hB st.1 (fun t hm => (ht t hm).up (by omega)) sl h
  | f + 1, a, st, ha, ht, sl, h => by
    unfold runM at h
    split at h
    · next hlt =>
      split at h
      · cases h
      · have hr := rs_all s a hlt
        exact run_ti hB s f _ _ hr.2 (step_ti hB (by omega) (by omega) st.1 _ ht (by simp)) sl h
    · exact accept_ti hB st.1 (fun t hm => (ht t hm).up (by omega)) sl h
theorem match_ti {code : List Ins} (hB : spanB code = true) (s : ByteArray) (sl : List Int) (h : matchM code s = some sl) : sl.length = 10 ∧ (∀ z ∈ sl, -1 ≤ z ∧ z ≤ (s.size : Int)) ∧ ∀ k, k < 5 → shutN sl k := by
  unfold matchM at h
  refine run_ti hB s _ 0 _ (by omega) (follow_ti (src := fun _ => true) (by simp) rfl (by decide) (fun k hk _ => ?_) _ _ ?_ (by simp)) sl h
  · have : k = 0 ∨ k = 1 ∨ k = 2 ∨ k = 3 ∨ k = 4 := by omega
    rcases this with rfl | rfl | rfl | rfl | rfl <;> exact .inl (by decide)
  · unfold spanB at hB
    rw [Bool.and_eq_true] at hB
    exact hB.1
theorem spans_in {code : List Ins} (hB : spanB code = true) (s : ByteArray) (sl : List Int) (h : matchM code s = some sl) (ng : Nat) (hg : ng ≤ 5) : ∀ y ∈ spansM s.size sl ng, y.1 < 0 ∨ (0 ≤ y.1 ∧ y.1 ≤ y.2 ∧ y.2 ≤ (s.size : Int)) := by
  obtain ⟨h1, h2, h3⟩ := match_ti hB s sl h
  intro y hy
  unfold spansM at hy
  rcases List.mem_cons.1 hy with rfl | hy
  · exact .inr ⟨by simp, by simp, by simp⟩
  · rw [List.mem_map] at hy
    obtain ⟨k, hk, rfl⟩ := hy
    have hk5 : k < 5 := by have := List.mem_range.1 hk; omega
    have b2 := h2 _ (get_mem sl (2 * k + 1) (by omega))
    have h4 := h3 k hk5
    unfold shutN at h4
    unfold spanAt
    dsimp only
    omega
end Go.Proofs.YtmeffeigamaipabGreatDoor.G

/- A label set by the name that was built; Replace: what such a rule does. -/
namespace Go.Proofs.YtmeffeigamaipabGreatDoor.G
open Go.RowKit

def nmdL (ls : List Lab) (a v : ByteArray) : List Lab := if nameB a then Go.Proofs.YtmeffeigamaipabGreatDoor.setL ls a v else ls
theorem LOK.nmd {ls : List Lab} (h : LOK ls) (a v : ByteArray) : LOK (nmdL ls a v) := by
  unfold nmdL
  split
  · next ha => exact h.set a v ha
  · exact h
set_option maxHeartbeats 1000000 in
set_option maxRecDepth 100000 in
theorem setNamed_ltn (q base : Nat) (ls : List Lab) (a v : ByteArray) (v0 : Value) (w : World) (hle : base ≤ w.heap.size) (hq : BK w q (.cells #[v0] 98 (0, 0))) (ho : w.ownsRow base 48 2 v0 ls.length (cellsOfL ls)) (hnq : v0.ownBlock ≠ some q)
    (hok : LOK ls) (ha : a.size ≤ 9223372036854775807) (hvl : v.size ≤ 281474976710656) :
    Calls Tryz.prog 101 #[.pointer (some ⟨q, 0, none⟩), .string a, .string v] w fun e w' => e = .returned (.tuple #[]) ∧ LTN w' q base (nmdL ls a v) v0.ownBlock w.heap.size ∧ Ex (q :: v0.ownBlock.toList) w w' := by
  have HLT : Hid (LTN w q base ls v0.ownBlock w.heap.size) := ⟨hle, v0, hq, ho, hnq, fun k hk => .inl hk⟩
  have KN := hide (fun w' => isName_any a w' ha)
  have KS := hide (set_ls q base ls a v v0 w hle hq ho hnq hok.len (hok.srt.for a) hvl)
  unfold nmdL
  obtain ⟨B, hB⟩ : ∃ B, B = nameB a := ⟨_, rfl⟩
  rw [← hB] at KN ⊢
  clear hq ho hnq hok hB
  cases B with
  | true =>
    go_enter Tryz.func101, Tryz.ntmps101
    go_wp2_with fail
    refine (KN.out _).mono ?_
    rintro e w1 ⟨rfl, rfl⟩
    go_wp2_with fail
    refine KS.out.mono ?_
    rintro e w1 ⟨rfl, hl1, hx1⟩
    have HL1 := hide hl1
    have HX1 := hide hx1
    clear hl1 hx1
    go_wp2_with fail
    go_end0
    exact ⟨rfl, HL1.out, HX1.out⟩
  | false =>
    go_enter Tryz.func101, Tryz.ntmps101
    go_wp2_with fail
    refine (KN.out _).mono ?_
    rintro e w1 ⟨rfl, rfl⟩
    go_wp2_with fail
    go_end0
    exact ⟨rfl, HLT.out, Ex.refl _ _⟩

theorem setNamed_any (q base : Nat) (ls : List Lab) (a v : ByteArray) (v0 : Value) (w : World) (hle : base ≤ w.heap.size) (hq : BK w q (.cells #[v0] 98 (0, 0))) (ho : w.ownsRow base 48 2 v0 ls.length (cellsOfL ls)) (hnq : v0.ownBlock ≠ some q)
    (hok : LOK ls) (ha : a.size ≤ 9223372036854775807) (hvl : v.size ≤ 281474976710656) :
    Calls Tryz.prog 101 #[.pointer (some ⟨q, 0, none⟩), .string a, .string v] w fun e w' => e = .returned (.tuple #[]) ∧ LT w' q base (nmdL ls a v) ∧ Ex (q :: v0.ownBlock.toList) w w' :=
  (setNamed_ltn q base ls a v v0 w hle hq ho hnq hok ha hvl).mono fun _ _ h => ⟨h.1, h.2.1.lt, h.2.2⟩

theorem tpl_size (F : ByteArray → ByteArray) (M : Nat) (hF : ∀ n, (F n).size ≤ M) (hM : 60 ≤ M) : ∀ (f : Nat) (t : ByteArray), t.size ≤ 60 → (tempM F f t).length ≤ t.size * M
  | 0, t, _ => Nat.zero_le _
  | f + 1, t, ht => by
    unfold tempM
    by_cases h0 : t.size = 0
    · rw [if_pos h0]; exact Nat.zero_le _
    · rw [if_neg h0, List.length_append, len_list]
      obtain ⟨h1, h2⟩ := first_len F t (by omega)
      have h3 := first_size F t M hF (by omega) (by omega)
      have hz := Go.Proofs.YtmeffeigamaipabGreatDoor.G.size_extract t (firstM F t).2 t.size (Nat.le_refl _)
      have h4 := tpl_size F M hF hM f (t.extract (firstM F t).2 t.size) (by omega)
      rw [hz] at h4
      have h5 : (t.size - (firstM F t).2) * M ≤ (t.size - 1) * M := Nat.mul_le_mul_right _ (by omega)
      have h6 : t.size * M = (t.size - 1) * M + M := by
        have : t.size = (t.size - 1) + 1 := by omega
        rw [this, Nat.add_sub_cancel, Nat.add_mul, Nat.one_mul]
      omega
theorem tplM_size (F : ByteArray → ByteArray) (M : Nat) (hF : ∀ n, (F n).size ≤ M) (hM : 60 ≤ M) (t : ByteArray) (ht : t.size ≤ 60) : (tplM F t).size ≤ 60 * M := by
  have h := tpl_size F M hF hM t.size t ht
  unfold tplM
  show (tempM F t.size t).toArray.size ≤ _
  rw [List.size_toArray]
  exact Nat.le_trans h (Nat.mul_le_mul_right _ ht)

structure Fit2 (code : List Ins) (ng : Nat) (nm : List (ByteArray × Nat)) : Prop where
  fit : Fit code ng
  span : spanB code = true
  nk : ∀ x ∈ nm, x.1.size ≤ 60
  nu : ∀ x ∈ nm, ∀ y ∈ nm, x.1 = y.1 → x.2 = y.2
  nv : ∀ x ∈ nm, x.2 ≤ 1000
def groupsM (s : ByteArray) (sl : List Int) (ng : Nat) (nm : List (ByteArray × Nat)) : ByteArray → ByteArray := standM s (spansM s.size sl ng) nm
theorem template_post (code : List Ins) (ng : Nat) (nm : List (ByteArray × Nat)) (hf : Fit2 code ng nm) (s : ByteArray) (hs : s.size ≤ 100000000) (sl : List Int) (hm : matchM code s = some sl) (v : Value) (mb base : Nat) (W : World) (ho : W.ownsRow base 90 2 v (ng + 1) (spanL (spansM s.size sl ng))) (hmb : BK W mb (.map (nmE nm) nm.length)) (t : ByteArray) (ht : t.size ≤ 60) (w : World) (hx : Ex [] W w) :
    Calls Tryz.prog 102 #[.string t, .agg #[.string s, v, .map (some mb)]] w fun e w' => e = .returned (.string (tplM (groupsM s sl ng nm) t)) ∧ Ex [] w w' := by
  obtain ⟨g, cap, rfl, hgl, hcell⟩ : ∃ g cap, v = .slice (some ⟨g, 0, none⟩) (ng + 1) cap ∧ g < W.heap.size ∧ ∀ j u, (spanL (spansM s.size sl ng))[j]? = some u → W.cell? ⟨g, j, none⟩ = some u := by
    obtain ⟨g, cap, rfl, _, hgl, _, hc, _⟩ := own_cells ho (by omega)
    refine ⟨g, cap, rfl, hgl, fun j u hj => ?_⟩
    rw [hc j (by have := (List.getElem?_eq_some_iff.1 hj).1; rw [← ho.1]; exact this)]
    exact hj
  have hfd : FD w s mb g (spansM s.size sl ng) nm := FD.ex ⟨hmb, hf.nk, hf.nu, hf.nv, hgl, hcell, by rw [spansM_len]; have := hf.fit.ng5; omega, hs, spans_in hf.span s sl hm ng hf.fit.ng5⟩ hx
  have h := template_any s mb g cap (spansM s.size sl ng) nm t w hfd ht
  rw [spansM_len] at h
  exact h
end Go.Proofs.YtmeffeigamaipabGreatDoor.G

/- The hash of a text. -/
namespace Go.Proofs.YtmeffeigamaipabGreatDoor.G
open Go.RowKit

def hashStep (h : Int) (b : UInt8) : Int := IntKind.wrap .u64 (bits .xor .u64 h (IntKind.wrap .u64 (b.toNat : Int)) * 1099511628211)
def hashM (s : ByteArray) : Int := s.data.toList.foldl hashStep 14695981039346656037

theorem foldl_step {α β : Type} (f : β → α → β) (b : β) (l : List α) (j : Nat) (a : α) (h : l[j]? = some a) : (l.take (j + 1)).foldl f b = f ((l.take j).foldl f b) a := by
  rw [List.take_add_one, h, List.foldl_append]
  rfl

set_option maxHeartbeats 1000000 in
set_option maxRecDepth 100000 in
theorem hash_any (s : ByteArray) (w : World) (hs : s.size ≤ 9223372036854775807) :
    Calls Tryz.prog 37 #[.string s] w fun e w' => e = .returned (.int .u64 (hashM s)) ∧ w' = w := by
  obtain ⟨R, hR⟩ : ∃ R, R = hashM s := ⟨_, rfl⟩
  rw [← hR]
  have HR := hide hR
  clear hR
  obtain ⟨n, hn⟩ : ∃ n, n = s.size := ⟨_, rfl⟩
  go_enter Tryz.func37, Tryz.ntmps37
  go_wp2_with fail
  go_loopg [3, 7] n (fun gk h i wr => ∃ (j : Nat) (x : Int), j + gk = n ∧ i = .int .i64 j ∧ h = .int .u64 x ∧ x = (s.data.toList.take j).foldl hashStep 14695981039346656037 ∧ wr = w)
  case atStart => exact ⟨0, _, by omega, rfl, rfl, rfl, rfl⟩
  case round =>
    obtain ⟨j, x, hj, rfl, rfl, hx, rfl⟩ := hrel
    have HX := hide hx
    clear hx
    cases gk with
    | zero =>
      have hr : R = x := by rw [HR.out, HX.out, List.take_of_length_le (by rw [len_list]; omega)]; rfl
      subst hr
      have h1 : ¬ ((j : Int) < (s.size : Int)) := by omega
      go_wp2_with fail
      go_ret
      exact ⟨rfl, rfl⟩
    | succ g =>
      have hjl : j < s.size := by omega
      have h1 : (j : Int) < (s.size : Int) := by omega
      have hst := foldl_step hashStep 14695981039346656037 s.data.toList j _ (at_list hjl)
      rw [← HX.out] at hst
      have HST := hide hst
      clear hst
      go_wp2_with fail
      go_roundg g
      case measure => omega
      case rel => exact ⟨j + 1, _, by omega, by simp, rfl, HST.out.symm, rfl⟩
end Go.Proofs.YtmeffeigamaipabGreatDoor.G
