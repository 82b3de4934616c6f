/- T11 F14 T16 T17 T13, one behind the other. -/
import Derived.Test.YtmeffeigamaipabGreatDoorM38
import Derived.Test.YtmeffeigamaipabGreatDoorM37
import Derived.Test.YtmeffeigamaipabGreatDoorM39
import Derived.Test.YtmeffeigamaipabGreatDoorM30
import Derived.Test.YtmeffeigamaipabGreatDoorM36
import Derived.Test.YtmeffeigamaipabGreatDoorM11
import Derived.Deep.RegionHeld3
set_option linter.unusedVariables false
set_option linter.unusedSimpArgs false
/- Make, at actions whose rules keep, drop or part labels by a pattern. -/
namespace Go.Proofs.YtmeffeigamaipabGreatDoor.G
open Go.RowKit

/-- What a text that is a pattern becomes. -/
def patC (t : ByteArray) : List Ins := match readM t with | .ok p _ => progM p | .bad _ => []
def patN (t : ByteArray) : Nat := match readM t with | .ok _ s => s.g | .bad _ => 0
def patM (t : ByteArray) : List (ByteArray × Nat) := match readM t with | .ok _ s => s.nm | .bad _ => []
def goodP (t : ByteArray) : Bool := goodB t && decide (patN t ≤ 5) && decide (t.size ≤ 60)
theorem fit_of {t : ByteArray} (h : goodP t = true) : Fit (patC t) (patN t) := by
  simp only [goodP, Bool.and_eq_true, decide_eq_true_eq] at h
  obtain ⟨⟨h1, h2⟩, h3⟩ := h
  unfold goodB at h1
  unfold patC
  cases hr : readM t with
  | bad s => rw [hr] at h1; simp at h1
  | ok p s =>
    rw [hr] at h1
    simp only [Bool.and_eq_true, decide_eq_true_eq] at h1
    obtain ⟨c1, c2⟩ := codeOK_of h1.2
    have hl := progM_len p
    exact ⟨c1, c2, by show (progM p).length ≤ 100000; have := h1.1.2; omega, by show 0 < (progM p).length; omega, h2⟩
theorem readsP {w : World} {t : ByteArray} {x : EV} (hev : w.cell? ⟨1, 0, none⟩ = some (.iface x.1 x.2)) (h : goodP t = true) (w1 : World) (hx : Ex [] w w1) :
    Calls Tryz.prog 56 #[.string t] w1 fun e w' => ∃ q, e = .returned (.tuple #[.pointer (some ⟨q, 0, none⟩), .int .i64 0, .bool true]) ∧ PG w' q w1.heap.size (patC t) (patN t) (patM t) ∧ Ex [] w1 w' := by
  simp only [goodP, Bool.and_eq_true, decide_eq_true_eq] at h
  obtain ⟨p, s, hr, hc⟩ := gRead_ok (w := w1) (x := x) ((hx.cell0.1 _ _ (lt_of_cell hev)).trans hev) h.2 (NP.all t) h.1.1
  have e1 : patC t = progM p := by unfold patC; rw [hr]
  have e2 : patN t = s.g := by unfold patN; rw [hr]
  have e3 : patM t = s.nm := by unfold patM; rw [hr]
  rw [e1, e2, e3]
  exact hc
theorem PG.lower {w : World} {q b b' : Nat} {code : List Ins} {ng : Nat} {nm : List (ByteArray × Nat)} (h : PG w q b code ng nm) (hb : b' ≤ b) : PG w q b' code ng nm := by
  obtain ⟨cp, cc, sp, sc, B, mb, hq, hoc, hos, hbh, hbB, hnm, hmb⟩ := h.ex
  exact ⟨Nat.le_trans hb h.le, Nat.le_trans hb h.ql, cp, cc, sp, sc, B, mb, hq, own_lower hoc hb, own_lower hos hb, hbh, by omega, hnm, by omega⟩
theorem Does.wider {l l' h : Nat} {w : World} {fv : Value} {F : List Lab → List Lab × Bool} (hd : Does l h w fv F) (hl : l' ≤ l) : Does l' h w fv F :=
  ⟨hd.1, hd.2.1, fun w1 hk => hd.2.2 w1 (hk.sub hl (Nat.le_refl _))⟩

/-- What is made of the means by an action, as long as nothing of them is touched. -/
def Deeds (n : Nat) (ss : List ByteArray) (se ta rp : ByteArray) (mo : Int) (P : Nat → World → Option Addr → Prop) (F : List Lab → List Lab × Bool) : Prop :=
  ∀ (lo : Nat) (w : World) (sp : Option Addr) (sc : Nat) (pp : Option Addr), 3 < lo → lo ≤ w.heap.size → SS w (.slice sp ss.length sc) ss → (∀ k, (Value.slice sp ss.length sc).ownBlock = some k → lo ≤ k) → P lo w pp →
    Calls Tryz.prog 55 #[meansV (.slice sp ss.length sc) se (.pointer pp) ta rp mo, .int .i64 n] w fun x w2 => (∃ f a b, x = .returned (.func f a b) ∧ Does lo w2.heap.size w2 (.func f a b) F) ∧ Ex [] w w2

theorem makes_of (n : Nat) (u : Use) (hu : usesL[n]? = some u) (p : Option Addr) (c : Nat) (ss : List ByteArray) (se re ta rp : ByteArray) (mo : Int) (w : World) (F : List Lab → List Lab × Bool) (P : Nat → World → Option Addr → Prop)
    (hub : UB w) (hg : GL w) (hv : SS w (.slice p ss.length c) ss) (hn : ss.length ≤ 1000) (hz : ∀ s ∈ ss, s.size ≤ 60) (hse : se.size ≤ 60) (hta : ta.size ≤ 60) (hrp : rp.size ≤ 60)
    (hP : ∀ (lo : Nat) (w1 w2 : World) (pp : Option Addr), P lo w1 pp → Ex [] w1 w2 → P lo w2 pp)
    (hr : u.regex = true → ∀ W, Ex [] w W → ReadsQ W re true 0 (P (W.heap.size + 2))) (hnr : u.regex = false → ∀ lo w1 pp, P lo w1 pp)
    (hmr : makeR n ss se re ta rp mo u true 0 = (0, 0)) (hd : Deeds n ss se ta rp mo P F) : Makes w ⟨n, p, ss.length, c, se, re, ta, rp, mo⟩ F := by
  intro W hW
  have hgl := tabs_lt (hg.ex hW)
  refine (make_q n u hu p c ss se re ta rp mo true 0 W (fun w2 fv => Does (W.heap.size + 2) w2.heap.size w2 fv F) (hub.ex hW (by simp)) (hv.ex0 hW) hn (fun s hs => by have := hz s hs; omega) (by omega) (by omega) (by omega) (P (W.heap.size + 2)) (fun w1 w2 pp => hP _ w1 w2 pp) (fun h => hr h W hW)
    (fun _ w1 sp sc pp hx1 hs1 hss hso hQ => ?_) (fun w2 fv hD => ?_)).mono ?_
  · refine hd (W.heap.size + 2) w1 sp sc pp (by omega) hs1 hss hso ?_
    cases hur : u.regex with
    | true => exact hQ hur
    | false => exact hnr hur _ _ _
  · have hk : KB (W.heap.size + 2) w2.heap.size w2 (w2.setCell ⟨W.heap.size + 1, 0, none⟩ fv) := KB.ofEx (l := [W.heap.size + 1]) ((Ex.refl _ _).setCell (Or.inl (by simp)) _) (fun x hx => Or.inl (by simp at hx; omega)) (Nat.le_refl _)
    have h1 := hD.kb hk
    simpa using h1
  · rintro x w' ⟨_, h2, hx⟩
    rw [hmr] at h2
    obtain ⟨f, a, b, h3, h4⟩ := h2 rfl
    exact ⟨⟨f, a, b, h3, h4.wider (by omega)⟩, hx⟩

/-- What is known of a pattern that was read. -/
def PatP (re : ByteArray) (lo : Nat) (w : World) (pp : Option Addr) : Prop := ∃ q, pp = some ⟨q, 0, none⟩ ∧ PG w q lo (patC re) (patN re) (patM re)
theorem PatP.ex {re : ByteArray} (lo : Nat) (w1 w2 : World) (pp : Option Addr) (h : PatP re lo w1 pp) (hx : Ex [] w1 w2) : PatP re lo w2 pp := by
  obtain ⟨q, rfl, hp⟩ := h
  exact ⟨q, rfl, hp.ex' hx⟩
theorem patReads {w : World} {re : ByteArray} {x : EV} (hev : w.cell? ⟨1, 0, none⟩ = some (.iface x.1 x.2)) (h : goodP re = true) (W : World) (hW : Ex [] w W) : ReadsQ W re true 0 (PatP re (W.heap.size + 2)) := fun w1 hx hz => by
  refine (readsP hev h w1 (hW.trans hx)).mono ?_
  rintro e w' ⟨q, rfl, hp, hx'⟩
  exact ⟨⟨_, rfl, q, rfl, hp.lower hz⟩, hx'⟩

set_option maxHeartbeats 1000000 in
set_option maxRecDepth 100000 in
theorem deed_match (p : Option Addr) (n c : Nat) (se : ByteArray) (pp : Option Addr) (ta rp : ByteArray) (mo : Int) (w : World) :
    Calls Tryz.prog 55 #[meansV (.slice p n c) se (.pointer pp) ta rp mo, .int .i64 1] w fun x w' => x = .returned (.func (.func 70) #[meansV (.slice p n c) se (.pointer pp) ta rp mo] #[]) ∧ Ex [] w w' := by
  have hmf : ∀ (fn : Fn) (first cap : Array Value) (w : World), (Instr.makeFunc fn first cap).run Tryz.prog w = .ok (.func fn first cap) w := fun _ _ _ _ => rfl
  unfold meansV
  go_enter Tryz.func55, Tryz.ntmps55
  go_wp2_with fail
  go_ret
  exact ⟨rfl, (Ex.refl _ _).alloc _⟩
set_option maxHeartbeats 1000000 in
set_option maxRecDepth 100000 in
theorem deed_notmatch (p : Option Addr) (n c : Nat) (se : ByteArray) (pp : Option Addr) (ta rp : ByteArray) (mo : Int) (w : World) :
    Calls Tryz.prog 55 #[meansV (.slice p n c) se (.pointer pp) ta rp mo, .int .i64 2] w fun x w' => ∃ b, x = .returned (.func (.func 104) #[] #[.pointer (some ⟨b, 0, none⟩)]) ∧ w.heap.size ≤ b ∧ BK w' b (.cells #[.func (.func 70) #[meansV (.slice p n c) se (.pointer pp) ta rp mo] #[]] 79 (0, 0)) ∧ Ex [] w w' := by
  have hmf : ∀ (fn : Fn) (first cap : Array Value) (w : World), (Instr.makeFunc fn first cap).run Tryz.prog w = .ok (.func fn first cap) w := fun _ _ _ _ => rfl
  unfold meansV
  go_enter Tryz.func55, Tryz.ntmps55
  go_wp2_with (go_at_call 71; go_in)
  go_ret
  refine ⟨w.heap.size + 1, by simp, by omega, ?_, ((Ex.refl _ _).alloc _).alloc _⟩
  have h := BK.new (w.alloc (Obj.cells #[.slice p n c, .string se, .pointer pp, .string ta, .string rp, .int .u64 mo] 116)) (Obj.cells #[.func (.func 70) #[.agg #[.slice p n c, .string se, .pointer pp, .string ta, .string rp, .int .u64 mo]] #[]] 79)
  simpa using h
set_option maxHeartbeats 1000000 in
set_option maxRecDepth 100000 in
theorem deed_equal (p : Option Addr) (n c : Nat) (se : ByteArray) (pp : Option Addr) (ta rp : ByteArray) (mo : Int) (w : World) :
    Calls Tryz.prog 55 #[meansV (.slice p n c) se (.pointer pp) ta rp mo, .int .i64 3] w fun x w' => x = .returned (.func (.func 72) #[meansV (.slice p n c) se (.pointer pp) ta rp mo] #[]) ∧ Ex [] w w' := by
  have hmf : ∀ (fn : Fn) (first cap : Array Value) (w : World), (Instr.makeFunc fn first cap).run Tryz.prog w = .ok (.func fn first cap) w := fun _ _ _ _ => rfl
  unfold meansV
  go_enter Tryz.func55, Tryz.ntmps55
  go_wp2_with fail
  go_ret
  exact ⟨rfl, (Ex.refl _ _).alloc _⟩
set_option maxHeartbeats 1000000 in
set_option maxRecDepth 100000 in
theorem deed_notequal (p : Option Addr) (n c : Nat) (se : ByteArray) (pp : Option Addr) (ta rp : ByteArray) (mo : Int) (w : World) :
    Calls Tryz.prog 55 #[meansV (.slice p n c) se (.pointer pp) ta rp mo, .int .i64 4] w fun x w' => ∃ b, x = .returned (.func (.func 104) #[] #[.pointer (some ⟨b, 0, none⟩)]) ∧ w.heap.size ≤ b ∧ BK w' b (.cells #[.func (.func 72) #[meansV (.slice p n c) se (.pointer pp) ta rp mo] #[]] 79 (0, 0)) ∧ Ex [] w w' := by
  have hmf : ∀ (fn : Fn) (first cap : Array Value) (w : World), (Instr.makeFunc fn first cap).run Tryz.prog w = .ok (.func fn first cap) w := fun _ _ _ _ => rfl
  unfold meansV
  go_enter Tryz.func55, Tryz.ntmps55
  go_wp2_with (go_at_call 71; go_in)
  go_ret
  refine ⟨w.heap.size + 1, by simp, by omega, ?_, ((Ex.refl _ _).alloc _).alloc _⟩
  have h := BK.new (w.alloc (Obj.cells #[.slice p n c, .string se, .pointer pp, .string ta, .string rp, .int .u64 mo] 116)) (Obj.cells #[.func (.func 72) #[.agg #[.slice p n c, .string se, .pointer pp, .string ta, .string rp, .int .u64 mo]] #[]] 79)
  simpa using h
set_option maxHeartbeats 1000000 in
set_option maxRecDepth 100000 in
theorem deed_dropN (p : Option Addr) (n c : Nat) (se : ByteArray) (pp : Option Addr) (ta rp : ByteArray) (mo : Int) (w : World) :
    Calls Tryz.prog 55 #[meansV (.slice p n c) se (.pointer pp) ta rp mo, .int .i64 7] w fun x w' => x = .returned (.func (.func 76) #[meansV (.slice p n c) se (.pointer pp) ta rp mo] #[]) ∧ Ex [] w w' := by
  have hmf : ∀ (fn : Fn) (first cap : Array Value) (w : World), (Instr.makeFunc fn first cap).run Tryz.prog w = .ok (.func fn first cap) w := fun _ _ _ _ => rfl
  unfold meansV
  go_enter Tryz.func55, Tryz.ntmps55
  go_wp2_with fail
  go_ret
  exact ⟨rfl, (Ex.refl _ _).alloc _⟩
set_option maxHeartbeats 1000000 in
set_option maxRecDepth 100000 in
theorem deed_keepN (p : Option Addr) (n c : Nat) (se : ByteArray) (pp : Option Addr) (ta rp : ByteArray) (mo : Int) (w : World) :
    Calls Tryz.prog 55 #[meansV (.slice p n c) se (.pointer pp) ta rp mo, .int .i64 8] w fun x w' => x = .returned (.func (.func 77) #[meansV (.slice p n c) se (.pointer pp) ta rp mo] #[]) ∧ Ex [] w w' := by
  have hmf : ∀ (fn : Fn) (first cap : Array Value) (w : World), (Instr.makeFunc fn first cap).run Tryz.prog w = .ok (.func fn first cap) w := fun _ _ _ _ => rfl
  unfold meansV
  go_enter Tryz.func55, Tryz.ntmps55
  go_wp2_with fail
  go_ret
  exact ⟨rfl, (Ex.refl _ _).alloc _⟩

def F1 (ss : List ByteArray) (se re : ByteArray) : List Lab → List Lab × Bool := fun ls => (ls, (matchM (patC re) (textN ls ss se)).isSome)
def F2 (ss : List ByteArray) (se re : ByteArray) : List Lab → List Lab × Bool := fun ls => (ls, !(matchM (patC re) (textN ls ss se)).isSome)
def F3 (ss : List ByteArray) (se ta : ByteArray) : List Lab → List Lab × Bool := fun ls => (ls, eqB (textN ls ss se) (valN ls ta))
def F4 (ss : List ByteArray) (se ta : ByteArray) : List Lab → List Lab × Bool := fun ls => (ls, !eqB (textN ls ss se) (valN ls ta))
def F7 (re : ByteArray) : List Lab → List Lab × Bool := fun ls => (ls.filter fun l => !(matchM (patC re) l.1).isSome, true)
def F8 (re : ByteArray) : List Lab → List Lab × Bool := fun ls => (ls.filter fun l => (matchM (patC re) l.1).isSome, true)
theorem deeds1 (ss : List ByteArray) (se re ta rp : ByteArray) (mo : Int) (hf : Fit (patC re) (patN re)) (hsn : ss.length ≤ 1000) (hse : se.size ≤ 60) : Deeds 1 ss se ta rp mo (PatP re) (F1 ss se re) := fun lo w sp sc pp hlo hle hs hsb hP => by
  obtain ⟨q, rfl, hp⟩ := hP
  refine (deed_match sp ss.length sc se (some ⟨q, 0, none⟩) ta rp mo w).mono ?_
  rintro x w2 ⟨rfl, hx⟩
  exact ⟨⟨_, _, _, rfl, does_match lo sp sc ss se q ta rp mo (patC re) (patN re) (patM re) hf w2 (hs.ex0 hx) hsb (hp.ex' hx) hsn (by omega)⟩, hx⟩
theorem deeds2 (ss : List ByteArray) (se re ta rp : ByteArray) (mo : Int) (hf : Fit (patC re) (patN re)) (hsn : ss.length ≤ 1000) (hse : se.size ≤ 60) : Deeds 2 ss se ta rp mo (PatP re) (F2 ss se re) := fun lo w sp sc pp hlo hle hs hsb hP => by
  obtain ⟨q, rfl, hp⟩ := hP
  refine (deed_notmatch sp ss.length sc se (some ⟨q, 0, none⟩) ta rp mo w).mono ?_
  rintro x w2 ⟨b, rfl, hb1, hb2, hx⟩
  exact ⟨⟨_, _, _, rfl, does_notmatch lo sp sc ss se q ta rp mo (patC re) (patN re) (patM re) hf w2 b hb2 (by omega) (hs.ex0 hx) hsb (hp.ex' hx) hsn (by omega)⟩, hx⟩
theorem deeds3 (ss : List ByteArray) (se ta rp : ByteArray) (mo : Int) (hsn : ss.length ≤ 1000) (hse : se.size ≤ 60) : Deeds 3 ss se ta rp mo (fun _ _ _ => True) (F3 ss se ta) := fun lo w sp sc pp hlo hle hs hsb _ => by
  refine (deed_equal sp ss.length sc se pp ta rp mo w).mono ?_
  rintro x w2 ⟨rfl, hx⟩
  exact ⟨⟨_, _, _, rfl, does_equal lo sp sc ss se pp ta rp mo w2 (hs.ex0 hx) hsb hsn (by omega)⟩, hx⟩
theorem deeds4 (ss : List ByteArray) (se ta rp : ByteArray) (mo : Int) (hsn : ss.length ≤ 1000) (hse : se.size ≤ 60) : Deeds 4 ss se ta rp mo (fun _ _ _ => True) (F4 ss se ta) := fun lo w sp sc pp hlo hle hs hsb _ => by
  refine (deed_notequal sp ss.length sc se pp ta rp mo w).mono ?_
  rintro x w2 ⟨b, rfl, hb1, hb2, hx⟩
  exact ⟨⟨_, _, _, rfl, does_notequal lo sp sc ss se pp ta rp mo w2 b hb2 (by omega) (hs.ex0 hx) hsb hsn (by omega)⟩, hx⟩
theorem deeds7 (ss : List ByteArray) (se re ta rp : ByteArray) (mo : Int) (hf : Fit (patC re) (patN re)) : Deeds 7 ss se ta rp mo (PatP re) (F7 re) := fun lo w sp sc pp hlo hle hs hsb hP => by
  obtain ⟨q, rfl, hp⟩ := hP
  refine (deed_dropN sp ss.length sc se (some ⟨q, 0, none⟩) ta rp mo w).mono ?_
  rintro x w2 ⟨rfl, hx⟩
  exact ⟨⟨_, _, _, rfl, does_dropNames lo sp ss.length sc se q ta rp mo (patC re) (patN re) (patM re) hf w2 (hp.ex' hx) hlo⟩, hx⟩
theorem deeds8 (ss : List ByteArray) (se re ta rp : ByteArray) (mo : Int) (hf : Fit (patC re) (patN re)) : Deeds 8 ss se ta rp mo (PatP re) (F8 re) := fun lo w sp sc pp hlo hle hs hsb hP => by
  obtain ⟨q, rfl, hp⟩ := hP
  refine (deed_keepN sp ss.length sc se (some ⟨q, 0, none⟩) ta rp mo w).mono ?_
  rintro x w2 ⟨rfl, hx⟩
  exact ⟨⟨_, _, _, rfl, does_keepNames lo sp ss.length sc se q ta rp mo (patC re) (patN re) (patM re) hf w2 (hp.ex' hx) hlo⟩, hx⟩
end Go.Proofs.YtmeffeigamaipabGreatDoor.G

/- Contracts: two lists of labels held against each other; an engine with a rule. -/
namespace Go.Proofs.YtmeffeigamaipabGreatDoor
open Go.RowKit

theorem same_nonempty {v : Value} {w : World} {ls : List Lab} (h : SL w v ls) (j : Nat) (l : Lab) (hl : ls[j]? = some l) : ∃ b c, v = .slice (some ⟨b, 0, none⟩) ls.length c ∧ b < w.heap.size ∧ w.cell? ⟨b, j * 2, none⟩ = some (.string l.1) ∧ w.cell? ⟨b, j * 2 + 1, none⟩ = some (.string l.2) := by
  rcases h with ⟨h1, h2⟩ | ⟨b, c', h1, hb, hc⟩
  · rw [h2] at hl; simp at hl
  · exact ⟨b, c', h1, hb, (hc j l hl).1, (hc j l hl).2⟩

set_option maxHeartbeats 1000000 in
set_option maxRecDepth 100000 in
/-- Two lists that hold the same labels are the same. -/
theorem same_yes (a b : Value) (ls : List Lab) (w : World) (ha : SL w a ls) (hb : SL w b ls) (hn : ls.length ≤ 1000) :
    Calls Tryz.prog 17 #[a, b] w fun x w' => x = .returned (.bool true) ∧ ∃ n, w' = w.drewN n := by
  have HA := hide ha
  have HB := hide hb
  obtain ⟨pa, ca, rfl⟩ := ha.slice
  obtain ⟨pb, cb, rfl⟩ := hb.slice
  clear ha hb
  go_enter Tryz.func17, Tryz.ntmps17
  go_wp2_with fail
  go_loopg [5] ls.length (fun gk i wr => ∃ j : Nat, j + gk = ls.length ∧ i = .int .i64 j ∧ ∃ n, wr = w.drewN n)
  case atStart => exact ⟨0, by omega, rfl, 0, rfl⟩
  case round =>
    obtain ⟨j, hj, rfl, n, rfl⟩ := hrel
    cases gk with
    | zero =>
      obtain rfl : j = ls.length := by omega
      go_wp2_with fail
      go_ret
      exact ⟨rfl, _, rfl⟩
    | succ g =>
      have hjl : j < ls.length := by omega
      have hj' : (j : Int) < (ls.length : Int) := by omega
      obtain ⟨l, hl⟩ : ∃ l, ls[j]? = some l := ⟨_, List.getElem?_eq_getElem hjl⟩
      obtain ⟨ba, ca', h1, hba, a0, a1⟩ := same_nonempty HA.out j l hl
      cases h1
      obtain ⟨bb, cb', h1, hbb, b0, b1⟩ := same_nonempty HB.out j l hl
      cases h1
      obtain ⟨l1, l2⟩ := l
      simp only at a0 a1 b0 b1
      clear hl
      go_wp2_with fail
      go_quiet (fail)
      go_wp2_with fail
      go_roundg g
      case measure => omega
      case rel => exact ⟨j + 1, by omega, by simp, _, rfl⟩

end Go.Proofs.YtmeffeigamaipabGreatDoor

/- Engines that are new: opened, loaded, asked once; two of them in a pair. -/
namespace Go.Proofs.YtmeffeigamaipabGreatDoor.G
open Go.RowKit

theorem Rules.up {lo hi hi' : Nat} {w : World} {rv : Value} {Fs : List (List Lab → List Lab × Bool)} (h : Rules lo hi w rv Fs) (hh : hi ≤ hi') (hw : hi' ≤ w.heap.size) : Rules lo hi' w rv Fs := by
  rcases h with h | ⟨gb, cap, h1, h2, h3, h4, h5⟩
  · exact .inl h
  · refine .inr ⟨gb, cap, h1, h2, by omega, hw, fun i F hi => ?_⟩
    obtain ⟨fv, l, h, h6, h7, h8, h9⟩ := h5 i F hi
    exact ⟨fv, l, h, h6, h7, by omega, h9⟩
/-- An engine that was asked nothing yet. -/
structure FE (w : World) (e m mb room lo : Nat) (Fs : List (List Lab → List Lab × Bool)) : Prop where
  ex : ∃ rv clk, EN (RF Fs) w e m mb w.heap.size room rv [] (.slice none 0 0) #[] clk ∧ Rules lo w.heap.size w rv Fs
  elo : e < lo
  mlo : m < lo
  mblo : mb < lo
  lle : lo ≤ w.heap.size
  fl : Fs.length ≤ 1000
theorem FE.step {w w' : World} {e m mb room lo : Nat} {Fs : List (List Lab → List Lab × Bool)} {o : List Nat} (h : FE w e m mb room lo Fs) (hx : Ex o w w') (ho : ∀ k ∈ o, k < lo ∧ k ≠ e ∧ k ≠ m ∧ k ≠ mb) : FE w' e m mb room lo Fs := by
  obtain ⟨rv, clk, hen, hr⟩ := h.ex
  have hl := h.lle
  have hz := hx.size
  have hm : MM (RF Fs) w' m mb w.heap.size room [] (.slice none 0 0) #[] clk := hen.mem.ex hx (fun k hk => by have := ho k hk; exact ⟨by omega, by omega, by omega⟩)
  have hb := hen.blk.ex hx (fun hk => (ho e hk).2.1 rfl)
  refine ⟨⟨rv, clk, ⟨hb, hm.bare, hb.lt, hen.nem, hen.nemb⟩, ?_⟩, h.elo, h.mlo, h.mblo, by omega, h.fl⟩
  exact (hr.kb (KB.ofEx hx (fun k hk => Or.inl (ho k hk).1) (Nat.le_refl _))).up hz (Nat.le_refl _)
theorem relabel_fe (e m mb room lo : Nat) (Fs : List (List Lab → List Lab × Bool)) (v : Value) (ls : List Lab) (w : World) (he : FE w e m mb room lo Fs) (hg : GL w) (hv : SL w v ls) (hn : ls.length ≤ 20) (hw : ls.any wrongB = false) :
    Calls Tryz.prog 12 #[.pointer (some ⟨e, 0, none⟩), v] w fun x w' => ∃ v', x = .returned (.tuple #[v', .bool (runF Fs (bareL ls)).2, .int .i64 0]) ∧ (runF Fs (bareL ls)).1.length ≤ 60 ∧
      w'.ownsRow w.heap.size 48 2 v' (runF Fs (bareL ls)).1.length (cellsOfL (runF Fs (bareL ls)).1) ∧ Ex [m, mb] w w' := by
  obtain ⟨rv, clk, hen, hr⟩ := he.ex
  refine (relabel_eg e m mb w.heap.size room lo Fs [] v ls w ⟨⟨rv, _, _, clk, hen, hr⟩, Nat.le_refl _, he.elo, he.mlo, he.mblo, he.fl⟩ hg hv hn hw).mono ?_
  rintro x w' ⟨v', h1, h2, h3, _, h5⟩
  exact ⟨v', h1, h2, h3, h5.toEx⟩
theorem open_fe (c : Int) (w : World) : Calls Tryz.prog 11 #[.int .i64 c] w fun x w' => ∃ e m mb, x = .returned (.pointer (some ⟨e, 0, none⟩)) ∧ FE w' e m mb (roomOf c) w'.heap.size [] ∧ w.heap.size ≤ e ∧ w.heap.size ≤ m ∧ w.heap.size ≤ mb ∧ Ex [] w w' := by
  refine (open_any (RF []) c w).mono ?_
  rintro x w' ⟨e, m, mb, h1, h2, h3, h4, h5, h6⟩
  exact ⟨e, m, mb, h1, ⟨⟨_, _, h2, .inl ⟨rfl, rfl⟩⟩, h2.lt, h2.mem.mlt, h2.mem.mblt, Nat.le_refl _, by simp⟩, h4, h5, h6, h3⟩

set_option maxHeartbeats 2000000 in
set_option maxRecDepth 100000 in
theorem engine_fe (c : Int) (v : Value) (rs : List AR) (Fs : List (List Lab → List Lab × Bool)) (w : World) (hv : AL w v rs) (hn : rs.length ≤ 12) (hlen : Fs.length = rs.length) (hmk : ∀ (i : Nat) r F, rs[i]? = some r → Fs[i]? = some F → Makes w r F) :
    Calls Tryz.prog 10 #[.int .i64 c, v] w fun x w' => ∃ e m mb lo, x = .returned (.pointer (some ⟨e, 0, none⟩)) ∧ FE w' e m mb (roomOf c) lo Fs ∧ w.heap.size ≤ e ∧ w.heap.size ≤ m ∧ w.heap.size ≤ mb ∧ w.heap.size ≤ lo ∧ Ex [] w w' := by
  have HV := hide hv
  have HMK := hide hmk
  obtain ⟨p, cc, rfl⟩ := hv.slice
  obtain ⟨n, hnn⟩ : ∃ n, n = rs.length := ⟨_, rfl⟩
  have HNN := hide hnn
  rw [← hnn]
  clear hv hmk hnn
  go_enter Tryz.func10, Tryz.ntmps10
  go_wp2_with fail
  refine (open_any (RF []) c w).mono ?_
  rintro x w1 ⟨e, m, mb, rfl, hen, hx1, h4, h5, h6⟩
  have KL := hide (load_list (RF []) (RF Fs) e m mb w1.heap.size (roomOf c) _ _ _ _ _ (.slice p rs.length cc) rs Fs w1 hen (HV.out.ex0 hx1) hn hlen (fun i r F hr hF W hW => HMK.out i r F hr hF W (hx1.trans hW)))
  rw [← HNN.out] at KL
  have HEN := hide hen
  have HX1 := hide hx1
  clear hen hx1
  go_wp2_with fail
  refine KL.out.mono ?_
  rintro x w2 ⟨rfl, ⟨rv', hen', hr'⟩, hx2⟩
  have HEN' := hide hen'
  have HR' := hide hr'
  have HX2 := hide hx2
  clear hen' hr' hx2
  go_wp2_with fail
  go_ret
  have hz1 := HX1.out.size
  have hz2 := HX2.out.size
  refine ⟨e, m, mb, w1.heap.size, rfl, ⟨⟨rv', _, HEN'.out, HR'.out⟩, HEN.out.lt, HEN.out.mem.mlt, HEN.out.mem.mblt, hz2, by omega⟩, h4, h5, h6, hz1, ?_⟩
  exact ((HX1.out.drop (by simp)).trans HX2.out).drop (fun y hy hlt => by simp at hy; omega)
end Go.Proofs.YtmeffeigamaipabGreatDoor.G

/- Two rules, each alone: what pair tells. -/
namespace Go.Proofs.YtmeffeigamaipabGreatDoor.G
open Go.RowKit

theorem AL.one {w : World} {b : Nat} {r : AR} (h : BK w b (.cells r.cells.toArray 37 (0, 0))) : AL w (.slice (some ⟨b, 0, none⟩) 1 1) [r] := by
  refine .inr ⟨b, 1, rfl, h.lt, fun i r' hi o ho => ?_⟩
  have : i = 0 := by have := (List.getElem?_eq_some_iff.1 hi).1; simpa using this
  subst this
  simp at hi
  subst hi
  rw [h.all.1]
  simp
theorem Makes.ex {w w' : World} {r : AR} {F : List Lab → List Lab × Bool} (h : Makes w r F) (hx : Ex [] w w') : Makes w' r F := fun W hW => h W (hx.trans hW)
theorem SL.below {w : World} {v : Value} {ls : List Lab} (h : SL w v ls) : ∀ k, v.ownBlock = some k → k < w.heap.size := fun k hk => by
  rcases h with ⟨rfl, _⟩ | ⟨b, c, rfl, hb, _⟩
  · cases hk
  · cases hk; exact hb

/-- What pair hands back. -/
def PairPost (w : World) (l1 l2 : List Lab) (b1 b2 : Bool) (x : Ending) (w' : World) : Prop := ∃ v1 v2, x = .returned (.tuple #[v1, .bool b1, v2, .bool b2, .bool true]) ∧ SL w' v1 l1 ∧ SL w' v2 l2 ∧ (∀ k, v1.ownBlock = some k → w.heap.size ≤ k) ∧ (∀ k, v2.ownBlock = some k → w.heap.size ≤ k) ∧ l1.length ≤ 60 ∧ l2.length ≤ 60 ∧ Ex [] w w'

set_option maxHeartbeats 4000000 in
set_option maxRecDepth 100000 in
theorem pair_any (r1 r2 : AR) (F1 F2 : List Lab → List Lab × Bool) (v : Value) (ls : List Lab) (w : World) (hm1 : Makes w r1 F1) (hm2 : Makes w r2 F2) (hg : GL w) (hv : SL w v ls) (hn : ls.length ≤ 20) (hw : ls.any wrongB = false) :
    Calls Tryz.prog 20 #[r1.val, r2.val, v] w (PairPost w (runF [F1] (bareL ls)).1 (runF [F2] (bareL ls)).1 (runF [F1] (bareL ls)).2 (runF [F2] (bareL ls)).2) := by
  have HM1 := hide hm1
  have HM2 := hide hm2
  have HG := hide hg
  have HV := hide hv
  have HW := hide hw
  obtain ⟨n, hnn⟩ : ∃ n, n = ls.length := ⟨_, rfl⟩
  obtain ⟨pv, cv, rfl⟩ := hv.slice
  obtain ⟨R1, hR1⟩ : ∃ R1, R1 = runF [F1] (bareL ls) := ⟨_, rfl⟩
  obtain ⟨R2, hR2⟩ : ∃ R2, R2 = runF [F2] (bareL ls) := ⟨_, rfl⟩
  have HR1 := hide hR1
  have HR2 := hide hR2
  rw [← hR1, ← hR2]
  have HNN := hide hnn
  rw [← hnn]
  have hk1 : r1.cells = r1.cells := rfl
  obtain ⟨C1, hC1⟩ : ∃ C1, C1 = r1.cells := ⟨_, rfl⟩
  obtain ⟨C2, hC2⟩ : ∃ C2, C2 = r2.cells := ⟨_, rfl⟩
  have HC1 := hide hC1
  have HC2 := hide hC2
  obtain ⟨a1, p1, n1, c1, s1, e1, t1, q1, o1⟩ := r1
  obtain ⟨a2, p2, n2, c2, s2, e2, t2, q2, o2⟩ := r2
  unfold AR.val ruleV
  dsimp only
  clear hm1 hm2 hg hv hw hnn hR1 hR2 hC1 hC2 hk1
  go_enter Tryz.func20, Tryz.ntmps20
  go_wp2_with fail
  generalize hW : World.alloc _ _ = W1
  have hxW : Ex [] w W1 := by rw [← hW]; exact (((Ex.refl _ _).alloc _).alloc _).alloc _
  have hbx : BK W1 (w.heap.size + 1) (.cells #[.int .i64 a2, .slice p2 n2 c2, .string s2, .string e2, .string t2, .string q2, .int .u64 o2] 37 (0, 0)) := by
    rw [← hW]
    have h := BK.new (w.alloc (Obj.cells #[.int .i64 a1, .slice p1 n1 c1, .string s1, .string e1, .string t1, .string q1, .int .u64 o1] 37)) (Obj.cells #[.int .i64 a2, .slice p2 n2 c2, .string s2, .string e2, .string t2, .string q2, .int .u64 o2] 37)
    simp only [World.size_alloc] at h
    exact h.alloc _
  have hrow : BK W1 (w.heap.size + 1 + 1) (.cells #[.int .i64 a1, .slice p1 n1 c1, .string s1, .string e1, .string t1, .string q1, .int .u64 o1] 37 (0, 0)) := by
    rw [← hW]
    have h := BK.new ((w.alloc (Obj.cells #[.int .i64 a1, .slice p1 n1 c1, .string s1, .string e1, .string t1, .string q1, .int .u64 o1] 37)).alloc (Obj.cells #[.int .i64 a2, .slice p2 n2 c2, .string s2, .string e2, .string t2, .string q2, .int .u64 o2] 37)) (Obj.cells #[.int .i64 a1, .slice p1 n1 c1, .string s1, .string e1, .string t1, .string q1, .int .u64 o1] 37)
    simp only [World.size_alloc] at h
    exact h
  have hzW := hxW.size
  have KE1 := hide (engine_fe 1 (.slice (some ⟨w.heap.size + 1 + 1, 0, none⟩) 1 1) [⟨a1, p1, n1, c1, s1, e1, t1, q1, o1⟩] [F1] W1 (AL.one hrow) (by simp) rfl (fun i r F hr hF => by
    have : i = 0 := by have := (List.getElem?_eq_some_iff.1 hr).1; simpa using this
    subst this
    simp at hr hF
    subst hr; subst hF
    exact HM1.out.ex hxW))
  have HBX := hide hbx
  have HXW := hide hxW
  clear hW hbx hrow hxW
  refine KE1.out.mono ?_
  rintro x w2 ⟨ee1, m1, mb1, lo1, rfl, hfe1, h11, h12, h13, h14, hx2⟩
  have hbx2 := HBX.out.ex hx2 (by simp)
  obtain ⟨hcx, hfx⟩ := hbx2.all
  have hlx := hbx2.lt
  have HFE1 := hide hfe1
  have HX2 := hide (HXW.out.trans hx2)
  have hz2 := hx2.size
  have hlt1 : ee1 < w2.heap.size ∧ m1 < w2.heap.size ∧ mb1 < w2.heap.size := by have := hfe1.elo; have := hfe1.mlo; have := hfe1.mblo; have := hfe1.lle; omega
  clear hfe1 hx2 hbx2
  go_wp2_with fail
  generalize hW : World.alloc w2 _ = W2
  have hxW2 : Ex [] w2 W2 := by rw [← hW]; exact (Ex.refl _ _).alloc _
  have hrow : BK W2 w2.heap.size (.cells #[.int .i64 a2, .slice p2 n2 c2, .string s2, .string e2, .string t2, .string q2, .int .u64 o2] 37 (0, 0)) := by rw [← hW]; exact BK.new _ _
  have hzW2 := hxW2.size
  have hzW2' : w2.heap.size < W2.heap.size := hrow.lt
  have KE2 := hide (engine_fe 1 (.slice (some ⟨w2.heap.size, 0, none⟩) 1 1) [⟨a2, p2, n2, c2, s2, e2, t2, q2, o2⟩] [F2] W2 (AL.one hrow) (by simp) rfl (fun i r F hr hF => by
    have : i = 0 := by have := (List.getElem?_eq_some_iff.1 hr).1; simpa using this
    subst this
    simp at hr hF
    subst hr; subst hF
    exact HM2.out.ex (HX2.out.trans hxW2)))
  have HXW2 := hide hxW2
  clear hW hrow hxW2 hcx hfx
  refine KE2.out.mono ?_
  rintro x w3 ⟨ee2, m2, mb2, lo2, rfl, hfe2, h21, h22, h23, h24, hx3⟩
  have hz3 := hx3.size
  have hfe13 := HFE1.out.step (HXW2.out.trans hx3) (by simp)
  have hx03 : Ex [] w w3 := HX2.out.trans (HXW2.out.trans hx3)
  have hsl3 := HV.out.ex hx03 (by simp)
  have hvb := SL.below HV.out
  have KR1 := hide (relabel_fe ee1 m1 mb1 (roomOf 1) lo1 [F1] _ ls w3 hfe13 (HG.out.ex hx03) hsl3 hn HW.out)
  rw [← HR1.out, ← HNN.out] at KR1
  have HFE2 := hide hfe2
  have HX03 := hide hx03
  have HSL3 := hide hsl3
  have HVB := hide hvb
  clear hfe2 hx3 hfe13 hx03 hsl3 hvb
  go_wp2_with fail
  refine KR1.out.mono ?_
  rintro x w4 ⟨v1, rfl, hl1, ho1, hx4⟩
  have hz4 := hx4.size
  have hzw := HX03.out.size
  have hfe24 := HFE2.out.step hx4 (fun k hk => by simp at hk; omega)
  have hg4 : GL w4 := GL.eb (HG.out.ex HX03.out) ((EB.ofEx hx4 (show w.heap.size ≤ w3.heap.size by omega)).mono (Nat.le_refl _) (fun x hx hlt => by simp at hx; omega)) (tabs_lt HG.out)
  have hsl4 : SL w4 (.slice pv ls.length cv) ls := HSL3.out.ex hx4 (fun k hk => by have := HVB.out k hk; simp; omega)
  have KR2 := hide (relabel_fe ee2 m2 mb2 (roomOf 1) lo2 [F2] _ ls w4 hfe24 hg4 hsl4 hn HW.out)
  rw [← HR2.out, ← HNN.out] at KR2
  have HO1 := hide ho1
  have HX4 := hide hx4
  obtain ⟨pv1, cv1, rfl⟩ := own_slice ho1
  clear ho1 hx4 hfe24 hg4 hsl4
  go_wp2_with fail
  refine KR2.out.mono ?_
  rintro x w5 ⟨v2, rfl, hl2, ho2, hx5⟩
  have HO2 := hide ho2
  have HX5 := hide hx5
  obtain ⟨pv2, cv2, rfl⟩ := own_slice ho2
  have hm2l : m2 < w3.heap.size ∧ mb2 < w3.heap.size := by have := HFE2.out.mlo; have := HFE2.out.mblo; have := HFE2.out.lle; omega
  clear ho2 hx5
  go_wp2_with fail
  have ho15 := own_ex HO1.out HX5.out (fun x hx => by simp at hx; omega)
  refine bodyPost_ret (v := .tuple #[.slice pv1 R1.1.length cv1, .bool R1.2, .slice pv2 R2.1.length cv2, .bool R2.2, .bool true]) (by simp [results, Tryz.results20, go_sem]) rfl ⟨_, _, rfl, own_sl ho15, own_sl HO2.out, fun k hk => ?_, fun k hk => ?_, hl1, hl2, ?_⟩
  · have := own_block HO1.out k hk; omega
  · have := own_block HO2.out k hk; omega
  · exact (((HX03.out.drop (l' := [m1, mb1, m2, mb2]) (by simp)).trans (HX4.out.drop (by simp))).trans (HX5.out.drop (by simp))).drop (fun x hx hlt => by simp at hx; omega)
end Go.Proofs.YtmeffeigamaipabGreatDoor.G

/- The statements' own small functions: pick, name, short, labels, get. -/
namespace Go.Proofs.YtmeffeigamaipabGreatDoor.G
open Go.RowKit

def pickI (c n : Int) : Int := if c < 0 then (-(c + 1)) % n else c % n
theorem pickI_rng (c n : Int) (hn : 0 < n) : 0 ≤ pickI c n ∧ pickI c n < n := by
  unfold pickI
  split
  · exact ⟨Int.emod_nonneg _ (by omega), Int.emod_lt_of_pos _ hn⟩
  · exact ⟨Int.emod_nonneg _ (by omega), Int.emod_lt_of_pos _ hn⟩
set_option maxHeartbeats 1000000 in
theorem pick_val (c n : Int) (w : World) (hn : 0 < n) (hn2 : n < 4611686018427387904) (hc : -9223372036854775808 ≤ c ∧ c ≤ 9223372036854775807) :
    Calls Tryz.prog 18 #[.int .i64 c, .int .i64 n] w fun x w' => x = .returned (.int .i64 (pickI c n)) ∧ w' = w := by
  unfold pickI
  by_cases h0 : c < 0
  · rw [if_pos h0]
    go_enter Tryz.func18, Tryz.ntmps18
    go_wp2_with fail
    go_ret
    have hv : -(c + 1).tmod n = (-(c + 1)) % n := by rw [← Int.neg_tmod, Int.tmod_eq_emod_of_nonneg (by omega)]
    refine ⟨?_, rfl⟩
    rw [← hv]; rfl
  · rw [if_neg h0]
    go_enter Tryz.func18, Tryz.ntmps18
    go_wp2_with fail
    go_ret
    exact ⟨rfl, rfl⟩

set_option maxHeartbeats 4000000 in
set_option maxRecDepth 100000 in
theorem name_any (n : Int) (w : World) (hc : -9223372036854775808 ≤ n ∧ n ≤ 9223372036854775807) :
    Calls Tryz.prog 24 #[.int .i64 n] w fun x w' => ∃ s, x = .returned (.string s) ∧ nameB s = true ∧ Ex [] w w' := by
  go_enter Tryz.func24, Tryz.ntmps24
  go_wp2_with fail
  refine (pick_val n 10 _ (by omega) (by omega) hc).mono ?_
  rintro x w1 ⟨rfl, rfl⟩
  obtain ⟨k, hk⟩ : ∃ k, k = pickI n 10 := ⟨_, rfl⟩
  have hr := pickI_rng n 10 (by omega)
  rw [← hk] at hr ⊢
  have hk10 : k = 0 ∨ k = 1 ∨ k = 2 ∨ k = 3 ∨ k = 4 ∨ k = 5 ∨ k = 6 ∨ k = 7 ∨ k = 8 ∨ k = 9 := by omega
  clear hk hr
  rcases hk10 with rfl | rfl | rfl | rfl | rfl | rfl | rfl | rfl | rfl | rfl
  all_goals
    go_wp2_with fail
    go_ret
    exact ⟨_, rfl, by kernel_rfl, (Ex.refl _ _).alloc _⟩

set_option maxHeartbeats 1000000 in
theorem short_any (s : ByteArray) (n : Nat) (w : World) (hs : s.size ≤ 9223372036854775807) (hn : n ≤ 1000) :
    Calls Tryz.prog 23 #[.string s, .int .i64 n] w fun x w' => ∃ s', x = .returned (.string s') ∧ s'.size ≤ n ∧ w' = w := by
  by_cases h : (n : Int) < (s.size : Int)
  · have h1 : (n : Int) ≤ (s.size : Int) := by omega
    go_enter Tryz.func23, Tryz.ntmps23
    go_wp2_with fail
    go_ret
    refine ⟨s.extract 0 n, by simp, ?_, rfl⟩
    rw [ByteArray.size_extract]; omega
  · go_enter Tryz.func23, Tryz.ntmps23
    go_wp2_with fail
    go_ret
    exact ⟨s, rfl, by omega, rfl⟩
end Go.Proofs.YtmeffeigamaipabGreatDoor.G
