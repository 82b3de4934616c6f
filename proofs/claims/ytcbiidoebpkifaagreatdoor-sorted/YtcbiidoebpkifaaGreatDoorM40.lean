/- T11 T15 T15b, one behind the other. -/
import Derived.Test.YtcbiidoebpkifaaGreatDoorM38
import Derived.Test.YtcbiidoebpkifaaGreatDoorM36
import Derived.Test.YtcbiidoebpkifaaGreatDoorM39
import Derived.Test.YtcbiidoebpkifaaGreatDoorM28
set_option linter.unusedVariables false
set_option linter.unusedSimpArgs false
/- Make, at actions whose rules keep, drop or part labels by a pattern. -/
namespace Go.Proofs.YtcbiidoebpkifaaGreatDoor.G
open Go.RowKit

def patC (t : ByteArray) : List Ins := match readM t with | .ok p _ => progM p | .bad _ => []
def patN (t : ByteArray) : Nat := match readM t with | .ok _ s => s.g | .bad _ => 0
def patM (t : ByteArray) : List (ByteArray × Nat) := match readM t with | .ok _ s => s.nm | .bad _ => []
def goodP (t : ByteArray) : Bool := goodB t && decide (patN t ≤ 5) && decide (t.size ≤ 60)
theorem fit_of {t : ByteArray} (h : goodP t = true) : Fit (patC t) (patN t) := by
  simp only [goodP, Bool.and_eq_true, decide_eq_true_eq] at h
  obtain ⟨⟨h1, h2⟩, h3⟩ := h
  unfold goodB at h1
  unfold patC
  cases hr : readM t with
  | bad s => rw [hr] at h1; simp at h1
  | ok p s =>
    rw [hr] at h1
    simp only [Bool.and_eq_true, decide_eq_true_eq] at h1
    obtain ⟨c1, c2⟩ := codeOK_of h1.2
    have hl := progM_len p
    exact ⟨c1, c2, by show (progM p).length ≤ 100000; have := h1.1.2; omega, by show 0 < (progM p).length; omega, h2⟩
theorem readsP {w : World} {t : ByteArray} {x : EV} (hev : w.cell? ⟨0, 0, none⟩ = some (.iface x.1 x.2)) (h : goodP t = true) (w1 : World) (hx : Ex [] w w1) :
    Calls Tryz.prog 17 #[.string t] w1 fun e w' => ∃ q, e = .returned (.tuple #[.pointer (some ⟨q, 0, none⟩), .int .i64 0, .bool true]) ∧ PG w' q w1.heap.size (patC t) (patN t) (patM t) ∧ Ex [] w1 w' := by
  simp only [goodP, Bool.and_eq_true, decide_eq_true_eq] at h
  obtain ⟨p, s, hr, hc⟩ := gRead_ok (w := w1) (x := x) ((hx.cell0.1 _ _ (lt_of_cell hev)).trans hev) h.2 (NP.all t) h.1.1
  have e1 : patC t = progM p := by unfold patC; rw [hr]
  have e2 : patN t = s.g := by unfold patN; rw [hr]
  have e3 : patM t = s.nm := by unfold patM; rw [hr]
  rw [e1, e2, e3]
  exact hc
theorem PG.lower {w : World} {q b b' : Nat} {code : List Ins} {ng : Nat} {nm : List (ByteArray × Nat)} (h : PG w q b code ng nm) (hb : b' ≤ b) : PG w q b' code ng nm := by
  obtain ⟨cp, cc, sp, sc, B, mb, hq, hoc, hos, hbh, hbB, hnm, hmb⟩ := h.ex
  exact ⟨Nat.le_trans hb h.le, Nat.le_trans hb h.ql, cp, cc, sp, sc, B, mb, hq, own_lower hoc hb, own_lower hos hb, hbh, by omega, hnm, by omega⟩
theorem Does.wider {l l' h : Nat} {w : World} {fv : Value} {F : List Lab → List Lab × Bool} (hd : Does l h w fv F) (hl : l' ≤ l) : Does l' h w fv F :=
  ⟨hd.1, hd.2.1, fun w1 hk => hd.2.2 w1 (hk.sub hl (Nat.le_refl _))⟩

def Deeds (n : Nat) (ss : List ByteArray) (se ta rp : ByteArray) (mo : Int) (P : Nat → World → Option Addr → Prop) (F : List Lab → List Lab × Bool) : Prop :=
  ∀ (lo : Nat) (w : World) (sp : Option Addr) (sc : Nat) (pp : Option Addr), 7 < lo → lo ≤ w.heap.size → SS w (.slice sp ss.length sc) ss → (∀ k, (Value.slice sp ss.length sc).ownBlock = some k → lo ≤ k) → P lo w pp →
    Calls Tryz.prog 79 #[meansV (.slice sp ss.length sc) se (.pointer pp) ta rp mo, .int .i64 n] w fun x w2 => (∃ f a b, x = .returned (.func f a b) ∧ Does lo w2.heap.size w2 (.func f a b) F) ∧ Ex [] w w2

theorem makes_of (n : Nat) (u : Use) (hu : usesL[n]? = some u) (p : Option Addr) (c : Nat) (ss : List ByteArray) (se re ta rp : ByteArray) (mo : Int) (w : World) (F : List Lab → List Lab × Bool) (P : Nat → World → Option Addr → Prop)
    (hub : UB w) (hg : GL w) (hv : SS w (.slice p ss.length c) ss) (hn : ss.length ≤ 1000) (hz : ∀ s ∈ ss, s.size ≤ 60) (hse : se.size ≤ 60) (hta : ta.size ≤ 60) (hrp : rp.size ≤ 60)
    (hP : ∀ (lo : Nat) (w1 w2 : World) (pp : Option Addr), P lo w1 pp → Ex [] w1 w2 → P lo w2 pp)
    (hr : u.regex = true → ∀ W, Ex [] w W → ReadsQ W re true 0 (P (W.heap.size + 2))) (hnr : u.regex = false → ∀ lo w1 pp, P lo w1 pp)
    (hmr : makeR n ss se re ta rp mo u true 0 = (0, 0)) (hd : Deeds n ss se ta rp mo P F) : Makes w ⟨n, p, ss.length, c, se, re, ta, rp, mo⟩ F := by
  intro W hW
  have hgl := (hg.ex hW).2.lt
  refine (make_q n u hu p c ss se re ta rp mo true 0 W (fun w2 fv => Does (W.heap.size + 2) w2.heap.size w2 fv F) (hub.ex hW (by simp)) (hv.ex0 hW) hn (fun s hs => by have := hz s hs; omega) (by omega) (by omega) (by omega) (P (W.heap.size + 2)) (fun w1 w2 pp => hP _ w1 w2 pp) (fun h => hr h W hW)
    (fun _ w1 sp sc pp hx1 hs1 hss hso hQ => ?_) (fun w2 fv hD => ?_)).mono ?_
  · refine hd (W.heap.size + 2) w1 sp sc pp (by omega) hs1 hss hso ?_
    cases hur : u.regex with
    | true => exact hQ hur
    | false => exact hnr hur _ _ _
  · have hk : KB (W.heap.size + 2) w2.heap.size w2 (w2.setCell ⟨W.heap.size + 1, 0, none⟩ fv) := KB.ofEx (l := [W.heap.size + 1]) ((Ex.refl _ _).setCell (Or.inl (by simp)) _) (fun x hx => Or.inl (by simp at hx; omega)) (Nat.le_refl _)
    have h1 := hD.kb hk
    simpa using h1
  · rintro x w' ⟨_, h2, hx⟩
    rw [hmr] at h2
    obtain ⟨f, a, b, h3, h4⟩ := h2 rfl
    exact ⟨⟨f, a, b, h3, h4.wider (by omega)⟩, hx⟩

def PatP (re : ByteArray) (lo : Nat) (w : World) (pp : Option Addr) : Prop := ∃ q, pp = some ⟨q, 0, none⟩ ∧ PG w q lo (patC re) (patN re) (patM re)
theorem PatP.ex {re : ByteArray} (lo : Nat) (w1 w2 : World) (pp : Option Addr) (h : PatP re lo w1 pp) (hx : Ex [] w1 w2) : PatP re lo w2 pp := by
  obtain ⟨q, rfl, hp⟩ := h
  exact ⟨q, rfl, hp.ex' hx⟩
theorem patReads {w : World} {re : ByteArray} {x : EV} (hev : w.cell? ⟨0, 0, none⟩ = some (.iface x.1 x.2)) (h : goodP re = true) (W : World) (hW : Ex [] w W) : ReadsQ W re true 0 (PatP re (W.heap.size + 2)) := fun w1 hx hz => by
  refine (readsP hev h w1 (hW.trans hx)).mono ?_
  rintro e w' ⟨q, rfl, hp, hx'⟩
  exact ⟨⟨_, rfl, q, rfl, hp.lower hz⟩, hx'⟩

set_option maxHeartbeats 1000000 in
set_option maxRecDepth 100000 in
theorem deed_match (p : Option Addr) (n c : Nat) (se : ByteArray) (pp : Option Addr) (ta rp : ByteArray) (mo : Int) (w : World) :
    Calls Tryz.prog 79 #[meansV (.slice p n c) se (.pointer pp) ta rp mo, .int .i64 1] w fun x w' => x = .returned (.func (.func 104) #[meansV (.slice p n c) se (.pointer pp) ta rp mo] #[]) ∧ Ex [] w w' := by
  have hmf : ∀ (fn : Fn) (first cap : Array Value) (w : World), (Instr.makeFunc fn first cap).run Tryz.prog w = .ok (.func fn first cap) w := fun _ _ _ _ => rfl
  unfold meansV
  go_enter Tryz.func79, Tryz.ntmps79
  go_wp2_with fail
  go_ret
  exact ⟨rfl, (Ex.refl _ _).alloc _⟩
set_option maxHeartbeats 1000000 in
set_option maxRecDepth 100000 in
theorem deed_notmatch (p : Option Addr) (n c : Nat) (se : ByteArray) (pp : Option Addr) (ta rp : ByteArray) (mo : Int) (w : World) :
    Calls Tryz.prog 79 #[meansV (.slice p n c) se (.pointer pp) ta rp mo, .int .i64 2] w fun x w' => ∃ b, x = .returned (.func (.func 133) #[] #[.pointer (some ⟨b, 0, none⟩)]) ∧ w.heap.size ≤ b ∧ BK w' b (.cells #[.func (.func 104) #[meansV (.slice p n c) se (.pointer pp) ta rp mo] #[]] 130 (0, 0)) ∧ Ex [] w w' := by
  have hmf : ∀ (fn : Fn) (first cap : Array Value) (w : World), (Instr.makeFunc fn first cap).run Tryz.prog w = .ok (.func fn first cap) w := fun _ _ _ _ => rfl
  unfold meansV
  go_enter Tryz.func79, Tryz.ntmps79
  go_wp2_with (go_at_call 105; go_in)
  go_ret
  refine ⟨w.heap.size + 1, by simp, by omega, ?_, ((Ex.refl _ _).alloc _).alloc _⟩
  have h := BK.new (w.alloc (Obj.cells #[.slice p n c, .string se, .pointer pp, .string ta, .string rp, .int .u64 mo] 189)) (Obj.cells #[.func (.func 104) #[.agg #[.slice p n c, .string se, .pointer pp, .string ta, .string rp, .int .u64 mo]] #[]] 130)
  simpa using h
set_option maxHeartbeats 1000000 in
set_option maxRecDepth 100000 in
theorem deed_equal (p : Option Addr) (n c : Nat) (se : ByteArray) (pp : Option Addr) (ta rp : ByteArray) (mo : Int) (w : World) :
    Calls Tryz.prog 79 #[meansV (.slice p n c) se (.pointer pp) ta rp mo, .int .i64 3] w fun x w' => x = .returned (.func (.func 106) #[meansV (.slice p n c) se (.pointer pp) ta rp mo] #[]) ∧ Ex [] w w' := by
  have hmf : ∀ (fn : Fn) (first cap : Array Value) (w : World), (Instr.makeFunc fn first cap).run Tryz.prog w = .ok (.func fn first cap) w := fun _ _ _ _ => rfl
  unfold meansV
  go_enter Tryz.func79, Tryz.ntmps79
  go_wp2_with fail
  go_ret
  exact ⟨rfl, (Ex.refl _ _).alloc _⟩
set_option maxHeartbeats 1000000 in
set_option maxRecDepth 100000 in
theorem deed_notequal (p : Option Addr) (n c : Nat) (se : ByteArray) (pp : Option Addr) (ta rp : ByteArray) (mo : Int) (w : World) :
    Calls Tryz.prog 79 #[meansV (.slice p n c) se (.pointer pp) ta rp mo, .int .i64 4] w fun x w' => ∃ b, x = .returned (.func (.func 133) #[] #[.pointer (some ⟨b, 0, none⟩)]) ∧ w.heap.size ≤ b ∧ BK w' b (.cells #[.func (.func 106) #[meansV (.slice p n c) se (.pointer pp) ta rp mo] #[]] 130 (0, 0)) ∧ Ex [] w w' := by
  have hmf : ∀ (fn : Fn) (first cap : Array Value) (w : World), (Instr.makeFunc fn first cap).run Tryz.prog w = .ok (.func fn first cap) w := fun _ _ _ _ => rfl
  unfold meansV
  go_enter Tryz.func79, Tryz.ntmps79
  go_wp2_with (go_at_call 105; go_in)
  go_ret
  refine ⟨w.heap.size + 1, by simp, by omega, ?_, ((Ex.refl _ _).alloc _).alloc _⟩
  have h := BK.new (w.alloc (Obj.cells #[.slice p n c, .string se, .pointer pp, .string ta, .string rp, .int .u64 mo] 189)) (Obj.cells #[.func (.func 106) #[.agg #[.slice p n c, .string se, .pointer pp, .string ta, .string rp, .int .u64 mo]] #[]] 130)
  simpa using h
set_option maxHeartbeats 1000000 in
set_option maxRecDepth 100000 in
theorem deed_dropN (p : Option Addr) (n c : Nat) (se : ByteArray) (pp : Option Addr) (ta rp : ByteArray) (mo : Int) (w : World) :
    Calls Tryz.prog 79 #[meansV (.slice p n c) se (.pointer pp) ta rp mo, .int .i64 7] w fun x w' => x = .returned (.func (.func 110) #[meansV (.slice p n c) se (.pointer pp) ta rp mo] #[]) ∧ Ex [] w w' := by
  have hmf : ∀ (fn : Fn) (first cap : Array Value) (w : World), (Instr.makeFunc fn first cap).run Tryz.prog w = .ok (.func fn first cap) w := fun _ _ _ _ => rfl
  unfold meansV
  go_enter Tryz.func79, Tryz.ntmps79
  go_wp2_with fail
  go_ret
  exact ⟨rfl, (Ex.refl _ _).alloc _⟩
set_option maxHeartbeats 1000000 in
set_option maxRecDepth 100000 in
theorem deed_keepN (p : Option Addr) (n c : Nat) (se : ByteArray) (pp : Option Addr) (ta rp : ByteArray) (mo : Int) (w : World) :
    Calls Tryz.prog 79 #[meansV (.slice p n c) se (.pointer pp) ta rp mo, .int .i64 8] w fun x w' => x = .returned (.func (.func 111) #[meansV (.slice p n c) se (.pointer pp) ta rp mo] #[]) ∧ Ex [] w w' := by
  have hmf : ∀ (fn : Fn) (first cap : Array Value) (w : World), (Instr.makeFunc fn first cap).run Tryz.prog w = .ok (.func fn first cap) w := fun _ _ _ _ => rfl
  unfold meansV
  go_enter Tryz.func79, Tryz.ntmps79
  go_wp2_with fail
  go_ret
  exact ⟨rfl, (Ex.refl _ _).alloc _⟩

def F1 (ss : List ByteArray) (se re : ByteArray) : List Lab → List Lab × Bool := fun ls => (ls, (matchM (patC re) (textN ls ss se)).isSome)
def F2 (ss : List ByteArray) (se re : ByteArray) : List Lab → List Lab × Bool := fun ls => (ls, !(matchM (patC re) (textN ls ss se)).isSome)
def F3 (ss : List ByteArray) (se ta : ByteArray) : List Lab → List Lab × Bool := fun ls => (ls, eqB (textN ls ss se) (valN ls ta))
def F4 (ss : List ByteArray) (se ta : ByteArray) : List Lab → List Lab × Bool := fun ls => (ls, !eqB (textN ls ss se) (valN ls ta))
def F7 (re : ByteArray) : List Lab → List Lab × Bool := fun ls => (ls.filter fun l => !(matchM (patC re) l.1).isSome, true)
def F8 (re : ByteArray) : List Lab → List Lab × Bool := fun ls => (ls.filter fun l => (matchM (patC re) l.1).isSome, true)
theorem deeds1 (ss : List ByteArray) (se re ta rp : ByteArray) (mo : Int) (hf : Fit (patC re) (patN re)) (hsn : ss.length ≤ 1000) (hse : se.size ≤ 60) : Deeds 1 ss se ta rp mo (PatP re) (F1 ss se re) := fun lo w sp sc pp hlo hle hs hsb hP => by
  obtain ⟨q, rfl, hp⟩ := hP
  refine (deed_match sp ss.length sc se (some ⟨q, 0, none⟩) ta rp mo w).mono ?_
  rintro x w2 ⟨rfl, hx⟩
  exact ⟨⟨_, _, _, rfl, does_match lo sp sc ss se q ta rp mo (patC re) (patN re) (patM re) hf w2 (hs.ex0 hx) hsb (hp.ex' hx) hsn (by omega)⟩, hx⟩
theorem deeds2 (ss : List ByteArray) (se re ta rp : ByteArray) (mo : Int) (hf : Fit (patC re) (patN re)) (hsn : ss.length ≤ 1000) (hse : se.size ≤ 60) : Deeds 2 ss se ta rp mo (PatP re) (F2 ss se re) := fun lo w sp sc pp hlo hle hs hsb hP => by
  obtain ⟨q, rfl, hp⟩ := hP
  refine (deed_notmatch sp ss.length sc se (some ⟨q, 0, none⟩) ta rp mo w).mono ?_
  rintro x w2 ⟨b, rfl, hb1, hb2, hx⟩
  exact ⟨⟨_, _, _, rfl, does_notmatch lo sp sc ss se q ta rp mo (patC re) (patN re) (patM re) hf w2 b hb2 (by omega) (hs.ex0 hx) hsb (hp.ex' hx) hsn (by omega)⟩, hx⟩
theorem deeds3 (ss : List ByteArray) (se ta rp : ByteArray) (mo : Int) (hsn : ss.length ≤ 1000) (hse : se.size ≤ 60) : Deeds 3 ss se ta rp mo (fun _ _ _ => True) (F3 ss se ta) := fun lo w sp sc pp hlo hle hs hsb _ => by
  refine (deed_equal sp ss.length sc se pp ta rp mo w).mono ?_
  rintro x w2 ⟨rfl, hx⟩
  exact ⟨⟨_, _, _, rfl, does_equal lo sp sc ss se pp ta rp mo w2 (hs.ex0 hx) hsb hsn (by omega)⟩, hx⟩
theorem deeds4 (ss : List ByteArray) (se ta rp : ByteArray) (mo : Int) (hsn : ss.length ≤ 1000) (hse : se.size ≤ 60) : Deeds 4 ss se ta rp mo (fun _ _ _ => True) (F4 ss se ta) := fun lo w sp sc pp hlo hle hs hsb _ => by
  refine (deed_notequal sp ss.length sc se pp ta rp mo w).mono ?_
  rintro x w2 ⟨b, rfl, hb1, hb2, hx⟩
  exact ⟨⟨_, _, _, rfl, does_notequal lo sp sc ss se pp ta rp mo w2 b hb2 (by omega) (hs.ex0 hx) hsb hsn (by omega)⟩, hx⟩
theorem deeds7 (ss : List ByteArray) (se re ta rp : ByteArray) (mo : Int) (hf : Fit (patC re) (patN re)) : Deeds 7 ss se ta rp mo (PatP re) (F7 re) := fun lo w sp sc pp hlo hle hs hsb hP => by
  obtain ⟨q, rfl, hp⟩ := hP
  refine (deed_dropN sp ss.length sc se (some ⟨q, 0, none⟩) ta rp mo w).mono ?_
  rintro x w2 ⟨rfl, hx⟩
  exact ⟨⟨_, _, _, rfl, does_dropNames lo sp ss.length sc se q ta rp mo (patC re) (patN re) (patM re) hf w2 (hp.ex' hx) hlo⟩, hx⟩
theorem deeds8 (ss : List ByteArray) (se re ta rp : ByteArray) (mo : Int) (hf : Fit (patC re) (patN re)) : Deeds 8 ss se ta rp mo (PatP re) (F8 re) := fun lo w sp sc pp hlo hle hs hsb hP => by
  obtain ⟨q, rfl, hp⟩ := hP
  refine (deed_keepN sp ss.length sc se (some ⟨q, 0, none⟩) ta rp mo w).mono ?_
  rintro x w2 ⟨rfl, hx⟩
  exact ⟨⟨_, _, _, rfl, does_keepNames lo sp ss.length sc se q ta rp mo (patC re) (patN re) (patM re) hf w2 (hp.ex' hx) hlo⟩, hx⟩
end Go.Proofs.YtcbiidoebpkifaaGreatDoor.G

/- The statements' own rules: each pattern is one of some. -/
namespace Go.Proofs.YtcbiidoebpkifaaGreatDoor.G
open Go.RowKit

def pats : List ByteArray := [⟨#[]⟩, ⟨#[46, 42]⟩, ⟨#[40, 46, 42, 41]⟩, ⟨#[97, 46, 42]⟩, ⟨#[40, 46, 41, 40, 46, 42, 41]⟩, ⟨#[40, 63, 80, 60, 120, 62, 91, 97, 45, 122, 93, 43, 41, 40, 92, 100, 42, 41]⟩, ⟨#[97, 124, 98]⟩, ⟨#[46, 43, 59, 46, 43]⟩, ⟨#[40, 97, 42, 63, 41, 40, 46, 42, 41]⟩, ⟨#[91, 94, 59, 93, 42]⟩, ⟨#[40, 63, 105, 41, 106, 111, 98]⟩, ⟨#[49, 63, 50, 63]⟩]
set_option maxRecDepth 100000 in
theorem pats_good : pats.all goodP = true := by kernel_rfl
theorem pat_good {t : ByteArray} (h : t ∈ pats) : goodP t = true := List.all_eq_true.1 pats_good t h

theorem infoStr' : (Tryz.prog.info? 9).map (fun i => (i.zero, i.size, i.bytes)) = some (some (.string ⟨#[]⟩), 1, 16) := by kernel_rfl
structure RuleOK (w : World) (p : Option Addr) (c : Nat) (ss : List ByteArray) (se re : ByteArray) : Prop where
  row : SS w (.slice p ss.length c) ss
  len : ss.length ≤ 3
  nam : ∀ s ∈ ss, nameB s = true
  sep : se.size ≤ 3
  pat : re ∈ pats

theorem bk1 (w : World) (o0 o1 : Obj) : BK ((w.alloc o0).alloc o1) (w.heap.size + 1) o1 := by simpa using BK.new (w.alloc o0) o1
theorem bk2 (w : World) (o0 o1 o2 : Obj) : BK (((w.alloc o0).alloc o1).alloc o2) (w.heap.size + 1 + 1) o2 := by simpa using BK.new ((w.alloc o0).alloc o1) o2
theorem bk3 (w : World) (o0 o1 o2 o3 : Obj) : BK ((((w.alloc o0).alloc o1).alloc o2).alloc o3) (w.heap.size + 1 + 1 + 1) o3 := by simpa using BK.new (((w.alloc o0).alloc o1).alloc o2) o3
theorem bk4 (w : World) (o0 o1 o2 o3 o4 : Obj) : BK (((((w.alloc o0).alloc o1).alloc o2).alloc o3).alloc o4) (w.heap.size + 1 + 1 + 1 + 1) o4 := by simpa using BK.new ((((w.alloc o0).alloc o1).alloc o2).alloc o3) o4
theorem strs_at {w : World} {b : Nat} {l : List ByteArray} {t : TypeId} {cs : Array Value} (h : BK w b (.cells cs t (0, 0))) (e : cs = (l.map Value.string).toArray) (k : Nat) (hk : k < l.length) : ∃ s, s ∈ l ∧ w.cell? ⟨b, k, none⟩ = some (.string s) := by
  refine ⟨l[k], List.getElem_mem hk, ?_⟩
  rw [h.all.1, e]
  simp [hk]
def texts : List ByteArray := [⟨#[]⟩, ⟨#[36, 49]⟩, ⟨#[36, 48]⟩, ⟨#[120, 36, 50, 121]⟩, ⟨#[36, 123, 120, 125]⟩, ⟨#[110, 101, 119]⟩, ⟨#[36, 36]⟩, ⟨#[36, 49, 36, 49]⟩, ⟨#[36, 123, 49, 125, 95, 36, 123, 50, 125]⟩, ⟨#[106, 111, 98]⟩]

end Go.Proofs.YtcbiidoebpkifaaGreatDoor.G

/- The statements' own rules: the first action. -/
namespace Go.Proofs.YtcbiidoebpkifaaGreatDoor.G
open Go.RowKit

theorem wrap64_rng (x : Int) : -9223372036854775808 ≤ wrap64 x ∧ wrap64 x ≤ 9223372036854775807 := by
  unfold wrap64
  omega
theorem pickI_nat (c n : Int) (hn : 0 < n) : ∃ k : Nat, (k : Int) = pickI c n ∧ (k : Int) < n := by
  have h := pickI_rng c n hn
  exact ⟨(pickI c n).toNat, by omega, by omega⟩

end Go.Proofs.YtcbiidoebpkifaaGreatDoor.G
