import Derived.Test.YtmeffeigamaipabGreatDoorM42
import Derived.Test.YtmeffeigamaipabGreatDoorN1
import Derived.Test.YtmeffeigamaipabGreatDoorN4
import Derived.Test.YtmeffeigamaipabGreatDoorN5
set_option linter.unusedVariables false
set_option linter.unusedSimpArgs false
namespace Go.Proofs.YtmeffeigamaipabGreatDoor.G
open Go.RowKit

set_option maxHeartbeats 2000000 in
set_option maxRecDepth 100000 in
theorem does_replace (lo : Nat) (p : Option Addr) (c : Nat) (ss : List ByteArray) (se : ByteArray) (pq : Nat) (ta rp : ByteArray) (mo : Int) (code : List Ins) (ng : Nat) (nm : List (ByteArray × Nat)) (hf : Fit2 code ng nm) (w : World)
    (hs : SS w (.slice p ss.length c) ss) (hsb : ∀ k, (Value.slice p ss.length c).ownBlock = some k → lo ≤ k) (hp : PG w pq lo code ng nm) (hsn : ss.length ≤ 1000) (hse : se.size ≤ 1000) (hta : ta.size ≤ 60) (hrp : rp.size ≤ 60) :
    Does lo w.heap.size w (.func (.func 69) #[meansV (.slice p ss.length c) se (.pointer (some ⟨pq, 0, none⟩)) ta rp mo] #[]) (fun ls => (replM code ng nm ss se ta rp ls, true)) := by
  refine ⟨Nat.le_refl _, ⟨_, _, _, rfl⟩, fun w1 hk hg q base ls v0 hb hle hqb hq ho hnq hok => ?_⟩
  have KM := hide (fun (w' : World) (hx : Ex [] w1 w') => replace_any p c ss se pq lo ta rp mo code ng nm hf q base ls v0 w' ((SS.kb hs hk hsb).ex0 hx) ((hp.kb hk).ex' hx) (hg.ex hx) (Nat.le_trans hle hx.size) (hq.ex hx (by simp)) (own_ex ho hx (by simp)) hnq hok hsn hse hta hrp)
  have HOK := hide (hok.repl code ng nm ss se ta rp)
  have HO := hide ho
  obtain ⟨r, hr⟩ : ∃ r, r = replM code ng nm ss se ta rp ls := ⟨_, rfl⟩
  dsimp only
  rw [← hr] at KM HOK ⊢
  obtain ⟨n, hn⟩ : ∃ n, n = ss.length := ⟨_, rfl⟩
  rw [← hn] at KM ⊢
  unfold meansV at *
  clear hs hsb hk hg hq ho hnq hok hr hn hp
  go_enter Tryz.func46, Tryz.ntmps46
  go_wp2_with fail
  refine (KM.out _ ((Ex.refl _ _).alloc _)).mono ?_
  rintro x w2 ⟨rfl, hl2, hx2⟩
  have HX2 := hide ((((Ex.refl [] w1).alloc _).drop (by simp)).trans hx2)
  have HL2 := hide hl2
  clear hx2 hl2
  go_wp2_with fail
  go_ret
  exact ⟨rfl, HL2.out, HOK.out, eb_own HX2.out hqb HO.out hle⟩

set_option maxHeartbeats 1000000 in
set_option maxRecDepth 100000 in
theorem deed_replace (p : Option Addr) (n c : Nat) (se : ByteArray) (pp : Option Addr) (ta rp : ByteArray) (mo : Int) (w : World) :
    Calls Tryz.prog 55 #[meansV (.slice p n c) se (.pointer pp) ta rp mo, .int .i64 0] w fun x w' => x = .returned (.func (.func 69) #[meansV (.slice p n c) se (.pointer pp) ta rp mo] #[]) ∧ Ex [] w w' := by
  have hmf : ∀ (fn : Fn) (first cap : Array Value) (w : World), (Instr.makeFunc fn first cap).run Tryz.prog w = .ok (.func fn first cap) w := fun _ _ _ _ => rfl
  unfold meansV
  go_enter Tryz.func55, Tryz.ntmps55
  go_wp2_with fail
  go_ret
  exact ⟨rfl, (Ex.refl _ _).alloc _⟩
def F0 (ss : List ByteArray) (se re ta rp : ByteArray) : List Lab → List Lab × Bool := fun ls => (replM (patC re) (patN re) (patM re) ss se ta rp ls, true)
theorem deeds0 (ss : List ByteArray) (se re ta rp : ByteArray) (mo : Int) (hf : Fit2 (patC re) (patN re) (patM re)) (hsn : ss.length ≤ 1000) (hse : se.size ≤ 60) (hta : ta.size ≤ 60) (hrp : rp.size ≤ 60) : Deeds 0 ss se ta rp mo (PatP re) (F0 ss se re ta rp) := fun lo w sp sc pp hlo hle hs hsb hP => by
  obtain ⟨q, rfl, hp⟩ := hP
  refine (deed_replace sp ss.length sc se (some ⟨q, 0, none⟩) ta rp mo w).mono ?_
  rintro x w2 ⟨rfl, hx⟩
  exact ⟨⟨_, _, _, rfl, does_replace lo sp sc ss se q ta rp mo (patC re) (patN re) (patM re) hf w2 (hs.ex0 hx) hsb (hp.ex' hx) hsn (by omega) hta hrp⟩, hx⟩
def fit2B (re : ByteArray) : Bool := spanB (patC re) && (patM re).all (fun x => decide (x.1.size ≤ 60) && decide (x.2 ≤ 1000) && (patM re).all fun y => !decide (x.1 = y.1) || decide (x.2 = y.2))
set_option maxRecDepth 100000 in
theorem pats_fit2 : pats.all fit2B = true := by kernel_rfl
theorem pat_fit2 {re : ByteArray} (h : re ∈ pats) : Fit2 (patC re) (patN re) (patM re) := by
  have h1 := List.all_eq_true.1 pats_fit2 re h
  unfold fit2B at h1
  rw [Bool.and_eq_true] at h1
  have h2 := fun x hx => List.all_eq_true.1 h1.2 x hx
  simp only [Bool.and_eq_true, decide_eq_true_eq] at h2
  refine ⟨fit_of (pat_good h), h1.1, fun x hx => (h2 x hx).1.1, fun x hx y hy e => ?_, fun x hx => (h2 x hx).1.2⟩
  have h3 := List.all_eq_true.1 (h2 x hx).2 y hy
  simp only [Bool.or_eq_true, Bool.not_eq_true', decide_eq_false_iff_not, decide_eq_true_eq] at h3
  exact h3.resolve_left (fun hn => hn e)
end Go.Proofs.YtmeffeigamaipabGreatDoor.G

set_option linter.unusedVariables false
set_option linter.unusedSimpArgs false
namespace Go.Proofs.YtmeffeigamaipabGreatDoor.G
open Go.RowKit

def F5 (ss : List ByteArray) (se ta : ByteArray) (mo : Int) : List Lab → List Lab × Bool := fun ls => (Go.Proofs.YtmeffeigamaipabGreatDoor.setL ls ta (remM mo (textN ls ss se)), true)
def F9 (ss : List ByteArray) (se ta : ByteArray) : List Lab → List Lab × Bool := fun ls => (Go.Proofs.YtmeffeigamaipabGreatDoor.setL ls ta (lowerA (textN ls ss se)), true)
def F10 (ss : List ByteArray) (se ta : ByteArray) : List Lab → List Lab × Bool := fun ls => (Go.Proofs.YtmeffeigamaipabGreatDoor.setL ls ta (upperA (textN ls ss se)), true)
set_option maxHeartbeats 1000000 in
set_option maxRecDepth 100000 in
theorem setTo_fv (p : Option Addr) (n c : Nat) (se : ByteArray) (pp : Option Addr) (ta rp : ByteArray) (mo : Int) (f : FuncId) (a : Array Value) (w : World) :
    Calls Tryz.prog 73 #[meansV (.slice p n c) se (.pointer pp) ta rp mo, .func (.func f) a #[]] w fun x w' => x = .returned (.func (.func 106) #[] #[.pointer (some ⟨w.heap.size, 0, none⟩), .pointer (some ⟨w.heap.size + 1, 0, none⟩)]) ∧
      w' = (w.alloc (.cells #[.slice p n c, .string se, .pointer pp, .string ta, .string rp, .int .u64 mo] 116)).alloc (.cells #[.func (.func f) a #[]] 55) := by
  have hmf : ∀ (fn : Fn) (first cap : Array Value) (w : World), (Instr.makeFunc fn first cap).run Tryz.prog w = .ok (.func fn first cap) w := fun _ _ _ _ => rfl
  unfold meansV
  go_enter Tryz.func73, Tryz.ntmps73
  go_wp2_with fail
  go_ret
  exact ⟨by simp, rfl⟩

set_option maxHeartbeats 1000000 in
set_option maxRecDepth 100000 in
theorem deed_lower (p : Option Addr) (n c : Nat) (se : ByteArray) (pp : Option Addr) (ta rp : ByteArray) (mo : Int) (w : World) :
    Calls Tryz.prog 55 #[meansV (.slice p n c) se (.pointer pp) ta rp mo, .int .i64 9] w fun x w' => ∃ b1 b2, x = .returned (.func (.func 106) #[] #[.pointer (some ⟨b1, 0, none⟩), .pointer (some ⟨b2, 0, none⟩)]) ∧
      BK w' b1 (.cells #[.slice p n c, .string se, .pointer pp, .string ta, .string rp, .int .u64 mo] 116 (0, 0)) ∧ BK w' b2 (.cells #[.func (.func 78) #[] #[]] 55 (0, 0)) ∧ w.heap.size ≤ b1 ∧ w.heap.size ≤ b2 ∧ Ex [] w w' := by
  have hmf : ∀ (fn : Fn) (first cap : Array Value) (w : World), (Instr.makeFunc fn first cap).run Tryz.prog w = .ok (.func fn first cap) w := fun _ _ _ _ => rfl
  have KS := hide (fun w => setTo_fv p n c se pp ta rp mo 78 #[] w)
  unfold meansV at *
  go_enter Tryz.func55, Tryz.ntmps55
  go_wp2_with fail
  refine (KS.out _).mono ?_
  rintro x w1 ⟨rfl, hw1⟩
  have hb1 : BK w1 (w.heap.size + 1) (.cells #[.slice p n c, .string se, .pointer pp, .string ta, .string rp, .int .u64 mo] 116 (0, 0)) := by
    rw [hw1]
    have h := (BK.new (w.alloc (Obj.cells #[.slice p n c, .string se, .pointer pp, .string ta, .string rp, .int .u64 mo] 116)) (Obj.cells #[.slice p n c, .string se, .pointer pp, .string ta, .string rp, .int .u64 mo] 116)).alloc (Obj.cells #[.func (.func 78) #[] #[]] 55)
    simpa using h
  have hb2 : BK w1 (w.heap.size + 1 + 1) (.cells #[.func (.func 78) #[] #[]] 55 (0, 0)) := by
    rw [hw1]
    have h := BK.new ((w.alloc (Obj.cells #[.slice p n c, .string se, .pointer pp, .string ta, .string rp, .int .u64 mo] 116)).alloc (Obj.cells #[.slice p n c, .string se, .pointer pp, .string ta, .string rp, .int .u64 mo] 116)) (Obj.cells #[.func (.func 78) #[] #[]] 55)
    simpa using h
  have hx1 : Ex [] w w1 := by rw [hw1]; exact (((Ex.refl _ _).alloc _).alloc _).alloc _
  have H1 := hide hb1
  have H2 := hide hb2
  have HX := hide hx1
  clear hw1 hb1 hb2 hx1
  go_wp2_with fail
  go_ret
  refine ⟨w.heap.size + 1, w.heap.size + 1 + 1, by simp, H1.out, H2.out, by omega, by omega, HX.out⟩
theorem deeds9 (ss : List ByteArray) (se ta rp : ByteArray) (mo : Int) (hta : nameB ta = true) (hsn : ss.length ≤ 1000) (hse : se.size ≤ 60) : Deeds 9 ss se ta rp mo (fun _ _ _ => True) (F9 ss se ta) := fun lo w sp sc pp hlo hle hs hsb _ => by
  refine (deed_lower sp ss.length sc se pp ta rp mo w).mono ?_
  rintro x w2 ⟨b1, b2, rfl, h1, h2, hl1, hl2, hx⟩
  exact ⟨⟨_, _, _, rfl, does_lower lo sp sc ss se pp ta rp mo w2 b1 b2 h1 h2 (by omega) (by omega) (hs.ex0 hx) hsb hta hsn (by omega)⟩, hx⟩

set_option maxHeartbeats 1000000 in
set_option maxRecDepth 100000 in
theorem deed_upper (p : Option Addr) (n c : Nat) (se : ByteArray) (pp : Option Addr) (ta rp : ByteArray) (mo : Int) (w : World) :
    Calls Tryz.prog 55 #[meansV (.slice p n c) se (.pointer pp) ta rp mo, .int .i64 10] w fun x w' => ∃ b1 b2, x = .returned (.func (.func 106) #[] #[.pointer (some ⟨b1, 0, none⟩), .pointer (some ⟨b2, 0, none⟩)]) ∧
      BK w' b1 (.cells #[.slice p n c, .string se, .pointer pp, .string ta, .string rp, .int .u64 mo] 116 (0, 0)) ∧ BK w' b2 (.cells #[.func (.func 79) #[] #[]] 55 (0, 0)) ∧ w.heap.size ≤ b1 ∧ w.heap.size ≤ b2 ∧ Ex [] w w' := by
  have hmf : ∀ (fn : Fn) (first cap : Array Value) (w : World), (Instr.makeFunc fn first cap).run Tryz.prog w = .ok (.func fn first cap) w := fun _ _ _ _ => rfl
  have KS := hide (fun w => setTo_fv p n c se pp ta rp mo 79 #[] w)
  unfold meansV at *
  go_enter Tryz.func55, Tryz.ntmps55
  go_wp2_with fail
  refine (KS.out _).mono ?_
  rintro x w1 ⟨rfl, hw1⟩
  have hb1 : BK w1 (w.heap.size + 1) (.cells #[.slice p n c, .string se, .pointer pp, .string ta, .string rp, .int .u64 mo] 116 (0, 0)) := by
    rw [hw1]
    have h := (BK.new (w.alloc (Obj.cells #[.slice p n c, .string se, .pointer pp, .string ta, .string rp, .int .u64 mo] 116)) (Obj.cells #[.slice p n c, .string se, .pointer pp, .string ta, .string rp, .int .u64 mo] 116)).alloc (Obj.cells #[.func (.func 79) #[] #[]] 55)
    simpa using h
  have hb2 : BK w1 (w.heap.size + 1 + 1) (.cells #[.func (.func 79) #[] #[]] 55 (0, 0)) := by
    rw [hw1]
    have h := BK.new ((w.alloc (Obj.cells #[.slice p n c, .string se, .pointer pp, .string ta, .string rp, .int .u64 mo] 116)).alloc (Obj.cells #[.slice p n c, .string se, .pointer pp, .string ta, .string rp, .int .u64 mo] 116)) (Obj.cells #[.func (.func 79) #[] #[]] 55)
    simpa using h
  have hx1 : Ex [] w w1 := by rw [hw1]; exact (((Ex.refl _ _).alloc _).alloc _).alloc _
  have H1 := hide hb1
  have H2 := hide hb2
  have HX := hide hx1
  clear hw1 hb1 hb2 hx1
  go_wp2_with fail
  go_ret
  refine ⟨w.heap.size + 1, w.heap.size + 1 + 1, by simp, H1.out, H2.out, by omega, by omega, HX.out⟩
theorem deeds10 (ss : List ByteArray) (se ta rp : ByteArray) (mo : Int) (hta : nameB ta = true) (hsn : ss.length ≤ 1000) (hse : se.size ≤ 60) : Deeds 10 ss se ta rp mo (fun _ _ _ => True) (F10 ss se ta) := fun lo w sp sc pp hlo hle hs hsb _ => by
  refine (deed_upper sp ss.length sc se pp ta rp mo w).mono ?_
  rintro x w2 ⟨b1, b2, rfl, h1, h2, hl1, hl2, hx⟩
  exact ⟨⟨_, _, _, rfl, does_upper lo sp sc ss se pp ta rp mo w2 b1 b2 h1 h2 (by omega) (by omega) (hs.ex0 hx) hsb hta hsn (by omega)⟩, hx⟩

set_option maxHeartbeats 1000000 in
set_option maxRecDepth 100000 in
theorem deed_remainder (p : Option Addr) (n c : Nat) (se : ByteArray) (pp : Option Addr) (ta rp : ByteArray) (mo : Int) (w : World) :
    Calls Tryz.prog 55 #[meansV (.slice p n c) se (.pointer pp) ta rp mo, .int .i64 5] w fun x w' => ∃ b1 b2, x = .returned (.func (.func 106) #[] #[.pointer (some ⟨b1, 0, none⟩), .pointer (some ⟨b2, 0, none⟩)]) ∧
      BK w' b1 (.cells #[.slice p n c, .string se, .pointer pp, .string ta, .string rp, .int .u64 mo] 116 (0, 0)) ∧ BK w' b2 (.cells #[.func (.func 74) #[.agg #[.slice p n c, .string se, .pointer pp, .string ta, .string rp, .int .u64 mo]] #[]] 55 (0, 0)) ∧ w.heap.size ≤ b1 ∧ w.heap.size ≤ b2 ∧ Ex [] w w' := by
  have hmf : ∀ (fn : Fn) (first cap : Array Value) (w : World), (Instr.makeFunc fn first cap).run Tryz.prog w = .ok (.func fn first cap) w := fun _ _ _ _ => rfl
  have KS := hide (fun w => setTo_fv p n c se pp ta rp mo 74 #[.agg #[.slice p n c, .string se, .pointer pp, .string ta, .string rp, .int .u64 mo]] w)
  unfold meansV at *
  go_enter Tryz.func55, Tryz.ntmps55
  go_wp2_with fail
  refine (KS.out _).mono ?_
  rintro x w1 ⟨rfl, hw1⟩
  have hb1 : BK w1 (w.heap.size + 1) (.cells #[.slice p n c, .string se, .pointer pp, .string ta, .string rp, .int .u64 mo] 116 (0, 0)) := by
    rw [hw1]
    have h := (BK.new (w.alloc (Obj.cells #[.slice p n c, .string se, .pointer pp, .string ta, .string rp, .int .u64 mo] 116)) (Obj.cells #[.slice p n c, .string se, .pointer pp, .string ta, .string rp, .int .u64 mo] 116)).alloc (Obj.cells #[.func (.func 74) #[.agg #[.slice p n c, .string se, .pointer pp, .string ta, .string rp, .int .u64 mo]] #[]] 55)
    simpa using h
  have hb2 : BK w1 (w.heap.size + 1 + 1) (.cells #[.func (.func 74) #[.agg #[.slice p n c, .string se, .pointer pp, .string ta, .string rp, .int .u64 mo]] #[]] 55 (0, 0)) := by
    rw [hw1]
    have h := BK.new ((w.alloc (Obj.cells #[.slice p n c, .string se, .pointer pp, .string ta, .string rp, .int .u64 mo] 116)).alloc (Obj.cells #[.slice p n c, .string se, .pointer pp, .string ta, .string rp, .int .u64 mo] 116)) (Obj.cells #[.func (.func 74) #[.agg #[.slice p n c, .string se, .pointer pp, .string ta, .string rp, .int .u64 mo]] #[]] 55)
    simpa using h
  have hx1 : Ex [] w w1 := by rw [hw1]; exact (((Ex.refl _ _).alloc _).alloc _).alloc _
  have H1 := hide hb1
  have H2 := hide hb2
  have HX := hide hx1
  clear hw1 hb1 hb2 hx1
  go_wp2_with fail
  go_ret
  refine ⟨w.heap.size + 1, w.heap.size + 1 + 1, by simp, H1.out, H2.out, by omega, by omega, HX.out⟩
theorem deeds5 (ss : List ByteArray) (se ta rp : ByteArray) (mo : Int) (hmo : 1 ≤ mo) (hta : nameB ta = true) (hsn : ss.length ≤ 1000) (hse : se.size ≤ 60) : Deeds 5 ss se ta rp mo (fun _ _ _ => True) (F5 ss se ta mo) := fun lo w sp sc pp hlo hle hs hsb _ => by
  refine (deed_remainder sp ss.length sc se pp ta rp mo w).mono ?_
  rintro x w2 ⟨b1, b2, rfl, h1, h2, hl1, hl2, hx⟩
  exact ⟨⟨_, _, _, rfl, does_remainder lo sp sc ss se pp ta rp mo hmo w2 b1 b2 h1 h2 (by omega) (by omega) (hs.ex0 hx) hsb hta hsn (by omega)⟩, hx⟩
end Go.Proofs.YtmeffeigamaipabGreatDoor.G

set_option linter.unusedVariables false
set_option linter.unusedSimpArgs false
namespace Go.Proofs.YtmeffeigamaipabGreatDoor.G
open Go.RowKit

theorem AL.one {w : World} {b : Nat} {r : AR} (h : BK w b (.cells r.cells.toArray 37 (0, 0))) : AL w (.slice (some ⟨b, 0, none⟩) 1 1) [r] := by
  refine ⟨_, 1, rfl, fun i r' hi => ⟨b, 0, rfl, h.lt, fun o ho => ?_⟩⟩
  have : i = 0 := by have := (List.getElem?_eq_some_iff.1 hi).1; simpa using this
  subst this
  simp at hi
  subst hi
  rw [h.all.1]
  simp
theorem Makes.ex {w w' : World} {r : AR} {F : List Lab → List Lab × Bool} (h : Makes w r F) (hx : Ex [] w w') : Makes w' r F := fun W hW => h W (hx.trans hW)
theorem SL.below {w : World} {v : Value} {ls : List Lab} (h : SL w v ls) : ∀ k, v.ownBlock = some k → k < w.heap.size := fun k hk => by
  rcases h with ⟨rfl, _⟩ | ⟨b, c, rfl, hb, _⟩
  · cases hk
  · cases hk; exact hb

def PairPost (w : World) (l1 l2 : List Lab) (b1 b2 : Bool) (x : Ending) (w' : World) : Prop := ∃ v1 v2, x = .returned (.tuple #[v1, .bool b1, v2, .bool b2, .bool true]) ∧ SL w' v1 l1 ∧ SL w' v2 l2 ∧ (∀ k, v1.ownBlock = some k → w.heap.size ≤ k) ∧ (∀ k, v2.ownBlock = some k → w.heap.size ≤ k) ∧ l1.length ≤ 60 ∧ l2.length ≤ 60 ∧ Ex [] w w'

set_option maxHeartbeats 4000000 in
set_option maxRecDepth 100000 in
theorem pair_any (r1 r2 : AR) (F1 F2 : List Lab → List Lab × Bool) (v : Value) (ls : List Lab) (w : World) (hm1 : Makes w r1 F1) (hm2 : Makes w r2 F2) (hg : GL w) (hv : SL w v ls) (hn : ls.length ≤ 20) (hw : ls.any wrongB = false) :
    Calls Tryz.prog 20 #[r1.val, r2.val, v] w (PairPost w (runF [F1] (bareL ls)).1 (runF [F2] (bareL ls)).1 (runF [F1] (bareL ls)).2 (runF [F2] (bareL ls)).2) := by
  have HM1 := hide hm1
  have HM2 := hide hm2
  have HG := hide hg
  have HV := hide hv
  have HW := hide hw
  obtain ⟨n, hnn⟩ : ∃ n, n = ls.length := ⟨_, rfl⟩
  obtain ⟨pv, cv, rfl⟩ := hv.slice
  obtain ⟨R1, hR1⟩ : ∃ R1, R1 = runF [F1] (bareL ls) := ⟨_, rfl⟩
  obtain ⟨R2, hR2⟩ : ∃ R2, R2 = runF [F2] (bareL ls) := ⟨_, rfl⟩
  have HR1 := hide hR1
  have HR2 := hide hR2
  rw [← hR1, ← hR2]
  have HNN := hide hnn
  rw [← hnn]
  have hk1 : r1.cells = r1.cells := rfl
  obtain ⟨C1, hC1⟩ : ∃ C1, C1 = r1.cells := ⟨_, rfl⟩
  obtain ⟨C2, hC2⟩ : ∃ C2, C2 = r2.cells := ⟨_, rfl⟩
  have HC1 := hide hC1
  have HC2 := hide hC2
  obtain ⟨a1, p1, n1, c1, s1, e1, t1, q1, o1⟩ := r1
  obtain ⟨a2, p2, n2, c2, s2, e2, t2, q2, o2⟩ := r2
  unfold AR.val ruleV
  dsimp only
  clear hm1 hm2 hg hv hw hnn hR1 hR2 hC1 hC2 hk1
  go_enter Tryz.func20, Tryz.ntmps20
  go_wp2_with fail
  generalize hW : World.alloc _ _ = W1
  have hxW : Ex [] w W1 := by rw [← hW]; exact (((Ex.refl _ _).alloc _).alloc _).alloc _
  have hbx : BK W1 (w.heap.size + 1) (.cells #[.int .i64 a2, .slice p2 n2 c2, .string s2, .string e2, .string t2, .string q2, .int .u64 o2] 37 (0, 0)) := by
    rw [← hW]
    have h := BK.new (w.alloc (Obj.cells #[.int .i64 a1, .slice p1 n1 c1, .string s1, .string e1, .string t1, .string q1, .int .u64 o1] 37)) (Obj.cells #[.int .i64 a2, .slice p2 n2 c2, .string s2, .string e2, .string t2, .string q2, .int .u64 o2] 37)
    simp only [World.size_alloc] at h
    exact h.alloc _
  have hrow : BK W1 (w.heap.size + 1 + 1) (.cells #[.int .i64 a1, .slice p1 n1 c1, .string s1, .string e1, .string t1, .string q1, .int .u64 o1] 37 (0, 0)) := by
    rw [← hW]
    have h := BK.new ((w.alloc (Obj.cells #[.int .i64 a1, .slice p1 n1 c1, .string s1, .string e1, .string t1, .string q1, .int .u64 o1] 37)).alloc (Obj.cells #[.int .i64 a2, .slice p2 n2 c2, .string s2, .string e2, .string t2, .string q2, .int .u64 o2] 37)) (Obj.cells #[.int .i64 a1, .slice p1 n1 c1, .string s1, .string e1, .string t1, .string q1, .int .u64 o1] 37)
    simp only [World.size_alloc] at h
    exact h
  have hzW := hxW.size
  have KE1 := hide (engine_fe 1 (.slice (some ⟨w.heap.size + 1 + 1, 0, none⟩) 1 1) [⟨a1, p1, n1, c1, s1, e1, t1, q1, o1⟩] [F1] W1 (AL.one hrow) (by simp) rfl (fun i r F hr hF => by
    have : i = 0 := by have := (List.getElem?_eq_some_iff.1 hr).1; simpa using this
    subst this
    simp at hr hF
    subst hr; subst hF
    exact HM1.out.ex hxW))
  have HBX := hide hbx
  have HXW := hide hxW
  clear hW hbx hrow hxW
  refine KE1.out.mono ?_
  rintro x w2 ⟨ee1, m1, mb1, lo1, rfl, hfe1, h11, h12, h13, h14, hx2⟩
  have hbx2 := HBX.out.ex hx2 (by simp)
  obtain ⟨hcx, hfx⟩ := hbx2.all
  have hlx := hbx2.lt
  have HFE1 := hide hfe1
  have HX2 := hide (HXW.out.trans hx2)
  have hz2 := hx2.size
  have hlt1 : ee1 < w2.heap.size ∧ m1 < w2.heap.size ∧ mb1 < w2.heap.size := by have := hfe1.elo; have := hfe1.mlo; have := hfe1.mblo; have := hfe1.lle; omega
  clear hfe1 hx2 hbx2
  go_wp2_with fail
  generalize hW : World.alloc w2 _ = W2
  have hxW2 : Ex [] w2 W2 := by rw [← hW]; exact (Ex.refl _ _).alloc _
  have hrow : BK W2 w2.heap.size (.cells #[.int .i64 a2, .slice p2 n2 c2, .string s2, .string e2, .string t2, .string q2, .int .u64 o2] 37 (0, 0)) := by rw [← hW]; exact BK.new _ _
  have hzW2 := hxW2.size
  have hzW2' : w2.heap.size < W2.heap.size := hrow.lt
  have KE2 := hide (engine_fe 1 (.slice (some ⟨w2.heap.size, 0, none⟩) 1 1) [⟨a2, p2, n2, c2, s2, e2, t2, q2, o2⟩] [F2] W2 (AL.one hrow) (by simp) rfl (fun i r F hr hF => by
    have : i = 0 := by have := (List.getElem?_eq_some_iff.1 hr).1; simpa using this
    subst this
    simp at hr hF
    subst hr; subst hF
    exact HM2.out.ex (HX2.out.trans hxW2)))
  have HXW2 := hide hxW2
  clear hW hrow hxW2 hcx hfx
  refine KE2.out.mono ?_
  rintro x w3 ⟨ee2, m2, mb2, lo2, rfl, hfe2, h21, h22, h23, h24, hx3⟩
  have hz3 := hx3.size
  have hfe13 := HFE1.out.step (HXW2.out.trans hx3) (by simp)
  have hx03 : Ex [] w w3 := HX2.out.trans (HXW2.out.trans hx3)
  have hsl3 := HV.out.ex hx03 (by simp)
  have hvb := SL.below HV.out
  have KR1 := hide (relabel_fe ee1 m1 mb1 (roomOf 1) lo1 [F1] _ ls w3 hfe13 (HG.out.ex hx03) hsl3 hn HW.out)
  rw [← HR1.out, ← HNN.out] at KR1
  have HFE2 := hide hfe2
  have HX03 := hide hx03
  have HSL3 := hide hsl3
  have HVB := hide hvb
  clear hfe2 hx3 hfe13 hx03 hsl3 hvb
  go_wp2_with fail
  refine KR1.out.mono ?_
  rintro x w4 ⟨v1, rfl, hl1, ho1, hx4⟩
  have hz4 := hx4.size
  have hzw := HX03.out.size
  have hfe24 := HFE2.out.step hx4 (fun k hk => by simp at hk; omega)
  have hg4 : GL w4 := GL.eb (HG.out.ex HX03.out) ((EB.ofEx hx4 (show w.heap.size ≤ w3.heap.size by omega)).mono (Nat.le_refl _) (fun x hx hlt => by simp at hx; omega)) HG.out.2.lt
  have hsl4 : SL w4 (.slice pv ls.length cv) ls := HSL3.out.ex hx4 (fun k hk => by have := HVB.out k hk; simp; omega)
  have KR2 := hide (relabel_fe ee2 m2 mb2 (roomOf 1) lo2 [F2] _ ls w4 hfe24 hg4 hsl4 hn HW.out)
  rw [← HR2.out, ← HNN.out] at KR2
  have HO1 := hide ho1
  have HX4 := hide hx4
  obtain ⟨pv1, cv1, rfl⟩ := own_slice ho1
  clear ho1 hx4 hfe24 hg4 hsl4
  go_wp2_with fail
  refine KR2.out.mono ?_
  rintro x w5 ⟨v2, rfl, hl2, ho2, hx5⟩
  have HO2 := hide ho2
  have HX5 := hide hx5
  obtain ⟨pv2, cv2, rfl⟩ := own_slice ho2
  have hm2l : m2 < w3.heap.size ∧ mb2 < w3.heap.size := by have := HFE2.out.mlo; have := HFE2.out.mblo; have := HFE2.out.lle; omega
  clear ho2 hx5
  go_wp2_with fail
  have ho15 := own_ex HO1.out HX5.out (fun x hx => by simp at hx; omega)
  refine bodyPost_ret (v := .tuple #[.slice pv1 R1.1.length cv1, .bool R1.2, .slice pv2 R2.1.length cv2, .bool R2.2, .bool true]) (by simp [results, Tryz.results20, go_sem]) rfl ⟨_, _, rfl, own_sl ho15, own_sl HO2.out, fun k hk => ?_, fun k hk => ?_, hl1, hl2, ?_⟩
  · have := own_block HO1.out k hk; omega
  · have := own_block HO2.out k hk; omega
  · exact (((HX03.out.drop (l' := [m1, mb1, m2, mb2]) (by simp)).trans (HX4.out.drop (by simp))).trans (HX5.out.drop (by simp))).drop (fun x hx hlt => by simp at hx; omega)
end Go.Proofs.YtmeffeigamaipabGreatDoor.G

set_option linter.unusedVariables false
set_option linter.unusedSimpArgs false
namespace Go.Proofs.YtmeffeigamaipabGreatDoor.G
open Go.RowKit

def getM (ls : List Lab) (t : ByteArray) : ByteArray := match ls.find? (fun l => eqB l.1 t) with | some l => l.2 | none => ⟨#[]⟩
theorem getM_step {ls : List Lab} {j : Nat} {l : Lab} (h : ls[j]? = some l) (t : ByteArray) : getM (ls.drop j) t = if eqB l.1 t then l.2 else getM (ls.drop (j + 1)) t := by
  have hj : j < ls.length := (List.getElem?_eq_some_iff.1 h).1
  rw [List.drop_eq_getElem_cons hj]
  rw [List.getElem?_eq_getElem hj] at h
  rw [Option.some.inj h]
  unfold getM
  rw [List.find?_cons]
  cases eqB l.1 t <;> rfl

set_option maxHeartbeats 2000000 in
set_option maxRecDepth 100000 in
theorem get_any (v : Value) (ls : List Lab) (t : ByteArray) (w : World) (hv : SL w v ls) (hn : ls.length ≤ 1000) :
    Calls Tryz.prog 22 #[v, .string t] w fun x w' => x = .returned (.string (getM ls t)) ∧ w' = w := by
  have HV := hide hv
  obtain ⟨p, c, rfl⟩ := hv.slice
  obtain ⟨n, hnn⟩ : ∃ n, n = ls.length := ⟨_, rfl⟩
  have HNN := hide hnn
  obtain ⟨R, hR⟩ : ∃ R, R = getM ls t := ⟨_, rfl⟩
  have HR := hide hR
  rw [← hR]
  rw [← hnn] at hn ⊢
  clear hv hnn hR
  go_enter Tryz.func22, Tryz.ntmps22
  go_wp2_with fail
  go_loopg [5] n (fun gk i wr => ∃ j : Nat, j + gk = n ∧ i = .int .i64 j ∧ getM (ls.drop j) t = R ∧ wr = w)
  case atStart => exact ⟨0, by omega, rfl, by rw [List.drop_zero]; exact HR.out.symm, rfl⟩
  case round =>
    obtain ⟨j, hj, rfl, hgm, rfl⟩ := hrel
    have HGM := hide hgm
    clear hgm
    cases gk with
    | zero =>
      obtain rfl : j = n := by omega
      have hr : R = ⟨#[]⟩ := by rw [← HGM.out, HNN.out, List.drop_length]; rfl
      subst hr
      clear hj
      go_wp2_with fail
      go_ret
      exact ⟨rfl, rfl⟩
    | succ g =>
      have hjl : j < ls.length := by rw [← HNN.out]; omega
      have hjn : (j : Int) < (n : Int) := by omega
      obtain ⟨l, hl⟩ : ∃ l, ls[j]? = some l := ⟨_, List.getElem?_eq_getElem hjl⟩
      obtain ⟨b, c', h1, hb, a0, a1⟩ := same_nonempty HV.out j l hl
      have hst := getM_step hl t
      have HST := hide hst
      injection h1 with e1 e2 e3
      subst e1
      obtain ⟨l1, l2⟩ := l
      simp only at a0 a1
      clear hl hst e2 e3
      cases he : (l1.toList == t.toList) with
      | true =>
        have hr : R = l2 := by rw [← HGM.out, HST.out]; show (if eqB l1 t then l2 else _) = _; rw [show eqB l1 t = true from he]; rfl
        have HRR := hide hr
        clear hr
        go_wp2_with fail
        go_ret
        exact ⟨by rw [HRR.out]; rfl, rfl⟩
      | false =>
        have hr : getM (ls.drop (j + 1)) t = R := by rw [← HGM.out, HST.out]; show _ = (if eqB l1 t then l2 else _); rw [show eqB l1 t = false from he]; rfl
        have HRR := hide hr
        clear hr
        go_wp2_with fail
        go_roundg g
        case measure => omega
        case rel => exact ⟨j + 1, by omega, by simp, HRR.out, rfl⟩
end Go.Proofs.YtmeffeigamaipabGreatDoor.G

set_option linter.unusedVariables false
set_option linter.unusedSimpArgs false
namespace Go.Proofs.YtmeffeigamaipabGreatDoor.G
open Go.RowKit

theorem long_no {s : ByteArray} (h : s.size ≤ 60) : longB s = false := by simp [longB]; omega
theorem big_no {ss : List ByteArray} {se ta rp : ByteArray} (h1 : ss.length ≤ 5) (h2 : ∀ s ∈ ss, nameB s = true) (h3 : se.size ≤ 60) (h4 : ta.size ≤ 60) (h5 : rp.size ≤ 60) : bigB ss se ta rp = false := by
  have h6 : ss.any longB = false := by
    rw [List.any_eq_false]
    intro s hs
    rw [long_no (name_size (h2 s hs))]
    simp
  simp [bigB, h6, long_no h3, long_no h4, long_no h5]
  omega
structure Pre (w : World) (x : EV) : Prop where
  ub : UB w
  gl : GL w
  ev : w.cell? ⟨1, 0, none⟩ = some (.iface x.1 x.2)
theorem Pre.ex {w w' : World} {x : EV} (h : Pre w x) (hx : Ex [] w w') : Pre w' x := ⟨h.ub.ex hx (by simp), h.gl.ex hx, (hx.cell0.1 _ _ (lt_of_cell h.ev)).trans h.ev⟩
theorem RuleOK.ex {w w' : World} {p : Option Addr} {c : Nat} {ss : List ByteArray} {se re : ByteArray} (h : RuleOK w p c ss se re) (hx : Ex [] w w') : RuleOK w' p c ss se re := ⟨h.row.ex0 hx, h.len, h.nam, h.sep, h.pat⟩
theorem all_names {ss : List ByteArray} (h : ∀ s ∈ ss, nameB s = true) : ss.all nameB = true := List.all_eq_true.2 h
end Go.Proofs.YtmeffeigamaipabGreatDoor.G

set_option linter.unusedVariables false
set_option linter.unusedSimpArgs false
namespace Go.Proofs.YtmeffeigamaipabGreatDoor.G
open Go.RowKit

theorem emp_sz : (⟨#[]⟩ : ByteArray).size = 0 := rfl
theorem name_pos {s : ByteArray} (h : nameB s = true) : ¬ s.size = 0 := fun e => by simp [nameB, e] at h
end Go.Proofs.YtmeffeigamaipabGreatDoor.G
