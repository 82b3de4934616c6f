/- Y7 Y3 T17 T19 T20 Y8, one behind the other. -/
import Derived.Test.YtcbiidoebpkifaaGreatDoorM47
import Derived.Test.YtcbiidoebpkifaaGreatDoorM40
import Derived.Test.YtcbiidoebpkifaaGreatDoorM46
import Derived.Test.YtcbiidoebpkifaaGreatDoorM42
import Derived.Test.YtcbiidoebpkifaaGreatDoorM41
set_option linter.unusedVariables false
set_option linter.unusedSimpArgs false
/- Replace and LabelMap: what is made of the means. -/
namespace Go.Proofs.YtcbiidoebpkifaaGreatDoor.G
open Go.RowKit

set_option maxHeartbeats 2000000 in
set_option maxRecDepth 100000 in
theorem does_replace (lo : Nat) (p : Option Addr) (c : Nat) (ss : List ByteArray) (se : ByteArray) (pq : Nat) (ta rp : ByteArray) (mo : Int) (code : List Ins) (ng : Nat) (nm : List (ByteArray × Nat)) (hf : Fit2 code ng nm) (w : World)
    (hs : SS w (.slice p ss.length c) ss) (hsb : ∀ k, (Value.slice p ss.length c).ownBlock = some k → lo ≤ k) (hp : PG w pq lo code ng nm) (hsn : ss.length ≤ 1000) (hse : se.size ≤ 1000) (hta : ta.size ≤ 60) (hrp : rp.size ≤ 60) :
    Does lo w.heap.size w (.func (.func 103) #[meansV (.slice p ss.length c) se (.pointer (some ⟨pq, 0, none⟩)) ta rp mo] #[]) (fun ls => (replM code ng nm ss se ta rp ls, true)) := by
  refine ⟨Nat.le_refl _, ⟨_, _, _, rfl⟩, fun w1 hk hg q base ls v0 hb hle hqb hq ho hnq hok => ?_⟩
  have KM := hide (fun (w' : World) (hx : Ex [] w1 w') => replace_any p c ss se pq lo ta rp mo code ng nm hf q base ls v0 w' ((SS.kb hs hk hsb).ex0 hx) ((hp.kb hk).ex' hx) (hg.ex hx) (Nat.le_trans hle hx.size) (hq.ex hx (by simp)) (own_ex ho hx (by simp)) hnq hok hsn hse hta hrp)
  have HOK := hide (hok.repl code ng nm ss se ta rp)
  have HO := hide ho
  obtain ⟨r, hr⟩ : ∃ r, r = replM code ng nm ss se ta rp ls := ⟨_, rfl⟩
  dsimp only
  rw [← hr] at KM HOK ⊢
  obtain ⟨n, hn⟩ : ∃ n, n = ss.length := ⟨_, rfl⟩
  rw [← hn] at KM ⊢
  unfold meansV at *
  clear hs hsb hk hg hq ho hnq hok hr hn hp
  go_enter Tryz.func53, Tryz.ntmps53
  go_wp2_with fail
  refine (KM.out _ ((Ex.refl _ _).alloc _)).mono ?_
  rintro x w2 ⟨rfl, hl2, hx2⟩
  have HX2 := hide ((((Ex.refl [] w1).alloc _).drop (by simp)).trans hx2)
  have HL2 := hide hl2
  clear hx2 hl2
  go_wp2_with fail
  go_ret
  exact ⟨rfl, HL2.out, HOK.out, eb_own HX2.out hqb HO.out hle⟩

set_option maxHeartbeats 2000000 in
set_option maxRecDepth 100000 in
theorem does_map (lo : Nat) (p : Option Addr) (n c : Nat) (se : ByteArray) (pq : Nat) (ta rp : ByteArray) (mo : Int) (code : List Ins) (ng : Nat) (nm : List (ByteArray × Nat)) (hf : Fit2 code ng nm) (w : World) (hp : PG w pq lo code ng nm) (hlo : 7 < lo) (hrp : rp.size ≤ 60) :
    Does lo w.heap.size w (.func (.func 109) #[meansV (.slice p n c) se (.pointer (some ⟨pq, 0, none⟩)) ta rp mo] #[]) (fun ls => (mapLs code ng nm rp ls, true)) := by
  refine ⟨Nat.le_refl _, ⟨_, _, _, rfl⟩, fun w1 hk hg q base ls v0 hb hle hqb hq ho hnq hok => ?_⟩
  have hpl := hp.le
  have KM := hide (fun (w' : World) (hx : Ex [] w1 w') => mapNames_any p n c se pq ta rp mo code ng nm hf q base ls v0 w' (Nat.le_trans hle hx.size) hqb (hq.ex hx (by simp)) (own_ex ho hx (by simp)) hnq hok hrp (fun W s he hsz => by
    have heb : EB base [] w1 W := (EB.ofEx hx hle).trans he
    have hk2 : KB lo w.heap.size w W := hk.trans ⟨heb.size, fun b h1 h2 => heb.block b (by omega) (by simp)⟩
    exact match_v (Match_any pq lo code ng nm s W (hp.kb hk2) hf.fit.ok hf.fit.tk hf.fit.le hf.fit.pos hf.fit.ng5 (by omega) (GL.eb hg heb (by omega)).1)))
  have HOK := hide (hok.map code ng nm rp)
  obtain ⟨r, hr⟩ : ∃ r, r = mapLs code ng nm rp ls := ⟨_, rfl⟩
  dsimp only
  rw [← hr] at KM HOK ⊢
  unfold meansV at *
  clear hk hg hq ho hnq hok hr hp
  go_enter Tryz.func53, Tryz.ntmps53
  go_wp2_with fail
  refine (KM.out _ ((Ex.refl _ _).alloc _)).mono ?_
  rintro x w2 ⟨rfl, hl2, hx2⟩
  have HX2 := hide ((EB.ofEx ((Ex.refl [] w1).alloc (Obj.cells #[.func (.func 109) #[.agg #[.slice p n c, .string se, .pointer (some ⟨pq, 0, none⟩), .string ta, .string rp, .int .u64 mo]] #[]] 132)) hle).trans hx2)
  have HL2 := hide hl2
  clear hx2 hl2
  go_wp2_with fail
  go_ret
  exact ⟨rfl, HL2.out, HOK.out, HX2.out⟩

set_option maxHeartbeats 1000000 in
set_option maxRecDepth 100000 in
theorem deed_replace (p : Option Addr) (n c : Nat) (se : ByteArray) (pp : Option Addr) (ta rp : ByteArray) (mo : Int) (w : World) :
    Calls Tryz.prog 79 #[meansV (.slice p n c) se (.pointer pp) ta rp mo, .int .i64 0] w fun x w' => x = .returned (.func (.func 103) #[meansV (.slice p n c) se (.pointer pp) ta rp mo] #[]) ∧ Ex [] w w' := by
  have hmf : ∀ (fn : Fn) (first cap : Array Value) (w : World), (Instr.makeFunc fn first cap).run Tryz.prog w = .ok (.func fn first cap) w := fun _ _ _ _ => rfl
  unfold meansV
  go_enter Tryz.func79, Tryz.ntmps79
  go_wp2_with fail
  go_ret
  exact ⟨rfl, (Ex.refl _ _).alloc _⟩
set_option maxHeartbeats 1000000 in
set_option maxRecDepth 100000 in
theorem deed_map (p : Option Addr) (n c : Nat) (se : ByteArray) (pp : Option Addr) (ta rp : ByteArray) (mo : Int) (w : World) :
    Calls Tryz.prog 79 #[meansV (.slice p n c) se (.pointer pp) ta rp mo, .int .i64 6] w fun x w' => x = .returned (.func (.func 109) #[meansV (.slice p n c) se (.pointer pp) ta rp mo] #[]) ∧ Ex [] w w' := by
  have hmf : ∀ (fn : Fn) (first cap : Array Value) (w : World), (Instr.makeFunc fn first cap).run Tryz.prog w = .ok (.func fn first cap) w := fun _ _ _ _ => rfl
  unfold meansV
  go_enter Tryz.func79, Tryz.ntmps79
  go_wp2_with fail
  go_ret
  exact ⟨rfl, (Ex.refl _ _).alloc _⟩
def F0 (ss : List ByteArray) (se re ta rp : ByteArray) : List Lab → List Lab × Bool := fun ls => (replM (patC re) (patN re) (patM re) ss se ta rp ls, true)
def F6 (re rp : ByteArray) : List Lab → List Lab × Bool := fun ls => (mapLs (patC re) (patN re) (patM re) rp ls, true)
theorem deeds0 (ss : List ByteArray) (se re ta rp : ByteArray) (mo : Int) (hf : Fit2 (patC re) (patN re) (patM re)) (hsn : ss.length ≤ 1000) (hse : se.size ≤ 60) (hta : ta.size ≤ 60) (hrp : rp.size ≤ 60) : Deeds 0 ss se ta rp mo (PatP re) (F0 ss se re ta rp) := fun lo w sp sc pp hlo hle hs hsb hP => by
  obtain ⟨q, rfl, hp⟩ := hP
  refine (deed_replace sp ss.length sc se (some ⟨q, 0, none⟩) ta rp mo w).mono ?_
  rintro x w2 ⟨rfl, hx⟩
  exact ⟨⟨_, _, _, rfl, does_replace lo sp sc ss se q ta rp mo (patC re) (patN re) (patM re) hf w2 (hs.ex0 hx) hsb (hp.ex' hx) hsn (by omega) hta hrp⟩, hx⟩
theorem deeds6 (ss : List ByteArray) (se re ta rp : ByteArray) (mo : Int) (hf : Fit2 (patC re) (patN re) (patM re)) (hrp : rp.size ≤ 60) : Deeds 6 ss se ta rp mo (PatP re) (F6 re rp) := fun lo w sp sc pp hlo hle hs hsb hP => by
  obtain ⟨q, rfl, hp⟩ := hP
  refine (deed_map sp ss.length sc se (some ⟨q, 0, none⟩) ta rp mo w).mono ?_
  rintro x w2 ⟨rfl, hx⟩
  exact ⟨⟨_, _, _, rfl, does_map lo sp ss.length sc se q ta rp mo (patC re) (patN re) (patM re) hf w2 (hp.ex' hx) hlo hrp⟩, hx⟩

def fit2B (re : ByteArray) : Bool := spanB (patC re) && (patM re).all (fun x => decide (x.1.size ≤ 60) && decide (x.2 ≤ 1000) && (patM re).all fun y => !decide (x.1 = y.1) || decide (x.2 = y.2))
set_option maxRecDepth 100000 in
theorem pats_fit2 : pats.all fit2B = true := by kernel_rfl
theorem pat_fit2 {re : ByteArray} (h : re ∈ pats) : Fit2 (patC re) (patN re) (patM re) := by
  have h1 := List.all_eq_true.1 pats_fit2 re h
  unfold fit2B at h1
  rw [Bool.and_eq_true] at h1
  have h2 := fun x hx => List.all_eq_true.1 h1.2 x hx
  simp only [Bool.and_eq_true, decide_eq_true_eq] at h2
  refine ⟨fit_of (pat_good h), h1.1, fun x hx => (h2 x hx).1.1, fun x hx y hy e => ?_, fun x hx => (h2 x hx).1.2⟩
  have h3 := List.all_eq_true.1 (h2 x hx).2 y hy
  simp only [Bool.or_eq_true, Bool.not_eq_true', decide_eq_false_iff_not, decide_eq_true_eq] at h3
  exact h3.resolve_left (fun hn => hn e)
end Go.Proofs.YtcbiidoebpkifaaGreatDoor.G

/- Lowercase, Uppercase, HashMod: what is made of the means. -/
namespace Go.Proofs.YtcbiidoebpkifaaGreatDoor.G
open Go.RowKit

def F5 (ss : List ByteArray) (se ta : ByteArray) (mo : Int) : List Lab → List Lab × Bool := fun ls => (Go.Proofs.YtcbiidoebpkifaaGreatDoor.setL ls ta (remM mo (textN ls ss se)), true)
def F9 (ss : List ByteArray) (se ta : ByteArray) : List Lab → List Lab × Bool := fun ls => (Go.Proofs.YtcbiidoebpkifaaGreatDoor.setL ls ta (lowerA (textN ls ss se)), true)
def F10 (ss : List ByteArray) (se ta : ByteArray) : List Lab → List Lab × Bool := fun ls => (Go.Proofs.YtcbiidoebpkifaaGreatDoor.setL ls ta (upperA (textN ls ss se)), true)
set_option maxHeartbeats 1000000 in
set_option maxRecDepth 100000 in
theorem setTo_fv (p : Option Addr) (n c : Nat) (se : ByteArray) (pp : Option Addr) (ta rp : ByteArray) (mo : Int) (f : FuncId) (a : Array Value) (w : World) :
    Calls Tryz.prog 107 #[meansV (.slice p n c) se (.pointer pp) ta rp mo, .func (.func f) a #[]] w fun x w' => x = .returned (.func (.func 135) #[] #[.pointer (some ⟨w.heap.size, 0, none⟩), .pointer (some ⟨w.heap.size + 1, 0, none⟩)]) ∧
      w' = (w.alloc (.cells #[.slice p n c, .string se, .pointer pp, .string ta, .string rp, .int .u64 mo] 189)).alloc (.cells #[.func (.func f) a #[]] 145) := by
  have hmf : ∀ (fn : Fn) (first cap : Array Value) (w : World), (Instr.makeFunc fn first cap).run Tryz.prog w = .ok (.func fn first cap) w := fun _ _ _ _ => rfl
  unfold meansV
  go_enter Tryz.func107, Tryz.ntmps107
  go_wp2_with fail
  go_ret
  exact ⟨by simp, rfl⟩

set_option maxHeartbeats 1000000 in
set_option maxRecDepth 100000 in
theorem deed_lower (p : Option Addr) (n c : Nat) (se : ByteArray) (pp : Option Addr) (ta rp : ByteArray) (mo : Int) (w : World) :
    Calls Tryz.prog 79 #[meansV (.slice p n c) se (.pointer pp) ta rp mo, .int .i64 9] w fun x w' => ∃ b1 b2, x = .returned (.func (.func 135) #[] #[.pointer (some ⟨b1, 0, none⟩), .pointer (some ⟨b2, 0, none⟩)]) ∧
      BK w' b1 (.cells #[.slice p n c, .string se, .pointer pp, .string ta, .string rp, .int .u64 mo] 189 (0, 0)) ∧ BK w' b2 (.cells #[.func (.func 112) #[] #[]] 145 (0, 0)) ∧ w.heap.size ≤ b1 ∧ w.heap.size ≤ b2 ∧ Ex [] w w' := by
  have hmf : ∀ (fn : Fn) (first cap : Array Value) (w : World), (Instr.makeFunc fn first cap).run Tryz.prog w = .ok (.func fn first cap) w := fun _ _ _ _ => rfl
  have KS := hide (fun w => setTo_fv p n c se pp ta rp mo 112 #[] w)
  unfold meansV at *
  go_enter Tryz.func79, Tryz.ntmps79
  go_wp2_with fail
  refine (KS.out _).mono ?_
  rintro x w1 ⟨rfl, hw1⟩
  have hb1 : BK w1 (w.heap.size + 1) (.cells #[.slice p n c, .string se, .pointer pp, .string ta, .string rp, .int .u64 mo] 189 (0, 0)) := by
    rw [hw1]
    have h := (BK.new (w.alloc (Obj.cells #[.slice p n c, .string se, .pointer pp, .string ta, .string rp, .int .u64 mo] 189)) (Obj.cells #[.slice p n c, .string se, .pointer pp, .string ta, .string rp, .int .u64 mo] 189)).alloc (Obj.cells #[.func (.func 112) #[] #[]] 145)
    simpa using h
  have hb2 : BK w1 (w.heap.size + 1 + 1) (.cells #[.func (.func 112) #[] #[]] 145 (0, 0)) := by
    rw [hw1]
    have h := BK.new ((w.alloc (Obj.cells #[.slice p n c, .string se, .pointer pp, .string ta, .string rp, .int .u64 mo] 189)).alloc (Obj.cells #[.slice p n c, .string se, .pointer pp, .string ta, .string rp, .int .u64 mo] 189)) (Obj.cells #[.func (.func 112) #[] #[]] 145)
    simpa using h
  have hx1 : Ex [] w w1 := by rw [hw1]; exact (((Ex.refl _ _).alloc _).alloc _).alloc _
  have H1 := hide hb1
  have H2 := hide hb2
  have HX := hide hx1
  clear hw1 hb1 hb2 hx1
  go_wp2_with fail
  go_ret
  refine ⟨w.heap.size + 1, w.heap.size + 1 + 1, by simp, H1.out, H2.out, by omega, by omega, HX.out⟩
theorem deeds9 (ss : List ByteArray) (se ta rp : ByteArray) (mo : Int) (hta : nameB ta = true) (hsn : ss.length ≤ 1000) (hse : se.size ≤ 60) : Deeds 9 ss se ta rp mo (fun _ _ _ => True) (F9 ss se ta) := fun lo w sp sc pp hlo hle hs hsb _ => by
  refine (deed_lower sp ss.length sc se pp ta rp mo w).mono ?_
  rintro x w2 ⟨b1, b2, rfl, h1, h2, hl1, hl2, hx⟩
  exact ⟨⟨_, _, _, rfl, does_lower lo sp sc ss se pp ta rp mo w2 b1 b2 h1 h2 (by omega) (by omega) (hs.ex0 hx) hsb hta hsn (by omega)⟩, hx⟩

set_option maxHeartbeats 1000000 in
set_option maxRecDepth 100000 in
theorem deed_upper (p : Option Addr) (n c : Nat) (se : ByteArray) (pp : Option Addr) (ta rp : ByteArray) (mo : Int) (w : World) :
    Calls Tryz.prog 79 #[meansV (.slice p n c) se (.pointer pp) ta rp mo, .int .i64 10] w fun x w' => ∃ b1 b2, x = .returned (.func (.func 135) #[] #[.pointer (some ⟨b1, 0, none⟩), .pointer (some ⟨b2, 0, none⟩)]) ∧
      BK w' b1 (.cells #[.slice p n c, .string se, .pointer pp, .string ta, .string rp, .int .u64 mo] 189 (0, 0)) ∧ BK w' b2 (.cells #[.func (.func 113) #[] #[]] 145 (0, 0)) ∧ w.heap.size ≤ b1 ∧ w.heap.size ≤ b2 ∧ Ex [] w w' := by
  have hmf : ∀ (fn : Fn) (first cap : Array Value) (w : World), (Instr.makeFunc fn first cap).run Tryz.prog w = .ok (.func fn first cap) w := fun _ _ _ _ => rfl
  have KS := hide (fun w => setTo_fv p n c se pp ta rp mo 113 #[] w)
  unfold meansV at *
  go_enter Tryz.func79, Tryz.ntmps79
  go_wp2_with fail
  refine (KS.out _).mono ?_
  rintro x w1 ⟨rfl, hw1⟩
  have hb1 : BK w1 (w.heap.size + 1) (.cells #[.slice p n c, .string se, .pointer pp, .string ta, .string rp, .int .u64 mo] 189 (0, 0)) := by
    rw [hw1]
    have h := (BK.new (w.alloc (Obj.cells #[.slice p n c, .string se, .pointer pp, .string ta, .string rp, .int .u64 mo] 189)) (Obj.cells #[.slice p n c, .string se, .pointer pp, .string ta, .string rp, .int .u64 mo] 189)).alloc (Obj.cells #[.func (.func 113) #[] #[]] 145)
    simpa using h
  have hb2 : BK w1 (w.heap.size + 1 + 1) (.cells #[.func (.func 113) #[] #[]] 145 (0, 0)) := by
    rw [hw1]
    have h := BK.new ((w.alloc (Obj.cells #[.slice p n c, .string se, .pointer pp, .string ta, .string rp, .int .u64 mo] 189)).alloc (Obj.cells #[.slice p n c, .string se, .pointer pp, .string ta, .string rp, .int .u64 mo] 189)) (Obj.cells #[.func (.func 113) #[] #[]] 145)
    simpa using h
  have hx1 : Ex [] w w1 := by rw [hw1]; exact (((Ex.refl _ _).alloc _).alloc _).alloc _
  have H1 := hide hb1
  have H2 := hide hb2
  have HX := hide hx1
  clear hw1 hb1 hb2 hx1
  go_wp2_with fail
  go_ret
  refine ⟨w.heap.size + 1, w.heap.size + 1 + 1, by simp, H1.out, H2.out, by omega, by omega, HX.out⟩
theorem deeds10 (ss : List ByteArray) (se ta rp : ByteArray) (mo : Int) (hta : nameB ta = true) (hsn : ss.length ≤ 1000) (hse : se.size ≤ 60) : Deeds 10 ss se ta rp mo (fun _ _ _ => True) (F10 ss se ta) := fun lo w sp sc pp hlo hle hs hsb _ => by
  refine (deed_upper sp ss.length sc se pp ta rp mo w).mono ?_
  rintro x w2 ⟨b1, b2, rfl, h1, h2, hl1, hl2, hx⟩
  exact ⟨⟨_, _, _, rfl, does_upper lo sp sc ss se pp ta rp mo w2 b1 b2 h1 h2 (by omega) (by omega) (hs.ex0 hx) hsb hta hsn (by omega)⟩, hx⟩

set_option maxHeartbeats 1000000 in
set_option maxRecDepth 100000 in
theorem deed_remainder (p : Option Addr) (n c : Nat) (se : ByteArray) (pp : Option Addr) (ta rp : ByteArray) (mo : Int) (w : World) :
    Calls Tryz.prog 79 #[meansV (.slice p n c) se (.pointer pp) ta rp mo, .int .i64 5] w fun x w' => ∃ b1 b2, x = .returned (.func (.func 135) #[] #[.pointer (some ⟨b1, 0, none⟩), .pointer (some ⟨b2, 0, none⟩)]) ∧
      BK w' b1 (.cells #[.slice p n c, .string se, .pointer pp, .string ta, .string rp, .int .u64 mo] 189 (0, 0)) ∧ BK w' b2 (.cells #[.func (.func 108) #[.agg #[.slice p n c, .string se, .pointer pp, .string ta, .string rp, .int .u64 mo]] #[]] 145 (0, 0)) ∧ w.heap.size ≤ b1 ∧ w.heap.size ≤ b2 ∧ Ex [] w w' := by
  have hmf : ∀ (fn : Fn) (first cap : Array Value) (w : World), (Instr.makeFunc fn first cap).run Tryz.prog w = .ok (.func fn first cap) w := fun _ _ _ _ => rfl
  have KS := hide (fun w => setTo_fv p n c se pp ta rp mo 108 #[.agg #[.slice p n c, .string se, .pointer pp, .string ta, .string rp, .int .u64 mo]] w)
  unfold meansV at *
  go_enter Tryz.func79, Tryz.ntmps79
  go_wp2_with fail
  refine (KS.out _).mono ?_
  rintro x w1 ⟨rfl, hw1⟩
  have hb1 : BK w1 (w.heap.size + 1) (.cells #[.slice p n c, .string se, .pointer pp, .string ta, .string rp, .int .u64 mo] 189 (0, 0)) := by
    rw [hw1]
    have h := (BK.new (w.alloc (Obj.cells #[.slice p n c, .string se, .pointer pp, .string ta, .string rp, .int .u64 mo] 189)) (Obj.cells #[.slice p n c, .string se, .pointer pp, .string ta, .string rp, .int .u64 mo] 189)).alloc (Obj.cells #[.func (.func 108) #[.agg #[.slice p n c, .string se, .pointer pp, .string ta, .string rp, .int .u64 mo]] #[]] 145)
    simpa using h
  have hb2 : BK w1 (w.heap.size + 1 + 1) (.cells #[.func (.func 108) #[.agg #[.slice p n c, .string se, .pointer pp, .string ta, .string rp, .int .u64 mo]] #[]] 145 (0, 0)) := by
    rw [hw1]
    have h := BK.new ((w.alloc (Obj.cells #[.slice p n c, .string se, .pointer pp, .string ta, .string rp, .int .u64 mo] 189)).alloc (Obj.cells #[.slice p n c, .string se, .pointer pp, .string ta, .string rp, .int .u64 mo] 189)) (Obj.cells #[.func (.func 108) #[.agg #[.slice p n c, .string se, .pointer pp, .string ta, .string rp, .int .u64 mo]] #[]] 145)
    simpa using h
  have hx1 : Ex [] w w1 := by rw [hw1]; exact (((Ex.refl _ _).alloc _).alloc _).alloc _
  have H1 := hide hb1
  have H2 := hide hb2
  have HX := hide hx1
  clear hw1 hb1 hb2 hx1
  go_wp2_with fail
  go_ret
  refine ⟨w.heap.size + 1, w.heap.size + 1 + 1, by simp, H1.out, H2.out, by omega, by omega, HX.out⟩
theorem deeds5 (ss : List ByteArray) (se ta rp : ByteArray) (mo : Int) (hmo : 1 ≤ mo) (hta : nameB ta = true) (hsn : ss.length ≤ 1000) (hse : se.size ≤ 60) : Deeds 5 ss se ta rp mo (fun _ _ _ => True) (F5 ss se ta mo) := fun lo w sp sc pp hlo hle hs hsb _ => by
  refine (deed_remainder sp ss.length sc se pp ta rp mo w).mono ?_
  rintro x w2 ⟨b1, b2, rfl, h1, h2, hl1, hl2, hx⟩
  exact ⟨⟨_, _, _, rfl, does_remainder lo sp sc ss se pp ta rp mo hmo w2 b1 b2 h1 h2 (by omega) (by omega) (hs.ex0 hx) hsb hta hsn (by omega)⟩, hx⟩
end Go.Proofs.YtcbiidoebpkifaaGreatDoor.G

/- Two rules, each alone: what pair tells. -/
namespace Go.Proofs.YtcbiidoebpkifaaGreatDoor.G
open Go.RowKit

theorem Makes.ex {w w' : World} {r : AR} {F : List Lab → List Lab × Bool} (h : Makes w r F) (hx : Ex [] w w') : Makes w' r F := fun W hW => h W (hx.trans hW)
theorem SL.below {w : World} {v : Value} {ls : List Lab} (h : SL w v ls) : ∀ k, v.ownBlock = some k → k < w.heap.size := fun k hk => by
  rcases h with ⟨rfl, _⟩ | ⟨b, c, rfl, hb, _⟩
  · cases hk
  · cases hk; exact hb

end Go.Proofs.YtcbiidoebpkifaaGreatDoor.G

/- get: the value of a label. -/
namespace Go.Proofs.YtcbiidoebpkifaaGreatDoor.G
open Go.RowKit

def getM (ls : List Lab) (t : ByteArray) : ByteArray := match ls.find? (fun l => eqB l.1 t) with | some l => l.2 | none => ⟨#[]⟩
theorem getM_step {ls : List Lab} {j : Nat} {l : Lab} (h : ls[j]? = some l) (t : ByteArray) : getM (ls.drop j) t = if eqB l.1 t then l.2 else getM (ls.drop (j + 1)) t := by
  have hj : j < ls.length := (List.getElem?_eq_some_iff.1 h).1
  rw [List.drop_eq_getElem_cons hj]
  rw [List.getElem?_eq_getElem hj] at h
  rw [Option.some.inj h]
  unfold getM
  rw [List.find?_cons]
  cases eqB l.1 t <;> rfl

set_option maxHeartbeats 2000000 in
set_option maxRecDepth 100000 in
theorem get_any (v : Value) (ls : List Lab) (t : ByteArray) (w : World) (hv : SL w v ls) (hn : ls.length ≤ 1000) :
    Calls Tryz.prog 15 #[v, .string t] w fun x w' => x = .returned (.string (getM ls t)) ∧ w' = w := by
  have HV := hide hv
  obtain ⟨p, c, rfl⟩ := hv.slice
  obtain ⟨n, hnn⟩ : ∃ n, n = ls.length := ⟨_, rfl⟩
  have HNN := hide hnn
  obtain ⟨R, hR⟩ : ∃ R, R = getM ls t := ⟨_, rfl⟩
  have HR := hide hR
  rw [← hR]
  rw [← hnn] at hn ⊢
  clear hv hnn hR
  go_enter Tryz.func15, Tryz.ntmps15
  go_wp2_with fail
  go_loopg [5] n (fun gk i wr => ∃ j : Nat, j + gk = n ∧ i = .int .i64 j ∧ getM (ls.drop j) t = R ∧ wr = w)
  case atStart => exact ⟨0, by omega, rfl, by rw [List.drop_zero]; exact HR.out.symm, rfl⟩
  case round =>
    obtain ⟨j, hj, rfl, hgm, rfl⟩ := hrel
    have HGM := hide hgm
    clear hgm
    cases gk with
    | zero =>
      obtain rfl : j = n := by omega
      have hr : R = ⟨#[]⟩ := by rw [← HGM.out, HNN.out, List.drop_length]; rfl
      subst hr
      clear hj
      go_wp2_with fail
      go_ret
      exact ⟨rfl, rfl⟩
    | succ g =>
      have hjl : j < ls.length := by rw [← HNN.out]; omega
      have hjn : (j : Int) < (n : Int) := by omega
      obtain ⟨l, hl⟩ : ∃ l, ls[j]? = some l := ⟨_, List.getElem?_eq_getElem hjl⟩
      obtain ⟨b, c', h1, hb, a0, a1⟩ := same_nonempty HV.out j l hl
      have hst := getM_step hl t
      have HST := hide hst
      injection h1 with e1 e2 e3
      subst e1
      obtain ⟨l1, l2⟩ := l
      simp only at a0 a1
      clear hl hst e2 e3
      cases he : (l1.toList == t.toList) with
      | true =>
        have hr : R = l2 := by rw [← HGM.out, HST.out]; show (if eqB l1 t then l2 else _) = _; rw [show eqB l1 t = true from he]; rfl
        have HRR := hide hr
        clear hr
        go_wp2_with fail
        go_ret
        exact ⟨by rw [HRR.out]; rfl, rfl⟩
      | false =>
        have hr : getM (ls.drop (j + 1)) t = R := by rw [← HGM.out, HST.out]; show _ = (if eqB l1 t then l2 else _); rw [show eqB l1 t = false from he]; rfl
        have HRR := hide hr
        clear hr
        go_wp2_with fail
        go_roundg g
        case measure => omega
        case rel => exact ⟨j + 1, by omega, by simp, HRR.out, rfl⟩
end Go.Proofs.YtcbiidoebpkifaaGreatDoor.G

/- The six rules of the statement Opposite: what is made of them. -/
namespace Go.Proofs.YtcbiidoebpkifaaGreatDoor.G
open Go.RowKit

theorem long_no {s : ByteArray} (h : s.size ≤ 60) : longB s = false := by simp [longB]; omega
theorem big_no {ss : List ByteArray} {se ta rp : ByteArray} (h1 : ss.length ≤ 5) (h2 : ∀ s ∈ ss, nameB s = true) (h3 : se.size ≤ 60) (h4 : ta.size ≤ 60) (h5 : rp.size ≤ 60) : bigB ss se ta rp = false := by
  have h6 : ss.any longB = false := by
    rw [List.any_eq_false]
    intro s hs
    rw [long_no (name_size (h2 s hs))]
    simp
  simp [bigB, h6, long_no h3, long_no h4, long_no h5]
  omega
structure Pre (w : World) (x : EV) : Prop where
  ub : UB w
  gl : GL w
  ev : w.cell? ⟨0, 0, none⟩ = some (.iface x.1 x.2)
theorem Pre.ex {w w' : World} {x : EV} (h : Pre w x) (hx : Ex [] w w') : Pre w' x := ⟨h.ub.ex hx (by simp), h.gl.ex hx, (hx.cell0.1 _ _ (lt_of_cell h.ev)).trans h.ev⟩
theorem RuleOK.ex {w w' : World} {p : Option Addr} {c : Nat} {ss : List ByteArray} {se re : ByteArray} (h : RuleOK w p c ss se re) (hx : Ex [] w w') : RuleOK w' p c ss se re := ⟨h.row.ex0 hx, h.len, h.nam, h.sep, h.pat⟩
theorem all_names {ss : List ByteArray} (h : ∀ s ∈ ss, nameB s = true) : ss.all nameB = true := List.all_eq_true.2 h
end Go.Proofs.YtcbiidoebpkifaaGreatDoor.G

/- Every rule that the statements make: what is made of it. -/
namespace Go.Proofs.YtcbiidoebpkifaaGreatDoor.G
open Go.RowKit

theorem text_size {rp : ByteArray} (h : rp ∈ texts) : rp.size ≤ 60 := by
  have h1 : texts.all (fun t => decide (t.size ≤ 60)) = true := by kernel_rfl
  simpa using List.all_eq_true.1 h1 rp h
theorem emp_sz : (⟨#[]⟩ : ByteArray).size = 0 := rfl
theorem name_pos {s : ByteArray} (h : nameB s = true) : ¬ s.size = 0 := fun e => by simp [nameB, e] at h
theorem makes_k {w : World} {x : EV} {k : Nat} {p : Option Addr} {c : Nat} {ss : List ByteArray} {se re ta rp : ByteArray} {mo : Int} (hp : Pre w x) (h : RuleK w k p c ss se re ta rp mo) : ∃ F, Makes w ⟨k, p, ss.length, c, se, re, ta, rp, mo⟩ F ∧ GoodF F := by
  have hl := h.len
  have hs := h.sep
  have hpat := h.pat
  have htgt := h.tgt
  have hrep := h.rep
  have hmod := h.mod
  have hsrc := h.src
  rcases k_cases h.k10 with rfl | rfl | rfl | rfl | rfl | rfl | rfl | rfl | rfl | rfl | rfl
  · have h1 : re ∈ pats := hpat
    have h2 : nameB ta = true := htgt
    have h3 : rp ∈ texts := hrep
    obtain rfl : mo = 0 := hmod
    refine ⟨F0 ss se re ta rp, makes_of 0 ⟨true, true, true, true, false⟩ rfl p c ss se re ta rp 0 w _ (PatP re) hp.ub hp.gl h.row (by omega) (fun s hs => name_size (h.nam s hs)) (by omega) (name_size h2) (text_size h3) PatP.ex (fun _ => patReads hp.ev (pat_good h1)) (fun h => by cases h) ?_ (deeds0 ss se re ta rp 0 (pat_fit2 h1) (by omega) (by omega) (name_size h2) (text_size h3)), fun ls hls => hls.repl _ _ _ _ _ _ _⟩
    simp [makeR, big_no (ss := ss) (se := se) (ta := ta) (rp := rp) (by omega) h.nam (by omega) (name_size h2) (text_size h3), all_names h.nam, unusedB, emp_sz, targetB, name_pos h2]
  · have h1 : re ∈ pats := hpat
    obtain rfl : ta = ⟨#[]⟩ := htgt
    obtain rfl : rp = ⟨#[]⟩ := hrep
    obtain rfl : mo = 0 := hmod
    refine ⟨F1 ss se re, makes_of 1 ⟨true, true, false, false, false⟩ rfl p c ss se re _ _ 0 w _ (PatP re) hp.ub hp.gl h.row (by omega) (fun s hs => name_size (h.nam s hs)) (by omega) (by decide) (by decide) PatP.ex (fun _ => patReads hp.ev (pat_good h1)) (fun h => by cases h) ?_ (deeds1 ss se re _ _ 0 (fit_of (pat_good h1)) (by omega) (by omega)), fun ls hls => hls⟩
    simp [makeR, big_no (ss := ss) (se := se) (ta := ⟨#[]⟩) (rp := ⟨#[]⟩) (by omega) h.nam (by omega) (by decide) (by decide), all_names h.nam, unusedB, emp_sz]
  · have h1 : re ∈ pats := hpat
    obtain rfl : ta = ⟨#[]⟩ := htgt
    obtain rfl : rp = ⟨#[]⟩ := hrep
    obtain rfl : mo = 0 := hmod
    refine ⟨F2 ss se re, makes_of 2 ⟨true, true, false, false, false⟩ rfl p c ss se re _ _ 0 w _ (PatP re) hp.ub hp.gl h.row (by omega) (fun s hs => name_size (h.nam s hs)) (by omega) (by decide) (by decide) PatP.ex (fun _ => patReads hp.ev (pat_good h1)) (fun h => by cases h) ?_ (deeds2 ss se re _ _ 0 (fit_of (pat_good h1)) (by omega) (by omega)), fun ls hls => hls⟩
    simp [makeR, big_no (ss := ss) (se := se) (ta := ⟨#[]⟩) (rp := ⟨#[]⟩) (by omega) h.nam (by omega) (by decide) (by decide), all_names h.nam, unusedB, emp_sz]
  · obtain rfl : re = ⟨#[]⟩ := hpat
    have h2 : nameB ta = true := htgt
    obtain rfl : rp = ⟨#[]⟩ := hrep
    obtain rfl : mo = 0 := hmod
    refine ⟨F3 ss se ta, makes_of 3 ⟨true, false, true, false, false⟩ rfl p c ss se _ ta _ 0 w _ (fun _ _ _ => True) hp.ub hp.gl h.row (by omega) (fun s hs => name_size (h.nam s hs)) (by omega) (name_size h2) (by decide) (fun _ _ _ _ _ _ => trivial) (fun h => by cases h) (fun _ _ _ _ => trivial) ?_ (deeds3 ss se ta _ 0 (by omega) (by omega)), fun ls hls => hls⟩
    simp [makeR, big_no (ss := ss) (se := se) (ta := ta) (rp := ⟨#[]⟩) (by omega) h.nam (by omega) (name_size h2) (by decide), all_names h.nam, unusedB, emp_sz, targetB, h2]
  · obtain rfl : re = ⟨#[]⟩ := hpat
    have h2 : nameB ta = true := htgt
    obtain rfl : rp = ⟨#[]⟩ := hrep
    obtain rfl : mo = 0 := hmod
    refine ⟨F4 ss se ta, makes_of 4 ⟨true, false, true, false, false⟩ rfl p c ss se _ ta _ 0 w _ (fun _ _ _ => True) hp.ub hp.gl h.row (by omega) (fun s hs => name_size (h.nam s hs)) (by omega) (name_size h2) (by decide) (fun _ _ _ _ _ _ => trivial) (fun h => by cases h) (fun _ _ _ _ => trivial) ?_ (deeds4 ss se ta _ 0 (by omega) (by omega)), fun ls hls => hls⟩
    simp [makeR, big_no (ss := ss) (se := se) (ta := ta) (rp := ⟨#[]⟩) (by omega) h.nam (by omega) (name_size h2) (by decide), all_names h.nam, unusedB, emp_sz, targetB, h2]
  · obtain rfl : re = ⟨#[]⟩ := hpat
    have h2 : nameB ta = true := htgt
    obtain rfl : rp = ⟨#[]⟩ := hrep
    have h4 : 1 ≤ mo ∧ mo ≤ 1000 := hmod
    have h5 : ¬ mo = 0 := by omega
    refine ⟨F5 ss se ta mo, makes_of 5 ⟨true, false, true, false, true⟩ rfl p c ss se _ ta _ mo w _ (fun _ _ _ => True) hp.ub hp.gl h.row (by omega) (fun s hs => name_size (h.nam s hs)) (by omega) (name_size h2) (by decide) (fun _ _ _ _ _ _ => trivial) (fun h => by cases h) (fun _ _ _ _ => trivial) ?_ (deeds5 ss se ta _ mo h4.1 h2 (by omega) (by omega)), fun ls hls => hls.set _ _ h2⟩
    simp [makeR, big_no (ss := ss) (se := se) (ta := ta) (rp := ⟨#[]⟩) (by omega) h.nam (by omega) (name_size h2) (by decide), all_names h.nam, unusedB, emp_sz, targetB, h2, h5]
  · have h1 : re ∈ pats := hpat
    obtain rfl : ta = ⟨#[]⟩ := htgt
    have h3 : rp ∈ texts := hrep
    obtain rfl : mo = 0 := hmod
    obtain ⟨rfl, rfl⟩ := hsrc rfl
    refine ⟨F6 re rp, makes_of 6 ⟨false, true, false, true, false⟩ rfl p c [] _ re _ rp 0 w _ (PatP re) hp.ub hp.gl h.row (by simp) (fun s hs => by simp at hs) (by decide) (by decide) (text_size h3) PatP.ex (fun _ => patReads hp.ev (pat_good h1)) (fun h => by cases h) ?_ (deeds6 [] _ re _ rp 0 (pat_fit2 h1) (text_size h3)), fun ls hls => hls.map _ _ _ _⟩
    simp [makeR, big_no (ss := []) (se := ⟨#[]⟩) (ta := ⟨#[]⟩) (rp := rp) (by simp) (fun s hs => by simp at hs) (by decide) (by decide) (text_size h3), unusedB, emp_sz]
  · have h1 : re ∈ pats := hpat
    obtain rfl : ta = ⟨#[]⟩ := htgt
    obtain rfl : rp = ⟨#[]⟩ := hrep
    obtain rfl : mo = 0 := hmod
    obtain ⟨rfl, rfl⟩ := hsrc rfl
    refine ⟨F7 re, makes_of 7 ⟨false, true, false, false, false⟩ rfl p c [] _ re _ _ 0 w _ (PatP re) hp.ub hp.gl h.row (by simp) (fun s hs => by simp at hs) (by decide) (by decide) (by decide) PatP.ex (fun _ => patReads hp.ev (pat_good h1)) (fun h => by cases h) ?_ (deeds7 [] _ re _ _ 0 (fit_of (pat_good h1))), fun ls hls => hls.filter _⟩
    simp [makeR, big_no (ss := []) (se := ⟨#[]⟩) (ta := ⟨#[]⟩) (rp := ⟨#[]⟩) (by simp) (fun s hs => by simp at hs) (by decide) (by decide) (by decide), unusedB, emp_sz]
  · have h1 : re ∈ pats := hpat
    obtain rfl : ta = ⟨#[]⟩ := htgt
    obtain rfl : rp = ⟨#[]⟩ := hrep
    obtain rfl : mo = 0 := hmod
    obtain ⟨rfl, rfl⟩ := hsrc rfl
    refine ⟨F8 re, makes_of 8 ⟨false, true, false, false, false⟩ rfl p c [] _ re _ _ 0 w _ (PatP re) hp.ub hp.gl h.row (by simp) (fun s hs => by simp at hs) (by decide) (by decide) (by decide) PatP.ex (fun _ => patReads hp.ev (pat_good h1)) (fun h => by cases h) ?_ (deeds8 [] _ re _ _ 0 (fit_of (pat_good h1))), fun ls hls => hls.filter _⟩
    simp [makeR, big_no (ss := []) (se := ⟨#[]⟩) (ta := ⟨#[]⟩) (rp := ⟨#[]⟩) (by simp) (fun s hs => by simp at hs) (by decide) (by decide) (by decide), unusedB, emp_sz]
  · obtain rfl : re = ⟨#[]⟩ := hpat
    have h2 : nameB ta = true := htgt
    obtain rfl : rp = ⟨#[]⟩ := hrep
    obtain rfl : mo = 0 := hmod
    refine ⟨F9 ss se ta, makes_of 9 ⟨true, false, true, false, false⟩ rfl p c ss se _ ta _ 0 w _ (fun _ _ _ => True) hp.ub hp.gl h.row (by omega) (fun s hs => name_size (h.nam s hs)) (by omega) (name_size h2) (by decide) (fun _ _ _ _ _ _ => trivial) (fun h => by cases h) (fun _ _ _ _ => trivial) ?_ (deeds9 ss se ta _ 0 h2 (by omega) (by omega)), fun ls hls => hls.set _ _ h2⟩
    simp [makeR, big_no (ss := ss) (se := se) (ta := ta) (rp := ⟨#[]⟩) (by omega) h.nam (by omega) (name_size h2) (by decide), all_names h.nam, unusedB, emp_sz, targetB, h2]
  · obtain rfl : re = ⟨#[]⟩ := hpat
    have h2 : nameB ta = true := htgt
    obtain rfl : rp = ⟨#[]⟩ := hrep
    obtain rfl : mo = 0 := hmod
    refine ⟨F10 ss se ta, makes_of 10 ⟨true, false, true, false, false⟩ rfl p c ss se _ ta _ 0 w _ (fun _ _ _ => True) hp.ub hp.gl h.row (by omega) (fun s hs => name_size (h.nam s hs)) (by omega) (name_size h2) (by decide) (fun _ _ _ _ _ _ => trivial) (fun h => by cases h) (fun _ _ _ _ => trivial) ?_ (deeds10 ss se ta _ 0 h2 (by omega) (by omega)), fun ls hls => hls.set _ _ h2⟩
    simp [makeR, big_no (ss := ss) (se := se) (ta := ta) (rp := ⟨#[]⟩) (by omega) h.nam (by omega) (name_size h2) (by decide), all_names h.nam, unusedB, emp_sz, targetB, h2]
end Go.Proofs.YtcbiidoebpkifaaGreatDoor.G
