/- Y7 Y3 T17 T19 T20 Y8 T20b S3 S4 S5, one behind the other. -/
import Derived.Test.YtmeffeigamaipabGreatDoorM46
import Derived.Test.YtmeffeigamaipabGreatDoorM40
import Derived.Test.YtmeffeigamaipabGreatDoorM45
import Derived.Test.YtmeffeigamaipabGreatDoorM42
import Derived.Test.YtmeffeigamaipabGreatDoorM41
import Derived.Test.YtmeffeigamaipabGreatDoorM34
set_option linter.unusedVariables false
set_option linter.unusedSimpArgs false
/- Replace and LabelMap: what is made of the means. -/
namespace Go.Proofs.YtmeffeigamaipabGreatDoor.G
open Go.RowKit

set_option maxHeartbeats 2000000 in
set_option maxRecDepth 100000 in
theorem does_replace (lo : Nat) (p : Option Addr) (c : Nat) (ss : List ByteArray) (se : ByteArray) (pq : Nat) (ta rp : ByteArray) (mo : Int) (code : List Ins) (ng : Nat) (nm : List (ByteArray × Nat)) (hf : Fit2 code ng nm) (w : World)
    (hs : SS w (.slice p ss.length c) ss) (hsb : ∀ k, (Value.slice p ss.length c).ownBlock = some k → lo ≤ k) (hp : PG w pq lo code ng nm) (hsn : ss.length ≤ 1000) (hse : se.size ≤ 1000) (hta : ta.size ≤ 60) (hrp : rp.size ≤ 60) :
    Does lo w.heap.size w (.func (.func 69) #[meansV (.slice p ss.length c) se (.pointer (some ⟨pq, 0, none⟩)) ta rp mo] #[]) (fun ls => (replM code ng nm ss se ta rp ls, true)) := by
  refine ⟨Nat.le_refl _, ⟨_, _, _, rfl⟩, fun w1 hk hg q base ls v0 hb hle hqb hq ho hnq hok => ?_⟩
  have KM := hide (fun (w' : World) (hx : Ex [] w1 w') => replace_any p c ss se pq lo ta rp mo code ng nm hf q base ls v0 w' ((SS.kb hs hk hsb).ex0 hx) ((hp.kb hk).ex' hx) (hg.ex hx) (Nat.le_trans hle hx.size) (hq.ex hx (by simp)) (own_ex ho hx (by simp)) hnq hok hsn hse hta hrp)
  have HOK := hide (hok.repl code ng nm ss se ta rp)
  have HO := hide ho
  obtain ⟨r, hr⟩ : ∃ r, r = replM code ng nm ss se ta rp ls := ⟨_, rfl⟩
  dsimp only
  rw [← hr] at KM HOK ⊢
  obtain ⟨n, hn⟩ : ∃ n, n = ss.length := ⟨_, rfl⟩
  rw [← hn] at KM ⊢
  unfold meansV at *
  clear hs hsb hk hg hq ho hnq hok hr hn hp
  go_enter Tryz.func46, Tryz.ntmps46
  go_wp2_with fail
  refine (KM.out _ ((Ex.refl _ _).alloc _)).mono ?_
  rintro x w2 ⟨rfl, hl2, hx2⟩
  have HX2 := hide ((((Ex.refl [] w1).alloc _).drop (by simp)).trans hx2)
  have HL2 := hide hl2
  clear hx2 hl2
  go_wp2_with fail
  go_ret
  exact ⟨rfl, HL2.out, HOK.out, eb_own HX2.out hqb HO.out hle⟩

set_option maxHeartbeats 2000000 in
set_option maxRecDepth 100000 in
theorem does_map (lo : Nat) (p : Option Addr) (n c : Nat) (se : ByteArray) (pq : Nat) (ta rp : ByteArray) (mo : Int) (code : List Ins) (ng : Nat) (nm : List (ByteArray × Nat)) (hf : Fit2 code ng nm) (w : World) (hp : PG w pq lo code ng nm) (hlo : 5 < lo) (hrp : rp.size ≤ 60) :
    Does lo w.heap.size w (.func (.func 75) #[meansV (.slice p n c) se (.pointer (some ⟨pq, 0, none⟩)) ta rp mo] #[]) (fun ls => (mapLs code ng nm rp ls, true)) := by
  refine ⟨Nat.le_refl _, ⟨_, _, _, rfl⟩, fun w1 hk hg q base ls v0 hb hle hqb hq ho hnq hok => ?_⟩
  have hpl := hp.le
  have KM := hide (fun (w' : World) (hx : Ex [] w1 w') => mapNames_any p n c se pq ta rp mo code ng nm hf q base ls v0 w' (Nat.le_trans hle hx.size) hqb (hq.ex hx (by simp)) (own_ex ho hx (by simp)) hnq hok hrp (fun W s he hsz => by
    have heb : EB base [] w1 W := (EB.ofEx hx hle).trans he
    have hk2 : KB lo w.heap.size w W := hk.trans ⟨heb.size, fun b h1 h2 => heb.block b (by omega) (by simp)⟩
    exact match_v (Match_any pq lo code ng nm s W (hp.kb hk2) hf.fit.ok hf.fit.tk hf.fit.le hf.fit.pos hf.fit.ng5 (by omega) (GL.eb hg heb (by omega)).1)))
  have HOK := hide (hok.map code ng nm rp)
  obtain ⟨r, hr⟩ : ∃ r, r = mapLs code ng nm rp ls := ⟨_, rfl⟩
  dsimp only
  rw [← hr] at KM HOK ⊢
  unfold meansV at *
  clear hk hg hq ho hnq hok hr hp
  go_enter Tryz.func46, Tryz.ntmps46
  go_wp2_with fail
  refine (KM.out _ ((Ex.refl _ _).alloc _)).mono ?_
  rintro x w2 ⟨rfl, hl2, hx2⟩
  have HX2 := hide ((EB.ofEx ((Ex.refl [] w1).alloc (Obj.cells #[.func (.func 75) #[.agg #[.slice p n c, .string se, .pointer (some ⟨pq, 0, none⟩), .string ta, .string rp, .int .u64 mo]] #[]] 81)) hle).trans hx2)
  have HL2 := hide hl2
  clear hx2 hl2
  go_wp2_with fail
  go_ret
  exact ⟨rfl, HL2.out, HOK.out, HX2.out⟩

set_option maxHeartbeats 1000000 in
set_option maxRecDepth 100000 in
theorem deed_replace (p : Option Addr) (n c : Nat) (se : ByteArray) (pp : Option Addr) (ta rp : ByteArray) (mo : Int) (w : World) :
    Calls Tryz.prog 55 #[meansV (.slice p n c) se (.pointer pp) ta rp mo, .int .i64 0] w fun x w' => x = .returned (.func (.func 69) #[meansV (.slice p n c) se (.pointer pp) ta rp mo] #[]) ∧ Ex [] w w' := by
  have hmf : ∀ (fn : Fn) (first cap : Array Value) (w : World), (Instr.makeFunc fn first cap).run Tryz.prog w = .ok (.func fn first cap) w := fun _ _ _ _ => rfl
  unfold meansV
  go_enter Tryz.func55, Tryz.ntmps55
  go_wp2_with fail
  go_ret
  exact ⟨rfl, (Ex.refl _ _).alloc _⟩
set_option maxHeartbeats 1000000 in
set_option maxRecDepth 100000 in
theorem deed_map (p : Option Addr) (n c : Nat) (se : ByteArray) (pp : Option Addr) (ta rp : ByteArray) (mo : Int) (w : World) :
    Calls Tryz.prog 55 #[meansV (.slice p n c) se (.pointer pp) ta rp mo, .int .i64 6] w fun x w' => x = .returned (.func (.func 75) #[meansV (.slice p n c) se (.pointer pp) ta rp mo] #[]) ∧ Ex [] w w' := by
  have hmf : ∀ (fn : Fn) (first cap : Array Value) (w : World), (Instr.makeFunc fn first cap).run Tryz.prog w = .ok (.func fn first cap) w := fun _ _ _ _ => rfl
  unfold meansV
  go_enter Tryz.func55, Tryz.ntmps55
  go_wp2_with fail
  go_ret
  exact ⟨rfl, (Ex.refl _ _).alloc _⟩
def F0 (ss : List ByteArray) (se re ta rp : ByteArray) : List Lab → List Lab × Bool := fun ls => (replM (patC re) (patN re) (patM re) ss se ta rp ls, true)
def F6 (re rp : ByteArray) : List Lab → List Lab × Bool := fun ls => (mapLs (patC re) (patN re) (patM re) rp ls, true)
theorem deeds0 (ss : List ByteArray) (se re ta rp : ByteArray) (mo : Int) (hf : Fit2 (patC re) (patN re) (patM re)) (hsn : ss.length ≤ 1000) (hse : se.size ≤ 60) (hta : ta.size ≤ 60) (hrp : rp.size ≤ 60) : Deeds 0 ss se ta rp mo (PatP re) (F0 ss se re ta rp) := fun lo w sp sc pp hlo hle hs hsb hP => by
  obtain ⟨q, rfl, hp⟩ := hP
  refine (deed_replace sp ss.length sc se (some ⟨q, 0, none⟩) ta rp mo w).mono ?_
  rintro x w2 ⟨rfl, hx⟩
  exact ⟨⟨_, _, _, rfl, does_replace lo sp sc ss se q ta rp mo (patC re) (patN re) (patM re) hf w2 (hs.ex0 hx) hsb (hp.ex' hx) hsn (by omega) hta hrp⟩, hx⟩
theorem deeds6 (ss : List ByteArray) (se re ta rp : ByteArray) (mo : Int) (hf : Fit2 (patC re) (patN re) (patM re)) (hrp : rp.size ≤ 60) : Deeds 6 ss se ta rp mo (PatP re) (F6 re rp) := fun lo w sp sc pp hlo hle hs hsb hP => by
  obtain ⟨q, rfl, hp⟩ := hP
  refine (deed_map sp ss.length sc se (some ⟨q, 0, none⟩) ta rp mo w).mono ?_
  rintro x w2 ⟨rfl, hx⟩
  exact ⟨⟨_, _, _, rfl, does_map lo sp ss.length sc se q ta rp mo (patC re) (patN re) (patM re) hf w2 (hp.ex' hx) hlo hrp⟩, hx⟩

def fit2B (re : ByteArray) : Bool := spanB (patC re) && (patM re).all (fun x => decide (x.1.size ≤ 60) && decide (x.2 ≤ 1000) && (patM re).all fun y => !decide (x.1 = y.1) || decide (x.2 = y.2))
set_option maxRecDepth 100000 in
theorem pats_fit2 : pats.all fit2B = true := by kernel_rfl
theorem pat_fit2 {re : ByteArray} (h : re ∈ pats) : Fit2 (patC re) (patN re) (patM re) := by
  have h1 := List.all_eq_true.1 pats_fit2 re h
  unfold fit2B at h1
  rw [Bool.and_eq_true] at h1
  have h2 := fun x hx => List.all_eq_true.1 h1.2 x hx
  simp only [Bool.and_eq_true, decide_eq_true_eq] at h2
  refine ⟨fit_of (pat_good h), h1.1, fun x hx => (h2 x hx).1.1, fun x hx y hy e => ?_, fun x hx => (h2 x hx).1.2⟩
  have h3 := List.all_eq_true.1 (h2 x hx).2 y hy
  simp only [Bool.or_eq_true, Bool.not_eq_true', decide_eq_false_iff_not, decide_eq_true_eq] at h3
  exact h3.resolve_left (fun hn => hn e)
end Go.Proofs.YtmeffeigamaipabGreatDoor.G

/- Lowercase, Uppercase, HashMod: what is made of the means. -/
namespace Go.Proofs.YtmeffeigamaipabGreatDoor.G
open Go.RowKit

def F5 (ss : List ByteArray) (se ta : ByteArray) (mo : Int) : List Lab → List Lab × Bool := fun ls => (Go.Proofs.YtmeffeigamaipabGreatDoor.setL ls ta (remM mo (textN ls ss se)), true)
def F9 (ss : List ByteArray) (se ta : ByteArray) : List Lab → List Lab × Bool := fun ls => (Go.Proofs.YtmeffeigamaipabGreatDoor.setL ls ta (lowerA (textN ls ss se)), true)
def F10 (ss : List ByteArray) (se ta : ByteArray) : List Lab → List Lab × Bool := fun ls => (Go.Proofs.YtmeffeigamaipabGreatDoor.setL ls ta (upperA (textN ls ss se)), true)
set_option maxHeartbeats 1000000 in
set_option maxRecDepth 100000 in
theorem setTo_fv (p : Option Addr) (n c : Nat) (se : ByteArray) (pp : Option Addr) (ta rp : ByteArray) (mo : Int) (f : FuncId) (a : Array Value) (w : World) :
    Calls Tryz.prog 73 #[meansV (.slice p n c) se (.pointer pp) ta rp mo, .func (.func f) a #[]] w fun x w' => x = .returned (.func (.func 106) #[] #[.pointer (some ⟨w.heap.size, 0, none⟩), .pointer (some ⟨w.heap.size + 1, 0, none⟩)]) ∧
      w' = (w.alloc (.cells #[.slice p n c, .string se, .pointer pp, .string ta, .string rp, .int .u64 mo] 116)).alloc (.cells #[.func (.func f) a #[]] 55) := by
  have hmf : ∀ (fn : Fn) (first cap : Array Value) (w : World), (Instr.makeFunc fn first cap).run Tryz.prog w = .ok (.func fn first cap) w := fun _ _ _ _ => rfl
  unfold meansV
  go_enter Tryz.func73, Tryz.ntmps73
  go_wp2_with fail
  go_ret
  exact ⟨by simp, rfl⟩

set_option maxHeartbeats 1000000 in
set_option maxRecDepth 100000 in
theorem deed_lower (p : Option Addr) (n c : Nat) (se : ByteArray) (pp : Option Addr) (ta rp : ByteArray) (mo : Int) (w : World) :
    Calls Tryz.prog 55 #[meansV (.slice p n c) se (.pointer pp) ta rp mo, .int .i64 9] w fun x w' => ∃ b1 b2, x = .returned (.func (.func 106) #[] #[.pointer (some ⟨b1, 0, none⟩), .pointer (some ⟨b2, 0, none⟩)]) ∧
      BK w' b1 (.cells #[.slice p n c, .string se, .pointer pp, .string ta, .string rp, .int .u64 mo] 116 (0, 0)) ∧ BK w' b2 (.cells #[.func (.func 78) #[] #[]] 55 (0, 0)) ∧ w.heap.size ≤ b1 ∧ w.heap.size ≤ b2 ∧ Ex [] w w' := by
  have hmf : ∀ (fn : Fn) (first cap : Array Value) (w : World), (Instr.makeFunc fn first cap).run Tryz.prog w = .ok (.func fn first cap) w := fun _ _ _ _ => rfl
  have KS := hide (fun w => setTo_fv p n c se pp ta rp mo 78 #[] w)
  unfold meansV at *
  go_enter Tryz.func55, Tryz.ntmps55
  go_wp2_with fail
  refine (KS.out _).mono ?_
  rintro x w1 ⟨rfl, hw1⟩
  have hb1 : BK w1 (w.heap.size + 1) (.cells #[.slice p n c, .string se, .pointer pp, .string ta, .string rp, .int .u64 mo] 116 (0, 0)) := by
    rw [hw1]
    have h := (BK.new (w.alloc (Obj.cells #[.slice p n c, .string se, .pointer pp, .string ta, .string rp, .int .u64 mo] 116)) (Obj.cells #[.slice p n c, .string se, .pointer pp, .string ta, .string rp, .int .u64 mo] 116)).alloc (Obj.cells #[.func (.func 78) #[] #[]] 55)
    simpa using h
  have hb2 : BK w1 (w.heap.size + 1 + 1) (.cells #[.func (.func 78) #[] #[]] 55 (0, 0)) := by
    rw [hw1]
    have h := BK.new ((w.alloc (Obj.cells #[.slice p n c, .string se, .pointer pp, .string ta, .string rp, .int .u64 mo] 116)).alloc (Obj.cells #[.slice p n c, .string se, .pointer pp, .string ta, .string rp, .int .u64 mo] 116)) (Obj.cells #[.func (.func 78) #[] #[]] 55)
    simpa using h
  have hx1 : Ex [] w w1 := by rw [hw1]; exact (((Ex.refl _ _).alloc _).alloc _).alloc _
  have H1 := hide hb1
  have H2 := hide hb2
  have HX := hide hx1
  clear hw1 hb1 hb2 hx1
  go_wp2_with fail
  go_ret
  refine ⟨w.heap.size + 1, w.heap.size + 1 + 1, by simp, H1.out, H2.out, by omega, by omega, HX.out⟩
theorem deeds9 (ss : List ByteArray) (se ta rp : ByteArray) (mo : Int) (hta : nameB ta = true) (hsn : ss.length ≤ 1000) (hse : se.size ≤ 60) : Deeds 9 ss se ta rp mo (fun _ _ _ => True) (F9 ss se ta) := fun lo w sp sc pp hlo hle hs hsb _ => by
  refine (deed_lower sp ss.length sc se pp ta rp mo w).mono ?_
  rintro x w2 ⟨b1, b2, rfl, h1, h2, hl1, hl2, hx⟩
  exact ⟨⟨_, _, _, rfl, does_lower lo sp sc ss se pp ta rp mo w2 b1 b2 h1 h2 (by omega) (by omega) (hs.ex0 hx) hsb hta hsn (by omega)⟩, hx⟩

set_option maxHeartbeats 1000000 in
set_option maxRecDepth 100000 in
theorem deed_upper (p : Option Addr) (n c : Nat) (se : ByteArray) (pp : Option Addr) (ta rp : ByteArray) (mo : Int) (w : World) :
    Calls Tryz.prog 55 #[meansV (.slice p n c) se (.pointer pp) ta rp mo, .int .i64 10] w fun x w' => ∃ b1 b2, x = .returned (.func (.func 106) #[] #[.pointer (some ⟨b1, 0, none⟩), .pointer (some ⟨b2, 0, none⟩)]) ∧
      BK w' b1 (.cells #[.slice p n c, .string se, .pointer pp, .string ta, .string rp, .int .u64 mo] 116 (0, 0)) ∧ BK w' b2 (.cells #[.func (.func 79) #[] #[]] 55 (0, 0)) ∧ w.heap.size ≤ b1 ∧ w.heap.size ≤ b2 ∧ Ex [] w w' := by
  have hmf : ∀ (fn : Fn) (first cap : Array Value) (w : World), (Instr.makeFunc fn first cap).run Tryz.prog w = .ok (.func fn first cap) w := fun _ _ _ _ => rfl
  have KS := hide (fun w => setTo_fv p n c se pp ta rp mo 79 #[] w)
  unfold meansV at *
  go_enter Tryz.func55, Tryz.ntmps55
  go_wp2_with fail
  refine (KS.out _).mono ?_
  rintro x w1 ⟨rfl, hw1⟩
  have hb1 : BK w1 (w.heap.size + 1) (.cells #[.slice p n c, .string se, .pointer pp, .string ta, .string rp, .int .u64 mo] 116 (0, 0)) := by
    rw [hw1]
    have h := (BK.new (w.alloc (Obj.cells #[.slice p n c, .string se, .pointer pp, .string ta, .string rp, .int .u64 mo] 116)) (Obj.cells #[.slice p n c, .string se, .pointer pp, .string ta, .string rp, .int .u64 mo] 116)).alloc (Obj.cells #[.func (.func 79) #[] #[]] 55)
    simpa using h
  have hb2 : BK w1 (w.heap.size + 1 + 1) (.cells #[.func (.func 79) #[] #[]] 55 (0, 0)) := by
    rw [hw1]
    have h := BK.new ((w.alloc (Obj.cells #[.slice p n c, .string se, .pointer pp, .string ta, .string rp, .int .u64 mo] 116)).alloc (Obj.cells #[.slice p n c, .string se, .pointer pp, .string ta, .string rp, .int .u64 mo] 116)) (Obj.cells #[.func (.func 79) #[] #[]] 55)
    simpa using h
  have hx1 : Ex [] w w1 := by rw [hw1]; exact (((Ex.refl _ _).alloc _).alloc _).alloc _
  have H1 := hide hb1
  have H2 := hide hb2
  have HX := hide hx1
  clear hw1 hb1 hb2 hx1
  go_wp2_with fail
  go_ret
  refine ⟨w.heap.size + 1, w.heap.size + 1 + 1, by simp, H1.out, H2.out, by omega, by omega, HX.out⟩
theorem deeds10 (ss : List ByteArray) (se ta rp : ByteArray) (mo : Int) (hta : nameB ta = true) (hsn : ss.length ≤ 1000) (hse : se.size ≤ 60) : Deeds 10 ss se ta rp mo (fun _ _ _ => True) (F10 ss se ta) := fun lo w sp sc pp hlo hle hs hsb _ => by
  refine (deed_upper sp ss.length sc se pp ta rp mo w).mono ?_
  rintro x w2 ⟨b1, b2, rfl, h1, h2, hl1, hl2, hx⟩
  exact ⟨⟨_, _, _, rfl, does_upper lo sp sc ss se pp ta rp mo w2 b1 b2 h1 h2 (by omega) (by omega) (hs.ex0 hx) hsb hta hsn (by omega)⟩, hx⟩

set_option maxHeartbeats 1000000 in
set_option maxRecDepth 100000 in
theorem deed_remainder (p : Option Addr) (n c : Nat) (se : ByteArray) (pp : Option Addr) (ta rp : ByteArray) (mo : Int) (w : World) :
    Calls Tryz.prog 55 #[meansV (.slice p n c) se (.pointer pp) ta rp mo, .int .i64 5] w fun x w' => ∃ b1 b2, x = .returned (.func (.func 106) #[] #[.pointer (some ⟨b1, 0, none⟩), .pointer (some ⟨b2, 0, none⟩)]) ∧
      BK w' b1 (.cells #[.slice p n c, .string se, .pointer pp, .string ta, .string rp, .int .u64 mo] 116 (0, 0)) ∧ BK w' b2 (.cells #[.func (.func 74) #[.agg #[.slice p n c, .string se, .pointer pp, .string ta, .string rp, .int .u64 mo]] #[]] 55 (0, 0)) ∧ w.heap.size ≤ b1 ∧ w.heap.size ≤ b2 ∧ Ex [] w w' := by
  have hmf : ∀ (fn : Fn) (first cap : Array Value) (w : World), (Instr.makeFunc fn first cap).run Tryz.prog w = .ok (.func fn first cap) w := fun _ _ _ _ => rfl
  have KS := hide (fun w => setTo_fv p n c se pp ta rp mo 74 #[.agg #[.slice p n c, .string se, .pointer pp, .string ta, .string rp, .int .u64 mo]] w)
  unfold meansV at *
  go_enter Tryz.func55, Tryz.ntmps55
  go_wp2_with fail
  refine (KS.out _).mono ?_
  rintro x w1 ⟨rfl, hw1⟩
  have hb1 : BK w1 (w.heap.size + 1) (.cells #[.slice p n c, .string se, .pointer pp, .string ta, .string rp, .int .u64 mo] 116 (0, 0)) := by
    rw [hw1]
    have h := (BK.new (w.alloc (Obj.cells #[.slice p n c, .string se, .pointer pp, .string ta, .string rp, .int .u64 mo] 116)) (Obj.cells #[.slice p n c, .string se, .pointer pp, .string ta, .string rp, .int .u64 mo] 116)).alloc (Obj.cells #[.func (.func 74) #[.agg #[.slice p n c, .string se, .pointer pp, .string ta, .string rp, .int .u64 mo]] #[]] 55)
    simpa using h
  have hb2 : BK w1 (w.heap.size + 1 + 1) (.cells #[.func (.func 74) #[.agg #[.slice p n c, .string se, .pointer pp, .string ta, .string rp, .int .u64 mo]] #[]] 55 (0, 0)) := by
    rw [hw1]
    have h := BK.new ((w.alloc (Obj.cells #[.slice p n c, .string se, .pointer pp, .string ta, .string rp, .int .u64 mo] 116)).alloc (Obj.cells #[.slice p n c, .string se, .pointer pp, .string ta, .string rp, .int .u64 mo] 116)) (Obj.cells #[.func (.func 74) #[.agg #[.slice p n c, .string se, .pointer pp, .string ta, .string rp, .int .u64 mo]] #[]] 55)
    simpa using h
  have hx1 : Ex [] w w1 := by rw [hw1]; exact (((Ex.refl _ _).alloc _).alloc _).alloc _
  have H1 := hide hb1
  have H2 := hide hb2
  have HX := hide hx1
  clear hw1 hb1 hb2 hx1
  go_wp2_with fail
  go_ret
  refine ⟨w.heap.size + 1, w.heap.size + 1 + 1, by simp, H1.out, H2.out, by omega, by omega, HX.out⟩
theorem deeds5 (ss : List ByteArray) (se ta rp : ByteArray) (mo : Int) (hmo : 1 ≤ mo) (hta : nameB ta = true) (hsn : ss.length ≤ 1000) (hse : se.size ≤ 60) : Deeds 5 ss se ta rp mo (fun _ _ _ => True) (F5 ss se ta mo) := fun lo w sp sc pp hlo hle hs hsb _ => by
  refine (deed_remainder sp ss.length sc se pp ta rp mo w).mono ?_
  rintro x w2 ⟨b1, b2, rfl, h1, h2, hl1, hl2, hx⟩
  exact ⟨⟨_, _, _, rfl, does_remainder lo sp sc ss se pp ta rp mo hmo w2 b1 b2 h1 h2 (by omega) (by omega) (hs.ex0 hx) hsb hta hsn (by omega)⟩, hx⟩
end Go.Proofs.YtmeffeigamaipabGreatDoor.G

/- Two rules, each alone: what pair tells. -/
namespace Go.Proofs.YtmeffeigamaipabGreatDoor.G
open Go.RowKit

theorem Makes.ex {w w' : World} {r : AR} {F : List Lab → List Lab × Bool} (h : Makes w r F) (hx : Ex [] w w') : Makes w' r F := fun W hW => h W (hx.trans hW)
theorem SL.below {w : World} {v : Value} {ls : List Lab} (h : SL w v ls) : ∀ k, v.ownBlock = some k → k < w.heap.size := fun k hk => by
  rcases h with ⟨rfl, _⟩ | ⟨b, c, rfl, hb, _⟩
  · cases hk
  · cases hk; exact hb

end Go.Proofs.YtmeffeigamaipabGreatDoor.G

/- get: the value of a label. -/
namespace Go.Proofs.YtmeffeigamaipabGreatDoor.G
open Go.RowKit

end Go.Proofs.YtmeffeigamaipabGreatDoor.G

/- The six rules of the statement Opposite: what is made of them. -/
namespace Go.Proofs.YtmeffeigamaipabGreatDoor.G
open Go.RowKit

theorem long_no {s : ByteArray} (h : s.size ≤ 60) : longB s = false := by simp [longB]; omega
theorem big_no {ss : List ByteArray} {se ta rp : ByteArray} (h1 : ss.length ≤ 5) (h2 : ∀ s ∈ ss, nameB s = true) (h3 : se.size ≤ 60) (h4 : ta.size ≤ 60) (h5 : rp.size ≤ 60) : bigB ss se ta rp = false := by
  have h6 : ss.any longB = false := by
    rw [List.any_eq_false]
    intro s hs
    rw [long_no (name_size (h2 s hs))]
    simp
  simp [bigB, h6, long_no h3, long_no h4, long_no h5]
  omega
structure Pre (w : World) (x : EV) : Prop where
  ub : UB w
  gl : GL w
  ev : w.cell? ⟨1, 0, none⟩ = some (.iface x.1 x.2)
theorem Pre.ex {w w' : World} {x : EV} (h : Pre w x) (hx : Ex [] w w') : Pre w' x := ⟨h.ub.ex hx (by simp), h.gl.ex hx, (hx.cell0.1 _ _ (lt_of_cell h.ev)).trans h.ev⟩
theorem RuleOK.ex {w w' : World} {p : Option Addr} {c : Nat} {ss : List ByteArray} {se re : ByteArray} (h : RuleOK w p c ss se re) (hx : Ex [] w w') : RuleOK w' p c ss se re := ⟨h.row.ex0 hx, h.len, h.nam, h.sep, h.pat⟩
def nil0 : ByteArray := ⟨#[]⟩
theorem nil_sz : nil0.size = 0 := rfl
theorem all_names {ss : List ByteArray} (h : ∀ s ∈ ss, nameB s = true) : ss.all nameB = true := List.all_eq_true.2 h
theorem mk2 {w : World} {x : EV} {p : Option Addr} {c : Nat} {ss : List ByteArray} {se re : ByteArray} (hp : Pre w x) (h : RuleOK w p c ss se re) : Makes w ⟨2, p, ss.length, c, se, re, nil0, nil0, 0⟩ (F2 ss se re) := by
  have hl := h.len
  have hs := h.sep
  refine makes_of 2 ⟨true, true, false, false, false⟩ rfl p c ss se re nil0 nil0 0 w (F2 ss se re) (PatP re) hp.ub hp.gl h.row (by omega) (fun s hs => name_size (h.nam s hs)) (by omega) (by decide) (by decide) PatP.ex (fun _ => patReads hp.ev (pat_good h.pat)) (fun h => by cases h) ?_ (deeds2 ss se re nil0 nil0 0 (fit_of (pat_good h.pat)) (by omega) (by omega))
  simp [makeR, big_no (ss := ss) (se := se) (ta := nil0) (rp := nil0) (by omega) h.nam (by omega) (by decide) (by decide), all_names h.nam, unusedB, nil_sz]
end Go.Proofs.YtmeffeigamaipabGreatDoor.G

/- Every rule that the statements make: what is made of it. -/
namespace Go.Proofs.YtmeffeigamaipabGreatDoor.G
open Go.RowKit

theorem text_size {rp : ByteArray} (h : rp ∈ texts) : rp.size ≤ 60 := by
  have h1 : texts.all (fun t => decide (t.size ≤ 60)) = true := by kernel_rfl
  simpa using List.all_eq_true.1 h1 rp h
theorem emp_sz : (⟨#[]⟩ : ByteArray).size = 0 := rfl
theorem name_pos {s : ByteArray} (h : nameB s = true) : ¬ s.size = 0 := fun e => by simp [nameB, e] at h
theorem makes_k {w : World} {x : EV} {k : Nat} {p : Option Addr} {c : Nat} {ss : List ByteArray} {se re ta rp : ByteArray} {mo : Int} (hp : Pre w x) (h : RuleK w k p c ss se re ta rp mo) : ∃ F, Makes w ⟨k, p, ss.length, c, se, re, ta, rp, mo⟩ F ∧ GoodF F := by
  have hl := h.len
  have hs := h.sep
  have hpat := h.pat
  have htgt := h.tgt
  have hrep := h.rep
  have hmod := h.mod
  have hsrc := h.src
  rcases k_cases h.k10 with rfl | rfl | rfl | rfl | rfl | rfl | rfl | rfl | rfl | rfl | rfl
  · have h1 : re ∈ pats := hpat
    have h2 : nameB ta = true := htgt
    have h3 : rp ∈ texts := hrep
    obtain rfl : mo = 0 := hmod
    refine ⟨F0 ss se re ta rp, makes_of 0 ⟨true, true, true, true, false⟩ rfl p c ss se re ta rp 0 w _ (PatP re) hp.ub hp.gl h.row (by omega) (fun s hs => name_size (h.nam s hs)) (by omega) (name_size h2) (text_size h3) PatP.ex (fun _ => patReads hp.ev (pat_good h1)) (fun h => by cases h) ?_ (deeds0 ss se re ta rp 0 (pat_fit2 h1) (by omega) (by omega) (name_size h2) (text_size h3)), fun ls hls => hls.repl _ _ _ _ _ _ _⟩
    simp [makeR, big_no (ss := ss) (se := se) (ta := ta) (rp := rp) (by omega) h.nam (by omega) (name_size h2) (text_size h3), all_names h.nam, unusedB, emp_sz, targetB, name_pos h2]
  · have h1 : re ∈ pats := hpat
    obtain rfl : ta = ⟨#[]⟩ := htgt
    obtain rfl : rp = ⟨#[]⟩ := hrep
    obtain rfl : mo = 0 := hmod
    refine ⟨F1 ss se re, makes_of 1 ⟨true, true, false, false, false⟩ rfl p c ss se re _ _ 0 w _ (PatP re) hp.ub hp.gl h.row (by omega) (fun s hs => name_size (h.nam s hs)) (by omega) (by decide) (by decide) PatP.ex (fun _ => patReads hp.ev (pat_good h1)) (fun h => by cases h) ?_ (deeds1 ss se re _ _ 0 (fit_of (pat_good h1)) (by omega) (by omega)), fun ls hls => hls⟩
    simp [makeR, big_no (ss := ss) (se := se) (ta := ⟨#[]⟩) (rp := ⟨#[]⟩) (by omega) h.nam (by omega) (by decide) (by decide), all_names h.nam, unusedB, emp_sz]
  · have h1 : re ∈ pats := hpat
    obtain rfl : ta = ⟨#[]⟩ := htgt
    obtain rfl : rp = ⟨#[]⟩ := hrep
    obtain rfl : mo = 0 := hmod
    refine ⟨F2 ss se re, makes_of 2 ⟨true, true, false, false, false⟩ rfl p c ss se re _ _ 0 w _ (PatP re) hp.ub hp.gl h.row (by omega) (fun s hs => name_size (h.nam s hs)) (by omega) (by decide) (by decide) PatP.ex (fun _ => patReads hp.ev (pat_good h1)) (fun h => by cases h) ?_ (deeds2 ss se re _ _ 0 (fit_of (pat_good h1)) (by omega) (by omega)), fun ls hls => hls⟩
    simp [makeR, big_no (ss := ss) (se := se) (ta := ⟨#[]⟩) (rp := ⟨#[]⟩) (by omega) h.nam (by omega) (by decide) (by decide), all_names h.nam, unusedB, emp_sz]
  · obtain rfl : re = ⟨#[]⟩ := hpat
    have h2 : nameB ta = true := htgt
    obtain rfl : rp = ⟨#[]⟩ := hrep
    obtain rfl : mo = 0 := hmod
    refine ⟨F3 ss se ta, makes_of 3 ⟨true, false, true, false, false⟩ rfl p c ss se _ ta _ 0 w _ (fun _ _ _ => True) hp.ub hp.gl h.row (by omega) (fun s hs => name_size (h.nam s hs)) (by omega) (name_size h2) (by decide) (fun _ _ _ _ _ _ => trivial) (fun h => by cases h) (fun _ _ _ _ => trivial) ?_ (deeds3 ss se ta _ 0 (by omega) (by omega)), fun ls hls => hls⟩
    simp [makeR, big_no (ss := ss) (se := se) (ta := ta) (rp := ⟨#[]⟩) (by omega) h.nam (by omega) (name_size h2) (by decide), all_names h.nam, unusedB, emp_sz, targetB, h2]
  · obtain rfl : re = ⟨#[]⟩ := hpat
    have h2 : nameB ta = true := htgt
    obtain rfl : rp = ⟨#[]⟩ := hrep
    obtain rfl : mo = 0 := hmod
    refine ⟨F4 ss se ta, makes_of 4 ⟨true, false, true, false, false⟩ rfl p c ss se _ ta _ 0 w _ (fun _ _ _ => True) hp.ub hp.gl h.row (by omega) (fun s hs => name_size (h.nam s hs)) (by omega) (name_size h2) (by decide) (fun _ _ _ _ _ _ => trivial) (fun h => by cases h) (fun _ _ _ _ => trivial) ?_ (deeds4 ss se ta _ 0 (by omega) (by omega)), fun ls hls => hls⟩
    simp [makeR, big_no (ss := ss) (se := se) (ta := ta) (rp := ⟨#[]⟩) (by omega) h.nam (by omega) (name_size h2) (by decide), all_names h.nam, unusedB, emp_sz, targetB, h2]
  · obtain rfl : re = ⟨#[]⟩ := hpat
    have h2 : nameB ta = true := htgt
    obtain rfl : rp = ⟨#[]⟩ := hrep
    have h4 : 1 ≤ mo ∧ mo ≤ 1000 := hmod
    have h5 : ¬ mo = 0 := by omega
    refine ⟨F5 ss se ta mo, makes_of 5 ⟨true, false, true, false, true⟩ rfl p c ss se _ ta _ mo w _ (fun _ _ _ => True) hp.ub hp.gl h.row (by omega) (fun s hs => name_size (h.nam s hs)) (by omega) (name_size h2) (by decide) (fun _ _ _ _ _ _ => trivial) (fun h => by cases h) (fun _ _ _ _ => trivial) ?_ (deeds5 ss se ta _ mo h4.1 h2 (by omega) (by omega)), fun ls hls => hls.set _ _ h2⟩
    simp [makeR, big_no (ss := ss) (se := se) (ta := ta) (rp := ⟨#[]⟩) (by omega) h.nam (by omega) (name_size h2) (by decide), all_names h.nam, unusedB, emp_sz, targetB, h2, h5]
  · have h1 : re ∈ pats := hpat
    obtain rfl : ta = ⟨#[]⟩ := htgt
    have h3 : rp ∈ texts := hrep
    obtain rfl : mo = 0 := hmod
    obtain ⟨rfl, rfl⟩ := hsrc rfl
    refine ⟨F6 re rp, makes_of 6 ⟨false, true, false, true, false⟩ rfl p c [] _ re _ rp 0 w _ (PatP re) hp.ub hp.gl h.row (by simp) (fun s hs => by simp at hs) (by decide) (by decide) (text_size h3) PatP.ex (fun _ => patReads hp.ev (pat_good h1)) (fun h => by cases h) ?_ (deeds6 [] _ re _ rp 0 (pat_fit2 h1) (text_size h3)), fun ls hls => hls.map _ _ _ _⟩
    simp [makeR, big_no (ss := []) (se := ⟨#[]⟩) (ta := ⟨#[]⟩) (rp := rp) (by simp) (fun s hs => by simp at hs) (by decide) (by decide) (text_size h3), unusedB, emp_sz]
  · have h1 : re ∈ pats := hpat
    obtain rfl : ta = ⟨#[]⟩ := htgt
    obtain rfl : rp = ⟨#[]⟩ := hrep
    obtain rfl : mo = 0 := hmod
    obtain ⟨rfl, rfl⟩ := hsrc rfl
    refine ⟨F7 re, makes_of 7 ⟨false, true, false, false, false⟩ rfl p c [] _ re _ _ 0 w _ (PatP re) hp.ub hp.gl h.row (by simp) (fun s hs => by simp at hs) (by decide) (by decide) (by decide) PatP.ex (fun _ => patReads hp.ev (pat_good h1)) (fun h => by cases h) ?_ (deeds7 [] _ re _ _ 0 (fit_of (pat_good h1))), fun ls hls => hls.filter _⟩
    simp [makeR, big_no (ss := []) (se := ⟨#[]⟩) (ta := ⟨#[]⟩) (rp := ⟨#[]⟩) (by simp) (fun s hs => by simp at hs) (by decide) (by decide) (by decide), unusedB, emp_sz]
  · have h1 : re ∈ pats := hpat
    obtain rfl : ta = ⟨#[]⟩ := htgt
    obtain rfl : rp = ⟨#[]⟩ := hrep
    obtain rfl : mo = 0 := hmod
    obtain ⟨rfl, rfl⟩ := hsrc rfl
    refine ⟨F8 re, makes_of 8 ⟨false, true, false, false, false⟩ rfl p c [] _ re _ _ 0 w _ (PatP re) hp.ub hp.gl h.row (by simp) (fun s hs => by simp at hs) (by decide) (by decide) (by decide) PatP.ex (fun _ => patReads hp.ev (pat_good h1)) (fun h => by cases h) ?_ (deeds8 [] _ re _ _ 0 (fit_of (pat_good h1))), fun ls hls => hls.filter _⟩
    simp [makeR, big_no (ss := []) (se := ⟨#[]⟩) (ta := ⟨#[]⟩) (rp := ⟨#[]⟩) (by simp) (fun s hs => by simp at hs) (by decide) (by decide) (by decide), unusedB, emp_sz]
  · obtain rfl : re = ⟨#[]⟩ := hpat
    have h2 : nameB ta = true := htgt
    obtain rfl : rp = ⟨#[]⟩ := hrep
    obtain rfl : mo = 0 := hmod
    refine ⟨F9 ss se ta, makes_of 9 ⟨true, false, true, false, false⟩ rfl p c ss se _ ta _ 0 w _ (fun _ _ _ => True) hp.ub hp.gl h.row (by omega) (fun s hs => name_size (h.nam s hs)) (by omega) (name_size h2) (by decide) (fun _ _ _ _ _ _ => trivial) (fun h => by cases h) (fun _ _ _ _ => trivial) ?_ (deeds9 ss se ta _ 0 h2 (by omega) (by omega)), fun ls hls => hls.set _ _ h2⟩
    simp [makeR, big_no (ss := ss) (se := se) (ta := ta) (rp := ⟨#[]⟩) (by omega) h.nam (by omega) (name_size h2) (by decide), all_names h.nam, unusedB, emp_sz, targetB, h2]
  · obtain rfl : re = ⟨#[]⟩ := hpat
    have h2 : nameB ta = true := htgt
    obtain rfl : rp = ⟨#[]⟩ := hrep
    obtain rfl : mo = 0 := hmod
    refine ⟨F10 ss se ta, makes_of 10 ⟨true, false, true, false, false⟩ rfl p c ss se _ ta _ 0 w _ (fun _ _ _ => True) hp.ub hp.gl h.row (by omega) (fun s hs => name_size (h.nam s hs)) (by omega) (name_size h2) (by decide) (fun _ _ _ _ _ _ => trivial) (fun h => by cases h) (fun _ _ _ _ => trivial) ?_ (deeds10 ss se ta _ 0 h2 (by omega) (by omega)), fun ls hls => hls.set _ _ h2⟩
    simp [makeR, big_no (ss := ss) (se := se) (ta := ta) (rp := ⟨#[]⟩) (by omega) h.nam (by omega) (name_size h2) (by decide), all_names h.nam, unusedB, emp_sz, targetB, h2]
end Go.Proofs.YtmeffeigamaipabGreatDoor.G

/- Plain facts for the statement Opposite. -/
namespace Go.Proofs.YtmeffeigamaipabGreatDoor.G
open Go.RowKit

end Go.Proofs.YtmeffeigamaipabGreatDoor.G

/- Texts in the other case: turned, swapped. -/
namespace Go.Proofs.YtmeffeigamaipabGreatDoor.G
open Go.RowKit

end Go.Proofs.YtmeffeigamaipabGreatDoor.G

/- What is set is what is got. -/
namespace Go.Proofs.YtmeffeigamaipabGreatDoor.G

end Go.Proofs.YtmeffeigamaipabGreatDoor.G

/- Labels set ahead of all others; two labels and their text. -/
namespace Go.Proofs.YtmeffeigamaipabGreatDoor.G

theorem pos_none {xs : List Lab} {a : ByteArray} (h : ∀ x ∈ xs, 0 < cmpN x.1 a) : posN xs a = 0 ∧ thereN xs a = false ∧ offL xs a = xs := by
  have hp : posN xs a = 0 := by
    unfold posN
    cases xs with
    | nil => rfl
    | cons x xs =>
      have := h x (List.mem_cons_self ..)
      rw [List.takeWhile_cons, if_neg (by simp; omega)]
      rfl
  have ht : thereN xs a = false := by
    unfold thereN
    rw [hp]
    cases xs with
    | nil => rfl
    | cons x xs =>
      have := h x (List.mem_cons_self ..)
      show (cmpN x.1 a == 0) = false
      exact beq_eq_false_iff_ne.2 (by omega)
  exact ⟨hp, ht, by unfold offL; rw [ht]; rfl⟩
theorem set_front {xs : List Lab} {a v : ByteArray} (h : ∀ x ∈ xs, 0 < cmpN x.1 a) (hn : xs.length < 60) (hv : ¬ v.size = 0) (h2 : v.size ≤ 200) : Go.Proofs.YtmeffeigamaipabGreatDoor.setL xs a v = (a, v) :: xs := by
  obtain ⟨hp, ht, ho⟩ := pos_none h
  have hc : cutB v = v := by unfold cutB; rw [if_neg (by omega)]
  unfold Go.Proofs.YtmeffeigamaipabGreatDoor.setL
  rw [ho, hp, hc, if_neg (by omega)]
  rfl
theorem bare_rev {ls : List Lab} (h : LOK ls) (hn : ls.length ≤ 20) : bareL ls.reverse = ls := by
  unfold bareL
  rw [List.foldl_reverse]
  have key : ∀ xs : List Lab, LOK xs → xs.foldr (fun x y => Go.Proofs.YtmeffeigamaipabGreatDoor.setL y x.1 x.2) [] = xs := by
    intro xs
    induction xs with
    | nil => intro _; rfl
    | cons x xs ih =>
      intro hx
      have hx2 : LOK xs := ⟨hx.srt.sub (List.sublist_cons_self ..), by have := hx.len; simp at this; omega, fun l hl => hx.nam l (List.mem_cons_of_mem _ hl), fun l hl => hx.val l (List.mem_cons_of_mem _ hl)⟩
      rw [List.foldr_cons, ih hx2]
      refine set_front (fun y hy => ?_) (by have := hx.len; simp at this; omega) (hx.val x (List.mem_cons_self ..)).2 (hx.val x (List.mem_cons_self ..)).1
      obtain ⟨i, hi, rfl⟩ := List.getElem_of_mem hy
      have h1 := hx.srt 0 (i + 1) x xs[i] (by omega) rfl (by simp [hi])
      rw [cmpN_neg] at h1
      omega
  exact key ls h
theorem rev_right {ls : List Lab} (h : ls.any wrongB = false) : ls.reverse.any wrongB = false := by rw [List.any_reverse]; exact h

end Go.Proofs.YtmeffeigamaipabGreatDoor.G
