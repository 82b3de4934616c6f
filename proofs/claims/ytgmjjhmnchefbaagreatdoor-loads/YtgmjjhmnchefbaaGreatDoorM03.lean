/- D1 D2 D3 D4 D5 D6 D7 D8 E1 E2 E3 E4, one behind the other. -/
import Derived.Test.YtgmjjhmnchefbaaGreatDoorM01
import Derived.Maps.Keyed
import Derived.DeepKeys4
import Derived.Test.YtgmjjhmnchefbaaGreatDoorM02
import Derived.Deep.RegionHeld3
set_option linter.unusedVariables false
set_option linter.unusedSimpArgs false
/- Series as keys of a map. -/
namespace Go.Proofs.YtgmjjhmnchefbaaGreatDoor
open Go.RowKit

theorem laidOut : laidOutB Tryz.prog = true := by kernel_rfl
theorem cells3 : Tryz.prog.cellsOf 3 = 1 := by kernel_rfl
def SerOk (S : List Value) : Prop := S.length = 41 ∧ (∀ i, i < 40 → ∃ x : ByteArray, S[i]? = some (.string x) ∧ x.size ≤ maxLen) ∧ ∃ n : Nat, n ≤ 20 ∧ S[40]? = some (.int .i64 n)

end Go.Proofs.YtgmjjhmnchefbaaGreatDoor

/- The map of answers: what is looked up, laid down, taken away. -/
namespace Go.Proofs.YtgmjjhmnchefbaaGreatDoor
open Go.RowKit

theorem clear_map {w : World} {mb : Nat} {es : Array MapEntry} {clk : Nat} (ty : TypeId) (hm : w.heap[mb]? = some (.map es clk)) :
    (Builtin.clear_ #[157] ty #[.map (some mb)]).run Tryz.prog w = .ok (.tuple #[]) (putB w mb (.map #[] clk)) := by
  have hg := MapKept.run_getObj_map (P := Tryz.prog) hm
  unfold Builtin.clear_
  simp [run_underlying Tryz.underlying157, hg, MapKept.run_setObj_map _ hm, putB]

theorem putB_bk {w : World} {b : Nat} {o o' : Obj} (h : BK w b o') : BK (putB w b o) b o := by
  have := h.lt
  simp [BK, putB, this]
theorem BK.putB {w : World} {b k : Nat} {o o' : Obj} (h : BK w k o') (hk : k ≠ b) : BK (putB w b o) k o' := h.ex (putB_ex w b o) (by simpa using hk)
end Go.Proofs.YtgmjjhmnchefbaaGreatDoor

/- What a memory holds; contract of (*memory.Memory).remember where there is room. -/
namespace Go.Proofs.YtgmjjhmnchefbaaGreatDoor
open Go.RowKit

def IsLabs (w : World) (k : Nat) : Prop := ∃ cur fr, BK w k (.cells cur 210 fr)
theorem IsLabs.ex {w w' : World} {k : Nat} {o : List Nat} (h : IsLabs w k) (hx : Ex o w w') (hk : k ∉ o) : IsLabs w' k := by
  obtain ⟨cur, fr, hb⟩ := h
  exact ⟨cur, fr, hb.ex hx hk⟩
def AnsOk (R : List Value → List Lab → Bool → Prop) (w : World) (base : Nat) (tv : Value) (e : MapEntry) : Prop :=
  ∃ S sl ls b, e.key = .agg S.toArray ∧ e.val = ansV sl b ∧ SL w sl ls ∧ ls.length ≤ 60 ∧ R S ls b ∧ ∀ k, sl.ownBlock = some k → base ≤ k ∧ tv.ownBlock ≠ some k ∧ IsLabs w k

theorem AnsOk.ex {R : List Value → List Lab → Bool → Prop} {w w' : World} {base : Nat} {tv : Value} {e : MapEntry} {o : List Nat} (h : AnsOk R w base tv e) (hx : Ex o w w') (ho : ∀ k ∈ o, k < base ∨ tv.ownBlock = some k) : AnsOk R w' base tv e := by
  obtain ⟨S, sl, ls, b, h1, h2, h3, h4, h5, h6⟩ := h
  have hno : ∀ k, sl.ownBlock = some k → k ∉ o := fun k hk hm => by
    obtain ⟨hb, hn, _⟩ := h6 k hk
    rcases ho k hm with h | h
    · omega
    · exact hn h
  exact ⟨S, sl, ls, b, h1, h2, h3.ex hx hno, h4, h5, fun k hk => ⟨(h6 k hk).1, (h6 k hk).2.1, (h6 k hk).2.2.ex hx (hno k hk)⟩⟩

structure MM (R : List Value → List Lab → Bool → Prop) (w : World) (m mb base room : Nat) (ts : List (List Value)) (tv : Value) (es : Array MapEntry) (clk : Nat) : Prop where
  blk : BK w m (.cells #[.map (some mb), tv, .int .i64 room] 160 (0, 0))
  map : BK w mb (.map es clk)
  row : w.ownsRow base 307 41 tv ts.length ts.flatten
  keys : (es.toList.map (·.key)).Perm (ts.map fun S => .agg S.toArray)
  ans : ∀ e ∈ es.toList, AnsOk R w base tv e
  ok : ∀ S ∈ ts, SerOk S
  nodup : ts.Nodup
  len : ts.length ≤ room
  room1 : 1 ≤ room
  room50 : room ≤ 50
  mlt : m < base
  mblt : mb < base
  ne : m ≠ mb
  le : base ≤ w.heap.size

theorem MM.ex {R : List Value → List Lab → Bool → Prop} {w w' : World} {m mb base room : Nat} {ts : List (List Value)} {tv : Value} {es : Array MapEntry} {clk : Nat} {o : List Nat} (h : MM R w m mb base room ts tv es clk) (hx : Ex o w w') (ho : ∀ k ∈ o, k < base ∧ k ≠ m ∧ k ≠ mb) : MM R w' m mb base room ts tv es clk where
  blk := h.blk.ex hx (fun hm => (ho m hm).2.1 rfl)
  map := h.map.ex hx (fun hm => (ho mb hm).2.2 rfl)
  row := own_ex h.row hx (fun x hm => (ho x hm).1)
  keys := h.keys
  ans := fun e he => (h.ans e he).ex hx (fun k hk => .inl (ho k hk).1)
  ok := h.ok
  nodup := h.nodup
  len := h.len
  room1 := h.room1
  room50 := h.room50
  mlt := h.mlt
  mblt := h.mblt
  ne := h.ne
  le := Nat.le_trans h.le hx.size

end Go.Proofs.YtgmjjhmnchefbaaGreatDoor

/- Contract of (*memory.Memory).remember where there is room. -/
namespace Go.Proofs.YtgmjjhmnchefbaaGreatDoor
open Go.RowKit
end Go.Proofs.YtgmjjhmnchefbaaGreatDoor

/- Contract of (*memory.Memory).remember where there is no room. -/
namespace Go.Proofs.YtgmjjhmnchefbaaGreatDoor
open Go.RowKit

end Go.Proofs.YtgmjjhmnchefbaaGreatDoor

/- Contract of (*memory.Memory).Recall: a series that is remembered. -/
namespace Go.Proofs.YtgmjjhmnchefbaaGreatDoor
open Go.RowKit

end Go.Proofs.YtgmjjhmnchefbaaGreatDoor

/- Contract of (*memory.Memory).Recall: a series that is not remembered. -/
namespace Go.Proofs.YtgmjjhmnchefbaaGreatDoor
open Go.RowKit

end Go.Proofs.YtgmjjhmnchefbaaGreatDoor

/- Contract of (*retag.Engine).Relabel, whatever its rules work out. -/
namespace Go.Proofs.YtgmjjhmnchefbaaGreatDoor
open Go.RowKit

structure EN (R : List Value → List Lab → Bool → Prop) (w : World) (e m mb base room : Nat) (rv : Value) (ts : List (List Value)) (tv : Value) (es : Array MapEntry) (clk : Nat) : Prop where
  blk : BK w e (.cells #[rv, .pointer (some ⟨m, 0, none⟩)] 114 (0, 0))
  mem : MM R w m mb base room ts tv es clk
  lt : e < base
  nem : e ≠ m
  nemb : e ≠ mb


end Go.Proofs.YtgmjjhmnchefbaaGreatDoor

/- Contracts of Open, Cached, Flush and Load, as far as the count of what is remembered asks. -/
namespace Go.Proofs.YtgmjjhmnchefbaaGreatDoor
open Go.RowKit

def roomOf (c : Int) : Nat := (max 1 (min c 50)).toNat

set_option maxHeartbeats 1000000 in
set_option maxRecDepth 100000 in
theorem new_any (room : Nat) (w : World) (h1 : 1 ≤ room) (h50 : room ≤ 50) :
    Calls Tryz.prog 36 #[.int .i64 room] w fun x w' => x = .returned (.pointer (some ⟨w.heap.size + 1, 0, none⟩)) ∧
      w' = (w.alloc (.map #[] 0)).alloc (.cells #[.map (some w.heap.size), .slice none 0 0, .int .i64 room] 160) := by
  have hmm := @run_makeMap Tryz.prog
  go_enter Tryz.func36, Tryz.ntmps36
  go_wp2_with fail
  go_ret
  exact ⟨by simp, rfl⟩

set_option maxHeartbeats 1000000 in
set_option maxRecDepth 100000 in
theorem open_any (R : List Value → List Lab → Bool → Prop) (c : Int) (w : World) :
    Calls Tryz.prog 14 #[.int .i64 c] w fun x w' => ∃ e m mb, x = .returned (.pointer (some ⟨e, 0, none⟩)) ∧ EN R w' e m mb w'.heap.size (roomOf c) (.slice none 0 0) [] (.slice none 0 0) #[] 0 ∧ Ex [] w w' ∧ w.heap.size ≤ e ∧ w.heap.size ≤ m ∧ w.heap.size ≤ mb := by
  have h1 : 1 ≤ roomOf c := by unfold roomOf; omega
  have h50 : roomOf c ≤ 50 := by unfold roomOf; omega
  have hc : max 1 (min c 50) = (roomOf c : Int) := by unfold roomOf; omega
  obtain ⟨r, hr⟩ : ∃ r, roomOf c = r := ⟨_, rfl⟩
  rw [hr] at h1 h50 hc
  have HR := hide hr
  clear hr
  go_enter Tryz.func14, Tryz.ntmps14
  go_wp2_with fail
  refine (new_any r w h1 h50).mono ?_
  rintro x w1 ⟨rfl, hw1⟩
  have hx1 : Ex [] w w1 := by rw [hw1]; exact ((Ex.refl _ _).alloc _).alloc _
  have hmap : BK w1 w.heap.size (.map #[] 0) := by rw [hw1]; exact (BK.new _ _).alloc _
  have hmem : BK w1 (w.heap.size + 1) (.cells #[.map (some w.heap.size), .slice none 0 0, .int .i64 r] 160 (0, 0)) := by
    have h := BK.new (w.alloc (.map #[] 0)) (.cells #[.map (some w.heap.size), .slice none 0 0, .int .i64 r] 160)
    simp only [World.size_alloc] at h
    rw [hw1]; exact h
  have hz : w1.heap.size = w.heap.size + 2 := by rw [hw1]; simp
  have HX := hide hx1
  have HMP := hide hmap
  have HMM := hide hmem
  have HZ := hide hz
  clear hw1 hx1 hmap hmem hz hc
  go_wp2_with fail
  go_ret
  have hz := unhide HZ
  refine ⟨w1.heap.size, w.heap.size + 1, w.heap.size, rfl, ⟨BK.new _ _, ?_, by simp, by omega, by omega⟩, HX.out.alloc _, by omega, by omega, by omega⟩
  rw [unhide HR]
  exact ⟨HMM.out.alloc _, HMP.out.alloc _, World.ownsRow_nil _ _ _ _, by simp, fun e he => by simp at he, fun S hS => by simp at hS, by simp, by simp, h1, h50, by simp; omega, by simp; omega, by omega, by simp⟩

theorem MM.empty {R : List Value → List Lab → Bool → Prop} {w : World} {m mb base room : Nat} {ts : List (List Value)} {tv : Value} {es : Array MapEntry} {clk : Nat} (h : MM R w m mb base room ts tv es clk) :
    MM R ((putB w mb (.map #[] clk)).setCell ⟨m, 1, none⟩ (.slice none 0 0)) m mb base room [] (.slice none 0 0) #[] clk := by
  refine ⟨?_, (putB_bk h.map).set (by simpa using Ne.symm h.ne) _, World.ownsRow_nil _ _ _ _, by simp, fun e he => by simp at he, fun S hS => by simp at hS, by simp, by simp, h.room1, h.room50, h.mlt, h.mblt, h.ne, ?_⟩
  · have := (h.blk.putB (o := .map #[] clk) h.ne).self 1 (.slice none 0 0)
    simpa using this
  · simpa [putB_size] using h.le

set_option maxHeartbeats 1000000 in
set_option maxRecDepth 100000 in
theorem forget_any (R : List Value → List Lab → Bool → Prop) (m mb base room : Nat) (ts : List (List Value)) (tv : Value) (es : Array MapEntry) (clk : Nat) (w : World) (hm : MM R w m mb base room ts tv es clk) :
    Calls Tryz.prog 39 #[.pointer (some ⟨m, 0, none⟩)] w fun x w' => x = .returned (.tuple #[]) ∧ MM R w' m mb base room [] (.slice none 0 0) #[] clk ∧ Ex [m, mb] w w' := by
  have HM := hide hm
  obtain ⟨hcm, hfm⟩ := hm.blk.all
  have hml := hm.blk.lt
  have hcl := clear_map (w := w) 0 hm.map
  have hb1 := hm.blk.putB (o := .map #[] clk) hm.ne
  obtain ⟨w1, hw1⟩ : ∃ w1, w1 = putB w mb (.map #[] clk) := ⟨_, rfl⟩
  have HW1 := hide hw1
  rw [← hw1] at hcl hb1
  obtain ⟨hcm1, hfm1⟩ := hb1.all
  have hml1 := hb1.lt
  clear hm hw1 hb1
  go_enter Tryz.func39, Tryz.ntmps39
  go_wp2_with (at_builtin; refine wpList_clear_run _ rfl _ 157 rfl _ rfl hcl ?_)
  go_end0
  rw [unhide HW1]
  exact ⟨rfl, HM.out.empty, ((putB_ex w mb _).drop (fun x hx _ => by simp at hx; simp [hx])).setCell (.inl (by simp)) _⟩

end Go.Proofs.YtgmjjhmnchefbaaGreatDoor

/- Contracts of Load at a rule whose action is none; of the labels that a count asks for. -/
namespace Go.Proofs.YtgmjjhmnchefbaaGreatDoor
open Go.RowKit

set_option maxHeartbeats 1000000 in
set_option maxRecDepth 100000 in
theorem isAction_no (a : Int) (w : World) (h : a < 0 ∨ 11 ≤ a) :
    Calls Tryz.prog 55 #[.int .i64 a] w fun x w' => x = .returned (.bool false) ∧ w' = w := by
  by_cases h0 : 0 ≤ a
  · have h11 : 11 ≤ a := by omega
    go_enter Tryz.func55, Tryz.ntmps55
    go_wp2_with fail
    go_ret
    exact ⟨by simp <;> omega, rfl⟩
  · go_enter Tryz.func55, Tryz.ntmps55
    go_wp2_with fail
    go_ret
    exact ⟨by simp <;> omega, rfl⟩

theorem results_cell_tmp2 {P : Program} {fn : Func} {tmps : Array Value} {w : World} {a k l : Tmp} {t : TypeId} {ad : Addr} {v : Value} (hf : fn.results = #[.cell a t, .tmp k, .tmp l]) (ha : tmps.getD a undef = .pointer (some ad)) (hl : (loadVar t ad).run P w = .ok v w) :
    (results fn tmps).run P w = .ok (.tuple #[v, tmps.getD k undef, tmps.getD l undef]) w := by
  have ha' : tmps[a]?.getD undef = .pointer (some ad) := by rw [← ha]; simp
  unfold results
  rw [hf]
  simp [ha', hl, asAddr]

def ruleV (a : Int) (so : Value) (se re ta rp : ByteArray) (mo : Int) : Value := .agg #[.int .i64 a, so, .string se, .string re, .string ta, .string rp, .int .u64 mo]

theorem store_nilFunc {w : World} {b : Nat} {t : TypeId} (hb : BK w b (.cells #[.nilFunc] t (0, 0))) :
    (store ⟨b, 0, none⟩ Value.nilFunc).run Tryz.prog w = .ok () (w.setCell ⟨b, 0, none⟩ .nilFunc) := by
  obtain ⟨hc, hf⟩ := hb.all
  rw [run_store Tryz.prog w _ Value.nilFunc _ rfl]
  simp [hc, hf]

set_option maxHeartbeats 1000000 in
set_option maxRecDepth 100000 in
theorem make_noAction (a : Int) (so : Value) (se re ta rp : ByteArray) (mo : Int) (w : World) (h : a < 0 ∨ 11 ≤ a) :
    Calls Tryz.prog 38 #[ruleV a so se re ta rp mo] w fun x w' => x = .returned (.tuple #[.agg #[.nilFunc], .int .i64 1, .int .i64 0]) ∧ Ex [] w w' := by
  unfold ruleV
  obtain ⟨w1, hw1⟩ : ∃ w1, w1 = (w.alloc (Obj.cells #[.int .i64 a, so, .string se, .string re, .string ta, .string rp, .int .u64 mo] 118)).alloc (Obj.cells #[.nilFunc] 122) := ⟨_, rfl⟩
  have hb : BK w1 (w.heap.size + 1) (.cells #[.nilFunc] 122 (0, 0)) := by
    have h := BK.new (w.alloc (Obj.cells #[.int .i64 a, so, .string se, .string re, .string ta, .string rp, .int .u64 mo] 118)) (Obj.cells #[.nilFunc] 122)
    simp only [World.size_alloc] at h
    rw [hw1]; exact h
  have hst := store_nilFunc hb
  have hx1 : Ex [] w w1 := by rw [hw1]; exact ((Ex.refl _ _).alloc _).alloc _
  have HB := hide hb
  have HX := hide hx1
  have HW := hide hw1
  rw [hw1] at hst
  clear hb hx1 hw1
  go_enter Tryz.func38, Tryz.ntmps38
  go_wp2_with fail
  refine (isAction_no a _ h).mono ?_
  rintro x w2 ⟨rfl, rfl⟩
  go_wp2_with fail
  rw [← unhide HW]
  have hl3 := run_loadVar_mid (P := Tryz.prog) w1 (w.heap.size + 1) 0 122 [.nilFunc] _ (BK.rangeL (cs := [.nilFunc]) HB.out) Tryz.underlying122 rfl (by kernel_rfl)
  exact bodyPost_ret (results_cell_tmp2 rfl rfl hl3) rfl ⟨rfl, HX.out⟩

end Go.Proofs.YtgmjjhmnchefbaaGreatDoor

/- Contracts of Relabel of an engine without rules, at the lists that Counts hands in. -/
namespace Go.Proofs.YtgmjjhmnchefbaaGreatDoor
open Go.RowKit

end Go.Proofs.YtgmjjhmnchefbaaGreatDoor

/- How much is remembered: plain facts. -/
namespace Go.Proofs.YtgmjjhmnchefbaaGreatDoor
open Go.RowKit

end Go.Proofs.YtgmjjhmnchefbaaGreatDoor
